import PyProof.Rows.All
import Wide.All
import OpenK.AllK
import Wide.FinOn
import Lean
import PyProof.EqAt
import PyProof.EqKinds
import PyProof.TupleCall
import PyProof.Rows.SetFrom
import KE.KSortTup
import PyProof.Draws
import PyProof.EnumMake
import PyProof.ListRange
import PyProof.Rows.EnumRows
import PyProof.SetRoads
import PyProof.Rows.MinMaxN
import PyProof.Rows.MaxTwoN
import PyProof.ZipIter
import KE.KItemsList
import KE.LcSums
import KE.KRevIter
import PyProof.TupleOfSeq
import PySem.Challenge.RW_ringtrade_k46_lines_refused
set_option compiler.extract_closed false
noncomputable section
open PySem renaming Value->a_,wpAny_bind->b_,Shared->d_,wpAny_pure->f_,Program->o_,wpAny->u_,model->y_,starEach->B_,World->F_,sizeLine_eq->G_,Around->I_,mainGlobals->M_,wpAny_mono->V_,attributeBase->X_,wpAny_field->Z_,FuncData->à,strLen_append->ñ,excClassObj->ë,wpAny_holding->ø,wpAny_typeOf_ref->Í,keywordEach->ò,swapsWith->æ,compareOp->ç,wpAny_Call_Name_kw->Ă,wpAny_callSpecial?_slot->ī,assignEach->ó,bindArgs->è,wpAny_isSubtype_exc->Ĭ,holding->å,behindInMarks->Ù,wpAny_call_entry->ę,wpAny_pyIter_tuple->ĭ,wpAny_seqItems->ă,wpAny_setField_rec->Į,evalEach->ï,wpAny_passesOwn->Ě,backToKw->ô,cLine->á,codeAny_mono->Ú,Builtin->ì,codeAny_call_builtin->Ň,wpAny_call->Ä,call_meets->Å,IsPair->ä,scanBound->ú,wpAny_getItem_str_slice->Ť,Scope->ã,bootBuiltins->Ą,standAt->ð,wpAny_execs_nil->į,wpAny_loadPart'->İ,wpAny_truthy_bool->ň,wpAny_loadPart_at->ŉ,sysModules->Û,wpAny_loadPart->ı,wpAny_setField->Ĳ,getMethod->Î,wpAny_standAt->ĳ,callWith->Æ,NameKind->Ç,wpAny_comprehension_free->Qb2,tupleKind_room_in1->ť,sliceBounds->ě,wpAny_newObj_type->Ŧ,notedBy->û,plainObj_wpAny_Assign_Attribute->Qcl,PassesOwn->ą,wpAny_onRaise->Ŋ,wpAny_updateSeq_pair->Qct,post_val_or_str->ŧ,codeAny->Ï,noteFrame->Ĝ,recursionLimit->Ũ,wpAny_newFunctionEnv_cells->QcI,rawInt->ü,wpAny_rule->Ĵ,wpAny_pyIter_enum->Qc2,wpAny_attempt->ũ,binaryOp->ĝ,DictEntry->ĵ,compEnvC->Ğ,IsPart->Ð,getItem->Ć,wpAny_typeOf->Ū,Keyword->ć,callerA->Ĉ,OwnTail->ĉ,isInstance->ŋ,letOwnedTupleGo->Qds,codeAny_call_function->Qdw,assign->Ü,IsZip->ý,unbindBehindTheSuite->QdL,BindsTo->ğ,cellsFrom->Ō,codeAny_forLoop_any->QdT,swapsWithSole->QdY,swappedStores->QdZ,Draws->È,typeIs_str->ū,PlainAttrs->Ŭ,JoinOk->Ċ,Model->Ñ,wpAny_assign_Name->Qei,concat_meets->Qel,wpAny_sequenceKey->Qem,slot_list_getitem->Qen,valueAt->Ķ,wpAny_pyIter_list->Qes,tupleKind->ŭ,setFlight->Ů,handedOut->ů,strValues->Ű,seqIndex_of->QeK,wpAny_letGo->QeM,relabel->ō,builtinsNs->QeW,wpAny_Name->QeX,pyIter->ķ,wpAny_load->QeZ,truthy->ĸ,Result->Ĺ,bindL->ċ,bindC->Č,typeIs_int->Qe7,atKey->č,closureFor->Qfd
open PySem.Heap renaming get?_push_of_some->c_,get?_push_size->l_,lt_size->n_,get?_update_ne->É,get?_update_self->Ġ,size_push->Ê,get?_none_of_le->Ŏ,SameBut->ĺ,get?_update_other->Qdm,get?_push_at->Qet,MadeExcOf->Qfg
open List renaming getElem?_set_ne->e_,getElem?_eq_some_iff->g_,mem_cons_self->h_,mem_cons_of_mem->i_,replicate->j_,mem_cons->m_,length_map->p_,getElem?_eq_getElem->q_,getElem?_set_self->r_,mem_map->w_,range->x_,mem_filter->C_,mem_range->D_,size_toArray->E_,mem_singleton->J_,getElem?_map->K_,map_map->N_,getElem?_append_left->O_,all_eq_true->P_,mem_append_right->R_,find?_cons->Y_,map_cons->í,drop_eq_getElem_cons->Ď,ne_nil_of_mem->Ò,length_cons->Ë,contains_iff_mem->ď,getElem?_append_right->Ļ,getD_eq_getElem?_getD->ļ,not_mem_nil->Ó,append_nil->Ô,mem_filterMap->Đ,length_append->đ,getElem?_replicate->Ľ,mem_append->Ý,of_mem_zip->Þ,length_set->Ē,length_pos_of_mem->ŏ,drop_length->ġ,lookup_cons->Ģ,length_replicate->Ő,exists_mem_of_ne_nil->ű,nodup_cons->ģ,lookup->Õ,length->Ö,mem_of_getElem?->ő,filterMap_cons->Œ,map_congr_left->œ,mem_flatten->ľ,contains_cons->Ŕ,map_append->Ŀ,all_cons->Ĥ,any_cons->ĥ,idxOf_lt_length_of_mem->QbI,length_take->ŕ,getElem_mem->Ŗ,nodup_range->ŗ,getElem?_range->Ų,foldl_cons->Ř,map_const'->ř,map_nil->ŀ,zipWith->Ł,ext_getElem?->ų,length_singleton->Qcm,any_eq_true->Ŵ,mem_append_left->Qcs,getElem?_of_mem->Qcu,forIn_cons->ŵ,find?_some->Ŷ,length_zipWith->Qcz,any_map->Ś,map_set->ś,filter_filter->QcT,nodup_iff_pairwise_ne->QcU,all->ē,mem_or_eq_of_mem_set->QcY,getElem?_take_of_lt->Qc4,ext_getElem->Qdc,filter_cons->Qde,length_nil->Qdt,getElem?_zipWith->Qdy,dropLast_eq_take->QdB,length_filter_le->QdC,replicate_succ->QdU,filter_eq_self->QdW,zip_cons_cons->Qd4,take_sublist->Qek,pairwise_map->Qev,append_assoc->Qew,map_snd_zip->QeA,zipIdx_cons->QeE,countP_cons->QeF,zipIdx_nil->QeS,range_succ->QeT,foldl->Qe8,drop_zero->Qfe,forIn_nil->Qff,drop_drop->Qfh,drop_left->Qfi,map_drop->Qfn
open Nat renaming le_refl->k_,lt_of_lt_of_le->A_,ne_of_lt->H_,le_trans->U_,zero_le->é,lt_irrefl->þ,ne_of_gt->ÿ,lt_succ_of_lt->Ħ,lt_succ_self->ħ,mod_lt->Ā,le_of_eq->ł,le_of_lt->Ŝ,le_succ->ŝ,add_sub_cancel_left->Qdf,lt_of_succ_lt_succ->Qdq,log2_lt->ŷ,lt_of_le_of_lt->Qd8,mul_comm->Qeo,lt_trans->Qeq,succ_mul->Qeu
open PySem.Str renaming ofString->s_,join->W_,empty->ā,length->Ÿ,append_assoc->QeI
open Bool renaming false_ne_true->t_,and_eq_true->L_,eq_iff_iff->À,not_eq_true'->Ş,or_true->ş,false_eq_true->Qea,not_not->Qfr
open PySem.PassesOwn renaming never->z_
open False renaming elim->Q_
open Array renaming getElem?_setIfInBounds_self_of_lt->S_,getElem?_eq_some_iff->Ź,perm_iff_toList_perm->QcN,getElem?_toList->Qdx,toList_append->QdX,toList_inj->QeD
open Option.some renaming inj->T_
open PyProof.Rows renaming slot_tuple_getitem->Ĩ,callWith_type1->Š,envOfC->â,IntsAre->õ,AllBare->Á,subscriptTail_builtinR->Qdl,formatField_int_small->QdA,firstMet->Ń,joinParts_cons->QdN,FormattedValue_plain->QdO,seqObj->Ĕ,step_dedup->ź,IsTup->Ø,boot_range->Qe0,tail_any->Ż
open PySem.Builtin.Str renaming occurrences->î,strKind->ż
open PySem.PyData renaming canLay0->Â,depth->Ã,eqvAll->ĕ,strOk->ĩ,eqv->ń,canLayAll0->Qc1,depthAll->Qdv
open PySem.Obj renaming mapFields->Ì,mapSeq->Ė,data_mapFields->Qeb
open Int renaming toNat_natCast->ė,natCast_nonneg->š,fdiv_eq_ediv_of_nonneg->QcP,ofNat_inj->Qfl
open Option renaming map_eq_some_iff->Ţ,isSome_map->Qc0,map_some->QeQ,map_none->QeR,isSome->Qfm
open Ne renaming symm->ê
open LawfulBEq renaming eq_of_beq->ù
open PySem.StrLaws renaming join_length_le->Ž,glued_eq_join->Qcn,At->Ī,join_split->QcV,sumLen_le->Qc3,partsBetween_eq->Qdg,subAt_eq->QeJ
open PySem.Builtin.Slice renaming slicePlaces->QbS,sliceAdjust->QcX,slicePartIndex->QeN,sliceApplied->Qe5
open PySem.Builtin.SmallTypes renaming nextOf->QbT,ownedTupleIsFree->Qb3,ownedTupleHandOut->QdV
open Classical renaming byContradiction->QbU
open PySem.Builtin.Int renaming intBits->ž,intTooBig->Qdz
open PySem.Builtin.List renaming listTooLong->Qb1,listFitsIndex->QcL
open PySem.Calls renaming callWith_builtin->Qcf,Name_function_global->QcG,evalArgs_plain->QdF
open PySem.W renaming findIn->ö,looks_findIn->Ņ,hideAll_get->QdI,kitOne->Ę,hideAll_none->Qer,hideAll->ţ,isNs_of_in->Qfb,of_hideAll->Qfc
open PySem.Heap.SameBut renaming update->Qcy
open PySem.SeqAt.EqAt renaming int_int->QcJ,int_str->Qd1,str_int->Qd2,same->QeO
open PySem.Builtin.Tuple renaming tupleItemsOf->QcK,tupleCompareSizes->Qey,tupleExact->Qfk
open PySem.Code renaming quiet_builtin->QcM
open PySem.Bind renaming checkArgs->QcS
open List.Pairwise renaming imp_of_mem->Qc6
open List.cons renaming inj->Qc7
open PySem.Builtin.Range renaming rangeSize->Qc8
open PySem.Builtin.Getset_descriptor renaming descrCheckInstance->Qdd,descrNameAndClass->Qdh,descrGetArgs->QdM,descrGetter->QdS,descrGet->Qed
open PySem.Heap.Ns renaming of_isNs->Qdu
open PySem.Around renaming frames_deeper->QdE
open PyProof.Rows.IntsAre renaming int_at->QdH,nums->Qfq
open Eq renaming trans->ņ
open PySem.SeqAt renaming EqAt->Qd3,shaped->Qfp
open PySem.Heap.Ns1 renaming of_empty->Qej
open Function renaming comp_def->Qex
open PySem.MeetsSeq renaming EqGives->QeC
open PySem.Shared renaming heap->QeL
open PySem.Builtin.Frozenset renaming updateFrom->QeP
open PyProof.Rows.SortSt renaming mk'->Qfa
open PySem.Value renaming isStrOf->Qfj,isInt->Qfs
open PyProof.Rows.IsTup renaming new->Qfo
set_option Elab.async false
set_option linter.all false
set_option autoImplicit true
set_option relaxedAutoImplicit true
set_option exponentiation.threshold 3000
set_option maxRecDepth 100000
set_option maxHeartbeats 4000000
def Q_a:=@PySem.wpAny_loadPart'
def Q_b:=@decide_eq_false
def Q_c:=@decide_eq_true
def Q_d:=@if_pos
def Q_e:=@if_neg
noncomputable def Q_f:=@absurd
def Q_g:=@congrArg
def Q_h:=@decide_eq_true_iff
def Q_i:=@decide_eq_true_eq
def Q_j:=@or_false
def Q_k:=@if_true
section
theorem ap0(h:True:=by rfl):True:=h
theorem ap1(h:True:=by decide):True:=h
theorem ap2(h:True:=by first|exact .inl rfl|exact .inr rfl|assumption):True:=h
theorem ap3(h:True:=by intro _;rfl):True:=h
local macro_rules|`(`r)=>`(by rfl)|`(`o)=>`(by omega)|`(`s)=>`(by simp)|`(`d)=>`(by decide)|`(`g)=>`(by grind)|`(`k)=>`(by decide+kernel)|`(`a)=>`(by simp_all)|`(`z)=>`(by simp;omega)|`(`q)=>`(by kernel_rfl)
local macro_rules|`(!!!!$t)=>`(autoParam $t ap3._auto_1)|`(!!!$t)=>`(autoParam $t ap2._auto_1)|`(!!$t)=>`(autoParam $t ap1._auto_1)|`(!$t)=>`(autoParam $t ap0._auto_1)
section
namespace L2
open PySem PySem.Spec PyProof.Rows
abbrev bO:=Sum Int Str
noncomputable def lf:bO->a_->Bool
|.inl k,v=>Qfs k v
|.inr x,v=>Qfj x v
noncomputable def Fq(w:F_):bO->Int
|.inl k=>hashInt k
|.inr x=>hashStr w x
theorem keyIs_shape:∀{k:bO}{v:a_},lf k v=true->(∃i t,k=Sum.inl i/\v=Value.int i t)\/(∃x t,k=Sum.inr x/\v=Value.str x t)
|.inl i,v,h=>by obtain⟨t,e⟩:=Value.isInt_shape (k:=i) (v:=v) h;exact .inl ⟨i,t,rfl,e⟩
|.inr x,v,h=>by obtain⟨t,e⟩:=Value.isStrOf_shape (x:=x) (v:=v) h;exact .inr ⟨x,t,rfl,e⟩
theorem zK(x:Str)(t:Tok):lf (.inr x) (.str x t)=true:=by simp[lf,Qfj]
theorem OF(a b:Int):decide ((Sum.inl a:bO)=Sum.inl b)=(a==b):=`g
theorem OI(a b:Str):decide ((Sum.inr a:bO)=Sum.inr b)=decide (a=b):=`g
theorem OG(a:Int)(b:Str):decide ((Sum.inl a:bO)=Sum.inr b)=false:=Q_b `a
theorem OH(a:Str)(b:Int):decide ((Sum.inr a:bO)=Sum.inl b)=false:=Q_b `a
def lp(prog:o_)(w:F_):PySem.KeyKind prog w bO where
 is:=lf
 hash:=Fq w
 inj:=fun v a b ha hb=>by
  rcases keyIs_shape ha with⟨i,t,rfl,rfl⟩|⟨x,t,rfl,rfl⟩
  .rcases keyIs_shape hb with⟨j,u,rfl,e⟩|⟨y,u,rfl,e⟩
   .injection e with e1 _;rw[e1]
   .exact nomatch e
  .rcases keyIs_shape hb with⟨j,u,rfl,e⟩|⟨y,u,rfl,e⟩
   .exact nomatch e
   .injection e with e1 _;rw[e1]
 byValue:=fun k v h=>by rcases keyIs_shape h with⟨i,t,rfl,rfl⟩|⟨x,t,rfl,rfl⟩ <;> rfl
 pyHash:=fun hv h=>by
  rcases keyIs_shape hv with⟨i,t,rfl,rfl⟩|⟨x,t,rfl,rfl⟩
  .exact wpAny_pyHash_int h
  .exact wpAny_pyHash_str h
 eqBool:=fun hu hv h=>by
  rcases keyIs_shape hu with⟨i,t,rfl,rfl⟩|⟨x,t,rfl,rfl⟩
  .rcases keyIs_shape hv with⟨j,u,rfl,rfl⟩|⟨y,u,rfl,rfl⟩
   .rw[OF]at h;exact wpAny_eqBool_int h
   .rw[OG]at h;exact Qd1 i t y u _ _ _ _ h
  .rcases keyIs_shape hv with⟨j,u,rfl,rfl⟩|⟨y,u,rfl,rfl⟩
   .rw[OH]at h;exact Qd2 x t j u _ _ _ _ h
   .rw[OI]at h;exact wpAny_eqBool_str h
 «strs»:=fun k x t v h=>by
  rcases keyIs_shape h with⟨i,u,rfl,e⟩|⟨y,u,rfl,e⟩
  .exact nomatch e
  .injection e with e1 _
   subst e1;cases v <;> rfl
inductive V where
 |non|bl (b:Bool)|int (i:Int)|str (x:Str)|byt (b:Array UInt8)|flt (b:UInt64)|ref (a:Addr)|ty (n:String)
 deriving DecidableEq
noncomputable def aR:V->a_->Prop
|.non,u=>u=Value.none
|.bl b,u=>u=Value.bool b
|.int i,u=>∃t,u=Value.int i t
|.str x,u=>∃t,u=Value.str x t
|.byt b,u=>∃t,u=Value.bytes b t
|.flt b,u=>∃t,u=Value.float b t
|.ref a,u=>u=Value.ref a
|.ty n,u=>u=Value.type n
abbrev aJ:List V->List a_->Prop:=Paired aR
theorem aJ.length(r:aJ xs us):xs.length=us.length:=Paired.length r
theorem aJ.get:∀{xs:List V}{us:List a_}{i:Nat}{x:V},aJ xs us->xs[i]? = some x->∃u,us[i]? = some u/\aR x u
|_,_,_,_,.nil,e=>by simp at e
|_,_,0,_,.cons r _,e=>by simp at e;subst e;exact⟨_,rfl,r⟩
|_,_,i+1,x,.cons _ t,e=>by obtain⟨u,Y,U⟩:=aJ.get (i:=i) (x:=x) t (by simpa using e);exact⟨u,by simpa using Y,U⟩
theorem aJ.set(r:aR x u):∀{xs:List V}{us:List a_}(i:Nat),aJ xs us->aJ (xs.set i x) (us.set i u)
|_,_,_,.nil=>.nil
|_,_,0,.cons _ t=>.cons r t
|_,_,i+1,.cons q t=>.cons q (aJ.set r i t)
theorem aJ.append(h:aJ xs us)(h':aJ U ws):aJ (xs++U) (us++ws):=by induction h with
|nil=>exact h'
|cons r _ Y=>exact .cons r Y
theorem aJ.take:∀{xs:List V}{us:List a_}(n:Nat),aJ xs us->aJ (xs.take n) (us.take n)
|_,_,0,_=>.nil
|_,_,_+1,.nil=>.nil
|_,_,n+1,.cons r t=>.cons r (aJ.take n t)
theorem aJ.drop:∀{xs:List V}{us:List a_}(n:Nat),aJ xs us->aJ (xs.drop n) (us.drop n)
|_,_,0,r=>r
|_,_,_+1,.nil=>.nil
|_,_,n+1,.cons _ t=>aJ.drop n t
def fP:Option V->Option a_->Prop
|some v,some u=>aR v u
|none,none=>True
|_,_=>False
def KV{κ:Type}:List (κ×V)->List (κ×a_)->Prop:=Paired fun(p:κ×V)(q:κ×a_)=>p.1=q.1/\aR p.2 q.2
noncomputable def kV:bO->V
|.inl i=>.int i
|.inr x=>.str x
inductive HO where
 |lst (xs:List V)
 |tup (xs:List V)
 |dK (kvs:List (bO×V))|dT (kvs:List (List bO×V))
 |set (S:Int->Bool) (n:Nat)
 |ins (C dx:Addr) (fs:List (Str×V))
 |own (x:Addr)
 |xd (fs:List (Str×V))
 |met (f x:Addr)
 |rng (lo hi:Int)
 |frz (o:Obj) (u:HO)
 |tbl (ps:Array a_)
 |ext (φ:Heap->Prop)
abbrev Hp:=Addr->Option HO
noncomputable def aO(H:Hp)(a:Addr)(o:HO):Hp:=fun b=>if b=a then some o else H b
theorem cX:aO H a o a=some o:=by unfold aO;rw[Q_d rfl]
theorem bL(h:b≠a):aO H a o b=H b:=by unfold aO;rw[Q_e h]
theorem ne_of{H:Hp}(h:H a=some o)(h':H b=some u)(d:o≠u):a≠b:=`g
theorem pd{H:Hp}(h:H a=some o)(h':H b=none):a≠b:=`g
section
variable(P:o_)(w:F_)
def fJ(H:Hp)(h:Heap)(a:Addr):HO->Prop
|.lst xs=>xs.length<=sizeLine/\∃(its:List a_)(n:Nat),aJ xs its/\h.get? a=some { cls:=.type "list",data:=.seq its.toArray n }
|.tup xs=>xs.length<=sizeLine/\∃its:List a_,aJ xs its/\Ø h a its.toArray/\∃o,h.get? a=some o/\o.dict=none
|.dK kvs=>kvs.length<=sizeLine/\(a==Û)=false/\∃vs,KV kvs vs/\h.DictOf (lp P w) a vs
| .dT kvs=>kvs.length<=sizeLine/\(a == Û)=false/\∃xs:List (List bO × Addr × a_),
   Paired (fun(p:List bO×V)(q:List bO×Addr×a_)=>p.1=q.1/\H q.2.1=some (.tup (p.1.map kV))/\aR p.2 q.2.2) kvs xs /\∃o es ep,h.get? a=some o/\o.ExactDict/\o.data=.dict es ep/\es.toList=xs.map (entryOfKey (ŭ (lp P w)))/\(xs.map (·.1)).Nodup
|.set S n=>h.SetOf (intKind P w) a S n
| .ins C dx fs=>H dx=some (.own a)/\fs.length<=1000/\dx≠a/\h.get? a=some (W.instObj C dx) /\
   ∃mA,h.Ns1 dx mA/\(∀f,fP (fs.lookup f) (mA f))/\PySem.Within mA (fs.map (·.1))
|.own _=>∃o,h.get? a=some o
|.xd fs=>∃mA,h.Ns1 a mA/\∀f,fP (fs.lookup f) (mA f)
|.rng lo hi=>∃t u v,h.get? a=some { cls:=.type "range",data:=.fields #[.int lo t,.int hi u,.int 1 v] }
|.frz o u=>h.get? a=some o/\fJ H h a u
|.tbl ps=>h.get? a=some { cls:=.none,data:=.fields ps }
|.met f x=>h.get? a=some (W.methodObj (.ref f) (.ref x))
|.ext φ=>φ h/\(∃o,h.get? a=some o)/\∀h1 h2:Heap,φ h1->(∀o,h1.get? a=some o->h2.get? a=some o)->φ h2
def HOk(H:Hp)(h:Heap):Prop:=∀a o,H a=some o->fJ P w H h a o
end
variable{P:o_}{w:F_}{H H':Hp}{h h':Heap}{a:Addr}{o:HO}
theorem fJ.lt(x:fJ P w H h a o):a<h.objs.size:=by cases o with
|lst Y=>obtain⟨_,_,_,_,e⟩:=x;exact n_ e
|tup Y=>obtain⟨_,_,_,p,_⟩:=x;exact p.lt
|dK U=>obtain⟨_,_,_,_,o,_,_,e,_⟩:=x;exact n_ e
|dT U=>obtain⟨_,_,_,_,o,_,_,e,_⟩:=x;exact n_ e
|set S n=>obtain⟨o,_,_,_,e,_⟩:=x;exact n_ e
|ins C j Z=>obtain⟨_,_,_,e,_⟩:=x;exact n_ e
|own y=>obtain⟨_,e⟩:=x;exact n_ e
|xd Z=>obtain⟨_,⟨_,_,_,e,_⟩,_⟩:=x;exact n_ e
|rng g i=>obtain⟨_,_,_,e⟩:=x;exact n_ e
|frz d u=>obtain⟨e,_⟩:=x;exact n_ e
|tbl c=>exact n_ (x)
|met f y=>exact n_ (x)
|ext b=>obtain⟨_,⟨_,e⟩,_⟩:=x;exact n_ e
theorem Paired.mapP{l₁:List Y}{l₂:List U}(h:Paired F l₁ l₂)(f:∀a b,F a b->G a b):Paired G l₁ l₂:=by induction h with
|nil=>exact .nil
|cons r _ Z=>exact .cons (f _ _ r) Z
theorem fJ.stay(x:fJ P w H h a o)(k:∀b u,(b=a\/H b=some (.own a))->h.get? b=some u->h'.get? b=some u)(J:∀b,H b=some (.own a)->H' b=some (.own a))(I:∀b xs,H b=some (.tup xs)->H' b=some (.tup xs)):fJ P w H' h' a o:=by induction o with
|lst xs=>obtain⟨z,i,n,r,e⟩:=x;exact⟨z,i,n,r,k _ _ (.inl rfl) e⟩
|tup xs=>obtain⟨z,i,r,⟨Y,e,c⟩,U,s,L⟩:=x;exact⟨z,i,r,⟨Y,k _ _ (.inl rfl) e,c⟩,U,k _ _ (.inl rfl) s,L⟩
|dK m=>obtain⟨z,y,E,r,Y,Z,g,e,c⟩:=x;exact⟨z,y,E,r,Y,Z,g,k _ _ (.inl rfl) e,c⟩
|dT m=>obtain⟨z,y,xs,r,Y,Z,g,e,c⟩:=x;exact⟨z,y,xs,Paired.mapP r fun p q z=>⟨z.1,I _ _ z.2.1,z.2.2⟩,Y,Z,g,k _ _ (.inl rfl) e,c⟩
|set S n=>obtain⟨Y,Z,g,t,e,c⟩:=x;exact⟨Y,Z,g,t,k _ _ (.inl rfl) e,c⟩
|ins C Q K=>obtain⟨d,z,F,e,l,⟨j,Z,g,s,c⟩,r⟩:=x;exact⟨J _ d,z,F,k _ _ (.inl rfl) e,l,⟨j,Z,g,k _ _ (.inr d) s,c⟩,r⟩
|own y=>obtain⟨Y,e⟩:=x;exact⟨Y,k _ _ (.inl rfl) e⟩
|xd K=>obtain⟨l,⟨j,Z,g,e,c⟩,r⟩:=x;exact⟨l,⟨j,Z,g,k _ _ (.inl rfl) e,c⟩,r⟩
|rng N O=>obtain⟨t,u,v,e⟩:=x;exact⟨t,u,v,k _ _ (.inl rfl) e⟩
|frz Y u G=>obtain⟨e,q⟩:=x;exact⟨k _ _ (.inl rfl) e,G q⟩
|tbl B=>have e:h.get? a=some { cls:=.none,data:=.fields B }:=x;show h'.get? a=some { cls:=.none,data:=.fields B };exact k a _ (.inl rfl) e
|met f y=>have e:h.get? a=some (W.methodObj (.ref f) (.ref y)):=x;show h'.get? a=some (W.methodObj (.ref f) (.ref y));exact k a _ (.inl rfl) e
|ext M=>obtain⟨p,⟨o,e⟩,A⟩:=x;exact⟨A _ _ p fun o q=>k _ _ (.inl rfl) q,⟨o,k _ _ (.inl rfl) e⟩,A⟩
theorem HOk.lt(x:HOk P w H h)(e:H a=some o):a<h.objs.size:=(x a o e).lt
theorem HOk.fresh(x:HOk P w H h)(e:h.objs.size<=a):H a=none:=by cases q:H a with
|none=>rfl
|some u=>exact Q_f (A_ (x.lt q) e) (þ _)
theorem HOk.kept(x:HOk P w H h)(k:∀b u,h.get? b=some u->h'.get? b=some u):HOk P w H h':=fun a o e=>(x a o e).stay (fun b u _ q=>k b u q) (fun _ q=>q) fun _ _ q=>q
theorem HOk.laid(x:HOk P w H h)(k:∀b u,h.get? b=some u->h'.get? b=some u)(d:h.objs.size<=a)(U:fJ P w (aO H a o) h' a o):HOk P w (aO H a o) h':=fun b u e=>by
 have Y:=x.fresh d;by_cases Z:b=a
 .subst Z;rw[cX]at e;cases e;exact U
 .rw[bL Z]at e;exact(x b u e).stay `a (fun c q=>by rw[bL (pd q Y)];exact q) fun c f q=>by rw[bL (pd q Y)];exact q
def Rd(H:Hp)(a:Addr)(u:HO):Prop:=H a=some u\/∃o,H a=some (.frz o u)
theorem Rd.ok(r:Rd H a u)(x:HOk P w H h):fJ P w H h a u:=by
 rcases r with r|⟨o,r⟩
 .exact x a u r
 .obtain⟨_,q⟩:=x a _ r;exact q
noncomputable def wW:Option HO->Prop
|some (.lst _)=>True
|some (.dK _)=>True
|some (.dT _)=>True
|some (.set _ _)=>True
|some (.ins _ _ _)=>True
|some (.ext _)=>True
|_=>False
section
variable{x e:Addr}{o':HO}
theorem HOk.write(j:HOk P w H h)(d:wW (H x))(m:e=x\/H e=some (.own x))(k:∀b u,b≠e->h.get? b=some u->h'.get? b=some u)(Z:∃u,h'.get? e=some u)(f:fJ P w (aO H x o') h' x o'):HOk P w (aO H x o') h':=fun b u q=>by
 have Y:∀c y,H c=some (.own y)->c≠x:=fun c y r z=>by subst z;rw[r]at d;exact d
 have U:∀c a,H c=some (.tup a)->c≠x:=fun c a r z=>by subst z;rw[r]at d;exact d
 by_cases i:b=x
 .subst i;rw[cX]at q;cases q;exact f
 .rw[bL i]at q;by_cases g:b=e
  .have q':H b=some (.own x):=`a
   rw[q]at q';cases q';obtain⟨v,l⟩:=Z;exact⟨v,by rw[g];exact l⟩
  .refine(j b u q).stay (fun c v n r=>k c v ?_ r) (fun c r=>by rw[bL (Y c b r)];exact r) fun c a r=>by rw[bL (U c a r)];exact r
   grind
end
structure Un(fs ex:List Addr)(H H':Hp)(h h':Heap):Prop where
 keep:∀b o,h.get? b=some o->H b=none->b∉fs->b∉ex->h'.get? b=some o
 slot:∀b o,h.get? b=some o->H b=none->b∈fs->b∉ex->∃sl,h'.get? b=some { o with slots:=sl }
 free:∀b o,h.get? b=some o->H b=none->b∉ex->H' b=none
 there:∀b o,h.get? b=some o->b∉ex->∃o',h'.get? b=some o'
 tups:∀b xs,H b=some (.tup xs)->H' b=some (.tup xs)
 frzs:∀b o u,H b=some (.frz o u)->H' b=some (.frz o u)
 tbls:∀b ps,H b=some (.tbl ps)->∃more,H' b=some (.tbl (ps++more))
section
variable{fs fs' ex ex':List Addr}{H1 H2:Hp}{h1 h2:Heap}{x e:Addr}
theorem Un.any(u:Un fs ex H H1 h h1)(q:h.get? b=some U)(n:H b=none)(Y:b∉ex):∃a,h1.get? b=some { U with slots:=a }:=by
 by_cases Z:b∈fs
 .exact u.slot b U q n Z Y
 .exact⟨U.slots,u.keep b U q n Z Y⟩
theorem Un.kept(k:∀b u,h.get? b=some u->h'.get? b=some u):Un fs ex H H h h':=⟨fun b U q _ _ _=>k b U q,fun b U q _ _ _=>⟨U.slots,k b U q⟩,fun _ _ _ n _=>n,fun b U q _=>⟨U,k b U q⟩,fun _ _ q=>q,fun _ _ _ q=>q,fun _ Y q=>⟨#[],by rw[q];simp⟩⟩
theorem Un.refl:Un fs ex H H h h:=Un.kept fun _ _ q=>q
theorem Un.laid(k:∀b u,h.get? b=some u->h'.get? b=some u)(Z:h.objs.size<=a)(U:H a=none):Un fs ex H (aO H a o) h h' where
 keep:=fun b u q _ _ _=>k b u q
 slot:=fun b u q _ _ _=>⟨u.slots,k b u q⟩
 free:=fun b u q n _=>by rw[bL (H_ (A_ (n_ q) Z))];exact n
 there:=fun b u q _=>⟨u,k b u q⟩
 tups:=fun b Y q=>by rw[bL (pd q U)];exact q
 frzs:=fun b u Y q=>by rw[bL (pd q U)];exact q
 tbls:=fun b c q=>⟨#[],by rw[bL (pd q U),q];simp⟩
theorem Un.write(Z:wW (H x))(i:e=x\/H e=some (.own x))(k:∀b u,b≠e->h.get? b=some u->h'.get? b=some u)(U:∃u,h'.get? e=some u):Un fs ex H (aO H x o) h h':=by
 have d:∀b,H b=none->b≠x:=fun b n z=>by subst z;rw[n]at Z;exact Z
 have a:∀b,H b=none->b≠e:=fun b n z=>by simp_all
 have Y:∀b u,H b=some u->¬ wW (some u)->b≠x:=fun b u q g z=>by simp_all
 refine⟨fun b u q n _ _=>k b u (a b n) q,fun b u q n _ _=>⟨u.slots,k b u (a b n) q⟩,fun b u q n _=>by rw[bL (d b n)];exact n,fun b u q _=>?_,fun b c q=>by rw[bL (Y b _ q fun z=>z)];exact q,fun b u c q=>by rw[bL (Y b _ q fun z=>z)];exact q,fun b f q=>⟨#[],by rw[bL (Y b _ q fun z=>z),q];simp⟩⟩
 grind
end
noncomputable def trk(h:Heap)(H:Hp):List Addr:=(x_ h.objs.size).filter fun a=>(H a).isSome
def og(h:Heap)(H:Hp):Heap:=W.hideAll h (trk h H)
theorem P7{o:Obj}(e:(og h H).get? b=some o):h.get? b=some o/\H b=none:=by have U:=W.of_hideAll _ e;refine⟨U,?_⟩;cases q:H b with
|none=>rfl
|some x=>have Y:b∈trk h H:=C_.mpr ⟨D_.mpr (n_ U),by simp[q]⟩;have z:(og h H).get? b=none:=W.hideAll_none _ Y;rw[z]at e;cases e
noncomputable def uB(g h:Heap)(L:Addr):List (Addr×Obj):=(x_ h.objs.size).filterMap fun a=>if a=L\/(g.get? a).isSome=true then none else(h.get? a).map fun o=>(a,o)
theorem DY{o:Obj}(Z:a≠L)(Y:g.get? a=none)(U:h.get? a=some o):(a,o)∈uB g h L:=Đ.mpr ⟨a,D_.mpr (n_ U),by simp[Z,Y,U]⟩
def rest(g h:Heap)(L d:Addr):List (Addr×Obj):=(uB g h L).filter fun p=>decide (p.1≠d)
theorem Cu:News g L h (uB g h L):=fun p U=>let⟨a,b,c⟩:=(show p.1≠L/\g.get? p.1=none/\h.get? p.1=some p.2 by
   obtain⟨b,_,e⟩:=Đ.mp U;split at e
   .cases e
   .rename_i hn;cases q:h.get? b with
   |none=>simp_all
   |some u=>rw[q]at e;simp  at e;subst e;refine⟨fun z=>hn (.inl z),?_,q⟩;cases r:g.get? b with
    |none=>rfl
    |some v=>simp_all);⟨c,a,b⟩
structure Mod(K:W.Frag)(mg:Str->Option a_)(base:Heap):Prop where
 kin:K.In base
 glob:base.Ns M_ mg
 blt:∃mb,base.Ns QeW mb/\∀x:Str,x≠"__name__"->mb x=Ą x
 nolimit:base.NoLimit
structure Cx where
 prog:o_
 w:F_
 K:W.Frag
 mg:Str->Option a_
 base:Heap
 A:I_
 N:List Str
 s₀:d_
 H₀:Hp
 env:Env
 outer:List Env
 stack:List Env
 ex:List Addr
 fn:Str->Bool
 calm:Bool
 pn:List (Addr×Obj)
 xe:a_->d_->Prop
abbrev Nq(x:Str):Prop:=(x==("__debug__" : Str))=false
abbrev Nc(x:Str):Prop:=(x==("__classdict__" : Str))=false
abbrev Sx(X:Cx)(e:Expr)(es:List Expr):Prop:=B_ (e::es) X.env=(false,eval e X.env)::B_ es X.env
abbrev Bx(X:Cx)(p:Pos)(es:List Expr):Prop:=(backTo p (B_ es X.env)).any (·.1)=false
abbrev Fx(X:Cx)(y:Str):Prop:=X.fn y=true\/X.env.scope.names.lookup y=some .local
abbrev Ix(X:Cx)(e:Expr):Prop:=∀x,foldedSetIterable e X.env x=pure x
noncomputable def dU(l:List Env):List Addr:=l.filterMap (·.frame)
abbrev Cx.fs(X:Cx):List Addr:=dU X.outer
def gC(sc:ã)(x:Str):Prop:=sc.names.lookup x=some .local\/sc.names.lookup x=some .cell\/sc.names.lookup x=some .free
def lw(sc:ã)(x:Str):Prop:=sc.names.lookup x=some .local\/sc.names.lookup x=some .cell
def FY(env:Env)(h:Heap)(m:Str->Option a_)(x:Str)(u:a_):Prop:=(env.kindOf x=some .local/\m x=some u)\/((env.kindOf x=some .cell\/env.kindOf x=some .free)/\∃c,env.cells.lookup x=some c/\h.IsCell c (some u))
structure Cx.Ok(X:Cx):Prop where
 mod:Mod X.K X.mg X.base
 kind:X.env.scope.kind=.function
 glob:X.env.globals=M_
 blt:X.env.builtins=QeW
 above:X.s₀.heap.objs.size<=X.env.locals
 inj:∀x y c,X.env.cells.lookup x=some c->X.env.cells.lookup y=some c->x=y
 has:∀x,(X.env.kindOf x=some .cell\/X.env.kindOf x=some .free)->∃c,X.env.cells.lookup x=some c
 cab:∀x c,X.fn x=true->X.env.cells.lookup x=some c->X.s₀.heap.objs.size<=c
 hd:X.calm=true->X.A.handled=none
 frames:X.A.frames=some X.stack
 stk:X.stack=X.outer\/(X.stack=X.env::X.outer/\X.env.frame=some X.env.locals)
 exf:∀b∈X.ex,b≠X.env.locals/\∀x c,X.env.cells.lookup x=some c->c≠b
 bs:∀b o,X.base.get? b=some o->X.s₀.heap.get? b=some o/\X.H₀ b=none
 bsz:X.base.objs.size<=X.s₀.heap.objs.size
 noex:∀b o,X.base.get? b=some o->b∉X.ex
 exfs:∀b∈X.ex,b∉X.fs
 funs:X.s₀.heap.FunFrames X.base X.outer
 frf:∀b∈X.fs,X.H₀ b=none
structure Inv(X:Cx)(pz:List (Addr×Obj))(σ:List (Option V))(H:Hp)(s:d_):Prop where
 ok:X.Ok
 os:s.os=X.s₀.os
 bare:Á s.gens
 base:Un X.fs X.ex X.H₀ H X.s₀.heap s.heap
 loc:∃m,s.heap.Ns X.env.locals m/\∀(i:Nat)(x:Str)(v:V),X.N[i]? = some x->σ[i]? = some (some v)->gC X.env.scope x->∃u,aR v u/\FY X.env s.heap m x u
 cell:∀x c,X.env.cells.lookup x=some c->∃v,s.heap.IsCell c v
 free:H X.env.locals=none
 freeC:∀x c,X.env.cells.lookup x=some c->H c=none
 pin:∀p∈X.pn++pz,s.heap.get? p.1=some p.2/\H p.1=none/\p.1≠X.env.locals/\p.1∉X.fs/\∀v,p.2.data≠.cell v
 hok:HOk X.prog X.w H s.heap
 len:σ.length=X.N.length
variable{X:Cx}{pz:List (Addr×Obj)}{s:d_}
section
variable{σ:List (Option V)}
theorem Inv.bs(I:Inv X pz σ H s):∀b o,X.base.get? b=some o->s.heap.get? b=some o/\H b=none:=fun b o e=>⟨I.base.keep b o (I.ok.bs b o e).1 (I.ok.bs b o e).2 ((fun e=>fun U=>by have:=(I.ok.funs.mem U).1;simp_all) e) (I.ok.noex b o e),I.base.free b o (I.ok.bs b o e).1 (I.ok.bs b o e).2 (I.ok.noex b o e)⟩
theorem Inv.bk(I:Inv X pz σ H s):∀b o,X.base.get? b=some o->s.heap.get? b=some o:=fun b o e=>(I.bs b o e).1
theorem Inv.mod(I:Inv X pz σ H s):Mod X.K X.mg X.base:=I.ok.mod
theorem Inv.kIn(I:Inv X pz σ H s):X.K.In s.heap:=I.ok.mod.kin.keeps I.bk
theorem Inv.fr(I:Inv X pz σ H s):∃m,Fr X.base X.env.locals s.heap m:=let⟨m,U,_⟩:=I.loc
 ⟨m,U,I.bk,U_ I.ok.bsz I.ok.above⟩
theorem Inv.lt(I:Inv X pz σ H s):X.env.locals<s.heap.objs.size:=let⟨_,U,_⟩:=I.loc;U.lt
theorem Inv.sz(I:Inv X pz σ H s):X.s₀.heap.objs.size<=s.heap.objs.size:=U_ I.ok.above (Ŝ I.lt)
theorem Inv.nofs(I:Inv X pz σ H s)(h:s.heap.objs.size<=a):a∉X.fs:=fun Y=>by obtain⟨_,o,U,_⟩:=I.ok.funs.mem Y;exact Q_f (A_ (n_ U) (U_ I.sz h)) (þ _)
theorem Inv.cne(I:Inv X pz σ H s):∀x c,X.env.cells.lookup x=some c->c≠X.env.locals:=fun x c e z=>by obtain⟨v,o,a,b⟩:=I.cell x c e;obtain⟨m,⟨Z,d,f,U,Y,_⟩,_⟩:=I.loc;simp_all
theorem Inv.funs(I:Inv X pz σ H s):s.heap.FunFrames X.base X.outer:=by
 have Y:∀(l:List Env),(∀b∈dU l,b∈X.fs)->X.s₀.heap.FunFrames X.base l->s.heap.FunFrames X.base l:=by
  intro l
  induction l with
 |nil=>intro _ _;trivial
 |cons j r a=>intro Z f;obtain⟨g,⟨L,o,h,m,d,n⟩,c⟩:=f;have U:=Z L (by unfold dU;simp_all);obtain⟨k,e⟩:=I.base.slot L o d (I.ok.frf L U) U fun z=>I.ok.exfs L z U;exact⟨g,`a,a (fun b i=>Z b (by unfold dU;rw[Œ,h];exact i_ _ i)) c⟩
 exact Y X.outer `a I.ok.funs
theorem Inv.stack(I:Inv X pz σ H s):s.heap.FunFrames X.base X.stack:=by
 rcases I.ok.stk with e|⟨e,Y⟩
 .rw[e];exact I.funs
 .rw[e];obtain⟨m,U,_⟩:=I.loc;refine .cons (by rw[I.ok.kind];decide) Y U ?_ I.funs;exact Ŏ (U_ I.ok.bsz I.ok.above)
theorem Inv.stkSub(I:Inv X pz σ H s):∀b∈dU X.stack,b∈X.env.locals::X.fs:=fun b U=>by
 rcases I.ok.stk with e|⟨e,Y⟩
 .simp_all
 .rw[e]at U;unfold dU at U;rw[Œ,Y]at U;exact U
theorem Inv.stkFree(I:Inv X pz σ H s):∀b∈dU X.stack,H b=none:=fun b U=>by
 rcases m_.mp (I.stkSub b U)with e|U
 .rw[e];exact I.free
 .obtain⟨_,o,ho,_⟩:=I.ok.funs.mem U;exact I.base.free b o ho (I.ok.frf b U) fun z=>I.ok.exfs b z U
theorem Inv.step{g':Array GenState}{t':Nat}{d':Drawn}{ch:List Addr}(I:Inv X pz σ H s)(Y:∀b∈ch,(b∈X.ex\/X.s₀.heap.objs.size<=b)/\b≠X.env.locals/\(∀x c,X.env.cells.lookup x=some c->c≠b)/\∀p∈X.pn++pz,p.1≠b)(g:∀b o,b≠X.env.locals->b∉X.fs->b∉ch->s.heap.get? b=some o->H b=none->h'.get? b=some o)(h:∀b o,b≠X.env.locals->b∈X.fs->b∉ch->s.heap.get? b=some o->H b=none->∃L,h'.get? b=some { o with slots:=L })(f:∀b o,b∉ch->s.heap.get? b=some o->H b=none->H' b=none)(j:∀b o,b∉ch->s.heap.get? b=some o->∃C,h'.get? b=some C)(A:∀b xs,H b=some (.tup xs)->H' b=some (.tup xs))(F:∀b o u,H b=some (.frz o u)->H' b=some (.frz o u))(B:∀b J,H b=some (.tbl J)->∃E,H' b=some (.tbl (J++E)))(R:∀m,s.heap.Ns X.env.locals m->h'.Ns X.env.locals m)(M:HOk X.prog X.w H' h')(W:Á g'):Inv X pz σ H' { s with heap:=h',gens:=g',drawn:=d',toks:=t' }:=by
 have Q:∀b o,X.s₀.heap.get? b=some o->b≠X.env.locals:=fun b o e=>H_ (A_ (n_ e) I.ok.above);have K:∀b o,X.s₀.heap.get? b=some o->b∉X.ex->b∉ch:=fun b o e a t=>by
  rcases(Y b t).1 with z|z
  .exact a z
  .exact Q_f (A_ (n_ e) z) (þ _)
 have Z:∀x c,X.env.cells.lookup x=some c->∀v,s.heap.IsCell c v->h'.IsCell c v:=fun x c e v w=>by
  obtain⟨o,y,N⟩:=w
  have U:c∉ch:=fun z=>(Y c z).2.2.1 x c e rfl;by_cases P:c∈X.fs
  .obtain⟨L,q⟩:=h c o (I.cne x c e) P U y (I.freeC x c e);exact⟨_,q,N⟩
  .exact⟨o,g c o (I.cne x c e) P U y (I.freeC x c e),N⟩
 refine⟨I.ok,I.os,W,⟨fun b o e n t a=>?_,fun b o e n t a=>?_,fun b o e n a=>?_,fun b o e a=>?_,fun b xs e=>A b xs (I.base.tups b xs e),fun b o xs e=>F b o xs (I.base.frzs b o xs e),fun b J e=>?_⟩,?_,fun x c e=>?_,?_,fun x c e=>?_,fun p O=>?_,M,I.len⟩
 .exact g b o (Q b o e) t (K b o e a) (I.base.keep b o e n t a) (I.base.free b o e n a)
 .obtain⟨L,e1⟩:=I.base.slot b o e n t a;obtain⟨Cl,G⟩:=h b _ (Q b o e) t (K b o e a) e1 (I.base.free b o e n a);exact⟨Cl,G⟩
 .obtain⟨C,e1⟩:=I.base.there b o e a;exact f b C (K b o e a) e1 (I.base.free b o e n a)
 .obtain⟨C,e1⟩:=I.base.there b o e a;exact j b C (K b o e a) e1
 .obtain⟨m1,e1⟩:=I.base.tbls b J e;obtain⟨T,G⟩:=B b _ e1;exact⟨m1++T,by rw[G,Array.append_assoc]⟩
 .obtain⟨m,hn,hl⟩:=I.loc;refine⟨m,R m hn,fun i x v e1 G e3=>?_⟩;obtain⟨u,r,l⟩:=hl i x v e1 G e3;refine⟨u,r,?_⟩;rcases l with l|⟨k,c,e,z⟩
  .exact .inl l
  .exact .inr ⟨k,c,e,Z x c e _ z⟩
 .obtain⟨v,z⟩:=I.cell x c e;exact⟨v,Z x c e v z⟩
 .obtain⟨m,⟨o,_,_,y,_⟩,_⟩:=I.loc;exact f _ o (fun z=>(Y _ z).2.1 rfl) y I.free
 .obtain⟨v,o,y,N⟩:=I.cell x c e;exact f c o (fun z=>(Y c z).2.2.1 x c e rfl) y (I.freeC x c e)
 .obtain⟨e,n,ne,nf,d⟩:=I.pin p O;have U:p.1∉ch:=fun z=>(Y p.1 z).2.2.2 p O rfl;exact⟨g p.1 p.2 ne nf U e n,f p.1 p.2 U e n,ne,nf,d⟩
theorem Inv.un(I:Inv X pz σ H s)(u:Un X.fs [] H H' s.heap h')(Z:HOk X.prog X.w H' h'):Inv X pz σ H' { s with heap:=h',toks:=t' }:=by obtain⟨m,⟨o,l,p,d,r⟩,_⟩:=id I.loc;obtain⟨i,h⟩:=u.any d I.free `s;exact I.step (ch:=[]) `a (fun b o _ a _ e n=>u.keep b o e n a `s) (fun b o _ a _ e n=>u.slot b o e n a `s) (fun b o _ e n=>u.free b o e n `s) (fun b o _ e=>u.there b o e `s) u.tups u.frzs u.tbls (fun k g=>by obtain⟨j,c,U,Y,f⟩:=g;rw[d]at Y;cases Y;exact⟨_,c,U,h,f⟩) Z I.bare
theorem Inv.call(I:Inv X pz σ H s)(u:Un (dU X.stack) ch H H' s.heap h')(d:HOk X.prog X.w H' h')(k:Á g')(U:∀b∈ch,(b∈X.ex\/X.s₀.heap.objs.size<=b)/\b≠X.env.locals/\(∀x c,X.env.cells.lookup x=some c->c≠b)/\∀p∈X.pn++pz,p.1≠b):Inv X pz σ H' { s with heap:=h',gens:=g',drawn:=d',toks:=t' }:=by obtain⟨m,⟨o,y,A,h,r⟩,_⟩:=id I.loc;obtain⟨q,f⟩:=u.any h I.free fun z=>(U _ z).2.1 rfl;exact I.step U (fun b o f l Z e n=>u.keep b o e n (fun z=>(m_.mp (I.stkSub b z)).elim f l) Z) (fun b o _ _ Z e n=>u.any e n Z) (fun b o Z e n=>u.free b o e n Z) (fun b o Z e=>u.there b o e Z) u.tups u.frzs u.tbls (fun v j=>by obtain⟨t,g,Y,a,i⟩:=j;rw[h]at a;cases a;exact⟨_,g,Y,f,i⟩) d k
theorem Inv.turned(I:Inv X pz σ H s)(k:∀b o,b≠it->s.heap.get? b=some o->h'.get? b=some o)(a:H it=none)(Z:it≠X.env.locals)(i:it∈X.ex\/X.s₀.heap.objs.size<=it)(h:∀x c,X.env.cells.lookup x=some c->c≠it)(g:∀p∈X.pn++pz,p.1≠it):Inv X pz σ H { s with heap:=h',toks:=t' }:=by
 have U:∀b u,H b=some u->b≠it:=fun b u e z=>by rw[z,a]at e;cases e
 refine I.step (g':=s.gens) (d':=s.drawn) (ch:=[it]) (fun b f=>?_) (fun b o _ _ Y e _=>k b o (fun z=>Y (by simp[z])) e) (fun b o _ _ Y e _=>⟨o.slots,k b o (fun z=>Y (by simp[z])) e⟩) (fun _ _ _ _ n=>n)
  (fun b o Y e=>⟨o,k b o (fun z=>Y (by simp[z])) e⟩) (fun _ _ e=>e) (fun _ _ _ e=>e) (fun b j e=>⟨#[],by rw[e];simp⟩) (fun m d=>?_) (fun b u e=>?_) I.bare
 .have e:b=it:=by simpa using f
  subst e;exact⟨i,Z,h,g⟩
 .obtain⟨o,es,ep,ho,r⟩:=d;exact⟨o,es,ep,k _ o (ê Z) ho,r⟩
 .refine(I.hok b u e).stay (fun c v Y q=>k c v ?_ q) (fun _ q=>q) fun _ _ q=>q;rcases Y with z|z
  .rw[z];exact U b u e
  .exact U c _ z
theorem Inv.tok(I:Inv X pz σ H s)(t:Nat):Inv X pz σ H { s with toks:=t }:=I.un Un.refl I.hok
theorem Inv.kept(I:Inv X pz σ H s)(k:∀b u,s.heap.get? b=some u->h'.get? b=some u):Inv X pz σ H { s with heap:=h',toks:=t' }:=I.un (Un.kept k) (I.hok.kept k)
theorem Inv.laid(I:Inv X pz σ H s)(k:∀b u,s.heap.get? b=some u->h'.get? b=some u)(Y:s.heap.objs.size<=a)(U:fJ X.prog X.w (aO H a o) h' a o):Inv X pz σ (aO H a o) { s with heap:=h',toks:=t' }:=I.un (Un.laid k Y (I.hok.fresh Y)) (I.hok.laid k Y U)
theorem Inv.write(I:Inv X pz σ H s)(Z:wW (H x))(a:e=x\/H e=some (.own x))(k:∀b u,b≠e->s.heap.get? b=some u->h'.get? b=some u)(U:∃u,h'.get? e=some u)(Y:fJ X.prog X.w (aO H x o) h' x o):Inv X pz σ (aO H x o) { s with heap:=h',toks:=t' }:=I.un (Un.write Z a k U) (I.hok.write Z a k U Y)
theorem Inv.pins_of(I:Inv X pz σ H s)(h:∀p∈U,s.heap.get? p.1=some p.2/\H p.1=none/\p.1≠X.env.locals/\p.1∉X.fs/\∀v,p.2.data≠.cell v):Inv X U σ H s:=⟨I.ok,I.os,I.bare,I.base,I.loc,I.cell,I.free,I.freeC,fun p Y=>(Ý.mp Y).elim (fun z=>I.pin p (Qcs _ z)) (h p),I.hok,I.len⟩
theorem Jt{N:List Str}(U:N.Nodup){i j:Nat}(a:N[i]? = some x)(b:N[j]? = some x):i=j:=by obtain⟨d,Z⟩:=g_.mp a;obtain⟨c,Y⟩:=g_.mp b;exact(List.getElem_inj U).mp (Z.trans Y.symm)
theorem Kr(I:Inv X pz σ H s)(hN:X.N.Nodup)(hi:X.N[i]? = some x)(l:lw X.env.scope x)(r:aR v u)(h:∀R,Inv X pz (σ.set i (some v)) H R->(∃a,ĺ a s.heap R.heap/\(a=X.env.locals\/X.env.cells.lookup x=some a))->Q () R)(hf:!!!Fx X x):u_ M A (storeName X.env x u) Q E s:=by
 obtain⟨m,hn,hl⟩:=id I.loc;have BT:(X.env.scope.kind==.class || (X.env.scope.kind==.module&&X.env.locals != X.env.globals))=false:=by rw[I.ok.kind];rfl
 have dl:i<σ.length:=by rw[I.len];exact(g_.mp hi).1
 have F:=I.cne;have U:∀{a:Addr}{G:Heap},(∃o,s.heap.get? a=some o/\H a=none)->ĺ a s.heap G->HOk X.prog X.w H G:=fun{a G} ha hs b ob e=>by
  obtain⟨_,_,Y⟩:=ha;refine(I.hok b ob e).stay (fun c K g q=>(hs.2 c ?_).trans q) (fun _ q=>q) fun _ _ q=>q
  rintro rfl
  rcases g with rfl|g
  .rw[Y]at e;cases e
  .rw[Y]at g;cases g
 rcases l with B|B
 .refine wpAny_storeName_local B hn (fun G Id hs=>?_) BT;obtain⟨oL,_,_,IO,_⟩:=id hn;refine h _ ⟨I.ok,I.os,I.bare,⟨fun b o e n C l=>?_,fun b o e n C l=>?_,I.base.free,fun b o e l=>?_,I.base.tups,I.base.frzs,I.base.tbls⟩,⟨_,Id,fun j y O f t e3=>?_⟩,fun y c e=>?_,I.free,I.freeC,fun p W=>?_,U ⟨oL,IO,I.free⟩ hs,by simpa using I.len⟩ ⟨_,hs,.inl rfl⟩
  .exact(hs.2 b (H_ (A_ (n_ e) I.ok.above))).trans (I.base.keep b o e n C l)
  .obtain⟨sl,f⟩:=I.base.slot b o e n C l;exact⟨sl,(hs.2 b (H_ (A_ (n_ e) I.ok.above))).trans f⟩
  .obtain⟨o',f⟩:=I.base.there b o e l;exact⟨o',(hs.2 b (H_ (A_ (n_ e) I.ok.above))).trans f⟩
  .by_cases hj:j=i
   .subst hj;rw[hi]at f;cases f;rw[r_ dl]at t;cases t;exact⟨u,r,.inl ⟨B,`s⟩⟩
   .rw[e_ (ê hj)]at t;obtain⟨P,T,q⟩:=hl j y O f t e3;refine⟨P,T,?_⟩;rcases q with⟨k,e⟩|⟨k,c,e,z⟩
    .refine .inl ⟨k,?_⟩;have:y≠x:=fun e=>hj (Jt hN f (e▸hi));simp[this,e]
    .exact .inr ⟨k,c,e,z.sameBut hs (F y c e)⟩
  .obtain⟨K,z⟩:=I.cell y c e;exact⟨K,z.sameBut hs (F y c e)⟩
  .obtain⟨e,n,ne,nf,d⟩:=I.pin p W;exact⟨(hs.2 p.1 ne).trans e,n,ne,nf,d⟩
 .have hfn:X.fn x=true:=by
   rcases hf with z|z
   .exact z
   .rw[z]at B;cases B
  obtain⟨c,g⟩:=I.ok.has x (.inl B);obtain⟨K,z⟩:=I.cell x c g;refine wpAny_storeName_cell I.ok.kind B g z (fun G J hs=>?_);obtain⟨oc,Z,Cl⟩:=id z;refine h { s with heap:=G } ⟨I.ok,I.os,I.bare,⟨fun b o e n C l=>?_,fun b o e n C l=>?_,I.base.free,fun b o e l=>?_,I.base.tups,I.base.frzs,I.base.tbls⟩,⟨m,hn.sameBut hs (ê (F x c g)),fun j y O f t e3=>?_⟩,fun y L e=>?_,I.free,I.freeC,fun p W=>?_,U ⟨oc,Z,I.freeC x c g⟩ hs,by simpa using I.len⟩ ⟨c,hs,.inr g⟩
  .exact(hs.2 b (H_ (A_ (n_ e) (I.ok.cab x c hfn g)))).trans (I.base.keep b o e n C l)
  .obtain⟨sl,f⟩:=I.base.slot b o e n C l;exact⟨sl,(hs.2 b (H_ (A_ (n_ e) (I.ok.cab x c hfn g)))).trans f⟩
  .obtain⟨o',f⟩:=I.base.there b o e l;exact⟨o',(hs.2 b (H_ (A_ (n_ e) (I.ok.cab x c hfn g)))).trans f⟩
  .by_cases hj:j=i
   .subst hj;rw[hi]at f;cases f;rw[r_ dl]at t;cases t;exact⟨u,r,.inr ⟨.inl B,c,g,J⟩⟩
   .rw[e_ (ê hj)]at t;obtain⟨P,T,q⟩:=hl j y O f t e3;refine⟨P,T,?_⟩;rcases q with q|⟨k,L,e,z'⟩
    .exact .inl q
    .refine .inr ⟨k,L,e,z'.sameBut hs ?_⟩
     rintro rfl
     exact hj (Jt hN f (I.ok.inj _ _ _ e g▸hi))
  .by_cases hcc:L=c
   .subst hcc;exact⟨_,J⟩
   .obtain⟨w2,z2⟩:=I.cell y L e;exact⟨w2,z2.sameBut hs hcc⟩
  .obtain⟨e,n,ne,nf,d⟩:=I.pin p W;refine⟨(hs.2 p.1 ?_).trans e,n,ne,nf,d⟩;intro q;rw[q,Z]at e;have q':oc=p.2:=T_ e;exact d K (by rw[<-q'];exact Cl)
theorem zw(I:Inv X pz σ H s)(a:X.N.Nodup)(hi:X.N[i]? = some x)(Y:lw X.env.scope x)(r:aR v u)(h:∀U,Inv X pz (σ.set i (some v)) H U->Q () U)(Z:!!!Fx X x):u_ M A (storeName X.env x u) Q E s:=Kr I a hi Y r (fun U b _=>h U b) Z
theorem Inv.call'(I:Inv X pz σ H s)(a:Y.os=s.os)(u:Un (dU X.stack) ch H H' s.heap Y.heap)(Z:HOk X.prog X.w H' Y.heap)(d:Á Y.gens)(U:∀b∈ch,(b∈X.ex\/X.s₀.heap.objs.size<=b)/\b≠X.env.locals/\(∀x c,X.env.cells.lookup x=some c->c≠b)/\∀p∈X.pn++pz,p.1≠b):Inv X pz σ H' Y:=by obtain⟨h,i,j,f,g⟩:=Y;have e:=a;subst e;exact I.call u Z d U
end
abbrev XK:=a_->Option Addr->Hp->Prop
abbrev St:=List (Option V)
abbrev VK:=V->Hp->Prop
abbrev TE:=St->Hp->VK->Prop
abbrev TT:=St->Hp->(Bool->Hp->Prop)->Prop
abbrev TA:=St->Hp->(List V->Hp->Prop)->Prop
structure Ends where
 nx:St->Hp->Prop
 rt:VK
 bk:St->Hp->Prop:=fun _ _=>False
 ct:St->Hp->Prop:=fun _ _=>False
abbrev TS:=Ends->St->Hp->Prop
def EP(X:Cx)(pz:List (Addr×Obj))(σ:St)(Q:VK)(u:a_)(s':d_):Prop:=∃v H',Inv X pz σ H' s'/\aR v u/\Q v H'
def TP(X:Cx)(pz:List (Addr×Obj))(σ:St)(Q:Bool->Hp->Prop)(b:Bool)(s':d_):Prop:=∃H',Inv X pz σ H' s'/\Q b H'
def AP(X:Cx)(pz:List (Addr×Obj))(σ:St)(Q:List V->Hp->Prop)(us:List a_)(s':d_):Prop:=∃vs H',Inv X pz σ H' s'/\aJ vs us/\Q vs H'
def SP(X:Cx)(pz:List (Addr×Obj))(D:Ends)(f:Flow)(s':d_):Prop:=match f with
|.next=>∃σ' H',Inv X pz σ' H' s'/\D.nx σ' H'
|.brk=>∃σ' H',Inv X pz σ' H' s'/\D.bk σ' H'
|.cont=>∃σ' H',Inv X pz σ' H' s'/\D.ct σ' H'
|.ret u=>∃v σ' H',Inv X pz σ' H' s'/\aR v u/\D.rt v H'
def PE(X:Cx)(e:Expr)(t:TE):Prop:=∀(pz:List (Addr×Obj))(s:d_)(σ:St)(H:Hp)(Q:VK),Inv X pz σ H s->t σ H Q->u_ (y_ X.prog X.w) X.A (eval e X.env) (EP X pz σ Q) X.xe s
def PT(X:Cx)(e:Expr)(t:TT):Prop:=∀(pz:List (Addr×Obj))(s:d_)(σ:St)(H:Hp)(Q:Bool->Hp->Prop),Inv X pz σ H s->t σ H Q->u_ (y_ X.prog X.w) X.A (isTrue e X.env (eval e X.env)) (TP X pz σ Q) X.xe s
def PW(X:Cx)(e:Expr)(t:TT):Prop:=∀(whole:Sem a_)(pz:List (Addr×Obj))(s:d_)(σ:St)(H:Hp)(Q:Bool->Hp->Prop),Inv X pz σ H s->t σ H Q->u_ (y_ X.prog X.w) X.A (isTrue e X.env whole) (TP X pz σ Q) X.xe s
theorem PW.pt(h:PW X e t):PT X e t:=h _
def PA(X:Cx)(es:List Expr)(t:TA):Prop:=∀(pos:Pos)(pz:List (Addr×Obj))(s:d_)(σ:St)(H:Hp)(Q:List V->Hp->Prop),Inv X pz σ H s->t σ H Q->u_ (y_ X.prog X.w) X.A (spliced (backTo pos (B_ es X.env))) (AP X pz σ Q) X.xe s
def PS(X:Cx)(st:Stmt)(t:TS):Prop:=∀(pz:List (Addr×Obj))(s:d_)(σ:St)(H:Hp)(D:Ends),Inv X pz σ H s->t D σ H->u_ (y_ X.prog X.w) X.A (exec st X.env) (SP X pz D) X.xe s
def d7(X:Cx)(st:List Stmt)(t:TS):Prop:=∀(pz:List (Addr×Obj))(s:d_)(σ:St)(H:Hp)(D:Ends),Inv X pz σ H s->t D σ H->u_ (y_ X.prog X.w) X.A (execs st X.env) (SP X pz D) X.xe s
theorem bJ{Q Y:U->d_->Prop}(h:u_ M A t Q E s)(Z:∀a s,Q a s->Y a s):u_ M A t Y E s:=V_ h Z fun _ _ x=>x
variable{b:Expr}{ta tb:TE}{pos:Pos}
section
def nN(i:Nat):TE:=fun σ H Q=>∃v,σ[i]? = some (some v)/\Q v H
def tC(v:V):TE:=fun _ H Q=>Q v H
theorem eV{a:Pos}(p:X.N[i]? = some x)(j:gC X.env.scope x)(b:!!Nq x)(U:!!Nc x):PE X (.Name x a) (nN i):=by
 intro g s f H Q I h;obtain⟨v,e,h⟩:=h;obtain⟨m,k,o⟩:=I.loc;obtain⟨u,r,l⟩:=o i x v p e j;have fin:EP X g f Q u s:=⟨v,H,I,r,h⟩
 rcases l with⟨Z,n⟩|⟨Z,c,d,Y⟩
 .exact QeX (wpAny_loadName_local I.ok.kind Z k n fin) b
 .rcases Z with Z|Z
  .exact QeX (wpAny_loadName_cell I.ok.kind Z d Y fin) b
  .exact QeX (wpAny_loadName_free I.ok.kind Z d Y fin U) b
theorem F5{b j pos}:PE X (.Constant (.bool b) j pos) (tC (.bl b)):=fun _ _ _ H _ I h=>Constant_bool ⟨.bl b,H,I,rfl,h⟩
theorem Bz{x j pos}:PE X (.Constant (.str x) j pos) (tC (.str x)):=fun _ _ _ H _ I h=>Calls.Constant_str ⟨.str x,H,I.tok _,⟨_,rfl⟩,h⟩
def Gl(X:Cx)(x:Str):Prop:=X.env.kindOf x=some .globalImplicit
theorem mG{σ:St}(I:Inv X pz σ H s)(Z:Gl X x)(Y:X.mg x=some u)(h:Q u s)(a:!!Nq x):u_ (y_ X.prog X.w) X.A (eval (.Name x U) X.env) Q E s:=QcG I.ok.kind Z (Calls.loadGlobal_global (by rw[I.ok.glob];exact I.mod.glob.keeps I.bk) Y h) a
theorem pH{E:a_->d_->Prop}{σ:St}{U:Pos}(I:Inv X pz σ H s)(b:Gl X x)(a:X.mg x=none)(Y:Ą x=some u)(h:Q u s)(Z:x≠"__name__" := by decide)(c:!!Nq x):u_ (y_ X.prog X.w) X.A (eval (.Name x U) X.env) Q E s:=by obtain⟨f,e,d⟩:=I.mod.blt;exact QcG I.ok.kind b (Calls.loadGlobal_builtin (by rw[I.ok.glob];exact I.mod.glob.keeps I.bk) a (by rw[I.ok.blt];exact e.keeps I.bk) ((d x Z).trans Y) h) c
theorem tY(Z:Gl X x)(Y:X.mg x=some u)(r:aR v u)(a:!!Nq x):PE X (.Name x U) (tC v):=fun _ _ _ H _ I h=>mG I Z Y ⟨v,H,I,r,h⟩ a
theorem Ic{U:Pos}(b:Gl X x)(a:X.mg x=none)(Y:Ą x=some u)(r:aR v u)(Z:x≠"__name__" := by decide)(c:!!Nq x):PE X (.Name x U) (tC v):=fun _ _ _ H _ I h=>pH I b a Y ⟨v,H,I,r,h⟩ Z c
variable{a:Expr}
noncomputable def tB(t:TE):TT:=fun σ H Q=>t σ H fun x H1=>∃c,x=.bl c/\Q c H1
variable{tA tB':TT}{rest:List Expr}
def E5(t u:TT):TT:=fun σ H Q=>t σ H fun c H1=>if c=true then u σ H1 Q else Q false H1
def Y2(t u:TT):TT:=fun σ H Q=>t σ H fun c H1=>if c=true then Q true H1 else u σ H1 Q
def EW(t:TT):TT:=fun σ H Q=>t σ H fun c H1=>Q (not c) H1
theorem Ow(j:PT X a tA)(i:PW X (.BoolOp .And (b::rest) pos) tB'):PW X (.BoolOp .And (a::b::rest) pos) (E5 tA tB'):=by intro f Z s U H Q I h;refine isTrue_and (bJ (j Z s U H _ I h) fun c g k=>?_);obtain⟨e,d,Y⟩:=k;cases c with
|true=>exact i f Z g U e Q d Y
|false=>exact⟨e,d,Y⟩
theorem Xw(j:PT X a tA)(i:PW X (.BoolOp .Or (b::rest) pos) tB'):PW X (.BoolOp .Or (a::b::rest) pos) (Y2 tA tB'):=by intro f Z s U H Q I h;refine isTrue_or (bJ (j Z s U H _ I h) fun c g k=>?_);obtain⟨e,d,Y⟩:=k;cases c with
|true=>exact⟨e,d,Y⟩
|false=>exact i f Z g U e Q d Y
theorem yJ(Z:PT X a tA):PT X (.UnaryOp .Not a pos) (EW tA):=by intro Y s U H Q I h;exact isTrue_not (Z Y s U H _ I h)
noncomputable def YT(ta tb:TE):TE:=fun σ H Q=>ta σ H fun x H1=>∃c,x=.bl c/\if c=true then tb σ H1 Q else Q (.bl false) H1
def YV(ta:TE):TE:=fun σ H Q=>ta σ H fun x H1=>∃c,x=.bl c/\Q (.bl (not c)) H1
theorem Oi(j:PE X a ta)(i:PE X (.BoolOp .And (b::rest) pos) tb):PE X (.BoolOp .And (a::b::rest) pos) (YT ta tb):=by intro Z s Y H Q I h;refine BoolOp_and (bJ (j Z s Y H _ I h) fun v f k=>?_);obtain⟨x,e,d,g,U⟩:=k;obtain⟨c,rfl,U⟩:=U;cases g;refine ň ?_;cases c with
|true=>exact i Z f Y e Q d U
|false=>exact⟨.bl false,e,d,rfl,U⟩
theorem Om(d:PE X a ta):PE X (.UnaryOp .Not a pos) (YV ta):=by intro b s Y H Q I h;refine UnaryOp_ (bJ (d b s Y H _ I h) fun v g k=>?_);obtain⟨x,f,e,Z,U⟩:=k;obtain⟨c,rfl,U⟩:=U;cases Z;exact not_of (ň ⟨.bl (not c),f,e,rfl,U⟩)
noncomputable def Y3(t:TT)(ta tb:TE):TE:=fun σ H Q=>t σ H fun c H1=>if c=true then ta σ H1 Q else tb σ H1 Q
theorem SY(i:PT X c tA)(k:PE X a ta)(j:PE X b tb):PE X (.IfExp c a b pos) (Y3 tA ta tb):=by intro Y s U H Q I h;refine wpAny_IfExp (bJ (i Y s U H _ I h) fun d Z z=>?_);obtain⟨g,f,e⟩:=z;cases d with
|true=>exact k Y Z U g Q f e
|false=>exact j Y Z U g Q f e
end
def dq(K:W.Frag)(H:Hp)(a:Addr)(xs:List V):Prop:=Rd H a (.lst xs) \/∃(o:Obj)(its:Array a_)(n:Nat),K.lookup a=some o/\o.cls=.type "list"/\o.dict=none/\o.data=.seq its n/\its.size<=sizeLine/\aJ xs its.toList
def e8(K:W.Frag)(H:Hp)(a:Addr)(xs:List V):Prop:=Rd H a (.tup xs) \/∃(o:Obj)(its:Array a_)(n:Nat),K.lookup a=some o/\o.cls=.type "tuple"/\o.data=.seq its n/\its.size<=sizeLine/\aJ xs its.toList
noncomputable def FR:a_->Option V
|.none=>some .non
|.bool b=>some (.bl b)
|.int i _=>some (.int i)
|.str x _=>some (.str x)
|.bytes b _=>some (.byt b)
|.float b _=>some (.flt b)
|.ref a=>some (.ref a)
|.type n=>some (.ty n)
|_=>none
theorem aR.abs(r:aR x u):FR u=some x:=by cases x with
|non=>cases r;rfl
|bl _=>cases r;rfl
|int _=>obtain⟨t,rfl⟩:=r;rfl
|str _=>obtain⟨t,rfl⟩:=r;rfl
|byt _=>obtain⟨t,rfl⟩:=r;rfl
|flt _=>obtain⟨t,rfl⟩:=r;rfl
|ref _=>cases r;rfl
|ty _=>cases r;rfl
theorem aR.inj(r:aR x u)(q:aR y u):x=y:=T_ (r.abs.symm.trans q.abs)
theorem aJ.inj(h:aJ xs us)(h':aJ U us):xs=U:=by induction h generalizing U with
|nil=>cases h';rfl
|cons r t a=>cases h' with
 |cons Z Y=>rw[r.inj Z,a Y]
variable{σ:St}
section
variable{xs ys:List V}
theorem dq.of{K:W.Frag}(h:H a=some (.lst xs)):dq K H a xs:=.inl (.inl h)
theorem Inv.list(I:Inv X pz σ H s)(h:dq X.K H a xs):∃U:List a_,aJ xs U/\PlainL s.heap a U.toArray/\xs.length<=sizeLine:=by
 rcases h with h|⟨o,U,n,Z,c,b,Y,d,r⟩
 .obtain⟨z,U,n,r,e⟩:=h.ok I.hok;exact⟨U,r,⟨_,n,e,rfl,rfl,rfl⟩,z⟩
 .refine⟨U.toList,r,⟨o,n,I.kIn a o Z,c,b,by simpa using Y⟩,?_⟩;have e:=r.length
  simp_all
theorem Inv.tuple(I:Inv X pz σ H s)(h:e8 X.K H a xs):∃U:List a_,aJ xs U/\Ø s.heap a U.toArray/\xs.length<=sizeLine:=by
 rcases h with h|⟨o,U,n,Z,b,Y,c,r⟩
 .obtain⟨z,U,r,p,_⟩:=h.ok I.hok
  grind
 .refine⟨U.toList,r,⟨o,I.kIn a o Z,b,n,by simpa using Y⟩,?_⟩;have e:=r.length
  simp_all
theorem Inv.list_inj(I:Inv X pz σ H s)(h:dq X.K H a xs)(h':dq X.K H a ys):xs=ys:=by
 obtain⟨Y,r,⟨o,n,e,_,_,d⟩,_⟩:=I.list h;obtain⟨U,Z,⟨c,f,b,_,_,g⟩,_⟩:=I.list h';rw[e]at b;have:Y=U:=`a
 subst this;exact r.inj Z
theorem Inv.tuple_inj(I:Inv X pz σ H s)(h:e8 X.K H a xs)(h':e8 X.K H a ys):xs=ys:=by
 obtain⟨Y,r,⟨o,e,_,n,d⟩,_⟩:=I.tuple h;obtain⟨U,Z,⟨c,b,_,f,g⟩,_⟩:=I.tuple h';rw[e]at b;have:Y=U:=`a
 subst this;exact r.inj Z
end
noncomputable abbrev Cx.wish(X:Cx)(E:a_->d_->Prop):Cx:={ X with xe:=E }
abbrev Cx.nox(X:Cx):Cx:=X.wish fun _ _=>False
theorem Cx.Ok.wish(U:X.Ok)(E:a_->d_->Prop):(X.wish E).Ok:=⟨U.mod,U.kind,U.glob,U.blt,U.above,U.inj,U.has,U.cab,U.hd,U.frames,U.stk,U.exf,U.bs,U.bsz,U.noex,U.exfs,U.funs,U.frf⟩
theorem Cx.Ok.unwish(U:(X.wish E).Ok):X.Ok:=⟨U.mod,U.kind,U.glob,U.blt,U.above,U.inj,U.has,U.cab,U.hd,U.frames,U.stk,U.exf,U.bs,U.bsz,U.noex,U.exfs,U.funs,U.frf⟩
variable{E:a_->d_->Prop}
theorem Inv.wish(I:Inv X pz σ H s)(E:a_->d_->Prop):Inv (X.wish E) pz σ H s:=⟨I.ok.wish E,I.os,I.bare,I.base,I.loc,I.cell,I.free,I.freeC,I.pin,I.hok,I.len⟩
theorem Inv.unwish(I:Inv (X.wish E) pz σ H s):Inv X pz σ H s:=⟨I.ok.unwish,I.os,I.bare,I.base,I.loc,I.cell,I.free,I.freeC,I.pin,I.hok,I.len⟩
theorem SP.unwish(h:SP (X.wish E) pz D f Z):SP X pz D f Z:=by cases f with
|next=>obtain⟨U,Y,I,q⟩:=h;exact⟨U,Y,I.unwish,q⟩
|brk=>obtain⟨U,Y,I,q⟩:=h;exact⟨U,Y,I.unwish,q⟩
|cont=>obtain⟨U,Y,I,q⟩:=h;exact⟨U,Y,I.unwish,q⟩
|ret u=>obtain⟨v,U,Y,I,r,q⟩:=h;exact⟨v,U,Y,I.unwish,r,q⟩
theorem d7.nox{st:List Stmt}(h:d7 X.nox st t):d7 X st t:=fun Y s U H D I Z=>V_ (h Y s U H D (I.wish _) Z) (fun _ _ q=>q.unwish) fun _ _ z=>Q_ z
variable{e:Expr}{te:TE}
section
variable{st:Stmt}{rest:List Stmt}{t u:TS}
def YU:TS:=fun D σ H=>D.nx σ H
def vW(t u:TS):TS:=fun D σ H=>t { D with nx:=u D } σ H
theorem pT:d7 X [] YU:=fun _ _ U H _ I h=>į ⟨U,H,I,h⟩
theorem mI(c:PS X st t)(b:d7 X rest u):d7 X (st::rest) (vW t u):=by intro Y s Z H D I h;refine wpAny_execs_cons (bJ (c Y s Z H { D with nx:=u D } I h) fun f a q=>?_);cases f with
|next=>obtain⟨U,e,d,q⟩:=q;exact b Y a U e D d q
|ret v=>exact q
|brk=>exact q
|cont=>exact q
theorem Co(Z:PS X st t):d7 X [st] t:=by intro Y s U H D I h;refine wpAny_execs_cons (bJ (Z Y s U H D I h) fun f a q=>?_);cases f with
|next=>exact į q
|ret v=>exact q
|brk=>exact q
|cont=>exact q
theorem Inv.quiet(I:Inv X pz σ H s):interactive X.env=false:=by simp[interactive,I.ok.kind]
def Gv(te:TE):TS:=fun D σ H=>te σ H fun _ H1=>D.nx σ H1
theorem oX(b:PE X e te)(a:!æ e none pos.line X.env=pure false):PS X (.Expr e pos) (Gv te):=by intro Z s U H D I h;exact wpAny_Expr_any (bJ (b Z s U H _ I h) fun v f k=>by obtain⟨x,d,c,g,Y⟩:=k;exact ⟨U,d,c,Y⟩) I.quiet a
def EV(te:TE):TS:=fun D σ H=>te σ H D.rt
theorem yH(b:PE X e te):PS X (.Return (some e) pos) (EV te):=by intro a s U H D I h;exact wpAny_Return_some (bJ (b a s U H _ I h) fun v f k=>by obtain⟨x,d,c,Y,Z⟩:=k;exact ⟨x,U,d,c,Y,Z⟩)
def E1(c:TT)(t u:TS):TS:=fun D σ H=>c σ H fun b H1=>if b=true then t D σ H1 else u D σ H1
theorem sS{a b:List Stmt}(j:PT X c Z)(l:d7 X a t)(k:d7 X b u):PS X (.If c a b pos) (E1 Z t u):=by intro Y s U H D I h;refine wpAny_If (bJ (j Y s U H _ I h) fun d e z=>?_);obtain⟨i,g,f⟩:=z;cases d with
|true=>exact l Y e U i D g f
|false=>exact k Y e U i D g f
def PH:TS:=fun _ _ _=>False
theorem KI:d7 X U PH:=fun _ _ _ _ _ _ h=>h.elim
end
abbrev TG:=V->St->Hp->(St->Hp->Prop)->Prop
abbrev mM:=List V->St->Hp->(St->Hp->Prop)->Prop
def PG(X:Cx)(target:Expr)(t:TG):Prop:=∀(pz:List (Addr×Obj))(s:d_)(σ:St)(H:Hp)(v:V)(u:a_)(Q:St->Hp->Prop),Inv X pz σ H s->aR v u->t v σ H Q ->u_ (y_ X.prog X.w) X.A (Ü target X.env u) (fun _ s'=>∃σ' H',Inv X pz σ' H' s'/\Q σ' H') X.xe s
def mh(X:Cx)(ts:List Expr)(t:mM):Prop:=∀(pz:List (Addr×Obj))(s:d_)(σ:St)(H:Hp)(vs:List V)(us:List a_)(Q:St->Hp->Prop),Inv X pz σ H s->aJ vs us->t vs σ H Q ->u_ (y_ X.prog X.w) X.A (assignInOrder ((ó ts X.env).map (·.2)) us) (fun _ s'=>∃σ' H',Inv X pz σ' H' s'/\Q σ' H') X.xe s
abbrev ox:=V->V->V->Hp->(Hp->Prop)->Prop
def jD(X:Cx)(t:ox):Prop:=∀(pz:List (Addr×Obj))(s:d_)(σ:St)(H:Hp)(o i v:V)(ov iv u:a_)(Q:Hp->Prop),Inv X pz σ H s->aR o ov->aR i iv->aR v u->t o i v H Q ->u_ (y_ X.prog X.w) X.A (setItem ov iv u) (fun _ s'=>∃H',Inv X pz σ H' s'/\Q H') X.xe s
def NM(i:Nat):TG:=fun v σ H Q=>Q (σ.set i (some v)) H
theorem Ig(Z:X.N.Nodup)(hi:X.N[i]? = some x)(U:lw X.env.scope x)(Y:!!!Fx X x):PG X (.Name x pos) (NM i):=by intro d s b H v u Q I r h;exact Qei (zw I Z hi U r (fun c a=>⟨_,H,a,h⟩) Y)
def Fy:mM:=fun vs σ H Q=>vs=[]/\Q σ H
def X5(t:TG)(u:mM):mM:=fun vs σ H Q=>∃v r,vs=v::r/\t v σ H fun σ' H'=>u r σ' H' Q
theorem Rq:mh X [] Fy:=by intro a s U H Y Z Q I r h;obtain⟨e,h⟩:=h;subst e;exact assignInOrder_nil ⟨U,H,I,h⟩
theorem S2(i:PG X e t)(g:mh X U u)(f:!(ó (e::U) X.env).map (·.2)=Ü e X.env::(ó U X.env).map (·.2)):mh X (e::U) (X5 t u):=by intro Z s a H m o Q I r h;obtain⟨v,n,j,h⟩:=h;subst j;cases r with
|cons r c=>rw[f];refine assignInOrder_cons (bJ (i Z s a H _ _ _ I r h) fun _ b z=>?_);obtain⟨Y,l,k,d⟩:=z;exact g Z b Y l _ _ Q k c d
noncomputable def Fv(K:W.Frag)(n:Nat)(t:mM):TG:=fun v σ H Q=>∃a xs,v=.ref a/\e8 K H a xs/\xs.length=n/\t xs σ H Q
theorem Oq{k:Nat}(w:X.calm=true)(h:mh X Y t)(p:!(ó Y X.env).length=n)(U:!(ó Y X.env).findIdx? (·.1)=none):PG X (.Tuple Y k pos) (Fv X.K n t):=by intro g s d H v u Q I r Z;obtain⟨a,f,x,m,q,Z⟩:=Z;subst x;cases r;obtain⟨i,c,l,z⟩:=I.tuple m;refine assign_Tuple_tuple (I.ok.hd w) l (by simp[p,<-q,c.length]) U fun A j=>?_;have y:=I.kept (t':=s.toks) fun b o e=>j b o (H_ (n_ e)) e;exact h g _ d H f _ Q y (by simpa using c) Z
noncomputable def Fw(to ti:TE)(t:ox):TG:=fun v σ H Q=>to σ H fun o H1=>ti σ H1 fun i H2=>t o i v H2 fun H3=>Q σ H3
theorem Op{o i:Expr}{Z a:TE}(l:PE X o Z)(hi:PE X i a)(k:jD X t)(m:!!!!∀v,Ü (.Subscript o i pos) X.env v=(do
   let ov <-å [v] (eval o X.env);let iv <-å [v,ov] (eval i X.env)
   ð pos
   å [v,ov,iv] (setItem ov iv v)
   release [v,ov,iv] [])):PG X (.Subscript o i pos) (Fw Z a t):=by intro Y s U H v u Q I r h;rw[m];refine b_ (ø (bJ (l Y s U H _ I h) fun ov c a=>?_));obtain⟨x,A,q,e,j⟩:=a;refine b_ (ø (bJ (hi Y c U A _ q j) fun iv b i=>?_));obtain⟨y,z,p,d,g⟩:=i;refine b_ (ĳ (b_ (ø (bJ (k Y b U z x y v ov iv u _ p e d r g) fun _ B o=>?_))));obtain⟨w,n,f⟩:=o;exact wpAny_release ⟨U,w,n,f⟩
def vY(te:TE)(g:TG):TS:=fun D σ H=>te σ H fun x H1=>g x σ H1 D.nx
theorem Hu(k:PE X e Z)(j:PG X U g)(i:!QdY [U] e pos.line X.env=pure false)(f:!QdZ [U] e X.env=pure none)(l:!(ó [U] X.env).map (·.2)=[Ü U X.env]):PS X (.Assign [U] e pos) (vY Z g):=by intro a s Y H D I h;refine wpAny_Assign_stores (bJ (k a s Y H _ I h) fun v b z=>?_) i f;obtain⟨x,n,m,c,d⟩:=z;rw[l];exact bJ (j a b Y n x v _ m c d) fun _ o q=>q
theorem yI(k:X.N.Nodup)(hi:X.N[i]? = some x)(d:lw X.env.scope x)(j:PE X e Y)(f:!æ e (some (.Name x U)) pos.line X.env=pure false)(g:!!!Fx X x):PS X (.Assign [.Name x U] e pos) (vY Y (NM i)):=by intro c s Z H D I h;refine wpAny_Assign_Name (bJ (j c s Z H _ I h) fun v p z=>?_) f;obtain⟨y,n,m,a,b⟩:=z;exact zw m k hi d a (fun o l=>⟨_,n,l,b⟩) g
noncomputable def PK(c:TT)(tb:TS):TS:=fun D σ H=>∃W:Nat->St->Hp->Prop,(∃m,W m σ H)/\∀m σ H,W m σ H ->c σ H fun b H1=>if b=true then ∃N:St->Hp->Prop,(∀σ' H',N σ' H'->∃m',m'<m/\W m' σ' H')/\tb { D with nx:=N,ct:=N,bk:=D.nx } σ H1 else D.nx σ H1
theorem R8(t:ą (y_ X.prog X.w) X.A X.env X.xe)(M:PT X c q)(O:d7 X Z r):PS X (.While c Z [] pos) (PK q r):=by
 intro k s C H D I h;obtain⟨W,⟨L,F⟩,d⟩:=h;refine wpAny_While (codeAny_whileLoop (fun n K=>∃a B,Inv X k a B K/\W n a B) ?_ L ⟨C,H,I,F⟩)
 rintro n J ⟨Y,z,P,E⟩
 refine Ě t (bJ (M k J Y z _ P (d n Y z E)) fun b G w=>?_);obtain⟨y,x,i⟩:=w;cases b with
|true=>obtain⟨N,u,i⟩:=i;rw[Q_d rfl];refine Ě t (bJ (O k G Y y _ x i) fun f Q g=>?_);cases f with
 |next=>obtain⟨U,e,p,l⟩:=g;obtain⟨m,o,j⟩:=u U e l;exact⟨m,o,U,e,p,j⟩
 |cont=>obtain⟨U,e,p,l⟩:=g;obtain⟨m,o,j⟩:=u U e l;exact⟨m,o,U,e,p,j⟩
 |brk=>exact g
 |ret v=>exact g
|false=>rw[Q_e t_];exact į ⟨Y,y,x,i⟩
structure It where
 go:Nat->Hp->Prop
 yld:Nat->Hp->V->Hp->Prop
 stop:Nat->Hp->Prop
def gp(X:Cx)(pz:List (Addr×Obj))(H:Hp)(b:Addr):Prop:=H b=none/\b≠X.env.locals/\b∉X.fs/\(b∈X.ex\/X.s₀.heap.objs.size<=b)/\(∀x c,X.env.cells.lookup x=some c->c≠b)/\∀p∈X.pn++pz,p.1≠b
theorem Inv.fpOk{b:Addr}(I:Inv X pz σ H s)(U:s.heap.objs.size<=b)(a:Y b=none):gp X pz Y b:=by
 refine⟨a,ÿ (A_ I.lt U),I.nofs U,.inr (U_ I.sz U),fun x c e z=>?_,fun p Z z=>?_⟩
 .obtain⟨v,q⟩:=I.cell x c e;exact Q_f (A_ q.lt (by rw[z];exact U)) (þ _)
 .exact Q_f (A_ (n_ (I.pin p Z).1) (by rw[z];exact U)) (þ _)
structure Turn(P:o_)(w:F_)(K:W.Frag)(tg:Expr)(J:It)(fp:List Addr)(it:Addr)(tn:Nat->Heap->Prop):Prop where
 mem:it∈fp
 obj:∀i h,tn i h->∀b∈fp,∃o,h.get? b=some o/\∀v,o.data≠.cell v
 keep:∀i h h',tn i h->(∀b∈fp,∀o,h.get? b=some o->h'.get? b=some o)->tn i h'
 item:∀(X:Cx),X.prog=P->X.w=w->X.K=K->X.calm=true->∀(i:Nat)(pz:List (Addr×Obj))(s:d_)(σ:St)(H:Hp)(E:a_->d_->Prop),Inv X pz σ H s->(∀b∈fp,gp X pz H b)->tn i s.heap->J.go i H ->u_ (y_ P w) X.A (pyNext (.ref it)) (fun r s1=>∃u,r=some u /\u_ (y_ P w) X.A (Qds tg (.ref it) u) (fun _ s2=>∃x H',Inv X pz σ H' s2/\aR x u/\J.yld i H x H'/\tn (i+1) s2.heap/\∀b∈fp,H' b=none) E s1) E s
 done:∀(X:Cx),X.prog=P->X.w=w->X.K=K->X.calm=true->∀(i:Nat)(pz:List (Addr×Obj))(s:d_)(σ:St)(H:Hp)(E:a_->d_->Prop),Inv X pz σ H s->(∀b∈fp,gp X pz H b)->tn i s.heap->J.stop i H ->u_ (y_ P w) X.A (pyNext (.ref it)) (fun r s1=>r=none/\Inv X pz σ H s1) E s
 self:∀(A:I_)(i:Nat)(s:d_)(Q:a_->d_->Prop)(E:a_->d_->Prop),tn i s.heap->Q (.ref it) s->u_ (y_ P w) A (ķ (.ref it)) Q E s
abbrev TI:=St->Hp->(It->Hp->Prop)->Prop
def Oe(X:Cx)(pz:List (Addr×Obj))(σ:St)(tg:Expr)(R:It->Hp->Prop)(itv:a_)(s2:d_):Prop:=∃(it:Addr)(fp:List Addr)(tn:Nat->Heap->Prop)(J:It)(H':Hp),itv=.ref it/\Inv X pz σ H' s2/\Turn X.prog X.w X.K tg J fp it tn/\tn 0 s2.heap/\(∀b∈fp,gp X pz H' b)/\R J H'
def PI(X:Cx)(tg iter:Expr)(wi:TI):Prop:=∀(pz:List (Addr×Obj))(s:d_)(σ:St)(H:Hp)(R:It->Hp->Prop),Inv X pz σ H s->wi σ H R ->u_ (y_ X.prog X.w) X.A (eval iter X.env) (fun v s1=>u_ (y_ X.prog X.w) X.A (ķ v) (Oe X pz σ tg R) X.xe s1) X.xe s
theorem xH{o:Obj}{vs:Array a_}{Q:Unit->d_->Prop}(Z:s.heap.get? it=some o)(b:o.cls=.type n)(a:o.data=.fields vs)(c : ["enumerate","zip","dict_itemiterator","dict_reverseitemiterator","odict_iterator","itertools.zip_longest","itertools.pairwise"].contains n=false)(U:Q () s):u_ M A (Qds Y (.ref it) u) Q E s:=by
  cases Y <;> first
    |exact f_ U
    |(cases u <;> first
        |exact f_ U
        | (refine b_ (QeZ Z ?_)
           rw[b,a];show u_ M A (if (["enumerate","zip","dict_itemiterator","dict_reverseitemiterator","odict_iterator","itertools.zip_longest","itertools.pairwise"].contains n&&vs[0]? == some _)=true then _ else _) Q E s;rw[Q_e `g];exact f_ U))
noncomputable def AT(K:W.Frag)(a:Addr):It:=⟨fun i H=>∃xs x,dq K H a xs/\xs[i]? = some x,fun i H x H'=>H'=H/\∀xs,dq K H a xs->xs[i]? = some x,fun i H=>∃xs,dq K H a xs/\xs.length<=i⟩
noncomputable def F0(K:W.Frag)(a:Addr):It:=⟨fun i H=>∃xs x,e8 K H a xs/\xs[i]? = some x,fun i H x H'=>H'=H/\∀xs,e8 K H a xs->xs[i]? = some x,fun i H=>∃xs,e8 K H a xs/\xs.length<=i⟩
noncomputable def wZ(lo:Int)(n:Nat):It:=⟨fun i _=>i<n,fun i H x H'=>H'=H/\x=.int (lo+i),fun i _=>n<=i⟩
theorem UX{K:W.Frag}(a it:Addr):Turn P w K J (AT K a) [it] it (fun i h=>h.IsListIter it a i) where
 mem:=`s
 obj:=fun i h U b Y=>by
  have e:=by simpa using Y
  obtain⟨o,e,c,d⟩:=U
  simp_all
 keep:=fun i h C U k=>U.at fun o e=>k it `s o e
 item:=by intro X r n t B i N s F H E I g U q;subst r n t;obtain⟨G,x,f,m⟩:=q;obtain⟨l,j,p,O⟩:=I.list f;obtain⟨u,R,M⟩:=j.get m;obtain⟨A,f1,f2,z,y,v⟩:=g it `s;refine wpAny_pyNext_list_item U p.isList (by simpa using R) fun C Z L=>?_;have I1:=I.turned (t':=s.toks) (fun b o Y e=>(L.2 b Y).trans e) A f1 z y v;obtain⟨o,e,c,d⟩:=id Z;exact⟨u,rfl,xH e c d (rfl) ⟨x,H,I1,M,⟨rfl,fun ys Q=>by rw[I.list_inj Q f];exact m⟩,Z,fun b Y=>(g b Y).1⟩⟩
 done:=by intro X r n t B i N s F H E I g U q;subst r n t;obtain⟨G,f,m⟩:=q;obtain⟨l,j,p,O⟩:=I.list f;obtain⟨A,f1,f2,z,y,v⟩:=g it `s;have hl:=j.length;exact wpAny_pyNext_list_end (I.ok.hd B) U p.isList `z fun C T=>⟨rfl,I.turned (fun b o Y e=>T b o Y e) A f1 z y v⟩
 self:=fun _ _ _ _ _ U h=>wpAny_pyIter_listiter U h
theorem U3{K:W.Frag}(a it:Addr):Turn P w K J (F0 K a) [it] it (fun i h=>h.IsTupleIter it a i) where
 mem:=`s
 obj:=fun i h U b Y=>by
  have e:=by simpa using Y
  obtain⟨o,e,c,d⟩:=U;simp_all
 keep:=fun i h C U k=>U.at fun o e=>k it `s o e
 item:=by intro X r n t B i N s F H E I g U q;subst r n t;obtain⟨G,x,f,m⟩:=q;obtain⟨l,j,p,O⟩:=I.tuple f;obtain⟨u,R,M⟩:=j.get m;obtain⟨A,f1,f2,z,y,v⟩:=g it `s;refine wpAny_pyNext_tuple_item U (p) (by simpa using R) fun C Z L=>?_;have I1:=I.turned (t':=s.toks) (fun b o Y e=>(L.2 b Y).trans e) A f1 z y v;obtain⟨o,e,c,d⟩:=id Z;exact⟨u,rfl,xH e c d (rfl) ⟨x,H,I1,M,⟨rfl,fun ys Q=>by rw[I.tuple_inj Q f];exact m⟩,Z,fun b Y=>(g b Y).1⟩⟩
 done:=by intro X r n t B i N s F H E I g U q;subst r n t;obtain⟨G,f,m⟩:=q;obtain⟨l,j,p,O⟩:=I.tuple f;obtain⟨A,f1,f2,z,y,v⟩:=g it `s;have hl:=j.length;exact wpAny_pyNext_tuple_end (I.ok.hd B) U (p) `z fun C T=>⟨rfl,I.turned (fun b o Y e=>T b o Y e) A f1 z y v⟩
 self:=fun _ _ _ _ _ U h=>wpAny_pyIter_tupleiter U h
theorem U2{K:W.Frag}(it:Addr)(lo:Int)(n:Nat):Turn P w K z (wZ lo n) [it] it (fun i h=>IsRangeIter h it (lo+(i:Nat)*1) ((n:Int)-(i:Nat)) 1) where
 mem:=`s
 obj:=fun i h U b a=>by simp_all
 keep:=fun i h f U k=>k it `s _ U
 item:=by intro X u r x d i q s p H E I Z U c;subst u r x;obtain⟨m,f1,f2,l,j,g⟩:=Z it `s;have W:=Walks.range (prog:=X.prog) (w:=X.w) (I.ok.hd d) it lo 1 n;refine W.item i s _ _ c U fun v f y A Y F=>?_;obtain⟨t,rfl⟩:=A;have C:Inv X q p H { s with heap:=f,toks:=y }:=I.turned `a m f1 l j g;refine⟨_,rfl,xH Y rfl rfl (rfl) ⟨.int _,H,C,⟨t,?_⟩,⟨rfl,rfl⟩,Y,fun b a=>(Z b a).1⟩⟩;rw[Int.mul_one]
 done:=by intro X u r x d i q s p H E I Z U c;obtain⟨m,f1,f2,l,j,g⟩:=Z it `s;exact wpAny_pyNext_range_end (I.ok.hd d) U (by have:n<=i:=c;omega) fun f B=>⟨rfl,I.turned (fun b o a e=>B b o a e) m f1 l j g⟩
 self:=fun _ _ _ _ _ U h=>wpAny_pyIter_rangeiter U h
section
variable{tg:Expr}
theorem Jz{lo hi:Int}(I:Inv X pz σ H s)(f : -(2^62)<=lo)(d:lo<2^62)(c : -(2^62)<=hi)(a:hi<2^62)(q:R (wZ lo (hi-lo).toNat) H):u_ (y_ X.prog X.w) X.A (ķ (.ref s.heap.objs.size)) (Oe X pz σ tg R) E { s with heap:=s.heap.push { cls:=.type "range",data:=.fields #[.int lo t,.int hi u,.int 1 v] },toks:=Y }:=by
 refine wpAny_pyIter_range (IsRange.new ..) (small_one f d c a) ?_;have U:Inv X pz σ H { s with heap:=s.heap.push { cls:=.type "range",data:=.fields #[.int lo t,.int hi u,.int 1 v] },toks:=Y }:=I.kept fun b o e=>c_ _ e;refine⟨_,_,_,_,H,rfl,U.kept fun b o e=>c_ _ e,U2 _ lo (hi-lo).toNat,?_,fun b Z=>?_,q⟩
 .have e1:lo+((0:Nat))*1=lo:=`s
  have g:(((hi-lo).toNat))-((0:Nat))=Qc8 lo hi 1:=by rw[rangeSize_one];split <;> omega
  rw[e1,g];exact l_ _ rfl
 .have e:b=(s.heap.push { cls:=.type "range",data:=.fields #[.int lo t,.int hi u,.int 1 v] }).objs.size:=by simpa using Z
  subst e;exact U.fpOk (k_ _) (U.hok.fresh (k_ _))
def X7(ta:TA):TI:=fun σ H R=>ta σ H fun vs H1=>∃j:Int,vs=[.int j]/\-(2^62)<=j/\j<2^62/\R (wZ 0 j.toNat) H1
def X8(ta:TA):TI:=fun σ H R=>ta σ H fun vs H1=>∃i j:Int,vs=[.int i,.int j]/\(-(2^62)<=i/\i<2^62/\-(2^62)<=j/\j<2^62)/\R (wZ i (j-i).toNat) H1
theorem Uj{a:Expr}(l:Gl X "range")(k:X.mg "range" = none)(m:PA X [a] Z)(i:!B_ [a] X.env=[(false,eval a X.env)]):PI X tg (.Call (.Name "range" p) [a] [] U) (X7 Z):=by intro g s b H R I h;refine Call_ (pH I l k Qe0 (Š (bJ (m U g s b H _ I h) fun u v z=>?_) i rfl));obtain⟨o,w,n,d,Y⟩:=z;obtain⟨j,e,Y,f,q⟩:=Y;subst e;cases d with
|cons r c=>cases c;obtain⟨t,rfl⟩:=r;exact call_range_1 (Jz n `d `d Y f (by simpa using q))
theorem Uk{a b:Expr}{p Y:Pos}(w:Gl X "range")(v:X.mg "range" = none)(x:PA X [a,b] d)(u:!B_ [a,b] X.env=[(false,eval a X.env),(false,eval b X.env)])(U:!B_ [b] X.env=[(false,eval b X.env)]):PI X tg (.Call (.Name "range" p) [a,b] [] Y) (X8 d):=by intro o s f H R I h;refine Call_ (pH I w v Qe0 (Š (bJ (x Y o s f H _ I h) fun A C a=>?_) (by rw[u,U]) (by rw[U];rfl)));obtain⟨z,E,y,g,c⟩:=a;obtain⟨i,j,e,⟨c,n,m,l⟩,q⟩:=c;subst e;cases g with
|cons r Z=>cases Z with
 |cons k Z=>cases Z;obtain⟨t,rfl⟩:=r;obtain⟨B,rfl⟩:=k;exact call_range_2 (Jz y c n m l q)
noncomputable def vX(wi:TI)(g:TG)(tb:TS):TS:=fun D σ H=>wi σ H fun J H1=>∃W:Nat->Nat->St->Hp->Prop,(∃m,W 0 m σ H1)/\∀i m σ H,W i m σ H ->(J.stop i H/\D.nx σ H)\/(J.go i H/\∃N:St->Hp->Prop,(∀σ' H',N σ' H'->∃m',m'<m/\W (i+1) m' σ' H')/\∀x H',J.yld i H x H'->g x σ H' fun σ2 H2=>tb { D with nx:=N,ct:=N,bk:=D.nx } σ2 H2)
noncomputable def BQ(fp:List Addr)(h:Heap):List (Addr×Obj):=fp.filterMap fun b=>(h.get? b).map fun o=>(b,o)
theorem rV{b:Addr}{o:Obj}(Y:b∈U)(e:h.get? b=some o):(b,o)∈BQ U h:=Đ.mpr ⟨b,Y,by rw[e];rfl⟩
theorem TM(Y:p∈BQ U h):p.1∈U/\h.get? p.1=some p.2:=by obtain⟨b,Z,e⟩:=Đ.mp Y;cases q:h.get? b with
|none=>rw[q]at e;cases e
|some o=>grind
theorem Inv.pinned(I:Inv X pz σ H s)(f:∀b∈U,gp X pz H b)(c:∀b∈U,∃o,s.heap.get? b=some o/\∀v,o.data≠.cell v):Inv X (pz++BQ U s.heap) σ H s:=I.pins_of fun p a=>(Ý.mp a).elim (fun z=>I.pin p (R_ _ z)) fun z=>by obtain⟨Y,e⟩:=TM z;obtain⟨g,f1,f2,_⟩:=f p.1 Y;obtain⟨o,Z,d⟩:=c p.1 Y;rw[e]at Z;cases Z;exact⟨e,g,f1,f2,d⟩
theorem Inv.unpinned(I:Inv X (pz++U) σ H s):Inv X pz σ H s:=I.pins_of fun p Y=>I.pin p `a
theorem tH{tb:TS}(K:ą (y_ X.prog X.w) X.A X.env X.xe)(hc:X.calm=true)(hi:PI X tg j wi)(hg:PG X tg g)(k:d7 X y tb)(hs:!!!!Ix X j):PS X (.For tg j y [] R) (vX wi g tb):=by
 intro B s σ H D I h;refine wpAny_For (bJ (hi B s σ H _ I h) fun v s1 h1=>bJ h1 fun itv s2 h2=>?_) hs;obtain⟨it,M,tn,J,H2,e,I2,T,dl,f2,W,⟨m0,w0⟩,C⟩:=h2;subst e;have Y:∀{q:Hp},(∀b∈M,q b=none)->∀b∈M,gp X B q b:=fun hn b k=>⟨hn b k,(f2 b k).2⟩
 refine QdT (fun n s'=>∃i c q,Inv X B c q s'/\tn i s'.heap/\(∀b∈M,q b=none)/\W i n c q) ?_ m0 ⟨0,σ,H2,I2,dl,fun b k=>(f2 b k).1,w0⟩
 rintro n s3 ⟨i,a,O,I3,G,L,w3⟩
 rcases C i n a O w3 with⟨E,qn⟩|⟨go,N,hN,F⟩
 .refine Ě K (bJ (T.done X rfl rfl rfl hc i B s3 a O X.xe I3 (Y L) G E) fun r s4 y=>?_);obtain⟨hr,I4⟩:=y;subst hr;exact į ⟨a,O,I4,qn⟩
 .refine Ě K (bJ (T.item X rfl rfl rfl hc i B s3 a O X.xe I3 (Y L) G go) fun r s4 w=>?_);obtain⟨u,hr,h4⟩:=w;subst hr;refine Ě K (bJ h4 fun _ s5 j=>?_);obtain⟨x,H5,I5,r5,y5,z,fr5⟩:=j;have Z:=I5.pinned (Y fr5) (T.obj _ _ z);refine Ě K (bJ (hg _ s5 a H5 x u _ Z r5 (F x H5 y5)) fun _ s6 g=>?_);obtain⟨P,H6,I6,q6⟩:=g;refine Ě K (bJ (k _ s6 P H6 _ I6 q6) fun f Q t=>?_);have l:∀{U:St}{p:Hp},Inv X _ U p Q->N U p->∃m,m<n/\∃i c q,Inv X B c q Q/\tn i Q.heap/\(∀b∈M,q b=none)/\W i m c q:=fun{U p} I7 n7=>by obtain⟨m',hm,w7⟩:=hN U p n7;refine⟨m',hm,i+1,U,p,I7.unpinned,T.keep _ _ _ z fun b k o e=>(I7.pin _ (R_ _ (R_ _ (rV k e)))).1,fun b k=>?_,w7⟩;obtain⟨o,e,d⟩:=T.obj _ _ z b k;exact(I7.pin _ (R_ _ (R_ _ (rV k e)))).2.1
  cases f with
 |next=>obtain⟨U,p,I7,n7⟩:=t;exact l I7 n7
 |cont=>obtain⟨U,p,I7,n7⟩:=t;exact l I7 n7
 |brk=>obtain⟨U,p,I7,t⟩:=t;exact⟨U,p,I7.unpinned,t⟩
 |ret v=>obtain⟨x7,U,p,I7,r7,t⟩:=t;exact⟨x7,U,p,I7.unpinned,r7,t⟩
end
abbrev R2:=V->V->Hp->VK->Prop
def eu(X:Cx)(f:a_->a_->Sem a_)(r:R2):Prop:=∀(pz:List (Addr×Obj))(s:d_)(σ:St)(H:Hp)(x y:V)(v u:a_)(Q:VK),Inv X pz σ H s->aR x v->aR y u->r x y H Q ->u_ (y_ X.prog X.w) X.A (f v u) (EP X pz σ Q) X.xe s
def Od(X:Cx)(f:a_->Sem a_)(r:V->Hp->VK->Prop):Prop:=∀(pz:List (Addr×Obj))(s:d_)(σ:St)(H:Hp)(x:V)(v:a_)(Q:VK),Inv X pz σ H s->aR x v->r x H Q ->u_ (y_ X.prog X.w) X.A (f v) (EP X pz σ Q) X.xe s
def gT(X:Cx)(f:a_)(r:List V->Hp->VK->Prop):Prop:=∀(pz:List (Addr×Obj))(s:d_)(σ:St)(H:Hp)(xs:List V)(us:List a_)(Q:VK),Inv X pz σ H s->aJ xs us->r xs H Q ->u_ (y_ X.prog X.w) X.A (call f us) (EP X pz σ Q) X.xe s
def FU(X:Cx)(r:V->Hp->(Bool->Hp->Prop)->Prop):Prop:=∀(pz:List (Addr×Obj))(s:d_)(σ:St)(H:Hp)(x:V)(v:a_)(Q:Bool->Hp->Prop),Inv X pz σ H s->aR x v->r x H Q ->u_ (y_ X.prog X.w) X.A (ĸ v) (TP X pz σ Q) X.xe s
def AH(r:R2)(ta tb:TE):TE:=fun σ H Q=>ta σ H fun x H1=>tb σ H1 fun y H2=>r x y H2 Q
def Y0(r:V->Hp->VK->Prop)(ta:TE):TE:=fun σ H Q=>ta σ H fun x H1=>r x H1 Q
noncomputable def rI(C:Int->Int->Prop)(g:Int->Int->V):R2:=fun x y H Q=>∃i j,x=.int i/\y=.int j/\C i j/\Q (g i j) H
def qj(g:Int->Int->V):R2:=fun x y H Q=>∃i j,x=.int i/\y=.int j/\Q (g i j) H
def rU(g:Int->V):V->Hp->VK->Prop:=fun x H Q=>∃i,x=.int i/\Q (g i) H
variable{c:Expr}{tc:TE}
section
variable{a:Expr}
theorem qK(n:PE X a ta)(m:PE X b tb){R:V->V->Hp->Prop}(I:Inv X pz σ H s)(h:ta σ H fun x d=>tb σ d fun y U=>R x y U){f:a_->a_->Sem a_}(l:∀v u c x y U,Inv X pz σ U c->aR x v->aR y u->R x y U->u_ (y_ X.prog X.w) X.A (f v u) Q X.xe c):u_ (y_ X.prog X.w) X.A (eval a X.env) (fun v Z=>u_ (y_ X.prog X.w) X.A (eval b X.env) (fun u Y=>u_ (y_ X.prog X.w) X.A (f v u) Q X.xe Y) X.xe Z) X.xe s:=by refine bJ (n pz s σ H _ I h) fun v e z=>?_;obtain⟨x,d,p,i,k⟩:=z;refine bJ (m pz e σ d _ p k) fun u c w=>?_;obtain⟨y,U,o,g,j⟩:=w;exact l v u c x y U o i g j
theorem F7(e:eu X (ĝ op) r)(g:PE X a ta)(f:PE X b tb):PE X (.BinOp a op b pos) (AH r ta tb):=by intro d s U H Q I h;exact wpAny_BinOp (qK g f I h fun v u Y x y j i c Z q=>e d Y U j x y v u Q i c Z q)
theorem Xu(d:Od X (unaryOp op) r)(e:PE X a ta):PE X (.UnaryOp op a pos) (Y0 r ta):=by intro Y s U H Q I h;exact UnaryOp_ (bJ (e Y s U H _ I h) fun v Z k=>by obtain⟨x,g,f,b,c⟩:=k;exact d Y Z U g x v Q f b c)
theorem se{g:Int->Int->Int}(U:∀(i j:Int)(t u:Tok)(s:d_)(Q:a_->d_->Prop)(E:a_->d_->Prop),C i j->Q (.int (g i j) s.toks) { s with toks:=s.toks+1 }->u_ (y_ X.prog X.w) X.A (f (.int i t) (.int j u)) Q E s):eu X f (rI C fun i j=>.int (g i j)):=by intro d s c H x y v u Q I a Z h;obtain⟨i,j,rfl,rfl,b,q⟩:=h;obtain⟨t,rfl⟩:=a;obtain⟨Y,rfl⟩:=Z;exact U i j t Y s _ _ b ⟨.int _,H,I.tok _,⟨_,rfl⟩,q⟩
theorem wM{g:Int->Int->Int}(U:∀(i j:Int)(t u:Tok)(s:d_)(Q:a_->d_->Prop)(E:a_->d_->Prop),Q (.int (g i j) s.toks) { s with toks:=s.toks+1 }->u_ (y_ X.prog X.w) X.A (f (.int i t) (.int j u)) Q E s):eu X f (qj fun i j=>.int (g i j)):=by intro c s b H x y v u Q I a Z h;obtain⟨i,j,rfl,rfl,q⟩:=h;obtain⟨t,rfl⟩:=a;obtain⟨Y,rfl⟩:=Z;exact U i j t Y s _ _ ⟨.int _,H,I.tok _,⟨_,rfl⟩,q⟩
theorem qt{g:Int->Int->Bool}(U:∀(i j:Int)(t u:Tok)(s:d_)(Q:a_->d_->Prop)(E:a_->d_->Prop),Q (.bool (g i j)) s->u_ (y_ X.prog X.w) X.A (f (.int i t) (.int j u)) Q E s):eu X f (qj fun i j=>.bl (g i j)):=by intro c s b H x y v u Q I a Z h;obtain⟨i,j,rfl,rfl,q⟩:=h;obtain⟨t,rfl⟩:=a;obtain⟨Y,rfl⟩:=Z;exact U i j t Y s _ _ ⟨.bl _,H,I,rfl,q⟩
def oz(i j:Int):Prop:=0<j/\j<1073741824
def qR(i j:Int):Prop:=0<=j/\j<=1000000/\i.natAbs<2^64
def kY(i j:Int):Prop:=(-(2^64)<i/\i<2^64)\/(-(2^64)<j/\j<2^64)
theorem kY.ok(h:kY i j):IntMulOk i j:=by
 rcases h with⟨Y,U⟩|⟨Y,U⟩
 .exact .of_left (intBits_le_64 Y U)
 .exact .of_right (intBits_le_64 Y U)
theorem YY{g:Int->Int}(U:∀(i:Int)(t:Tok)(s:d_)(Q:a_->d_->Prop)(E:a_->d_->Prop),Q (.int (g i) s.toks) { s with toks:=s.toks+1 }->u_ (y_ X.prog X.w) X.A (f (.int i t)) Q E s):Od X f (rU fun i=>.int (g i)):=by intro a s Z H x v Q I Y h;obtain⟨i,rfl,q⟩:=h;obtain⟨t,rfl⟩:=Y;exact U i t s _ _ ⟨.int _,H,I.tok _,⟨_,rfl⟩,q⟩
end
noncomputable def nR:V->V->Bool
|.non,.non=>true|.non,.int _=>true|.int _,.non=>true|.non,.bl _=>true|.bl _,.non=>true|.non,.str _=>true|.str _,.non=>true
|.int _,.int _=>true|.bl _,.bl _=>true|.str _,.str _=>true|.byt _,.byt _=>true
|.int _,.str _=>true|.str _,.int _=>true|.bl _,.str _=>true|.str _,.bl _=>true
|_,_=>false
def N9:R2:=fun x y H Q=>nR x y=true/\Q (.bl (decide (x=y))) H
def N7:R2:=fun x y H Q=>nR x y=true/\Q (.bl (not (decide (x=y)))) H
theorem BY:decide (V.int i=V.int j)=(i==j):=by rw[À];simp
theorem Bo:decide (V.bl i=V.bl j)=(i==j):=by rw[À];simp
theorem BZ:decide (V.str i=V.str j)=(i==j):=by rw[À];simp
theorem Hz:decide (V.byt i=V.byt j)=(i.toList==j.toList):=by rw[À];cases i;cases j;simp
section
variable{a:Expr}
theorem fu(I:Inv X pz σ H s)(q:Q (.bl k) H)(e:k=U):EP X pz σ Q (.bool U) s:=by subst e;exact⟨.bl k,H,I,rfl,q⟩
theorem Gi:eu X (ç .Eq) N9:=by intro c s b H x y v u Q I a U h;obtain⟨Z,q⟩:=h;cases x with
|non=>cases a;cases y with
 |non=>cases U;exact PySem.EqNone.eq_none_none (fu I q (rfl))
 |bl j=>cases U;exact PySem.EqNone.eq_none_bool (fu I q (rfl))
 |int j=>obtain⟨Y,rfl⟩:=U;exact PySem.EqNone.eq_none_int (fu I q (rfl))
 |str j=>obtain⟨Y,rfl⟩:=U;exact PySem.EqNone.eq_none_str (fu I q (rfl))
 |_=>exact Q_f (show false=true from Z) t_
|bl i=>cases a;cases y with
 |non=>cases U;exact PySem.EqNone.eq_bool_none (fu I q (rfl))
 |bl j=>cases U;exact eq_bool (fu I q Bo)
 |str j=>obtain⟨Y,rfl⟩:=U;exact PySem.EqMixed.eq_bool_str (fu I q `r)
 |_=>exact Q_f (show false=true from Z) t_
|int i=>obtain⟨t,rfl⟩:=a;cases y with
 |non=>cases U;exact PySem.EqNone.eq_int_none (fu I q `r)
 |int j=>obtain⟨Y,rfl⟩:=U;exact eq_int (fu I q BY)
 |str j=>obtain⟨Y,rfl⟩:=U;exact PySem.EqMixed.eq_int_str (fu I q (rfl))
 |_=>exact Q_f (show false=true from Z) t_
|str i=>obtain⟨t,rfl⟩:=a;cases y with
 |non=>cases U;exact PySem.EqNone.eq_str_none (fu I q (rfl))
 |bl j=>cases U;exact PySem.EqMixed.eq_str_bool (fu I q (rfl))
 |int j=>obtain⟨Y,rfl⟩:=U;exact PySem.EqMixed.eq_str_int (fu I q (rfl))
 |str j=>obtain⟨Y,rfl⟩:=U;exact eq_str (fu I q BZ)
 |_=>exact Q_f (show false=true from Z) t_
|byt i=>obtain⟨t,rfl⟩:=a;cases y with
 |byt j=>obtain⟨Y,rfl⟩:=U;exact W.eq_bytes (fu I q Hz)
 |_=>exact Q_f (show false=true from Z) t_
|_=>cases y <;> exact Q_f (show false=true from Z) t_
theorem Xr:eu X (ç .NotEq) N7:=by intro c s b H x y v u Q I a U h;obtain⟨Z,q⟩:=h;cases x with
|non=>cases a;cases y with
 |non=>cases U;exact PySem.EqNone.ne_none_none (fu I q (rfl))
 |bl j=>cases U;exact PySem.EqNone.ne_none_bool (fu I q (rfl))
 |int j=>obtain⟨Y,rfl⟩:=U;exact PySem.EqNone.ne_none_int (fu I q (rfl))
 |str j=>obtain⟨Y,rfl⟩:=U;exact PySem.EqNone.ne_none_str (fu I q (rfl))
 |_=>exact Q_f (show false=true from Z) t_
|bl i=>cases a;cases y with
 |non=>cases U;exact PySem.EqNone.ne_bool_none (fu I q (rfl))
 |bl j=>cases U;exact ne_bool (fu I q (Q_g not Bo))
 |str j=>obtain⟨Y,rfl⟩:=U;exact PySem.EqMixed.ne_bool_str (fu I q (rfl))
 |_=>exact Q_f (show false=true from Z) t_
|int i=>obtain⟨t,rfl⟩:=a;cases y with
 |non=>cases U;exact PySem.EqNone.ne_int_none (fu I q (rfl))
 |int j=>obtain⟨Y,rfl⟩:=U;exact ne_int (fu I q (Q_g not BY))
 |str j=>obtain⟨Y,rfl⟩:=U;exact PySem.EqMixed.ne_int_str (fu I q (rfl))
 |_=>exact Q_f (show false=true from Z) t_
|str i=>obtain⟨t,rfl⟩:=a;cases y with
 |non=>cases U;exact PySem.EqNone.ne_str_none (fu I q (rfl))
 |bl j=>cases U;exact PySem.EqMixed.ne_str_bool (fu I q (rfl))
 |int j=>obtain⟨Y,rfl⟩:=U;exact PySem.EqMixed.ne_str_int (fu I q (rfl))
 |str j=>obtain⟨Y,rfl⟩:=U;exact ne_str (fu I q (Q_g not BZ))
 |_=>exact Q_f (show false=true from Z) t_
|byt i=>obtain⟨t,rfl⟩:=a;cases y with
 |byt j=>obtain⟨Y,rfl⟩:=U;exact W.ne_bytes (fu I q (Q_g not Hz))
 |_=>exact Q_f (show false=true from Z) t_
|_=>cases y <;> exact Q_f (show false=true from Z) t_
theorem AX:eu X (ç .Lt) (qj fun i j=>.bl (decide (i<j))):=qt fun _ _ _ _ _ _ _ q=>lt_int q
theorem Xq:eu X (ç .LtE) (qj fun i j=>.bl (decide (i<=j))):=qt fun _ _ _ _ _ _ _ q=>le_int q
theorem eu.or(h:eu X f r)(h':eu X f r'):eu X f (fun x y H Q=>r x y H Q\/r' x y H Q):=by
 intro a s U H x y v u Q I Z Y q;rcases q with q|q
 .exact h a s U H x y v u Q I Z Y q
 .exact h' a s U H x y v u Q I Z Y q
theorem oP(b:Expr)(h:!!op≠.In)(Z:!!op≠.NotIn):Ù op b=false:=by
 have Y:(op==CmpOp.In)=false:=`a
 have U:(op==CmpOp.NotIn)=false:=`a
 cases b <;> simp[Ù,Y,U]
def Yy(t:TE):TT:=fun σ H Q=>t σ H fun x H'=>∃k,x=.bl k/\Q k H'
theorem IK(n:eu X (ç op) r)(q:PE X a ta)(p:PE X b tb)(o:Ù op b=false):PT X (.Compare a [op] [b] pos) (Yy (AH r ta tb)):=by intro Y s U H Q I h;refine wpAny_isTrue_Compare1 (bJ (q Y s U H _ I h) fun v d ⟨x,E,A,i,m⟩=>bJ (p Y d U E _ A m) fun u Z ⟨y,C,w,g,l⟩=>bJ (n Y Z U C x y v u _ w i g l) fun c F a=>?_) o;obtain⟨z,B,t,f,k,e,j⟩:=a;subst e;cases f;exact ň ⟨B,t,j⟩
noncomputable def PD(r r':R2)(ta tb tc:TE):TE:=fun σ H Q=>ta σ H fun x H1=>tb σ H1 fun y H2=>r x y H2 fun z H3=>∃k,z=.bl k /\(if k=true then tc σ H3 fun w' H4=>r' y w' H4 Q else Q (.bl false) H3)
theorem SV(G:eu X (ç op) r)(f:eu X (ç U) r')(M:PE X a ta)(L:PE X b tb)(K:PE X c tc)(J:lastMarks [op,U] [b,c]=false:=by with_unfolding_all rfl):PE X (.Compare a [op,U] [b,c] pos) (PD r r' ta tb tc):=by intro Z s Y H Q I h;refine Compare_chain (bJ (M Z s Y H _ I h) fun v t ⟨x,W,P,B,F⟩=>chain_link (bJ (L Z t Y W _ P F) fun u q ⟨y,T,O,g,E⟩=>bJ (G Z q Y T x y v u _ O B g E) fun d p a=>?_)) J;obtain⟨z,l,j,A,k,e,i⟩:=a;subst e;cases A;refine ň ?_;cases k with
|false=>exact ite_ff ⟨.bl false,l,j,rfl,i⟩
|true=>exact ite_tt (chain_last (bJ (K Z p Y l _ j i) fun n o b=>by obtain⟨m,R,N,w,C⟩:=b;exact f Z o Y R y m u n Q N g w C))
def qM(K:W.Frag)(x:V)(H:Hp)(k:Bool):Prop:=match x with
|.non=>k=false
|.bl b=>k=b
|.int i=>k=(i != 0)
|.str y=>y.length<=sizeLine/\k=((y.length:Int) != 0)
|.byt y=>y.size<=sizeLine/\k=((y.size:Int) != 0)
|.ref p=>(∃xs,dq K H p xs/\k = not xs.isEmpty)\/(∃xs,e8 K H p xs/\k = not xs.isEmpty)\/∃kvs,Rd H p (.dK kvs)/\k = not kvs.isEmpty
|_=>False
theorem Up{vs:List (Y×a_)}(r:KV U vs):(not vs.isEmpty) = not U.isEmpty:=by cases r <;> rfl
theorem Lh(r:aJ xs U):(not U.toArray.isEmpty) = not xs.isEmpty:=by cases r <;> simp
theorem tz:(sizeLine:Nat)<2^63:=`d
theorem Hf:FU X (fun x H Q=>∃k,qM X.K x H k/\Q k H):=by intro z s u H x v Q I a h;obtain⟨k,e,q⟩:=h;have B:=tz;have A:sizeLine=16777216:=G_;cases x with
|non=>cases a;have U:k=false:=e;subst U;exact truthy_none ⟨H,I,q⟩
|bl b=>cases a;have U:k=b:=e;subst U;exact ň ⟨H,I,q⟩
|int i=>obtain⟨t,rfl⟩:=a;have U:k=(i != 0):=e;subst U;exact PySem.P.truthy_int ⟨H,I,q⟩
|str y=>obtain⟨t,rfl⟩:=a;obtain⟨n,U⟩:y.length<=sizeLine/\k=((y.length:Int) != 0):=e;subst U;exact PySem.P.truthy_str `o ⟨H,I.tok _,q⟩
|byt y=>obtain⟨t,rfl⟩:=a;obtain⟨n,U⟩:y.size<=sizeLine/\k=((y.size:Int) != 0):=e;subst U;exact W.truthy_bytes `o ⟨H,I.tok _,q⟩
|ref p=>
  cases a;have U:=e;rcases U with⟨l,c,U⟩|⟨l,c,U⟩|⟨Z,c,U⟩
  .subst U;obtain⟨g,r,f,j⟩:=I.list c;have Y:=r.length;exact wpAny_truthy_list f.isList (by simp only[E_];omega) ⟨H,I.tok _,by rw[Lh r];exact q⟩
  .subst U;obtain⟨g,r,f,j⟩:=I.tuple c;have Y:=r.length;exact truthy_tuple f (by simp only[E_];omega) ⟨H,I.tok _,by rw[Lh r];exact q⟩
  .subst U;obtain⟨j,o,d,r,m⟩:Z.length<=sizeLine/\(p==Û)=false/\∃d,KV Z d/\s.heap.DictOf (lp X.prog X.w) p d:=c.ok I.hok;have Y:Z.length=d.length:=Paired.length r;exact wpAny_truthy_dict o m `o ⟨H,I.tok _,by rw[Up r];exact q⟩
|_=>exact(show False from e).elim
theorem zm(f:PE X a ta)(e:∀U,isTrue a X.env U=(do let v <-U;ð a.pos;å [v] (ĸ v))):PT X a (fun σ H Q=>ta σ H fun x Z=>∃k,qM X.K x Z k/\Q k Z):=by intro Y s σ H Q I h;exact isTrue_plain (bJ (f Y s σ H _ I h) fun v b k=>by obtain⟨x,i,g,c,d⟩:=k;exact Hf Y b σ i x v Q g c d) (e _)
theorem ik(r:aJ [x] us):∃u,us=[u]/\aR x u:=by cases r with
|cons Y U=>cases U;exact⟨_,rfl,Y⟩
theorem yC(r:aJ [x,y] us):∃u w',us=[u,w']/\aR x u/\aR y w':=by cases r with
|cons a Z=>cases Z with
 |cons Y U=>cases U;exact⟨_,_,rfl,a,Y⟩
theorem RA:gT X (.builtin "abs") (fun xs H Q=>∃i,xs=[.int i]/\Q (.int (if i<0 then-i else i)) H):=by intro a s U H xs Y Q I r h;obtain⟨i,rfl,q⟩:=h;obtain⟨u,rfl,t,rfl⟩:=ik r;exact call_abs_int fun u Z=>⟨.int _,H,I.tok _,⟨_,rfl⟩,q⟩
theorem Wb:gT X (.type "str") (fun xs H Q=>∃i,xs=[.int i]/\i.natAbs.log2<1920/\Q (.str (toString i)) H):=by intro a s Y H xs Z Q I r h;obtain⟨i,rfl,U,q⟩:=h;obtain⟨u,rfl,t,rfl⟩:=ik r;exact PySem.P.str_of_int U ⟨.str _,H,I.tok _,⟨_,rfl⟩,q⟩
def wY(K:W.Frag)(x:V)(H:Hp)(n:Nat):Prop:=match x with
|.str y=>y.length<=sizeLine/\n=y.length
|.byt y=>y.size<=sizeLine/\n=y.size
|.ref p=>(∃xs,dq K H p xs/\n=xs.length)\/∃xs,e8 K H p xs/\n=xs.length
|_=>False
theorem RF:gT X (.builtin "len") (fun xs H Q=>∃x n,xs=[x]/\wY X.K x H n/\Q (.int n) H):=by intro k s i H xs j Q I r h;obtain⟨x,n,rfl,e,q⟩:=h;obtain⟨u,rfl,Z⟩:=ik r;have l:=G_;cases x with
|str y=>obtain⟨t,rfl⟩:=Z;obtain⟨g,Y⟩:y.length<=sizeLine/\n=y.length:=e;subst Y;exact len_str `o ⟨.int _,H,I.tok _,⟨_,rfl⟩,q⟩
|byt y=>obtain⟨t,rfl⟩:=Z;obtain⟨g,Y⟩:y.size<=sizeLine/\n=y.size:=e;subst Y;exact W.len_bytes `o ⟨.int _,H,I.tok _,⟨_,rfl⟩,q⟩
|ref p=>
  cases Z;have Y:=e;rcases Y with⟨xs,d,Y⟩|⟨xs,d,Y⟩
  .subst Y;obtain⟨c,a,b,f⟩:=I.list d;have U:=a.length;exact Calls.call_len_list b.isList `g ⟨.int xs.length,H,I.tok _,⟨_,by simp only[E_];rw[U]⟩,q⟩
  .subst Y;obtain⟨c,a,b,f⟩:=I.tuple d;have U:=a.length;exact len_tuple b `g ⟨.int xs.length,H,I.tok _,⟨_,by simp only[E_];rw[U]⟩,q⟩
|_=>exact(e).elim
end
structure ObjM(h:Heap)(x dx C:Addr)(mA:Str->Option a_):Prop where
 obj:h.get? x=some (W.instObj C dx)
 ns:h.Ns1 dx mA
 ne:dx≠x
theorem T3{b:Addr}(n:h.Ns1 b Z):∃Y,h.get? b=some Y/\∀name,W.lookIn name Y=some (Z name):=by
 obtain⟨o,j,k,d,i,g,_,f⟩:=n;refine⟨o,d,fun name=>?_⟩;have e:=f name;unfold nsFind findBy at e;rw[<-Array.find?_toList]at e;unfold W.lookIn;rw[i]
 dsimp only
 split
 .simp_all
 .have a:j.toList.any (·.refKey)=false:=by rw[List.any_eq_false];intro y c;obtain⟨z,t,U⟩:=g y (Array.mem_toList_iff.mp c);simp[DictEntry.refKey,U]
  simp_all
theorem ObjM.look(I:ObjM h x Z C Y):∃U,W.InstAt h x (W.instObj C Z) C (some U)/\∀name,W.lookIn name U=some (Y name):=let⟨U,a,b⟩:=T3 I.ns
 ⟨U,⟨I.obj,rfl,rfl,a⟩,b⟩
variable{A:I_}{dx C f:Addr}
section
variable{prog:o_}{K:W.Frag}{x:Addr}{mA:Str->Option a_}{name:Str}{v:a_}
theorem Ri{c:List Str}(X:K.In s.heap)(I:ObjM s.heap x dx C mA)(g:W.findIn K (.ref C) "__setattr__" = some (some (.builtin "object.__setattr__")))(i:W.plainOver K C=true)(f:W.takerIn K C name=some none)(j:W.hasDictIn K C=true)(e:PySem.Within mA c)(hsz:c.length<=sizeLine)(h:∀h',ObjM h' x dx C (fun y=>if y=name then some v else mA y)->ĺ dx s.heap h'->Q () { s with heap:=h',toks:=s.toks+2 }):u_ (y_ prog w) A (setAttr (.ref x) name v) Q E s:=by obtain⟨m,J,n⟩:=I.look;refine W.set_plain X J g (W.osa_open X J i f fun b=>?_);obtain⟨o,k,a⟩:=W.any_some j;have d:=I.obj;refine b_ (f_ (b_ (b_ (ı d (b_ (W.Looks.here (W.looks_clsIn X k) ?_))))));rw[a];refine f_ (b_ (f_ (b_ ?_)));refine wpAny_nsSet1 I.ns fun h' Y U=>?_;obtain⟨oD,p,r,Z,l,q⟩:=Y.count (PySem.Within.cons name v e);refine b_ (wpAny_lookBehind Z (by rw[l];exact pastItsLine_dict `g) ?_);exact f_ (h _ ⟨(U.2 _ (ê I.ne)).trans I.obj,Y,I.ne⟩ U)
end
noncomputable def putF(f:Str)(v:V):List (Str×V)->List (Str×V)
|[]=>[(f,v)]
|(g,x)::r=>if g=f then(g,v)::r else(g,x)::putF f v r
theorem Lr(f g:Str)(v:V):∀fs:List (Str×V),(putF f v fs).lookup g=if g=f then some v else fs.lookup g
|[]=>by
  show Õ g [(f,v)]=_
  grind
|(k,x)::r=>by
  have U:=Lr f g v r;rw[show putF f v _=(if k=f then(k,v)::r else(k,x)::putF f v r)from rfl]
  grind
theorem C3(f:Str)(v:V):∀fs:List (Str×V),f∈(putF f v fs).map (·.1)/\∀g,g∈fs.map (·.1)->g∈(putF f v fs).map (·.1)
|[]=>⟨by simp[putF],fun g h=>by simp at h⟩
|(k,x)::r=>by
  obtain⟨Y,U⟩:=C3 f v r;rw[show putF f v _=(if k=f then(k,v)::r else(k,x)::putF f v r)from rfl]
  grind
theorem Lq(f:Str)(v:V):∀fs:List (Str×V),(putF f v fs).length<=fs.length+1
|[]=>by simp[putF]
|(k,x)::r=>by
  have U:=Lq f v r;rw[show putF f v _=(if k=f then(k,v)::r else(k,x)::putF f v r)from rfl]
  grind
theorem fP.some_of{o:Option a_}(r:fP (some v) o):∃u,o=some u/\aR v u:=by cases o with
|none=>exact(r).elim
|some u=>exact⟨u,rfl,r⟩
theorem fP.none_of{o:Option a_}(r:fP none o):o=none:=by cases o with
|none=>rfl
|some u=>exact(r).elim
section
variable{fs fs':List (Str×V)}
theorem B6(Y:HOk P w H h)(e:H a=some (.ins C dx fs)):∃U,ObjM h a dx C U/\(∀f,fP (fs.lookup f) (U f))/\PySem.Within U (fs.map (·.1))/\fs.length<=1000/\H dx=some (.own a):=by
 obtain⟨d,z,b,Z,U,n,r,q⟩:=(Y a _ e)
 exact⟨U,⟨Z,n,b⟩,r,q,z,d⟩
end
structure Cls(K:W.Frag)(C:Addr):Prop where
 pg:W.plainGet K C ā=true
 hd:W.hasDictIn K C=true
 po:W.plainOver K C=true
 sa:W.findIn K (.ref C) "__setattr__" = some (some (.builtin "object.__setattr__"))
theorem Cls.get{K:W.Frag}(c:Cls K C)(f:Str):W.plainGet K C f=true:=c.pg
def jo(K:W.Frag)(C:Addr)(f:Str):Prop:=W.findIn K (.ref C) f=some none
structure Meth(K:W.Frag)(C:Addr)(m:Str)(f:Addr):Prop where
 at_:W.findIn K (.ref C) m=some (some (.ref f))
 fn:W.isFn K (.ref f)=true
 kp:W.keepIn K (.ref f)=true
section
variable{fs:List (Str×V)}{f:Str}{v:V}
theorem Ul{b:Bool}(I:Inv X pz σ H s)(e:H a=some (.ins C dx fs))(c:Cls X.K C)(n:jo X.K C f)(l:fs.lookup f=some v)(h:∀u U,Inv X pz σ H U->aR v u->Q u U):u_ (y_ X.prog X.w) A (getAttr (.ref a) f b) Q E s:=by
 obtain⟨j,O,r,_,_,_⟩:=B6 I.hok e;obtain⟨u,Z,Y⟩:=fP.some_of (by rw[<-l];exact r f);obtain⟨g,J,d⟩:=O.look;exact W.get_value I.kIn J (W.plainGet_of (c.get f)).1 (W.findObj_own c.hd n rfl (by rw[d,Z])) ((fun r=>by cases v with
   |non=>cases(r);rfl
   |bl b=>cases(r);rfl
   |int i=>obtain⟨t,e⟩:=(r);cases e;rfl
   |str x=>obtain⟨t,e⟩:=(r);cases e;rfl
   |byt b=>obtain⟨t,e⟩:=(r);cases e;rfl
   |flt b=>obtain⟨t,e⟩:=(r);cases e;rfl
   |ref a=>cases(r);rfl
   |ty n=>cases(r);rfl) Y) (h u _ (I.tok _) Y)
theorem Dj(I:Inv X pz σ H s)(e:H a=some (.ins C dx fs))(c:Cls X.K C)(k:Meth X.K C m g)(l:fs.lookup m=none)(h:Q (.ref g,[.ref a]) s):u_ (y_ X.prog X.w) A (Î (.ref a) m U) Q E s:=by obtain⟨d,O,r,_,_,_⟩:=B6 I.hok e;have Z:=fP.none_of (by rw[<-l];exact r m);obtain⟨Y,J,b⟩:=O.look;exact W.method_fn I.kIn J (W.plainGet_of (c.get m)).1 (W.plainGet_of (c.get m)).2 k.at_ (beq_iff_eq.mp k.fn) (by show(W.lookIn _ Y).map (·.isSome)=some false;rw[b,Z];rfl) h
theorem UY(I:Inv X pz σ H s)(e:H a=some (.ins C dx fs))(c:Cls X.K C)(n:jo X.K C f)(B:fs.length<1000)(j:aR y u)(h:∀Z,Inv X pz σ (aO H a (.ins C dx (putF f y fs))) Z->Q () Z):u_ (y_ X.prog X.w) A (setAttr (.ref a) f u) Q E s:=by
 obtain⟨x,O,r,Y,_,d⟩:=B6 I.hok e;have k:(fs.map (·.1)).length<=sizeLine:=by rw[p_,G_];omega
 refine Ri I.kIn O c.sa c.po (by unfold W.takerIn;rw[n];rfl) c.hd Y k fun t U i=>h _ ?_;have m:∃o,t.get? dx=some o:=let⟨o,_,_,v,_⟩:=U.ns;⟨o,v⟩;refine I.write (by rw[e];exact True.intro) (.inr d) (fun b q p z=>(i.2 b p).trans z) m ?_;refine⟨by rw[bL O.ne];exact d,?_,O.ne,U.obj,_,U.ns,fun g=>?_,fun g l=>?_⟩
 .have:=Lq f y fs;omega
 .rw[Lr];by_cases q:g=f
  .rw[Q_d q,Q_d q];exact j
  simp_all
 .by_cases q:g=f
  .rw[q];exact(C3 f y fs).1
  .refine(C3 f y fs).2 g (Y g fun z=>l ?_);simp_all
theorem Inv.made(I:Inv X pz σ H s):Inv X pz σ (aO (aO H s.heap.objs.size (.own (s.heap.objs.size+1))) (s.heap.objs.size+1) (.ins C s.heap.objs.size []))
  { s with heap:=(s.heap.push W.emptyDict).push (W.instObj C s.heap.objs.size) }:=by
 have Y:(s.heap.push W.emptyDict).get? s.heap.objs.size=some W.emptyDict:=l_ s.heap rfl;have d:=by have:=l_ (s.heap.push W.emptyDict) (o:=W.instObj C s.heap.objs.size) rfl;rwa[Ê]at this
 have c:(s.heap.push W.emptyDict).Ns s.heap.objs.size _:=⟨W.emptyDict,#[],_,Y,rfl,(fun e a=>Q_f a `s),fun _=>rfl⟩
 have f:=I.laid (o:=.own (s.heap.objs.size+1)) (t':=s.toks) (fun b u q=>c_ _ q) (k_ _) ⟨_,Y⟩;refine f.laid (fun b u q=>c_ _ q) (ł (Ê _ _)) ?_;have U:s.heap.objs.size≠s.heap.objs.size+1:=H_ (ħ _);refine⟨by rw[bL U,cX],é _,U,d,fun _=>none,(Qej c).at fun o q=>c_ _ q,fun _=>True.intro,fun y Z=>Q_f rfl Z⟩
theorem HK(Z:X_ e f env (eval e env)=eval e env)(h:u_ (y_ prog w) A (eval e env) (fun o U=>u_ (y_ prog w) A (getAttr o f true) Q E U) E s):u_ (y_ prog w) A (eval (.Attribute e f Y) env) Q E s:=Attribute_any_ h (by rw[arm_eval_Attribute,Z])
end
def E2(K:W.Frag)(ta:TE)(f:Str):TE:=fun σ H Q=>ta σ H fun x H1=>∃a C dx fs v,x=.ref a/\H1 a=some (.ins C dx fs)/\Cls K C/\jo K C f/\fs.lookup f=some v/\Q v H1
def Fb(K:W.Frag)(ta tv:TE)(f:Str):TS:=fun D σ H=>tv σ H fun y H1=>ta σ H1 fun x H2=>∃a C dx fs,x=.ref a/\H2 a=some (.ins C dx fs)/\Cls K C/\jo K C f/\fs.length<1000 /\D.nx σ (aO H2 a (.ins C dx (putF f y fs)))
section
variable{o value:Expr}{f:Str}{pos' tpos:Pos}{tv:TE}
theorem pJ(d:PE X e ta)(g:X_ e f X.env (eval e X.env)=eval e X.env):PE X (.Attribute e f pos) (E2 X.K ta f):=by intro b s U H Q I h;refine HK g (bJ (d b s U H _ I h) fun u t z=>?_);obtain⟨x,o,m,Y,a,C,y,w,v,i,j,c,n,l,q⟩:=z;subst i;obtain rfl:u=Value.ref a:=Y;exact Ul m j c n l fun p r k Z=>⟨v,o,k,Z,q⟩
theorem tF(k:PE X o ta)(i:PE X value tv)(j:æ value (some (.Attribute o f pos')) pos.line X.env=pure false):PS X (.Assign [.Attribute o f pos'] value pos) (Fb X.K ta tv f):=by intro Y s U H D I h;refine Qcl (bJ (i Y s U H _ I h) fun u Z ⟨y,w,v,b,q⟩=>bJ (k Y Z U w _ v q) fun g A f=>?_) j;obtain⟨x,F,t,d,a,C,E,B,m,p,c,n,l,e⟩:=f;subst m;obtain rfl:g=Value.ref a:=d;exact UY t p c n l b fun z r=>⟨U,_,r,e⟩
theorem Ls{o:Sem Bool}{d:TE}(r:PE X e d)(I:Inv X pz σ H s)(h:d σ H fun x b=>∃a C i fs g,x=.ref a/\b a=some (.ins C i fs)/\Cls X.K C/\Meth X.K C m g/\fs.lookup m=none /\∀Z,Inv X pz σ b Z->u_ (y_ X.prog X.w) X.A (Æ pos (.ref g) [.ref a] (backTo pos (B_ U X.env)) (ô pos (ò [] X.env))) Q X.xe Z)(p:eval (.Call (.Attribute e m Y) U [] pos) X.env=(do
   let ov <-eval e X.env
   ð Y.atName
   let(f,first) <-å [ov] (Î ov m o)
   Æ pos f first (backTo pos (B_ U X.env)) (ô pos (ò [] X.env)))):u_ (y_ X.prog X.w) X.A (eval (.Call (.Attribute e m Y) U [] pos) X.env) Q X.xe s:=by refine W.methodCall_KW (bJ (r pz s σ H _ I h) fun u Z z=>?_) p;obtain⟨x,b,j,n,a,C,i,fs,g,t,v,c,k,l,q⟩:=z;subst t;obtain rfl:u=Value.ref a:=n;exact Dj j v c k l (q Z j)
end
structure Room(k:Nat)(A:I_):Prop where
 hd:A.handled=none
 dp:A.depth+3*k+5<Ũ
 un:A.units+16*k+200<á
 gd:A.guards=some []
theorem Room.mono(r:Room k A)(h:j<=k):Room j A:=⟨r.hd,by have:=r.dp;omega,by have:=r.un;omega,r.gd⟩
theorem Room.deeper(r:Room (k+1) A)(env:Env):Room k (A.deeper env):=⟨r.hd,by have:=r.dp;show A.depth+1+3*k+5<_;omega,by have:=r.un;show A.units+3+16*k+200<_;omega,r.gd⟩
theorem Ur:(A.under (.builtin "type.__call__" ⟨.ref C::us,U⟩)).depth=A.depth+1:=by first|rfl|grind
theorem Us:(A.under (.builtin "type.__call__" ⟨.ref C::us,U⟩)).units=A.units+1:=by first|rfl|grind
theorem Room.make(r:Room (k+1) A)(C:Addr)(us:List a_)(U:List (Str×a_)):Room k (A.under (.builtin "type.__call__" ⟨.ref C::us,U⟩)):=⟨r.hd,by have:=r.dp;rw[Ur];omega,by have:=r.un;rw[Us];omega,(by have:=r.gd;first|exact this|(simp[Around.under,Code.isGuard,guardIds];exact this))⟩
theorem Room.depth(r:Room k A):A.depth<Ũ:=by have:=r.dp;omega
theorem Room.units(r:Room k A):A.units+64<á:=by have:=r.un;omega
def nO:TA:=fun _ H Q=>Q [] H
def A9(ta:TE)(tr:TA):TA:=fun σ H Q=>ta σ H fun x H1=>tr σ H1 fun xs H2=>Q (x::xs) H2
variable{t:TA}{es:List Expr}
theorem jT:PA X [] nO:=fun _ _ _ _ H Q I h=>Calls.spliced_nil ⟨[],H,I,.nil,h⟩
theorem gR(k:PE X e te)(j:PA X es t)(i:!Sx X e es):PA X (e::es) (A9 te t):=by intro U Z s Y H Q I h;rw[i];refine Calls.spliced_cons (bJ (k Z s Y H _ I h) fun u b z=>?_);obtain⟨x,o,m,d,g⟩:=z;exact bJ (j U Z b Y o _ m g) fun p q y=>by obtain⟨a,n,l,c,f⟩:=y;exact ⟨x::a,n,l,.cons d c,f⟩
def EU(t:TA):TE:=fun σ H Q=>t σ H fun xs H1=>xs.length<=sizeLine/\∀p,H1 p=none->Q (.ref p) (aO H1 p (.tup xs))
def EX(t:TA):TE:=fun σ H Q=>t σ H fun xs H1=>xs.length<=sizeLine/\∀p,H1 p=none->Q (.ref p) (aO H1 p (.lst xs))
theorem On{x1}(h:PA X es t):PE X (.Tuple es x1 pos) (EU t):=by intro c s Y H Q I d;refine wpAny_Tuple_spliced (bJ (h pos c s Y H _ I d) fun Z a ⟨g,i,U,r,z,q⟩=>⟨by rw[<-r.length];exact z,?_⟩);have f:=U.hok.fresh (k_ _);refine⟨.ref a.heap.objs.size,_,U.laid (fun b u e=>c_ _ e) (k_ _) ?_,rfl,q _ f⟩;exact⟨z,Z,r,⟨_,l_ _ rfl,rfl,_,rfl⟩,_,l_ _ rfl,rfl⟩
theorem Ol(h:PA X es t):PE X (.List es pos) (EX t):=by intro c s Y H Q I d;refine wpAny_List_spliced (bJ (h pos c s Y H _ I d) fun Z a ⟨g,i,U,r,z,q⟩=>⟨by rw[<-r.length];exact z,?_⟩);have f:=U.hok.fresh (k_ _);refine⟨.ref a.heap.objs.size,_,U.laid (fun b u e=>c_ _ e) (k_ _) ?_,rfl,q _ f⟩;exact⟨z,Z,0,r,l_ _ rfl⟩
abbrev Sp:=List V->Hp->VK->XK->Prop
abbrev je:=List Env->Hp->d_->XK->a_->d_->Prop
structure Env0(P:o_)(w:F_)(K:W.Frag)(mg:Str->Option a_)(base:Heap)(A:I_)(outer:List Env)(s:d_)(H:Hp):Prop where
 frames:A.frames=some outer
 mod:Mod K mg base
 bs:∀b o,base.get? b=some o->s.heap.get? b=some o/\H b=none
 bsz:base.objs.size<=s.heap.objs.size
 funs:s.heap.FunFrames base outer
 frf:∀b∈dU outer,H b=none
 hok:HOk P w H s.heap
 bare:Á s.gens
def CE(outer:List Env)(P:o_)(w:F_)(H:Hp)(s:d_)(Q:VK)(u:a_)(s':d_):Prop:=∃v H',s'.os=s.os/\Á s'.gens/\Un (dU outer) [] H H' s.heap s'.heap/\HOk P w H' s'.heap/\aR v u/\Q v H'
def CR(CX:je)(outer:List Env)(P:o_)(w:F_)(H:Hp)(s:d_)(Q:VK)(E:XK)(r:Ĺ)(s':d_):Prop:=match r with
|.ok (.ret u)=>CE outer P w H s Q u s'
|.ok _=>False
|.error e=>CX outer H s E e s'
structure FnOk(P:o_)(w:F_)(K:W.Frag)(mg:Str->Option a_)(base:Heap)(CX:je)(k:Nat)(f:Addr)(fd:à)(ps:List Str)(sp:Sp):Prop where
 len:∀vs H Q E,sp vs H Q E->vs.length=ps.length
 run:∀(A:I_)(outer:List Env)(s:d_)(H:Hp)(args:Args)(us:List a_)(vs:List V)(Q:VK)(E:XK),Room k A->Env0 P w K mg base A outer s H->ğ s fd args (ps.zip us)->aJ vs us->sp vs H Q E ->Ï (y_ P w) A (.call (.ref f) args) (CR CX outer P w H s Q E) s
theorem FnOk.mono{K:W.Frag}{b:Str->Option a_}{c:à}{a:List Str}{Z:Sp}(F:FnOk P w K b base d j f c a Z)(h:j<=k):FnOk P w K b base d k f c a Z:=⟨F.len,fun A U s H Y g e Q E i=>F.run A U s H Y g e Q E (i.mono h)⟩
theorem FnOk.imp{K:W.Frag}{c:Str->Option a_}{e:je}{b:List Str}{a U:Sp}(F:FnOk P w K c base e k f d b a)(h:∀vs H Q E,U vs H Q E->a vs H Q E):FnOk P w K c base e k f d b U:=⟨fun vs H Q E q=>F.len vs H Q E (h _ _ _ _ q),fun A Y s H Z g vs Q E l m n i j=>F.run A Y s H Z g vs Q E l m n i (h _ _ _ _ j)⟩
theorem Env0.make{K:W.Frag}(e:Env0 P w K Y base A U s H)(C:Addr)(us:List a_)(Z:List (Str×a_)):Env0 P w K Y base (A.under (.builtin "type.__call__" ⟨.ref C::us,Z⟩)) U s H:=⟨by first|exact e.frames|grind,e.mod,e.bs,e.bsz,e.funs,e.frf,e.hok,e.bare⟩
section
variable{s':d_}
theorem Inv.env0(I:Inv X pz σ H s):Env0 X.prog X.w X.K X.mg X.base X.A X.stack s H:=⟨I.ok.frames,I.ok.mod,I.bs,U_ I.ok.bsz I.sz,I.stack,I.stkFree,I.hok,I.bare⟩
theorem Inv.after(I:Inv X pz σ H s)(h:CE X.stack X.prog X.w H s Q u s'):EP X pz σ Q u s':=by obtain⟨v,c,b,U,a,Z,r,q⟩:=h;obtain⟨e,g,d,t,Y⟩:=s';obtain rfl:Y=s.os:=b;exact⟨v,c,I.call a Z U `a,r,q⟩
end
def Gu(sp:Sp)(dvs:List V)(E:XK)(t:TA):TE:=fun σ H Q=>t σ H fun vs H1=>sp (vs++dvs) H1 Q E
def Gx(C:Addr)(m:Str)(sp:Sp)(dvs:List V)(E:XK)(ta:TE)(t:TA):TE:=fun σ H Q=>ta σ H fun x H1=>∃a dx fs,x=.ref a/\H1 a=some (.ins C dx fs)/\fs.lookup m=none /\t σ H1 fun vs H2=>sp (x::(vs++dvs)) H2 Q E
def Gw(C:Addr)(sp:Sp)(dvs:List V)(E:XK)(t:TA):TE:=fun σ H Q=>t σ H fun vs H1=>∀x dx,H1 x=none->H1 dx=none->dx≠x ->sp (.ref x::(vs++dvs)) (aO (aO H1 dx (.own x)) x (.ins C dx [])) (fun v H2=>v=.non/\Q (.ref x) H2) E
def gO(K:W.Frag)(fd:à)(ps:List Str)(ds:List a_):Prop:=∀(s:d_)(us:List a_),K.In s.heap->(us++ds).length=ps.length->ğ s fd ⟨us,[]⟩ (ps.zip (us++ds))
theorem gO.all{K:W.Frag}(h:∀us:List a_,us.length=U.length->è Z ⟨us,[]⟩=pure (U.zip us)):gO K Z U []:=fun s us _ Y=>by rw[Ô]at Y ⊢;exact .of_eq (h us Y)
def mz(CX:je)(X:Cx)(E:XK):Prop:=∀(pz:List (Addr×Obj))(σ:St)(H:Hp)(s:d_)(e:a_)(s':d_),Inv X pz σ H s->CX X.stack H s E e s'->X.xe e s'
variable{p:Pos}
section
variable{CX:je}{k:Nat}{fd:à}{ps:List Str}{sp:Sp}{dvs:List V}{ds:List a_}{E:XK}{x m:Str}{apos:Pos}{o:Expr}
theorem BO(F:FnOk X.prog X.w X.K X.mg X.base CX k f fd ps sp)(b:Room k X.A)(g:gO X.K fd ps ds)(d:aJ dvs ds)(a:mz CX X E)(I:Inv X pz σ H s)(r:aJ vs us)(h:sp (vs++dvs) H Q E):u_ (y_ X.prog X.w) X.A (call (.ref f) us) (EP X pz σ Q) X.xe s:=by
 have Y:=r.append d;have c:(us++ds).length=ps.length:=by rw[<-Y.length];exact F.len _ _ _ _ h
 refine Ä (Ú (F.run X.A X.stack s H _ _ _ Q E b I.env0 (g s us I.kIn c) Y h) fun r Z U=>?_);cases r with
|error e=>exact a pz σ H s e Z I U
|ok i=>cases i with
 |ret u=>exact I.after U
 |next=>exact Q_ U
 |brk=>exact Q_ U
 |cont=>exact Q_ U
theorem Ca(F:FnOk X.prog X.w X.K X.mg X.base CX k f fd ps sp)(d:Room k X.A)(j:Gl X x)(g:X.mg x=some (.ref f))(i:W.keepIn X.K (.ref f)=true)(n:gO X.K fd ps ds)(m:aJ dvs ds)(c:mz CX X E)(o:PA X (e::es) t)(U:!!Nq x)(l:!Sx X e es)(Y:!Bx X pos es):PE X (.Call (.Name x p) (e::es) [] pos) (Gu sp dvs E t):=by intro b s a H Q I h;refine Ă (mG I j g ?_ U);refine W.callWith_K I.ok.mod.kin i (bJ (o pos b s a H _ I h) fun v y ⟨u,z,Z,r,q⟩=>⟨Z.kIn,?_⟩) l Y;exact BO F d n m c Z r q
abbrev k7(X:Cx)(o:Expr)(m:Str)(l:List Expr)(a c:Pos)(n:Sem Bool):=do
 let v <-eval o X.env
 ð a.atName
 let(f,h) <-å [v] (Î v m n)
 Æ c f h (backTo c (B_ l X.env)) (ô c (ò [] X.env))
theorem Ie{v:Sem Bool}(G:PE X o ta)(c:Cls X.K C)(d:Meth X.K C m f)(F:FnOk X.prog X.w X.K X.mg X.base CX k f fd ps sp)(B:Room k X.A)(L:gO X.K fd ps ds)(J:aJ dvs ds)(y:mz CX X E)(M:PA X (e::es) t)(U:!Sx X e es)(Y:!Bx X pos es)(z:!eval (.Call (.Attribute o m apos) (e::es) [] pos) X.env=k7 X o m (e::es) apos pos v):PE X (.Call (.Attribute o m apos) (e::es) [] pos) (Gx C m sp dvs E ta t):=by intro b s Z H Q I h;refine W.methodCall_KW (bJ (G b s Z H _ I h) fun u j k=>?_) z;obtain⟨x,P,i,n,a,dx,fs,N,O,l,q⟩:=k;subst N;obtain rfl:u=Value.ref a:=n;refine Dj i O c d l ?_;refine W.callWith_K I.ok.mod.kin d.kp (bJ (M pos b j Z P _ i q) fun R T ⟨vs,H2,g,r,p⟩=>⟨g.kIn,?_⟩) U Y;exact BO (vs:=.ref a::vs) F B L J y g (.cons rfl r) p
theorem S0{e:Sem Bool}(n:PE X o ta)(c:Cls X.K C)(Y:Meth X.K C m f)(F:FnOk X.prog X.w X.K X.mg X.base CX k f fd ps sp)(j:Room k X.A)(r:gO X.K fd ps ds)(p:aJ dvs ds)(g:mz CX X E)(i:!eval (.Call (.Attribute o m apos) [] [] pos) X.env=k7 X o m [] apos pos e):PE X (.Call (.Attribute o m apos) [] [] pos) (Gx C m sp dvs E ta nO):=by intro d s Z H Q I h;refine W.methodCall_KW (bJ (n d s Z H _ I h) fun u y k=>?_) i;obtain⟨x,G,U,b,a,B,z,t,v,l,q⟩:=k;subst t;obtain rfl:u=Value.ref a:=b;refine Dj U v c Y l ?_;exact W.callWith_K0 U.kIn Y.kp (BO (vs:=[.ref a]) F j r p g U (.cons rfl .nil) q)
structure Mk(K:W.Frag)(C f:Addr):Prop where
 makes:W.makesIn K C=true
 init:W.findIn K (.ref C) "__init__" = some (some (.ref f))
 fn:W.isFn K (.ref f)=true
 kp:W.keepIn K (.ref C)=true
theorem J9(M:Mk X.K C f)(F:FnOk X.prog X.w X.K X.mg X.base CX k f fd ps sp)(l:Room (k+1) X.A)(t:gO X.K fd ps ds)(q:aJ dvs ds)(j:mz CX X E)(I:Inv X pz σ H s)(r:aJ vs us)(h:∀x Z,H x=none->H Z=none->Z≠x->sp (.ref x::(vs++dvs)) (aO (aO H Z (.own x)) x (.ins C Z [])) (fun v G=>v=.non/\Q (.ref x) G) E):u_ (y_ X.prog X.w) X.A (call (.ref C) us) (EP X pz σ Q) X.xe s:=by
 have c:=h _ s.heap.objs.size (I.hok.fresh (ŝ _)) (I.hok.fresh (k_ _)) (H_ (ħ _));have a:=Inv.made (C:=C) I;have b:aJ (V.ref (s.heap.objs.size+1)::(vs++dvs)) _:=.cons rfl (r.append q);have n:=by have e:=b.length;rw[F.len _ _ _ _ c]at e;exact e.symm
 refine Ä ((fun X m o p h=>by exact W.make_core (W.makes_of X m) (W.looks_findIn X o) (fun Y=>W.bind_fn X Y p) (.inl rfl) h) I.kIn M.makes M.init (beq_iff_eq.mp M.fn) (Ú (F.run _ X.stack _ _ _ _ _ _ E (l.make C us [])
  (a.env0.make C us []) (t _ _ a.kIn n) b c) fun r d U=>?_))
 cases r with
|error e=>exact j pz σ _ _ e d a U
|ok y=>cases y with
 |ret u=>obtain⟨v,J,B,g,z,i⟩:=a.after U;subst z;exact⟨g,⟨V.ref _,J,B,rfl,i⟩⟩
 |next=>exact Q_ U
 |brk=>exact Q_ U
 |cont=>exact Q_ U
theorem Ro(M:Mk X.K C f)(F:FnOk X.prog X.w X.K X.mg X.base CX k f fd ps sp)(d:Room (k+1) X.A)(i:Gl X x)(g:X.mg x=some (.ref C))(m:gO X.K fd ps ds)(l:aJ dvs ds)(c:mz CX X E)(n:PA X (e::es) t)(U:!!Nq x)(j:!Sx X e es)(Y:!Bx X pos es):PE X (.Call (.Name x p) (e::es) [] pos) (Gw C sp dvs E t):=by intro b s a H Q I h;refine Ă (mG I i g ?_ U);refine W.callWith_K I.ok.mod.kin M.kp (bJ (n pos b s a H _ I h) fun u v ⟨o,y,Z,r,q⟩=>⟨Z.kIn,?_⟩) j Y;exact J9 M F d m l c Z r q
theorem SZ(M:Mk X.K C f)(F:FnOk X.prog X.w X.K X.mg X.base CX k f fd ps sp)(Z:Room (k+1) X.A)(b:Gl X x)(a:X.mg x=some (.ref C))(d:gO X.K fd ps ds)(c:aJ dvs ds)(Y:mz CX X E)(U:!!Nq x):PE X (.Call (.Name x p) [] [] pos) (Gw C sp dvs E nO):=by intro g s e H Q I h;refine Ă (mG I b a ?_ U);exact W.callWith_K0 I.kIn M.kp (J9 M F Z d c Y I .nil h)
end
structure FnScope(N P:List Str)(sc:ã):Prop where
 kind:sc.kind=.function
 co:sc.isCoroutine=false
 gen:sc.isGenerator=false
 nd:N.Nodup
 pre:N.take P.length=P
 par:∀x∈P,sc.names.lookup x=some .local\/sc.names.lookup x=some .cell
 nofree:∀y∈sc.names,y.2≠.free
theorem Kk:∀{U:List (Str×a_)}{m:Str->Option a_},(∀v,(x,v)∉U)->ċ Y U m x=m x
|[],_,_=>rfl
|(n,v)::r,m,h=>by
  unfold ċ;rw[Kk fun w Z=>h w (i_ _ Z)];split
  .grind
  .rfl
theorem Kj:∀{U:List (Str×a_)}{m:Str->Option a_},(∀v,(x,v)∉U)->Č Y U m x=m x
|[],_,_=>rfl
|(n,v)::r,m,h=>by
  unfold Č;rw[Kj fun w Z=>h w (i_ _ Z)];split
  .rfl
  grind
theorem CW:∀{P:List Str}{vs:List a_}{i:Nat}{m:Str->Option a_},P.Nodup->P[i]? = some x->vs[i]? = some v->U x=some .local ->ċ U (P.zip vs) m x=some v
|[],_,_,_,_,h,_,_=>by simp at h
|_::_,[],_,_,_,_,h,_=>by simp at h
|p::P,w::vs,0,m,a,Z,Y,b=>by simp at Z Y;subst Z;subst Y;show ċ U ((p,w)::P.zip vs) m p=_;unfold ċ;rw[Kk fun v c=>(ģ.mp a).1 (Þ c).1,Q_d b];simp
|p::P,w::vs,i+1,m,a,Z,Y,b=>by unfold ċ;exact CW (ģ.mp a).2 (by simpa using Z) (by simpa using Y) b
theorem CV:∀{P:List Str}{vs:List a_}{i:Nat}{m:Str->Option a_},P.Nodup->P[i]? = some x->vs[i]? = some v->U x≠some .local ->Č U (P.zip vs) m x=some v
|[],_,_,_,_,h,_,_=>by simp at h
|_::_,[],_,_,_,_,h,_=>by simp at h
|p::P,w::vs,0,m,a,Z,Y,b=>by simp at Z Y;subst Z;subst Y;show Č U ((p,w)::P.zip vs) m p=_;unfold Č;rw[Kj fun v c=>(ģ.mp a).1 (Þ c).1,Q_e b];simp
|p::P,w::vs,i+1,m,a,Z,Y,b=>by unfold Č;exact CV (ģ.mp a).2 (by simpa using Z) (by simpa using Y) b
noncomputable def aX(N:List Str)(vs:List V):St:=vs.map some++j_ (N.length-vs.length) none
noncomputable def dm(CX:je)(P:o_)(w:F_)(K:W.Frag)(mg:Str->Option a_)(base:Heap)(N:List Str)(qual:Str)(scope:ã)(f:Addr)(cd:a_)(A:I_)(outer:List Env)(s:d_)(H:Hp)(E:XK):Cx where
 prog:=P
 w:=w
 K:=K
 mg:=mg
 base:=base
 A:=A.deeper (â qual scope s.heap.objs.size f cd)
 N:=N
 s₀:=s
 H₀:=H
 env:=â qual scope s.heap.objs.size f cd
 outer:=outer
 stack:=â qual scope s.heap.objs.size f cd::outer
 ex:=[]
 calm:=true
 fn:=fun _=>true
 pn:=[]
 xe:=fun e s'=>u_ (y_ P w) (A.deeper (â qual scope s.heap.objs.size f cd)) (leaving (â qual scope s.heap.objs.size f cd) e) (fun _ s''=>CX outer H s E e s'') (fun e' s''=>CX outer H s E e' s'') s'
theorem zA{U:ã}(h:U.names.lookup x=some .cell):∃c,(Ō n U.names []).lookup x=some c:=by have q:=W.cellsFrom_some U.names n [] (.inl h);exact Option.isSome_iff_exists.mp q
theorem TX{K:W.Frag}{f:Addr}{C:a_}{A:I_}{d:List Env}{s G:d_}{H:Hp}{E:XK}{us:List a_}{vs:List V}(S:FnScope N m Z)(Q:A.handled=none)(l:Env0 P w K F base A d s H)(X:vs.length=m.length)(r:aJ vs us)(x:InCallC s s.heap.objs.size (ċ (â g Z s.heap.objs.size f C).kindOf (m.zip us) fun _=>none) (Ō (s.heap.objs.size+1) Z.names []) (Č (â g Z s.heap.objs.size f C).kindOf (m.zip us) fun _=>none) G):Inv (dm L P w K F base N g Z f C A d s H E) [] (aX N vs) H G:=by
 have O:m.length<=N.length:=by have:=Q_g Ö S.pre;rw[ŕ]at this;omega
 obtain⟨B,T,rfl,J⟩:=x.done;have U:∀b:Addr,b∉(dm L P w K F base N g Z f C A d s H E).ex:=fun b z=>Q_f (show b∈([]:List Addr)from z) `s;refine⟨⟨l.mod,S.kind,rfl,rfl,k_ _,fun y z c B j=>?_,fun y o=>?_,fun y c _ h=>?_,fun _=>Q,QdE l.frames,.inr ⟨rfl,rfl⟩,fun b z=>Q_f z (U b),l.bs,l.bsz,fun b _ _=>U b,fun b z=>Q_f z (U b),l.funs,l.frf⟩,rfl,l.bare,Un.kept J,⟨_,x.toInCall.ns,fun i y v B j h3=>?_⟩,fun y c h=>⟨_,x.cell y c h⟩,l.hok.fresh (k_ _),fun y c h=>?_,fun p t=>Q_f (show p∈([]:List (Addr×Obj))from t) `s,l.hok.kept J,?_⟩
 .exact name_of_addr x.apart (PySem.mem_of_lookup B) (PySem.mem_of_lookup j)
 .have o:Z.names.lookup y=some .cell\/Z.names.lookup y=some .free:=o;rcases o with o|o
  .exact zA o
  .exact Q_f rfl (S.nofree _ (PySem.mem_of_lookup o))
 .exact Ŝ (x.above y c (PySem.mem_of_lookup h))
 .have hi:i<vs.length:=by
   unfold aX at j;by_cases hi:i<vs.length
   .exact hi
   .rw[Ļ (by simpa using hi)]at j;rw[Ľ]at j;split at j <;> cases j
  have R:vs[i]? = some v:=by unfold aX at j;rw[O_ (by simpa using hi),K_]at j;cases e:vs[i]? with
  |none=>rw[e]at j;cases j
  |some a=>rw[e]at j;cases j;rfl
  obtain⟨u,I,M⟩:=r.get R;have t:m[i]? = some y:=by rw[<-S.pre,Qc4 `o];exact B
  have Y:m.Nodup:=by rw[<-S.pre];exact S.nd.sublist (Qek _ _)
  refine⟨u,M,?_⟩;rcases S.par y (ő t)with k|k
  .exact .inl ⟨k,CW Y t I k⟩
  .obtain⟨c,e⟩:=zA (n:=s.heap.objs.size+1) k;refine .inr ⟨.inl k,c,e,?_⟩;have q:=x.cell y c e;rw[CV Y t I (by show Z.names.lookup y≠_;rw[k];decide)]at q;exact q
 .exact l.hok.fresh (Ŝ (x.above y c (PySem.mem_of_lookup h)))
 .unfold aX;show _=N.length;rw[đ,p_,Ő];omega
theorem xG{K:W.Frag}{h:Arguments}{i:List Stmt}{a:ã}{dV kV B X g ct oc:a_}{an od:Option Addr}{O:Array (Option a_)}{N C:List Str}{L:Sp}(lk:K.lookup f=some ⟨oc,od,.func (W.fnOf name d h i a dV kV B X an g ct),O⟩)(BT:W.codeIn K g d=true)(S:FnScope N C a)(p:∀vs H Q E,L vs H Q E->vs.length=C.length)(Y:∀(A:I_)(c:List Env)(s:d_)(H:Hp)(vs:List V)(Q:VK)(E:XK),Room k (A.deeper (â d a s.heap.objs.size f g))->L vs H Q E ->∃t,d7 (dm G P w K F base N d a f g A c s H E) i t/\t { nx:=fun _ l=>Q .non l,rt:=Q } (aX N vs) H):FnOk P w K F base G (k+1) f (W.fnOf name d h i a dV kV B X an g ct) C L:=by
 refine⟨p,fun A c s H args us vs Q E R z hb r Z=>?_⟩;have hl:=p _ _ _ _ Z;have KX:=z.mod.kin.keeps fun b o e=>(z.bs b o e).1;have dl:=z.mod.nolimit.keeps fun b o e=>(z.bs b o e).1;have U:∀y∈C.zip us,a.names.lookup y.1=some .local\/(a.names.lookup y.1=some .cell/\((Ō (s.heap.objs.size+1) a.names []).lookup y.1).isSome=true):=fun⟨n,v⟩ hy=>by
  rcases S.par n (Þ hy).1 with q|q
  .exact .inl q
  .exact .inr ⟨q,W.cellsFrom_some _ _ _ (.inl q)⟩
 refine Qdw R.depth (KX _ _ lk) rfl S.co S.gen rfl (W.codeRec_of KX BT) (hb _ _ _ _ ?_);refine QcI S.kind U fun env he T x=>?_;subst he;refine⟨dl.keeps x.toInCall.keep,codeAny_func ?_⟩;obtain⟨t,ht,hq⟩:=Y A c s H vs Q E (R.deeper _) Z;have I:Inv (dm G P w K F base N d a f g A c s H E) [] _ H T:=TX S R.hd z hl r x;refine V_ (ht [] T _ H _ I hq) (fun fl M m=>?_) fun e M m=>m;have fin:∀{j:St}{l:Hp}{v:V}{u:a_},Inv (dm G P w K F base N d a f g A c s H E) [] j l M->aR v u->Q v l->CE c P w H s Q u M:=fun{j l v u} J rv q=>⟨v,l,J.os,J.bare,J.base,J.hok,rv,q⟩
 cases fl with
|ret u=>obtain⟨v,j,l,J,rv,q⟩:=m;exact fin J rv q
|next=>obtain⟨j,l,J,q⟩:=m;exact fin (v:=V.non) J rfl q
|brk=>obtain⟨_,_,_,q⟩:=m;exact Q_ q
|cont=>obtain⟨_,_,_,q⟩:=m;exact Q_ q
section
variable{x:Str}{id T:String}{r:List V->Hp->VK->Prop}
def AJ(r:List V->Hp->VK->Prop)(t:TA):TE:=fun σ H Q=>t σ H fun vs H1=>r vs H1 Q
theorem nA(n:gT X (.builtin id) r)(l:Gl X x)(k:X.mg x=none)(i:Ą x=some (.builtin id))(o:PA X (e::es) t)(j:x≠"__name__" := by decide)(U:!!Nq x)(m:!Sx X e es)(Y:!Bx X pos es):PE X (.Call (.Name x p) (e::es) [] pos) (AJ r t):=by intro a s Z H Q I h;refine Ă (pH I l k i ?_ j U);exact PyProof.Rows.callWith_builtin1 (bJ (o pos a s Z H _ I h) fun c d z=>by obtain⟨b,u,q,f,g⟩:=z;exact n a d Z u b c Q q f g) m Y
theorem o9(n:gT X (.type T) r)(l:Gl X x)(k:X.mg x=none)(i:Ą x=some (.type T))(o:PA X (e::es) t)(j:x≠"__name__" := by decide)(U:!!Nq x)(m:!Sx X e es)(Y:!Bx X pos es):PE X (.Call (.Name x p) (e::es) [] pos) (AJ r t):=by intro a s Z H Q I h;refine Ă (pH I l k i ?_ j U);exact Š (bJ (o pos a s Z H _ I h) fun c d z=>by obtain⟨b,u,q,f,g⟩:=z;exact n a d Z u b c Q q f g) m Y
end
end L2
namespace HT
open PySem PyProof.Rows
noncomputable def eR:List Int->List Int->Bool
|[],[]=>false
|[],_::_=>true
|_::_,[]=>false
|x::xs,y::ys=>if x=y then eR xs ys else decide (x<y)
theorem hZ(x y:Int)(xs U:List Int):eR (x::xs) (y::U)=if x=y then eR xs U else decide (x<y):=rfl
theorem Wj:eR [] []=false:=rfl
theorem WH(y:Int)(U:List Int):eR [] (y::U)=true:=rfl
theorem WG(x:Int)(xs:List Int):eR (x::xs) []=false:=rfl
theorem RQ(A:I_)(s:d_)(a:Int)(t:Tok)(c:Int)(u:Tok):∃e,Qd3 A s (.int a t) (.int c u) e/\(e=true↔a=c):=⟨_,QcJ a t c u,`s⟩
theorem Sd(A:I_)(s:d_)(a:Int)(t:Tok)(c:Int)(u:Tok)(prog:o_)(w:F_)(E:a_->d_->Prop)(Q:a_->d_->Prop)(h:Q (.bool (decide (a<c))) s):u_ (y_ prog w) A (richCompare .Lt (.int a t) (.int c u)) Q E s:=(PyProof.Rows.lt_int h)
section
open PySem.SeqAt
open PySem.AutoSeq1 (wpAny_loadPart')
open PySem.MeetsSeq PySem.MeetsSeq2 PySem.MeetsSeq3
theorem WM(l b:Addr)(f U:Array a_)(n I:Nat)(dd P:Option Addr)(H N:Array (Option a_))(z ms:List Int)(hi:õ f.toList z)(F:õ U.toList ms) :
  Meets (ì.«tuple.__lt__» ⟨[.ref l,.ref b],[]⟩)
   (fun _ R s=>s.heap.get? l=some { cls:=.type "tuple",dict:=dd,data:=.seq f n,slots:=H }/\s.heap.get? b=some { cls:=.type "tuple",dict:=P,data:=.seq U I,slots:=N } /\R (.ok (.ret (.bool (eR z ms)))) s):=
 .of_wp fun j w A R s h=>by
  obtain⟨B,g,d,r,v⟩:=s;obtain⟨K,M,h⟩:=h;have f2:=AutoSeq1.sub_tuple_tuple;have T:f.size=z.length:=by rw[<-hi.length];simp
  have Q:U.size=ms.length:=by rw[<-F.length];simp
  wp_walk using İ K,İ M,wpAny_forIn_list _ (fun rest b C=>b.1=none/\C=⟨B,g,d,r,v⟩/\∃(p o:List a_)(Y i:List Int),rest=p.zip o /\õ p Y/\õ o i/\Y.length+U.size=i.length+f.size/\R (.ok (.ret (.bool (eR Y i)))) ⟨B,g,d,r,v⟩) _
  case turn=>
   rintro⟨y,x⟩ rest b C ⟨hb',rfl,p,o,Y,i,hz,BT,Z,hlen,hR⟩
   cases BT with
  |nil=>rw[List.zip_nil_left]at hz;cases hz
  |cons a t m=>cases Z with
   |nil=>rw[List.zip_nil_right]at hz;cases hz
   |cons c u k=>
     rw[Qd4]at hz;injection hz with hyx hrest
     injection hyx with hy hx
     subst hy hx;rw[hZ]at hR;simp only[Ë]at hlen;obtain⟨e,L,G⟩:=RQ A.in1 ⟨B,g,d,r,v⟩ a t c u;refine b_ (L j w _ _ ?_);cases e with
    |true=>
      rw[Q_d (G.mp rfl)]at hR
      wp_walk
      exact⟨rfl,rfl,_,_,_,_,hrest,m,k,`o,hR⟩
    |false=>
      rw[Q_e (fun q=>Q_f (G.mpr q) t_)]at hR;have O:=Sd A.in1 ⟨B,g,d,r,v⟩ a t c u j w
      wp_walk using O
      exact⟨_,rfl,by simpa using hR⟩
  case fin=>
   rintro⟨X,W⟩ C ⟨hb',rfl,p,o,Y,i,hz,BT,Z,hlen,hR⟩
   simp only at hb';subst hb';have E:eR Y i=decide (f.size<U.size):=by cases BT with
   |nil=>cases Z with
    |nil=>simp only[Qdt]at hlen;rw[Wj];exact(Q_b `o).symm
    |cons c u J=>simp only[Qdt,Ë]at hlen;rw[WH];exact(Q_c `o).symm
   |cons a t E=>cases Z with
    |nil=>simp only[Qdt,Ë]at hlen;rw[WG];exact(Q_b `o).symm
    |cons c u J=>rw[Qd4]at hz;cases hz
   rw[E]at hR
   wp_walk
   exact⟨_,rfl,by simpa[Qey]using hR⟩
  case h=>exact⟨rfl,rfl,f.toList,U.toList,z,ms,rfl,hi,F,`o,h⟩
end
section
variable{prog:o_}{w:F_}{A:I_}{E:a_->d_->Prop}{s:d_}
theorem j8(m:Ø s.heap l a)(r:Ø s.heap b U)(hi:õ a.toList d)(o:õ U.toList ms)(k:A.units<á)(h:Q (.bool (eR d ms)) s):u_ (y_ prog w) A (ç .Lt (.ref l) (.ref b)) Q E s:=by
 obtain⟨⟨v,u,g,i⟩,f,q,n,p⟩:=id m;obtain⟨⟨y,Z,z,t⟩,c,Y,j,e⟩:=id r;subst q p Y e;exact richCompare_meets_room (op:=.Lt) ⟨_,f,rfl⟩ ⟨_,c,rfl⟩ PySem.F.slot_tuple_lt PySem.F.entry_tuple_lt (PySem.F.args_tuple_lt_2 _ _) (WM l b a U n j u Z i t d ms hi o)
  ⟨f,c,⟨(fun x=>nomatch x),h⟩⟩ k
theorem oq(j:Ø s.heap t vs.toArray)(m:Ø s.heap b ws.toArray)(h:vs≠[])(o:ws=[]->Q (.ref t) s)(p:ws≠[]->Q (.ref s.heap.objs.size) { s with heap:=s.heap.push { cls:=.type "tuple",data:=.seq (vs++ws).toArray } })(hsz:vs.length+ws.length<=sizeLine):u_ (y_ prog w) A (ĝ .Add (.ref t) (.ref b)) Q E s:=by
 obtain⟨⟨cls,i,data,f⟩,c,l,n,k⟩:=id j;obtain⟨⟨r,U,q,Y⟩,a,Z,g,e⟩:=id m;subst l k Z e;by_cases d:ws=[]
 .exact Qel ⟨_,c,rfl⟩ ⟨_,a,rfl⟩ noFill_tuple_add seq_tuple_add PySem.F.slot_tuple_add PySem.F.entry_tuple_add (PySem.F.args_tuple_add_2 _ _)
   (tuple_addW1 t b vs.toArray ws.toArray n g i U f Y (by simpa using h) (by simp[d])) ⟨c,a,o d⟩
 .refine Qel ⟨_,c,rfl⟩ ⟨_,a,rfl⟩ noFill_tuple_add seq_tuple_add PySem.F.slot_tuple_add PySem.F.entry_tuple_add (PySem.F.args_tuple_add_2 _ _)
   (tuple_addW2 t b vs.toArray ws.toArray n g i U f Y (by simpa using h) (by simpa using d) `o) ⟨c,a,?_⟩
  simp_all
noncomputable def sIx(n d:Nat):Option Int->Nat
|none=>d
|some v=>if v<0 then(v+(n:Int)).toNat else min v.toNat n
theorem jv(n d:Nat):sIx n d none=d:=rfl
theorem kr(n d k:Nat):sIx n d (some (k:Int))=min k n:=by show(if (k:Int)<0 then((k:Int)+(n:Int)).toNat else min (k:Int).toNat n)=min k n;rw[Q_e `o,ė]
theorem Hv(v:Int)(n d:Nat):(if v<0 then max (v+(n:Int)) 0 else min v (n:Int))=((sIx n d (some v):Nat):Int):=by
 show(if v<0 then max _ 0 else min v _)=(((if v<0 then(v+(n)).toNat else min v.toNat n)))
 grind
theorem UR(lo hi:Option Int)(n:Nat):QcX lo hi 1 (n:Int)=(((sIx n 0 lo:Nat):Int),((sIx n n hi:Nat):Int)):=by
 have U:¬ ((1)<0):=`d
 refine Prod.ext ?_ ?_
 .cases lo with
 |none=>rfl
 |some v=>exact Hv v n 0
 .cases hi with
 |none=>rfl
 |some v=>exact Hv v n n
theorem Uw(i j:Nat):QbS (i:Int) (j:Int) 1=j-i:=by
 unfold QbS;have U:(1:Int)>0:=`d
 simp only[U,Q_k,Int.ediv_one];split <;> omega
theorem KS(p:Ð v o)(h:Q o s):u_ (y_ prog w) A (QeN v) Q E s:=by cases p with
|none=>exact slicePart_none h
|int i t=>exact slicePart_int h
theorem d6{lo hi:Option Int}{Q:Int×Int×Nat->d_->Prop}(f:s.heap.IsSliceOf c b a .none)(e:Ð b lo)(d:Ð a hi)(h:Q (((sIx n 0 lo:Nat):Int),1,sIx n n hi-sIx n 0 lo) s):u_ (y_ prog w) A (Qe5 (.ref c) (pure (n:Int))) Q E s:=by obtain⟨g,U,Z,Y⟩:=id f;refine b_ (b_ (Z_ U Y rfl (b_ (Z_ U Y rfl (b_ (Z_ U Y rfl (f_ ?_)))))));refine b_ (slicePart_none ?_);refine b_ (KS e (b_ (KS d (b_ (f_ ?_)))));show u_ _ _ (match QcX lo hi 1 _ with|(lo,hi)=>pure (lo,(1:Int),QbS lo hi 1)) _ _ s;rw[UR lo hi n];show u_ _ _ (pure _) _ _ s;rw[Uw];exact f_ h
theorem R7(xs:Array a_)(i k:Nat):((x_ k).filterMap fun(m:Nat)=>xs[((i:Int)+(m:Int)*1).toNat]?).toArray=((xs.toList.drop i).take k).toArray:=by
 have e:(fun(m:Nat)=>xs[((i:Int)+(m:Int)*1).toNat]?)=fun m=>xs[i+m]?:=by
  funext m;have:((i:Int)+(m:Int)*1).toNat=i+m:=`o
  rw[this]
 rw[e];have:=pick_run xs i k;rw[List.filterMap_map]at this;have U:((fun x=>xs[x]?)∘fun x=>i+x)=fun m=>xs[i+m]?:=rfl;rw[U]at this;rw[this]
theorem gl{lo hi:Option Int}(b:Ø s.heap t a)(f:s.heap.IsSliceOf c e d .none)(i:Ð e lo)(g:Ð d hi)(n:¬ (sIx a.size 0 lo=0/\sIx a.size a.size hi=a.size))(h:Q (.ref s.heap.objs.size) { s with heap:=s.heap.push { cls:=.type "tuple",data:=.seq ((a.toList.drop (sIx a.size 0 lo)).take (sIx a.size a.size hi-sIx a.size 0 lo)).toArray } })(hsz:a.size<=sizeLine):u_ (y_ prog w) A (Ć (.ref t) (.ref c)) Q E s:=by
 have U:sizeOk (.seq ((a.toList.drop (sIx a.size 0 lo)).take (sIx a.size a.size hi-sIx a.size 0 lo)).toArray):=by
  show((a.toList.drop (sIx a.size 0 lo)).take (sIx a.size a.size hi-sIx a.size 0 lo)).toArray.size<=sizeLine
  grind
 have o:sIx a.size a.size hi<=a.size:=by cases hi with
   |none=>exact(k_ _)
   |some v=>
     show(if v<0 then(v+(_)).toNat else min v.toNat _)<=_
     grind
 obtain⟨j,Z,l,p⟩:=id f;have k:s.TypeIs (.ref c) "slice" := ⟨j,Z,l⟩
 unfold Ć
 try with_reducible refine ø ?_
 first|grind|skip
 refine b_ (Qem b.typeIs `d ?_);refine b_ (ī (name:=s_ "__getitem__") b.typeIs Ĩ
  (ę Ĩ b.typeIs entry_tuple_getitem ?_ (args_tuple_getitem _ _)))
 show u_ _ _ (QcK (.ref t) >>= _) _ _ s;refine b_ (tupleItemsOf_ b ?_);refine b_ (Ū k ?_);rw[Q_d `d];refine b_ (d6 f i g ?_);have Y:¬ ((((sIx a.size 0 lo:Nat):Int)==0&&(1:Int)==1&&(sIx a.size a.size hi-sIx a.size 0 lo)==a.size)=true):=`a
 show u_ _ _ (if (((sIx a.size 0 lo:Nat):Int)==0&&(1:Int)==1&&(sIx a.size a.size hi-sIx a.size 0 lo)==a.size)=true then _ else _) _ _ s;rw[Q_e Y,R7]
 first
  |grind
  |exact b_ (m:=Qfk _) (Ŧ (b_ (f_ (f_ ⟨_,rfl,f_ h⟩))) U)
  |grind
  |grind
end
end HT
namespace L2
open PySem PySem.Spec PyProof.Rows
abbrev TO:=St->Hp->(Option Int->Hp->Prop)->Prop
def PO(X:Cx)(e:Option Expr)(t:TO):Prop:=∀(pz:List (Addr×Obj))(s:d_)(σ:St)(H:Hp)(Q:Option Int->Hp->Prop),Inv X pz σ H s->t σ H Q ->u_ (y_ X.prog X.w) X.A (evalPart e X.env) (fun u s'=>∃o H',Inv X pz σ H' s'/\Ð u o/\Q o H') X.xe s
def Yx(t:TE):TO:=fun σ H Q=>t σ H fun x H1=>∃i,x=.int i/\Q (some i) H1
theorem Dk:∀{us:List a_},aJ (U.map V.int) us->õ us U:=by induction U with
|nil=>intro us r;rw[ŀ]at r;cases r;exact .nil
|cons n U a=>intro us r;rw[í]at r;cases r with
 |cons Z Y=>obtain⟨t,e⟩:=Z;subst e;exact .cons n t (a Y)
variable{X:Cx}{e:Expr}{pos:Pos}
section
variable{te:TE}{lo hi:Option Expr}{tl th:TO}{p2:Pos}
theorem Rr(h:PE X e te):PO X (some e) (Yx te):=by intro a s U H Q I b;refine bJ (h a s U H _ I b) fun u f k=>?_;obtain⟨x,d,c,Y,Z⟩:=k;obtain⟨i,rfl,q⟩:=Z;obtain⟨t,rfl⟩:=Y;exact⟨some i,d,c,.int i t,q⟩
def ma(X:Cx)(r:V->Option Int->Option Int->Hp->VK->Prop):Prop:=∀(pz:List (Addr×Obj))(s:d_)(σ:St)(H:Hp)(x:V)(v vl vu:a_)(lo hi:Option Int)(sl:Addr)(Q:VK),Inv X pz σ H s->aR x v->s.heap.IsSliceOf sl vl vu .none->Ð vl lo->Ð vu hi->r x lo hi H Q ->∃T id,typeLookup (.type T) "__getitem__" = pure (some (.builtin id))/\s.TypeIs v T/\u_ (y_ X.prog X.w) X.A (Ć v (.ref sl)) (EP X pz σ Q) X.xe s
theorem ma.or(h:ma X r)(h':ma X r'):ma X (fun x lo hi H Q=>r x lo hi H Q\/r' x lo hi H Q):=by
 intro c s U H x v Z Y lo hi a Q I b f e d q;rcases q with q|q
 .exact h c s U H x v Z Y lo hi a Q I b f e d q
 .exact h' c s U H x v Z Y lo hi a Q I b f e d q
noncomputable def Y1(r:V->Option Int->Option Int->Hp->VK->Prop)(te:TE)(tl th:TO):TE:=fun σ H Q=>te σ H fun x H1=>tl σ H1 fun l H2=>th σ H2 fun u H3=>r x l u H3 Q
theorem Jv(w:ma X r)(A:PE X e te)(y:PO X lo tl)(p:PO X hi th):PE X (.Subscript e (.Slice lo hi none p2) pos) (Y1 r te tl th):=by intro Z s U H Q I h;refine Subscript_ (bJ (A Z s U H _ I h) fun v g e=>?_);obtain⟨x,K,G,i,m⟩:=e;refine wpAny_Slice (bJ (y Z g U K _ G m) fun c f ⟨l,J,F,o,k⟩=>bJ (p Z f U J _ F k) fun a Y r=>?_);obtain⟨u,d,E,n,j⟩:=r;refine f_ ?_;have C:Inv X Z U d { Y with heap:=Y.heap.push { cls:=.type "slice",data:=.fields #[c,a,.none] } }:=E.kept fun b L q=>c_ _ q;obtain⟨T,M,B,t,z⟩:=w Z { Y with heap:=Y.heap.push { cls:=.type "slice",data:=.fields #[c,a,.none] } } U d x v c a l u Y.heap.objs.size Q C i (Heap.IsSliceOf.new ..) o n j;exact Ż t B z (by with_unfolding_all rfl)
def on(xs:List V)(lo hi:Option Int):List V:=(xs.drop (HT.sIx xs.length 0 lo)).take (HT.sIx xs.length xs.length hi-HT.sIx xs.length 0 lo)
theorem LF(xs:List V)(lo hi:Option Int):(on xs lo hi).length<=xs.length:=by unfold on;rw[ŕ,List.length_drop];omega
def Fd(K:W.Frag):V->Option Int->Option Int->Hp->VK->Prop:=fun x lo hi H Q=>∃a xs,x=.ref a/\e8 K H a xs /\¬ (HT.sIx xs.length 0 lo=0/\HT.sIx xs.length xs.length hi=xs.length)/\∀p,H p=none->Q (.ref p) (aO H p (.tup (on xs lo hi)))
theorem Px:ma X (Fd X.K):=by
 intro u s n H x v p o i m t Q I e l g f h;obtain⟨a,Z,rfl,j,k,q⟩:=h;cases e;obtain⟨Y,r,d,c⟩:=I.tuple j;have U:Y.toArray.size=Z.length:=by exact r.length.symm
 refine⟨"tuple",_,Ĩ.lookup,d.typeIs,?_⟩;refine HT.gl d l g f (by rw[U];exact k) ?_ (by rw[U];exact c);rw[U];refine⟨.ref s.heap.objs.size,_,I.laid (fun b w q=>c_ _ q) (k_ _) ?_,rfl,q _ (I.hok.fresh (k_ _))⟩;exact⟨U_ (LF Z i m) c,_,(r.drop _).take _,Qfo _ _,_,l_ _ rfl,rfl⟩
def Gb(K:W.Frag):R2:=fun x y H Q=>∃a b xs ys,x=.ref a/\y=.ref b/\e8 K H a xs/\e8 K H b ys/\xs≠[]/\xs.length+ys.length<=sizeLine /\(ys=[]->Q (.ref a) H)/\(ys≠[]->∀p,H p=none->Q (.ref p) (aO H p (.tup (xs++ys))))
theorem aJ.nil_iff(r:aJ xs us):us=[]↔xs=[]:=by cases r with
|nil=>simp
|cons _ _=>simp
theorem Qe:eu X (ĝ .Add) (Gb X.K):=by intro A s t H x y v u Q I g f h;obtain⟨a,b,e,d,rfl,rfl,r,p,n,c,j,i⟩:=h;cases g;cases f;obtain⟨m,Z,l,_⟩:=I.tuple r;obtain⟨U,Y,k,_⟩:=I.tuple p;refine HT.oq l k (fun z=>n (Z.nil_iff.mp z)) (fun z=>⟨.ref a,H,I,rfl,j (Y.nil_iff.mp z)⟩) (fun z=>?_) (by rw[<-Z.length,<-Y.length];exact c);refine⟨.ref s.heap.objs.size,_,I.laid (t':=s.toks) (o:=.tup (e++d)) (fun b B q=>c_ _ q) (k_ _) ?_,rfl,i (fun w=>z (Y.nil_iff.mpr w)) _ (I.hok.fresh (k_ _))⟩;exact⟨by rw[đ];exact c,_,Z.append Y,Qfo _ _,_,l_ _ rfl,rfl⟩
end
noncomputable def j9(n:Nat)(i:Int):Option Nat:=if 0<=i then(if i<n then some i.toNat else none)else if-(n:Int)<=i then some (i+n).toNat else none
def jM{α:Type}(xs:List α)(i:Int):Option α:=(j9 xs.length i).bind fun j=>xs[j]?
theorem Il(h:j9 n i=some j):seqIndex? i n=some j/\j<n/\-(n:Int)<=i/\i<n:=by
 unfold j9 at h;by_cases Y:0<=i
 .rw[Q_d Y]at h;by_cases U:i<n
  .rw[Q_d U]at h;have e:i.toNat=j:=T_ h;exact⟨by rw[QeK Y U,e],`o,`o,U⟩
  .rw[Q_e U]at h;cases h
 .rw[Q_e Y]at h;by_cases U : -(n:Int)<=i
  .rw[Q_d U]at h;have e:(i+n).toNat=j:=T_ h;exact⟨by rw[seqIndex_neg `o U,e],`o,U,`o⟩
  .rw[Q_e U]at h;cases h
theorem BX{v:U}(h:jM xs i=some v):∃j,seqIndex? i xs.length=some j/\xs[j]? = some v/\j<xs.length/\-(xs.length:Int)<=i/\i<xs.length:=by unfold jM at h;cases e:j9 xs.length i with
|none=>rw[e]at h;cases h
|some j=>rw[e]at h;obtain⟨b,a,Z,Y⟩:=Il e;exact⟨j,b,h,a,Z,Y⟩
def zd(b:Expr):Prop:=∀o i,subscripted b false o i=operate [o,i] (Ć o i)
def mq(X:Cx)(r:R2):Prop:=∀(value slice:Expr)(pz:List (Addr×Obj))(s:d_)(σ:St)(H:Hp)(x y:V)(v u:a_)(Q:VK),Inv X pz σ H s->aR x v->aR y u->r x y H Q ->subscripted slice false v u=operate [v,u] (Ć v u)->u_ (y_ X.prog X.w) X.A (subscriptTail value slice v u) (EP X pz σ Q) X.xe s
def ku(X:Cx)(id:String)(r:V->List V->Hp->VK->Prop):Prop:=∀(pz:List (Addr×Obj))(s:d_)(σ:St)(H:Hp)(x:V)(xs:List V)(v:a_)(us:List a_)(Q:VK),Inv X pz σ H s->aR x v->aJ xs us->r x xs H Q ->u_ (y_ X.prog X.w) X.A (call (.builtin id) (v::us)) (EP X pz σ Q) X.xe s
section
variable{a b:Expr}{ta tb:TE}
theorem mq.or(h:mq X r)(h':mq X r'):mq X (fun x y H Q=>r x y H Q\/r' x y H Q):=by
 intro U Y c s Z H x y v u Q I b a q d;rcases q with q|q
 .exact h U Y c s Z H x y v u Q I b a q d
 .exact h' U Y c s Z H x y v u Q I b a q d
theorem F6(f:mq X r)(i:PE X a ta)(g:PE X b tb)(e:zd b):PE X (.Subscript a b pos) (AH r ta tb):=by intro d s U H Q I h;exact Subscript_ (qK i g I h fun v u Y x y k j c Z q=>f a b d Y U k x y v u Q j c Z q (e _ _))
def wH(K:W.Frag):R2:=fun x y H Q=>∃p xs i v,x=.ref p/\y=.int i/\dq K H p xs/\jM xs i=some v/\Q v H
def wF(K:W.Frag):R2:=fun x y H Q=>∃p xs i v,x=.ref p/\y=.int i/\e8 K H p xs/\jM xs i=some v/\Q v H
def wG:R2:=fun x y H Q=>∃z i c,x=.str z/\y=.int i/\z.length<=sizeLine/\jM z.cps.toList i=some c/\Q (.str ⟨#[c]⟩) H
theorem Qq:mq X (wH X.K):=by
 intro Z a e s d H x y v u Q I n m h f;obtain⟨p,G,i,z,rfl,rfl,o,B,q⟩:=h;cases n;obtain⟨t,rfl⟩:=m;obtain⟨c,r,b,J⟩:=I.list o;obtain⟨j,Y,F,M,E,C⟩:=BX B;obtain⟨w,k,U⟩:=r.get F;have A:=r.length;have L:=tz;have fin:EP X e d Q w s:=⟨z,H,I,U,q⟩
 by_cases g:0<=i
 .have hj:i.toNat=j:=by rw[QeK g C]at Y;exact T_ Y
  exact item_listR b.isList g `o (by rw[hj];simpa using k) fin f
 .have hj:(i+(c.toArray.size:Int)).toNat=j:=by rw[seqIndex_neg `o E]at Y;rw[E_,<-A];exact T_ Y
  exact Qdl (x:=w) b.isList.typeIs Qen.lookup
   (wpAny_getItem_list_neg (Q:=fun r l=>r=w/\EP X e d Q r l) b.isList `o (by rw[E_] <;> omega) `o (by rw[hj];simpa using k) ⟨rfl,fin⟩) f
theorem OA:mq X (wF X.K):=by
 intro Y Z b s a H x y v u Q I f e h k;obtain⟨p,C,i,z,rfl,rfl,l,n,q⟩:=h;cases f;obtain⟨t,rfl⟩:=e;obtain⟨g,r,c,E⟩:=I.tuple l;obtain⟨j,A,o,L,J,G⟩:=BX n;obtain⟨w,B,U⟩:=r.get o;have m:=r.length;have F:=tz;have fin:EP X b a Q w s:=⟨z,H,I,U,q⟩
 exact Qdl (x:=w) c.typeIs Ĩ.lookup
  (getItem_tuple (j:=j) (Q:=fun r d=>r=w/\EP X b a Q r d) c `o `o (by rw[E_,<-m];exact A) (by simpa using B) ⟨rfl,fin⟩) k
theorem Oz:mq X wG:=by
 intro U Y n s l H x y v u Q I a Z h b;obtain⟨z,i,c,rfl,rfl,o,e,q⟩:=h;obtain⟨t,rfl⟩:=a;obtain⟨m,rfl⟩:=Z;obtain⟨j,k,w,r,g,f⟩:=BX e;have d:z.cps.toList.length=z.length:=by simp[Ÿ]
 rw[d]at k g f;have p:=tz;exact Ż (ū s z t) slot_str_getitem.lookup (getItem_str (c:=c) `g `a ⟨.str ⟨#[c]⟩,H,I.tok _,⟨_,rfl⟩,q⟩) b
def Zc(K:W.Frag):R2:=fun x y H Q=>wH K x y H Q\/wF K x y H Q\/wG x y H Q
theorem Ut(U:List a_)(n j:Nat)(u:a_):Ė (·.setIfInBounds j u) { cls:=.type "list",data:=.seq U.toArray n }={ cls:=.type "list",data:=.seq (U.set j u).toArray n }:=by simp[Ė]
theorem Inv.lst{pz:List (Addr×Obj)}{σ:St}{H:Hp}{s:d_}{p:Addr}{xs:List V}(I:Inv X pz σ H s)(h:H p=some (.lst xs)):∃(U:List a_)(n:Nat),aJ xs U/\s.heap.get? p=some { cls:=.type "list",data:=.seq U.toArray n }/\xs.length<=sizeLine:=by obtain⟨z,U,n,r,e⟩:=I.hok p _ h;exact⟨U,n,r,e,z⟩
theorem Inv.lstUpd{σ:St}{U its':List a_}(I:Inv X pz σ H s)(h:H p=some (.lst xs))(d:s.heap.get? p=some { cls:=.type "list",data:=.seq U.toArray n })(a:f { cls:=.type "list",data:=.seq U.toArray n }={ cls:=.type "list",data:=.seq its'.toArray Z })(r:aJ Y its')(c:Y.length<=sizeLine)(t:Nat):Inv X pz σ (aO H p (.lst Y)) { s with heap:=s.heap.update p f,toks:=t }:=by
 have e:(s.heap.update p f).get? p=some { cls:=.type "list",data:=.seq its'.toArray Z }:=by rw[Ġ f d (by rw[a] <;> rfl),a]
 refine I.write (by rw[h];trivial) (.inl rfl) (fun b u g q=>(Qdm _ _ (ê g)).trans q) ⟨_,e⟩ ?_;exact⟨c,its',Z,r,e⟩
def GC:V->V->V->Hp->(Hp->Prop)->Prop:=fun o i v H Q=>∃p xs k j,o=.ref p/\i=.int k/\H p=some (.lst xs)/\j9 xs.length k=some j/\Q (aO H p (.lst (xs.set j v)))
theorem So:jD X GC:=by
 intro y s g H o i v B C u Q I w x m h;obtain⟨p,l,k,j,rfl,rfl,b,A,q⟩:=h;cases w;obtain⟨t,rfl⟩:=x;obtain⟨U,n,r,Z,z⟩:=I.lst b;obtain⟨Y,F,d,c⟩:=Il A;have a:=r.length;have E:=tz;have f:Inv X y g (aO H p (.lst (l.set j v))) { s with heap:=s.heap.update p (Ė (·.setIfInBounds j u)) }:=I.lstUpd b Z (Ut U n j u) (r.set m j) (by rw[Ē];exact z) s.toks;by_cases e:0<=k
 .have hk:k.toNat=j:=by rw[QeK e c]at Y;exact T_ Y
  exact W.ki_setAt Z e `o (by rw[E_,<-a];exact c) (by rw[hk];exact⟨_,f,q⟩)
 .have hk:(k+(U.toArray.size:Int)).toNat=j:=by rw[seqIndex_neg `o d]at Y;rw[E_,<-a];exact T_ Y
  exact W.ki_setBack Z `o (by rw[E_,<-a];exact d) `o (by rw[hk];exact⟨_,f,q⟩)
theorem V2(lo hi:Option Int)(n:Nat):(ě lo hi none n).1=((HT.sIx n 0 lo:Nat):Int)/\(ě lo hi none n).2.1=((HT.sIx n n hi:Nat):Int)/\(ě lo hi none n).2.2=1:=by
 refine⟨?_,?_,rfl⟩
 .cases lo with
 |none=>simp[ě,HT.sIx]
 |some i=>
   simp only[ě,HT.sIx,Q_k]
   grind
 .cases hi with
 |none=>simp[ě,HT.sIx]
 |some i=>
   simp only[ě,HT.sIx,Q_k]
   grind
theorem Wd(U:List a_)(lo hi:Option Int):slicePick U.toArray lo hi none=((U.drop (HT.sIx U.length 0 lo)).take (HT.sIx U.length U.length hi-HT.sIx U.length 0 lo)).toArray:=by obtain⟨a,Z,Y⟩:=V2 lo hi U.toArray.size;unfold slicePick;rw[a,Z,Y];simp only[sliceRange_one,pick_run] <;> rfl
def Fe(K:W.Frag):V->Option Int->Option Int->Hp->VK->Prop:=fun x lo hi H Q=>∃a xs,x=.ref a/\dq K H a xs/\∀p,H p=none->Q (.ref p) (aO H p (.lst (on xs lo hi)))
theorem Rm:ma X (Fe X.K):=by intro t s m H x v o n f l p Q I c k e d h;obtain⟨a,Z,rfl,j,q⟩:=h;cases c;obtain⟨g,r,Y,i⟩:=I.list j;have U:=r.length;refine⟨"list",_,Qen.lookup,Y.isList.typeIs,?_⟩;refine wpAny_getItem_list_slice Y.isList k e d .none `s ?_ `a;rw[Wd,<-U];refine⟨.ref s.heap.objs.size,_,I.laid (fun b u q=>c_ _ q) (k_ _) ?_,rfl,q _ (I.hok.fresh (k_ _))⟩;exact⟨U_ (LF Z f l) i,_,0,(r.drop _).take _,l_ _ rfl⟩
noncomputable def i6:V->Bool
|.non=>true
|.bl _=>true
|.int _=>true
|.str _=>true
|_=>false
noncomputable def jA:V->V->Bool
|.non,.non=>true
|.bl a,.bl b=>a==b
|.bl a,.int b=>(if a then 1 else 0)==b
|.int a,.bl b=>a==(if b then 1 else 0)
|.int a,.int b=>a==b
|.str a,.str b=>a==b
|_,_=>false
theorem Yk(Z:aR y u)(U:aR x v)(d:i6 y=true)(c:i6 x=true):Qd3 A s u v (jA y x):=by cases y with
|non=>cases Z;cases x with
 |non=>cases U;exact QeO _
 |bl b=>cases U;exact SeqAt.EqAt.none_bool b
 |int b=>obtain⟨t,rfl⟩:=U;exact SeqAt.EqAt.none_int b t
 |str b=>obtain⟨t,rfl⟩:=U;exact SeqAt.EqAt.none_str b t
 |_=>exact Q_f (show false=true from c) t_
|bl a=>cases Z;cases x with
 |non=>cases U;exact SeqAt.EqAt.bool_none a
 |bl b=>cases U;exact SeqAt.EqAt.bool_bool a b
 |int b=>obtain⟨t,rfl⟩:=U;exact SeqAt.EqAt.bool_int a b t
 |str b=>obtain⟨t,rfl⟩:=U;exact SeqAt.EqAt.bool_str a b t
 |_=>exact Q_f (show false=true from c) t_
|int a=>obtain⟨Y,rfl⟩:=Z;cases x with
 |non=>cases U;exact SeqAt.EqAt.int_none a Y
 |bl b=>cases U;exact SeqAt.EqAt.int_bool a Y b
 |int b=>obtain⟨t,rfl⟩:=U;exact QcJ a Y b t
 |str b=>obtain⟨t,rfl⟩:=U;exact Qd1 a Y b t
 |_=>exact Q_f (show false=true from c) t_
|str a=>obtain⟨Y,rfl⟩:=Z;cases x with
 |non=>cases U;exact SeqAt.EqAt.str_none a Y
 |bl b=>cases U;exact SeqAt.EqAt.str_bool a Y b
 |int b=>obtain⟨t,rfl⟩:=U;exact Qd2 a Y b t
 |str b=>obtain⟨t,rfl⟩:=U;exact SeqAt.EqAt.str_str a Y b t
 |_=>exact Q_f (show false=true from c) t_
|_=>exact Q_f (show false=true from d) t_
def jL(x:V)(u:a_):Bool:=match u with
|.none=>jA .non x
|.bool b=>jA (.bl b) x
|.int i _=>jA (.int i) x
|.str z _=>jA (.str z) x
|_=>false
theorem tK(r:aR y u)(f:i6 y=true):jL x u=jA y x:=by cases y with
|non=>cases r;rfl
|bl b=>cases r;rfl
|int i=>obtain⟨t,rfl⟩:=r;rfl
|str z=>obtain⟨t,rfl⟩:=r;rfl
|_=>exact Q_f (f) t_
theorem uC:∀{xs:List V}{us:List a_},aJ xs us->xs.all i6=true->us.any (jL x)=xs.any fun y=>jA y x
|_,_,.nil,_=>rfl
|y::xs,u::us,.cons r t,f=>by rw[Ĥ,L_]at f;rw[ĥ,ĥ,tK r f.1,uC t f.2]
theorem pY(Y:aR x v)(Z:i6 x=true):∀{xs:List V}{us:List a_},aJ xs us->xs.all i6=true->∀u∈us,Qd3 A s u v (jL x u)
|_,_,.nil,_=>fun u U=>by cases U
|y::xs,u::us,.cons r t,f=>fun a U=>by
  rw[Ĥ,L_]at f;rcases m_.mp U with rfl|U
  .rw[tK r f.1];exact Yk r Y f.1 Z
  .exact pY Y Z t f.2 a U
def AO(x:V)(xs:List V):Bool:=xs.any fun y=>jA y x
def N8(K:W.Frag)(neg:Bool):R2:=fun x y H Q=>∃p xs,y=.ref p/\(dq K H p xs\/e8 K H p xs)/\i6 x=true/\xs.all i6=true/\Q (.bl (if neg then not (AO x xs) else AO x xs)) H
theorem TW:eu X (ç .In) (N8 X.K false):=by
 intro f s d H x y v u Q I a c h;obtain⟨p,e,rfl,U,b,Y,q⟩:=h;cases c;rcases U with U|U
 .obtain⟨its,r,pl,hz⟩:=I.list U;refine SeqAt.in_listAt _ pl.isList (fun w Z=>pY a b r Y w (by simpa using Z)) ⟨.bl _,H,I,rfl,?_⟩;rw[show its.toArray.any _=its.any (jL x)by simp,uC r Y];exact q
 .obtain⟨its,r,pl,hz⟩:=I.tuple U;refine SeqAt.in_tupleAt _ pl (fun w Z=>pY a b r Y w (by simpa using Z)) ⟨.bl _,H,I,rfl,?_⟩;rw[show its.toArray.any _=its.any (jL x)by simp,uC r Y];exact q
theorem gT.or(h:gT X f r)(h':gT X f r'):gT X f (fun xs H Q=>r xs H Q\/r' xs H Q):=by
 intro a s U H xs Y Q I Z q;rcases q with q|q
 .exact h a s U H xs Y Q I Z q
 .exact h' a s U H xs Y Q I Z q
theorem Wh:gT X (.type "tuple") (fun xs H Q=>∃p U,xs=[.ref p]/\((dq X.K H p U/\∀l,H l=none->Q (.ref l) (aO H l (.tup U)))\/(e8 X.K H p U/\Q (.ref p) H))):=by
 intro k s i H xs j Q I r h;obtain⟨p,U,rfl,h⟩:=h;obtain⟨u,rfl,c⟩:=ik r;cases c;rcases h with⟨Y,q⟩|⟨Y,q⟩
 .obtain⟨its,r',pl,hz⟩:=I.list Y;have Z:=r'.length;refine call_tuple_list pl.isList (fun f d=>?_) `a;have a:=I.kept (t':=s.toks) d;have g:=a.laid (t':=s.toks) (fun b o e=>c_ _ e) (k_ _) (show fJ X.prog X.w _ _ _ (.tup U)from⟨hz,its,r',Qfo _ _,_,l_ _ rfl,rfl⟩);exact⟨.ref f.objs.size,_,g,rfl,q _ (a.hok.fresh (k_ _))⟩
 .obtain⟨its,r',pl,hz⟩:=I.tuple Y;exact call_tuple_same pl ⟨.ref p,H,I,rfl,q⟩
def AF(K:W.Frag)(T:String)(x:V)(H:Hp):Prop:=match x with
|.str _=>T = "str"
|.int _=>T = "int"
| .ref p=>(T = "list"/\∃xs,dq K H p xs)\/(T = "tuple"/\((∃o,K.lookup p=some o/\o.cls=.type "tuple"/\o.dict=none)\/∃xs,Rd H p (.tup xs))) \/
   (T = "dict"/\((∃kvs,Rd H p (.dK kvs))\/∃kvs,H p=some (.dT kvs)))\/(T = "set"/\∃S n,H p=some (.set S n))
|_=>False
theorem Hh{σ:St}(I:Inv X pz σ H s)(r:aR x v)(Y:AF X.K T x H):s.TypeIs v T/\∀a,v=.ref a->∃h,s.heap.get? a=some h/\h.dict=none:=by cases x with
|str z=>obtain⟨t,rfl⟩:=r;cases(Y);exact⟨ū s z t,fun _ e=>nomatch e⟩
|int i=>obtain⟨t,rfl⟩:=r;cases(Y);exact⟨Qe7 s i t,fun _ e=>nomatch e⟩
|ref p=>
  cases r;rcases Y with⟨rfl,j,b⟩|⟨rfl,⟨o,U,f,d⟩|⟨j,b⟩⟩|⟨rfl,U⟩|⟨rfl,S,n,U⟩
  .obtain⟨its,_,pl,_⟩:=I.list b;refine⟨pl.isList.typeIs,fun a e=>?_⟩;cases e;obtain⟨o,n,e,c,d,_⟩:=pl;exact⟨o,e,d⟩
  .refine⟨⟨o,I.kIn p o U,f⟩,fun a e=>?_⟩;cases e;exact⟨o,I.kIn _ o U,d⟩
  .obtain⟨_,its,_,⟨o,ho,f,_⟩,o2,ho2,hd2⟩:=b.ok I.hok;refine⟨⟨o,ho,f⟩,fun a e=>?_⟩
   simp_all
  .have z:∃o,s.heap.get? p=some o/\o.ExactDict:=by
    rcases U with⟨Z,U⟩|⟨Z,U⟩
    .obtain⟨_,_,_,_,o,_,_,e,ex,_⟩:=(U.ok I.hok)
     exact⟨o,e,ex⟩
    .obtain⟨_,_,_,_,o,_,_,e,ex,_⟩:=I.hok p _ U;exact⟨o,e,ex⟩
   obtain⟨o,e,ex⟩:=z;refine⟨⟨o,e,ex.1⟩,fun a g=>?_⟩;cases g;exact⟨o,e,ex.2.1⟩
  .obtain⟨o,_,_,_,e,ex,_⟩:=I.hok p _ U;refine⟨⟨o,e,ex.1⟩,fun a g=>?_⟩;cases g;exact⟨o,e,ex.2.1⟩
|_=>exact Q_ Y
noncomputable def E4(K:W.Frag)(T:String)(r:V->List V->Hp->VK->Prop)(to:TE):TE:=fun σ H Q=>to σ H fun x H1=>AF K T x H1/\r x [] H1 Q
noncomputable def Y9(K:W.Frag)(T:String)(r:V->List V->Hp->VK->Prop)(to:TE)(t:TA):TE:=fun σ H Q=>to σ H fun x H1=>AF K T x H1/\t σ H1 fun xs H2=>r x xs H2 Q
variable{o:Expr}{es:List Expr}{to:TE}{t:TA}{name:Str}{apos cpos:Pos}{T id:String}{r:V->List V->Hp->VK->Prop}
theorem Hs(j:Ŭ T)(a:Slot T name id)(Z:typeOf (.builtin id)=pure (.type "method_descriptor"))(l:ku X id r)(k:PE X o to)(Y:!X_ o name X.env (eval o X.env)=eval o X.env)(U:!(apos.endLine==cpos.line)=true):PE X (.Call (.Attribute o name apos) [] [] cpos) (E4 X.K T r to):=by intro d s b H Q I h;refine wpAny_Call_method0_late Y U (bJ (k d s b H _ I h) fun v g z=>?_);obtain⟨x,p,e,c,f,i⟩:=z;obtain⟨n,m⟩:=Hh e c f;exact⟨T,id,j,a,Z,n,m,Qcf rfl (PySem.evalArgs_none (l d g b p x [] v [] Q e c .nil i))⟩
abbrev k8(X:Cx)(l:List Expr)(c:Pos):Bool:=(backTo c (B_ l X.env)).all (fun x=>not x.1)&&(ô c (ò [] X.env)).all (fun x=>x.1.isSome)&&decide (l.length+([]:List ć).length+(if ([]:List ć).isEmpty then 0 else 1)<30)
theorem Bm(u:Ŭ T)(a:Slot T name id)(L:typeOf (.builtin id)=pure (.type "method_descriptor"))(z:ku X id r)(y:PE X o to)(A:PA X (e::es) t)(Z:!X_ o name X.env (eval o X.env)=eval o X.env)(E:!k8 X (e::es) cpos=true)(Y:!(apos.endLine==cpos.line)=true)(w:!Sx X e es)(U:!Bx X cpos es):PE X (.Call (.Attribute o name apos) (e::es) [] cpos) (Y9 X.K T r to t):=by intro c s b H Q I h;refine wpAny_Call_method_late Z E Y rfl (bJ (y c s b H _ I h) fun v m e=>?_);obtain⟨x,J,g,d,k,q⟩:=e;obtain⟨C,B⟩:=Hh g d k;refine⟨T,id,u,a,L,C,B,?_⟩;have f:=A cpos c m b J _ g q;rw[w]at f ⊢;refine Qcf (by show(false || (backTo cpos (B_ es X.env)).any (·.1))=false;rw[U] <;> rfl) (QdF ?_);exact bJ f fun j l o=>by obtain⟨i,G,F,n,p⟩:=o;exact z c l b G x i v j Q F d n p
end
def Of(X:Cx)(id:String)(r:V->List V->Hp->VK->Prop):Prop:=∀(pz:List (Addr×Obj))(s:d_)(σ:St)(H:Hp)(x:V)(xs:List V)(v:a_)(us:List a_)(Q:VK),Inv X pz σ H s->aR x v->aJ xs us->r x xs H Q ->u_ (y_ X.prog X.w) X.A (call (.builtin id) (v::us)) (EP X pz σ Q) X.xe s
theorem aJ.one(h:aJ [x] us):∃u,us=[u]/\aR x u:=by cases h with
|cons r t=>cases t;exact⟨_,rfl,r⟩
theorem aJ.zero:∀{us:List a_},aJ [] us->us=[]
|_,.nil=>rfl
theorem aJ.dropLast(h:aJ xs us):aJ xs.dropLast us.dropLast:=by induction h with
|nil=>exact .nil
|cons r t U=>cases t with
 |nil=>exact .nil
 |cons q Y=>exact .cons r U
theorem aJ.eraseIdx:∀{xs:List V}{us:List a_}(i:Nat),aJ xs us->aJ (xs.eraseIdx i) (us.eraseIdx i)
|_,_,_,.nil=>.nil
|_,_,0,.cons _ t=>t
|_,_,i+1,.cons r t=>.cons r (aJ.eraseIdx i t)
theorem aJ.rep(h:aJ xs us):∀k:Nat,aJ (j_ k xs).flatten (j_ k us).flatten
|0=>.nil
|k+1=>by exact aJ.append h (aJ.rep h k)
theorem KQ(U:List a_):∀(k:Nat)(Y:List a_),Qe8 (fun a Z=>a++Z) Y.toArray (j_ k U.toArray)=(Y++(j_ k U).flatten).toArray
|0,Y=>by simp
|k+1,Y=>by
  have e:Y.toArray++U.toArray=(Y++U).toArray:=`s
  have b:(Y++U)++(j_ k U).flatten=Y++(j_ (k+1) U).flatten:=`g
  rw[<-b,<-KQ U k _,<-e,QdU,Ř]
variable{pz:List (Addr×Obj)}{σ:St}{H:Hp}{s:d_}
section
variable{l b:Addr}{xs ys zs:List V}
theorem Inv.lset{U its':List a_}(I:Inv X pz σ H s)(d:H l=some (.lst xs))(e:s.heap.get? l=some { cls:=.type "list",data:=.seq U.toArray n })(b:f U.toArray=its'.toArray)(Z:aJ ys its')(Y:ys.length<=sizeLine):Inv X pz σ (aO H l (.lst ys)) { s with heap:=s.heap.update l (Ė f),toks:=t' }:=by have q:=PySem.IsL.update e f;rw[b]at q;refine I.write (by rw[d];exact trivial) (.inl rfl) (fun g u c a=>(Qdm s.heap _ (ê c)).trans a) ⟨_,q⟩ ?_;exact⟨Y,its',_,Z,q⟩
theorem Inv.lnew(I:Inv X pz σ H s)(Z:aJ ys U)(Y:ys.length<=sizeLine):Inv X pz σ (aO H s.heap.objs.size (.lst ys)) { s with heap:=s.heap.push { cls:=.type "list",data:=.seq U.toArray },toks:=t' }:=I.laid (fun _ _ q=>c_ _ q) (k_ _) ⟨Y,U,0,Z,l_ _ rfl⟩
theorem Inv.fresh(I:Inv X pz σ H s):H s.heap.objs.size=none:=I.hok.fresh (k_ _)
theorem Inv.lstM(I:Inv X pz σ H s)(Y:H l=some (.lst xs)):xs.length<=sizeLine/\∃(U:List a_)(n:Nat),aJ xs U/\xs.length=U.length/\s.heap.get? l=some { cls:=.type "list",data:=.seq U.toArray n }:=by obtain⟨z,U,n,r,e⟩:=I.hok l _ Y;exact⟨z,U,n,r,r.length,e⟩
theorem Sz(h:n<=sizeLine):Qb1 n=false:=by unfold Qb1;simp_all
end
def IL:V->List V->Hp->VK->Prop:=fun x vs H Q=>∃l xs y,x=.ref l/\vs=[y]/\H l=some (.lst xs)/\xs.length<sizeLine/\Q .non (aO H l (.lst (xs++[y])))
theorem CU:Of X "list.append" IL:=by intro i s c H x f v g Q I Z a h;obtain⟨l,d,y,rfl,rfl,Y,j,q⟩:=h;cases Z;obtain⟨u,rfl,b⟩:=a.one;obtain⟨z,U,n,r,k,e⟩:=I.lstM Y;refine Å F.slot_list_append ⟨_,e,rfl⟩ F.entry_list_append (F.args_list_append_2 _ _) (PySem.list_append l U.toArray n u (by rw[E_];omega)) ⟨e,?_⟩;refine⟨.non,_,I.lset (its':=U++[u]) Y e `s (r.append (.cons b .nil)) ?_,rfl,q⟩;rw[đ,Qcm];assumption
def Fg:V->List V->Hp->VK->Prop:=fun x vs H Q=>∃l xs y,x=.ref l/\vs=[]/\H l=some (.lst xs)/\xs[xs.length-1]? = some y/\Q y (aO H l (.lst xs.dropLast))
theorem OP:Of X "list.pop" Fg:=by
 intro m s g H x j v k Q I b c h;obtain⟨l,i,y,rfl,rfl,a,f,q⟩:=h;cases b;have U:=c.zero;subst U;obtain⟨z,Z,n,r,p,e⟩:=I.lstM a;obtain⟨u,o,d⟩:=r.get f;have Y:Z.toArray[Z.toArray.size-1]? = some u:=`a
 refine Å F.slot_list_pop ⟨_,e,rfl⟩ F.entry_list_pop (F.args_list_pop_1 _) (MeetsSeq.list_pop_last l Z.toArray n u Y `a) ⟨e,?_⟩;refine⟨y,_,I.lset a e ?_ r.dropLast ?_,d,q⟩
 .simp_all
 grind
def Ff:R2:=fun x y H Q=>∃l k xs,x=.ref l/\y=.int k/\H l=some (.lst xs)/\-(2^63)<=k/\k<2^63/\xs.length*k.toNat<=sizeLine /\∀p,H p=none->Q (.ref p) (aO H p (.lst (j_ k.toNat xs).flatten))
theorem Qx{U:Type}(xs:List U)(k:Nat):(j_ k xs).flatten.length=k*xs.length:=`a
theorem OW:eu X (ĝ .Mult) Ff:=by
 intro K s E H x y v u Q I j i h;obtain⟨l,k,G,rfl,rfl,p,A,w,o,q⟩:=h;cases j;obtain⟨t,rfl⟩:=i;obtain⟨z,b,n,r,L,e⟩:=I.lstM p;have c:b.toArray.size*k.toNat<=sizeLine:=`a
 have Z:¬ b.toArray.size*k.toNat>(2^63-1)/8:=by
  have:(sizeLine)<=(2^63-1)/8:=`d
  omega
 have Y:¬ (not (QcL k))=true:=by
  rw[fitsIndex_both A w]
  simp
 have U:¬ Qb1 (b.toArray.size*k.toNat)=true:=by
  rw[Sz c]
  simp
 have C:Qe8 (fun f d=>f++d) #[] (j_ (if b.toArray.isEmpty=true then 0 else k.toNat) b.toArray)=(j_ k.toNat b).flatten.toArray:=by
  have B:∀m,Qe8 (fun f d=>f++d) #[] (j_ m b.toArray)=(j_ m b).flatten.toArray:=fun m=>by
   have:=KQ b m []
   simp_all
  rw[B];cases b with
 |nil=>simp
 |cons a J=>rw[Q_e `s]
 refine wpAny_binaryOp_repeat_ref (rfl) ⟨_,e,rfl⟩ (fun g=>Qe7 g k t) noFill_list_mul F.fills_int_mul F.slot_int_rmul repeat_list F.slot_int_index.lookup
  (Å F.slot_int_rmul (Qe7 s k t) F.entry_int_rmul (F.args_int_rmul_2 _ _) (int___rmul___int_list k t l b.toArray n)
   ⟨e,rfl,⟨_,e,rfl⟩,Å F.slot_list_mul ⟨_,e,rfl⟩ F.entry_list_mul (F.args_list_mul_2 _ _) (AutoListH.list___mul___list_int_3 l b.toArray n k t Y Z U) ⟨e,?_⟩⟩)
 rw[C];exact⟨.ref _,_,I.lnew (r.rep k.toNat) (by rw[Qx,Qeo];exact o),rfl,q _ I.fresh⟩
section
variable{κ:Type}[DecidableEq κ]
noncomputable def fX(kvs:List (κ×V))(k:κ):Option V:=(kvs.find? fun kv=>decide (kv.1=k)).map (·.2)
noncomputable def eQ(kvs:List (κ×V))(k:κ)(v:V):List (κ×V):=if (kvs.any fun kv=>decide (kv.1=k))=true then kvs.map (fun kv=>if kv.1=k then(kv.1,v)else kv)else kvs++[(k,v)]
theorem zy{k:κ}(e:p.1=k):fX (p::r) k=some p.2:=by simp[fX,Y_,e]
theorem uN{k:κ}(e:¬ p.1=k):fX (p::r) k=fX r k:=by simp[fX,Y_,e]
theorem J4(k:κ):∀U:List (κ×V),(U.any fun Y=>decide (Y.1=k))=(fX U k).isSome
|[]=>rfl
|p::r=>by
  rw[ĥ];by_cases e:p.1=k
  .simp only[zy e,Q_c e,Bool.true_or,Option.isSome_some]
  .rw[uN e,Q_b e,Bool.false_or];exact J4 k r
theorem DQ(U:List (κ×V))(k:κ)(v:V):(eQ U k v).length<=U.length+1:=by
 unfold eQ
 grind
theorem fP.isSome_eq(r:fP o u):o.isSome=u.isSome:=by cases o with
|none=>cases u with
 |none=>rfl
 |some _=>exact(r).elim
|some _=>cases u with
 |none=>exact(r).elim
 |some _=>rfl
theorem KV.val(r:KV U vs)(k:κ):fP (fX U k) (Ķ vs k):=by induction r with
|nil=>exact True.intro
|@cons p q d Y h t a=>
  obtain⟨Z,c⟩:=h;by_cases e:p.1=k
  .have e':=Z.symm.trans e;have b:Ķ (q::Y) k=some q.2:=by simp[Ķ,Y_,e']
   rw[zy e,b];exact c
  .have e':¬ q.1=k:=fun z=>e (Z.trans z);have b:Ķ (q::Y) k=Ķ Y k:=by simp[Ķ,Y_,e']
   rw[uN e,b];exact a
theorem KV.any(r:KV U vs)(k:κ):(U.any fun Y=>decide (Y.1=k))=vs.any fun Y=>decide (Y.1=k):=by
 unfold KV at r
 induction r with
|nil=>rfl
|cons h t Z=>rw[ĥ,ĥ,Z,h.1]
theorem KV.repl(r:KV Y vs)(k:κ)(a:aR y u):KV (Y.map fun U=>if U.1=k then(U.1,y)else U) (vs.map fun U=>if U.1=k then(U.1,u)else U):=by induction r with
|nil=>exact .nil
|@cons p q c b h t Z=>
  refine .cons ?_ Z
  grind
theorem KV.put(r:KV U vs)(k:κ)(Y:aR y u):KV (eQ U k y) (stored vs k u):=by
 unfold eQ stored;rw[r.any k];by_cases e:(vs.any fun Z=>decide (Z.1=k))=true
 .rw[Q_d e,Q_d e];exact r.repl k Y
 .rw[Q_e e,Q_e e];exact Paired.snoc r ⟨rfl,Y⟩
theorem KV.length{vs:List (κ×a_)}(r:KV U vs):U.length=vs.length:=Paired.length r
end
theorem sD(r:aR (kV k) u):(lp P w).is k u=true:=by cases k with
|inl i=>obtain⟨t,e⟩:=(r);subst e;exact(show lf (.inl i) (.int i t)=true by simp[lf,Qfs])
|inr x=>obtain⟨t,e⟩:=(r);subst e;exact zK x t
theorem Kx:∀{U:List bO}{us:List a_},aJ (U.map kV) us->ItemsAre (lp P w) U us
|[],_,r=>by cases r;exact .nil
|k::U,_,r=>by cases r with
 |cons h t=>exact .cons (sD h) (Kx t)
abbrev KT(H:Hp):List (List bO×V)->List (List bO×Addr×a_)->Prop:=Paired fun p q=>p.1=q.1/\H q.2.1=some (.tup (p.1.map kV))/\aR p.2 q.2.2
theorem KT.val(r:KT H U xs)(k:List bO):fP (fX U k) ((č xs k).map (·.2)):=by induction r with
|nil=>exact True.intro
|@cons p q d Y h t a=>
  obtain⟨Z,_,c⟩:=h;by_cases e:p.1=k
  .have e':=Z.symm.trans e;have b:č (q::Y) k=some q.2:=by simp[č,Y_,e']
   rw[zy e,b];exact c
  .have e':¬ q.1=k:=fun z=>e (Z.trans z);have b:č (q::Y) k=č Y k:=by simp[č,Y_,e']
   rw[uN e,b];exact a
theorem KT.repl(r:KT H U xs)(k:List bO)(b:aR y u):KT H (U.map fun Z=>if Z.1=k then(Z.1,y)else Z) (xs.map (putAt k u)):=by induction r with
|nil=>exact .nil
|@cons p q g f h t c=>
  rw[í,í];refine .cons ?_ c;obtain⟨Y,a,d⟩:=h;unfold putAt;by_cases e:p.1=k
  .rw[Q_d e,Q_d (Y.symm.trans e)];exact⟨Y,a,b⟩
  .rw[Q_e e,Q_e (fun z=>e (Y.trans z))];exact⟨Y,a,d⟩
theorem KT.put(r:KT H U xs)(k:List bO)(a:H b=some (.tup (k.map kV)))(Y:aR y u):KT H (eQ U k y) (storedH xs k b u):=by
 have e:(U.any fun Z=>decide (Z.1=k))=(č xs k).isSome:=by rw[J4,(r.val k).isSome_eq,Qc0]
 unfold eQ storedH;rw[e];by_cases q:(č xs k).isSome=true
 .rw[Q_d q,Q_d q];exact r.repl k Y
 .rw[Q_e q,Q_e q];exact Paired.snoc r ⟨rfl,a,Y⟩
theorem KT.keeps(r:KT H U xs)(a:∀b Y,H b=some (.tup Y)->Z b=some (.tup Y)):KT Z U xs:=Paired.mapP r fun _ _ z=>⟨z.1,a _ _ z.2.1,z.2.2⟩
variable{a:Addr}
section
variable{P:o_}{w:F_}{h:Heap}
theorem GD(U:HOk P w H h)(e:Rd H a u):fJ P w H h a u:=e.ok U
theorem q8(Y:HOk P w H h)(e:Rd H a (.dK U)):U.length<=sizeLine/\(a==Û)=false/\∃vs,KV U vs/\h.DictOf (lp P w) a vs:=GD Y e
theorem tw(Z:HOk P w H h)(e:H a=some (.tup (Y.map kV))):(ŭ (lp P w)).is h Y a:=by
 obtain⟨_,U,r,⟨o,d,c,n,b⟩,_⟩:=(Z a _ e)
 exact⟨o,U.toArray,n,d,c,b,by simpa using Kx r⟩
theorem sv(b:HOk P w H h)(e:Rd H a (.dT U)):U.length<=sizeLine/\(a==Û)=false /\∃xs,KT H U xs/\h.DictOfH (ŭ (lp P w)) a xs:=by
 obtain⟨z,y,xs,r,o,k,n,j,i,g,f,d⟩:=(GD b e)
 refine⟨z,y,xs,r,o,k,n,j,i,g,f,fun x Y=>?_,d⟩;have Z:∀{l:List _}{m:List _},KT H l m->∀x∈m,(ŭ (lp P w)).is h x.1 x.2.1:=by
  intro l m q
  induction q with
 |nil=>simp_all
 |@cons p q u s v t c=>
   intro x Y;rcases m_.mp Y with e|Y
   .exact tw b `a
   .exact c x Y
 exact Z r x Y
end
def mv(H:Hp)(a:Addr)(y:V)(r:Option V):Prop:=(∃kvs k,Rd H a (.dK kvs)/\y=kV k/\r=fX kvs k)\/∃kvs k b,Rd H a (.dT kvs)/\y=.ref b/\H b=some (.tup (k.map kV))/\r=fX kvs k
def mr(H:Hp)(a:Addr)(y v:V)(H':Hp):Prop:=(∃kvs k,H a=some (.dK kvs)/\y=kV k/\kvs.length<sizeLine/\H'=aO H a (.dK (eQ kvs k v))) \/∃kvs k b,H a=some (.dT kvs)/\y=.ref b/\H b=some (.tup (k.map kV))/\kvs.length<sizeLine/\H'=aO H a (.dT (eQ kvs k v))
theorem mr.k{k:bO}(e:H a=some (.dK U))(Y:U.length<sizeLine):mr H a (kV k) v (aO H a (.dK (eQ U k v))):=.inl ⟨U,k,e,rfl,Y,rfl⟩
variable{u:a_}{A:I_}{E:a_->d_->Prop}
section
variable{y v:V}{r:a_}{o:Option V}
theorem Tl(n:A.units+1<á)(I:Inv X pz σ H s)(g:mv H a y (some v))(m:aR y u)(h:∀w' j,Inv X pz σ H j->aR v w'->Q w' j):u_ (y_ X.prog X.w) A (Ć (.ref a) u) Q E s:=by
 rcases g with⟨c,k,e,f,l⟩|⟨c,k,b,e,f,r,l⟩
 .subst f;obtain⟨z,q,x,U,i⟩:=q8 I.hok e;obtain⟨w',d,Y⟩:=fP.some_of (by rw[l];exact U.val k);exact wpAny_getItem_of (sD m) i.mapOf d (h w' _ (I.tok _) Y)
 .subst f;cases(m);obtain⟨z,q,t,U,i⟩:=sv I.hok e;obtain⟨w',d,Y⟩:=fP.some_of (by rw[l];exact U.val k);obtain⟨p,o,Z⟩:=Ţ.mp d;refine wpAny_getItem_heap (ť n) (tw I.hok r) i o ?_;rw[Z];exact h w' _ (I.tok _) Y
theorem FK(j:A.units+1<á)(I:Inv X pz σ H s)(g:mv H a y o)(i:aR y u)(h:∀f,Inv X pz σ H f->Q (.bool o.isSome) f):u_ (y_ X.prog X.w) A (ç .In u (.ref a)) Q E s:=by
 rcases g with⟨Y,k,e,c,l⟩|⟨Y,k,b,e,c,m,l⟩
 .subst c;obtain⟨z,Z,p,U,d⟩:=q8 I.hok e;refine wpAny_in_of (sD i) Z d.mapOf ?_;rw[<-(U.val k).isSome_eq,<-l];exact h _ (I.tok _)
 .subst c;cases(i);obtain⟨z,Z,n,U,d⟩:=sv I.hok e;refine wpAny_in_heap (ť j) (tw I.hok m) Z d ?_;have q:=(U.val k).isSome_eq;rw[Qc0]at q;rw[<-q,<-l];exact h _ (I.tok _)
theorem QP(j:A.units+1<á)(I:Inv X pz σ H s)(g:mv H a y o)(i:aR y u)(h:∀f,Inv X pz σ H f->Q (.bool (not o.isSome)) f):u_ (y_ X.prog X.w) A (ç .NotIn u (.ref a)) Q E s:=by
 rcases g with⟨Y,k,e,c,l⟩|⟨Y,k,b,e,c,m,l⟩
 .subst c;obtain⟨z,Z,p,U,d⟩:=q8 I.hok e;refine wpAny_notIn_of (sD i) Z d.mapOf ?_;rw[<-(U.val k).isSome_eq,<-l];exact h _ (I.tok _)
 .subst c;cases(i);obtain⟨z,Z,n,U,d⟩:=sv I.hok e;refine wpAny_notIn_heap (ť j) (tw I.hok m) Z d ?_;have q:=(U.val k).isSome_eq;rw[Qc0]at q;rw[<-q,<-l];exact h _ (I.tok _)
theorem Hy(I:Inv X pz σ H s)(Z:wW (H a))(c:ĺ a s.heap h')(d:∃q,h'.get? a=some q)(Y:fJ X.prog X.w (aO H a U) h' a U):Inv X pz σ (aO H a U) { s with heap:=h',toks:=t' }:=I.write Z (.inl rfl) (fun b q e z=>(c.2 b e).trans z) d Y
theorem Tn(M:A.units+1<á)(I:Inv X pz σ H s)(g:mr H a y v J)(x:aR y u)(B:aR v r)(h:∀t,Inv X pz σ J t->Q () t):u_ (y_ X.prog X.w) A (setItem (.ref a) u r) Q E s:=by
 rcases g with⟨Z,k,e,o,l,p⟩|⟨Z,k,b,e,o,G,l,p⟩
 .subst o p;obtain⟨z,d,L,U,f⟩:=q8 I.hok (.inl e);have j:L.length<=sizeLine:=by rw[<-U.length];exact z
  have n:(eQ Z k v).length<=sizeLine:=by have:=DQ Z k v;omega
  refine wpAny_setItem_pairs (hsz:=j) (sD x) f fun C Y m=>h _ ?_;have N:∃q,C.get? a=some q:=let⟨q,_,_,i,_⟩:=Y;⟨q,i⟩;exact Hy I (by rw[e];exact True.intro) m N ((fun z d U f=>⟨z,d,_,U,f⟩) n d (U.put k B) Y)
 .subst o p;cases(show u=Value.ref b from x);obtain⟨z,d,K,U,f⟩:=sv I.hok (.inl e);have j:K.length<=sizeLine:=by rw[<-Paired.length U];exact z
  have n:(eQ Z k v).length<=sizeLine:=by have:=DQ Z k v;omega
  refine wpAny_setItem_heap (hsz:=j) (ť M) (tw I.hok G) f fun C Y m=>h _ ?_;obtain⟨q,W,ep,i,T,R,P,_,O⟩:=Y;refine Hy I (by rw[e];exact True.intro) m ⟨q,i⟩ ⟨n,d,_,(U.put k G B).keeps fun c ys F=>?_,q,W,ep,i,T,R,P,O⟩;rw[bL (ne_of F e (fun z=>nomatch z))];exact F
end
section
variable{kvs:List (bO×V)}{k:bO}
theorem XV(I:Inv X pz σ H s)(e:Rd H a (.dK kvs))(h:∀t Y,Inv X pz σ H Y->Q (.int kvs.length t) Y):u_ (y_ X.prog X.w) A (call (.builtin "len") [.ref a]) Q E s:=by obtain⟨z,Z,c,U,b⟩:=q8 I.hok e;refine call_len_dict Z b (by rw[<-U.length];rw[G_]at z;omega) ?_;rw[<-U.length];exact h _ _ (I.tok _)
end
theorem RN(h:Heap)(U:Û<h.objs.size):fJ P w H (h.push { cls:=.type "dict",data:=.dict #[] }) h.objs.size (.dK []):=⟨é _,beq_eq_false_iff_ne.mpr (ê (H_ U)),[],.nil,Heap.DictOf.new h⟩
def PF:TE:=fun _ H Q=>∀p,H p=none->Q (.ref p) (aO H p (.dK []))
theorem SX:PE X (.Dict [] [] pos) PF:=fun Y s U H Q I h=>wpAny_Dict_empty ⟨.ref s.heap.objs.size,_,I.laid (fun _ _ q=>c_ _ q) (k_ _) (RN s.heap (by have h:=(I.mod.glob.keeps I.bk).lt;exact Qeq `d h)),rfl,h _ (I.hok.fresh (k_ _))⟩
def rA(kvs more:List (bO×V)):List (bO×V):=more.foldl (fun acc kv=>eQ acc kv.1 kv.2) kvs
theorem KV.merge:∀{U:List (bO×V)}{Z:List (bO×a_)}{Y:List (bO×V)}{vs:List (bO×a_)},KV U Z->KV Y vs->KV (rA Y U) (merged vs Z):=by
 intro U Z Y vs r
 induction r generalizing Y vs with
|nil=>intro q;exact q
|@cons p q d c h t b=>
  intro a;have e:KV (eQ Y p.1 p.2) (stored vs q.1 q.2):=by
   have:=a.put p.1 h.2
   simp_all
  exact b e
theorem My:∀(Y U:List (bO×V)),(rA U Y).length<=U.length+Y.length
|[],U=>by show U.length<=U.length+0;omega
|p::r,U=>by
  have a:=My r (eQ U p.1 p.2);have Z:=DQ U p.1 p.2;show(rA _ r).length<=_
  grind
end L2
namespace Att
open PySem PySem.W PySem.Calls PyProof.Rows
theorem WT:∀(U:List Int)(vs:List a_),WellAll P h vs (U.map WData.int)->õ vs U:=by
 intro U
 induction U with
|nil=>intro vs w;cases w;exact .nil
|cons n U Y=>intro vs w;cases w with
 |cons a b=>cases a;exact .cons _ _ (Y _ b)
theorem Uc{l:OpenLaw}(t:l.most=some n)(Y:l.row.toRowW.claim.pre args=true)(q:WellAll P h U args):∃a vs b,U=[Value.ref a]/\args=[WData.list (b.map WData.int)]/\h.get? a=some { cls:=.type "list",data:=.seq vs.toArray }/\õ vs b/\b.length<=n:=by
 have Z:=(pre_splitW Y).1;have k:l.pre.holds [] { args:=args }=true:=(pre_splitW Y).2;obtain⟨d,r,rfl,p,o⟩:=hasAllW_cons Z;obtain rfl:=hasAllW_nil o;obtain⟨s,rfl,m⟩:=hasW_list p;obtain⟨b,rfl⟩:=items_int m;have c:b.length<=n:=by
  have f:(WTm.not (.lt (.lit (.int (n))) (.len (.arg 0)))).holds [] { args:=[.list (b.map .int)] }=true:=by have f:=(holds_andW k).1;simp_all
  have u:=condW_of f (w_not (w_lt w_lit (w_len_list (w_arg rfl))));simp_all
 cases q with
|cons i g=>cases g;cases i with
 |list j e=>exact⟨_,_,b,rfl,rfl,j,WT b _ e,c⟩
theorem attach_call{l:OpenLaw}(B:l.most=some n)(O:d.params.defaults=[])(i:∀(w:F_)(c b:d_)(m mb:Str->Option a_)(h:Addr)(o:Obj)(s p e:a_)(a:Addr)(vs:List a_)(k:List Int),Ground q U [] y w c m mb b.heap->x w b.heap ->b.heap.get? h=some o->o.data=.func (docDef d.name d.params d.body d.scope s p e)->b.heap.CodeRec p d.name->m d.name=some (.ref h) ->b.heap.get? a=some { cls:=.type "list",data:=.seq vs.toArray }->õ vs k->k.length<=n->b.gens = #[] ->Ï (y_ l.prog w) Ĉ (.call (.ref h) ⟨[.ref a],[]⟩) (fun r j=>r=.ok (.ret (.bool true))/\OldK b.heap j.heap/\j.os=b.os/\Á j.gens) b):WalkO q U y x l.row.toRowW d [] (fun f vs=>PySem.call f vs):=by
 intro w c b m mb G Y h o s p e L kV A F M u t E v W Q K X R N T;obtain rfl:L=.none:=Dflts.none u O;obtain rfl:kV=.none:=Dflts.noKw u;obtain⟨a,vs,k,rfl,rfl,P,Z,g⟩:=Uc B K N;refine enter_call (Ú (i w c b m mb h o s p e a vs k G Y A (fd_plain F) M t P Z g E) fun r j z=>?_);obtain⟨rfl,J,I,H⟩:=z;exact⟨.inl ⟨_,_,[],rfl,fun _=>rfl,.bool true,(postW_of
     (by first|rfl|decide|grind)
     (w_eq_bool (w_res rfl) w_lit) rfl),fun _=>⟨List.Pairwise.nil,fun _ C=>(nomatch C)⟩⟩,J,I,H⟩
end Att
namespace L2
open PySem PySem.Spec PyProof.Rows
theorem Kt:∀{vs:List a_}{U:List Int},õ vs U->aJ (U.map V.int) vs
|_,_,.nil=>.nil
|_,_,.cons n t h=>.cons ⟨t,rfl⟩ (Kt h)
def qO(H:Hp):Prop:=∀b,H b=none\/∃o xs,H b=some (.frz o (.lst xs))
theorem Ss{K:W.Frag}{G:Sp}{c:d_}{vs:List a_}{p:List Int}(M:K.In c.heap)(Q:c.heap.Ns M_ i)(g:c.heap.Ns QeW mb)(KK:∀x:Str,x≠"__name__"->mb x=Ą x)(IO:c.heap.NoLimit)(hg:c.gens = #[])(B:c.heap.get? a=some { cls:=.type "list",data:=.seq vs.toArray })(hi:õ vs p)(hl:p.length<=sizeLine)(hr:Room k Ĉ)(F:∀base:Heap,K.In base->base.Ns M_ i->FnOk P w K i base O k C L [x] G)(dl:∀(s:d_)(u:a_),ğ s L ⟨[u],[]⟩ [(x,u)])(LE:∀H:Hp,qO H->dq K H a (p.map V.int)->G [.ref a] H (fun v _=>v=.bl true) fun _ _ _=>False)(LT:∀H e f,O [] H c (fun _ _ _=>False) e f->False):Ï (y_ P w) Ĉ (.call (.ref C) ⟨[.ref a],[]⟩) (fun r f=>r=.ok (.ret (.bool true))/\OldK c.heap f.heap/\f.os=c.os/\Á f.gens) c:=by
 have I:=Kt hi;have Tm:=hi.length;have Z:∀H:Hp,qO H->dq K H a (p.map V.int)->HOk P w H c.heap->(∀b,H b≠none->b=a)->(H a≠none->K.lookup a=none) ->Ï (y_ P w) Ĉ (.call (.ref C) ⟨[.ref a],[]⟩) (fun r f=>r=.ok (.ret (.bool true))/\OldK c.heap f.heap/\f.os=c.os/\Á f.gens) c:=by
  intro H J hS j hA hK;have U:∀{b:Addr}{o:Obj},c.heap.get? b=some o->H b=none->(og c.heap H).get? b=some o:=fun e n=>W.hideAll_get _ e fun hm=>by have q:=(C_.mp hm).2;simp_all
  have ST:∀{b:Addr}{o:Obj}{t:Array ĵ}{y:Nat},c.heap.get? b=some o->o.data=.dict t y->H b=none:=fun{b o t y} e d=>by grind
  have Y:∀{b:Addr}{m:Str->Option a_},c.heap.Ns b m->(og c.heap H).Ns b m:=fun{b m} k=>by obtain⟨o,t,y,e,d,r⟩:=k;exact ⟨o,t,y,U e (ST e d),d,r⟩
  have N:=fun b o e=>U (M b o e) `g;have hM:Mod K i _:=⟨N,Y Q,⟨mb,Y g,KK⟩,let⟨mc,h1,h2⟩:=IO;⟨mc,Y h1,h2⟩⟩
  have e0:Env0 P w K i _ Ĉ [] c H:=⟨rfl,hM,fun b o e=>P7 e,ł ((fun h H=>W.hideAll_size _ _) _ _),trivial,fun b g=>Q_f (show b∈([])from g) `s,j,.of_eq hg⟩
  refine Ú ((F _ N (Y Q)).run Ĉ [] c H _ [.ref a] [.ref a] _ _ hr e0 (dl c (.ref a)) (.cons rfl .nil) (LE H J hS)) fun r f h=>?_;cases r with
 |error e=>exact(LT H e f h).elim
 |ok fl=>cases fl with
  |next=>exact Q_ h
  |brk=>exact Q_ h
  |cont=>exact Q_ h
  |ret u=>obtain⟨v,H',X,l,E,Id,R,q⟩:=h;have T:=q;subst T;obtain rfl:u=Value.bool true:=R;refine⟨rfl,OldK.of_keep fun b o e=>?_,X,l⟩;cases q:H b with
   |none=>exact E.keep b o e q (by intro z;exact Q_f (show b∈([])from z) `s) `s
   |some u=>
     rcases J b with z|⟨ob,xs,z⟩
     .rw[q]at z;cases z
     .have z2:=E.frzs b ob _ z;obtain⟨e1,_⟩:=j b _ z;obtain⟨e2,_⟩:=Id b _ z2;simp_all
 cases A:K.lookup a with
|some o=>have e:=M a o A;rw[B]at e;cases e;refine Z _ (fun _=>.inl rfl) (.inr ⟨_,vs.toArray,_,A,rfl,rfl,rfl,`a,by simpa using I⟩) (fun b u z=>`a) `a fun z=>Q_f rfl z
|none=>
  refine Z (fun b=>if b=a then some _ else none) (fun b=>?_) (.inl (.inr ⟨{ cls:=.type "list",data:=.seq vs.toArray },Q_d rfl⟩)) (fun b u z=>?_) (fun b z=>?_) fun _=>A
  .grind
  .by_cases g:b=a
   .have z':=(Q_d g).symm.trans z;cases z';subst g;exact⟨B,`z,vs,_,I,B⟩
   simp_all
  simp_all
noncomputable abbrev dR{K:W.Frag}{h:Heap}(_:K.In h):W.Frag:=K
theorem nM{l:W.OpenLaw}{K:Params->W.Frag}{E:F_->je}{A:F_->Sp}{x:Str}(J:l.most=some n)(Id:n<=sizeLine)(BT:d.params.defaults=[])(I:Room k Ĉ)(N:∀(w:F_)(h:Heap),B w h->(K w.params).In h)(F:∀(w:F_)(i:Str->Option a_)(p:Addr)(h:Heap),(K w.params).In h->h.Ns M_ i->i d.name=some (.ref p) ->∃y:à,(∀(s:d_)(u:a_),ğ s y ⟨[u],[]⟩ [(x,u)]) /\∀base:Heap,(K w.params).In base->base.Ns M_ i->FnOk l.prog w (K w.params) i base (E w) k p y [x] (A w))(Cl:∀(w:F_)(H:Hp)(a:Addr)(m:List Int),m.length<=n->qO H->dq (K w.params) H a (m.map V.int)->A w [.ref a] H (fun v _=>v=.bl true) fun _ _ _=>False)(IO:∀(w:F_)(H:Hp)(s:d_)(e:a_)(r:d_),E w [] H s (fun _ _ _=>False) e r->False):W.WalkO q U XP B l.row.toRowW d [] (fun f vs=>PySem.call f vs):=by refine Att.attach_call J BT fun w z j i mb p o pm cd R a vs m G Y ho hd KK t X Z c L=>?_;have C:=N w _ Y;obtain⟨y,M,Q⟩:=F w i p _ C G.T.g t;exact Ss C G.T.g G.T.b G.T.builtins G.T.nolimit L X Z (U_ c Id) I Q M (fun H P O=>Cl w H a m c P O) fun H e r=>IO w H j e r
noncomputable def aM(s:Stmt):Arguments:=match s with
|.FunctionDef _ a _ _ _ _ _ _ _ _=>a
|_=>{ posonlyargs:=[],args:=[],vararg:=none,kwonlyargs:=[],kw_defaults:=[],kwarg:=none,defaults:=[] }
noncomputable def aH(s:Stmt):List Stmt:=match s with
|.FunctionDef _ _ b _ _ _ _ _ _ _=>b
|_=>[]
noncomputable def aA(s:Stmt):ã:=match s with
|.FunctionDef _ _ _ _ _ _ sc _ _ _=>sc
|_=>{ kind:=.function,names:=[],isGenerator:=false,isCoroutine:=false }
abbrev eN:je:=fun _ _ _ _ _ _=>False
abbrev E0:XK:=fun _ _ _=>False
theorem mT:mz eN X E0:=fun _ _ _ _ _ _ _ h=>h.elim
structure Fun(K:W.Frag)(x qual:Str)(st:Stmt)(f:Addr)(fd:à):Prop where
 ex:∃(oc:a_)(od:Option Addr)(kV doc pm:a_)(an:Option Addr)(cdv ct:a_)(osl:Array (Option a_)),fd=W.fnOf x qual (aM st) (aH st) (aA st) .none kV doc pm an cdv ct/\K.lookup f=some ⟨oc,od,.func fd,osl⟩/\W.codeIn K cdv qual=true
 kp:W.keepIn K (.ref f)=true
section
variable{P:o_}{w:F_}{K:W.Frag}{mg:Str->Option a_}{base:Heap}
theorem Fun.ok{st:Stmt}(F:Fun K x b st f i)(S:FnScope N e (aA st))(g:∀vs H Q E,d vs H Q E->vs.length=e.length)(U:∀(c:a_)(A:I_)(a:List Env)(s:d_)(H:Hp)(vs:List V)(Q:VK)(E:XK),Room k (A.deeper (â b (aA st) s.heap.objs.size f c))->d vs H Q E ->∃t,d7 (dm eN P w K mg base N b (aA st) f c A a s H E).nox (aH st) t/\t { nx:=fun _ o=>Q .non o,rt:=Q } (aX N vs) H):FnOk P w K mg base eN (k+1) f i e d:=by obtain⟨u,r,kV,n,p,y,c,v,j,rfl,l,Y⟩:=F.ex;refine xG l Y S g fun A a s H vs Q E m Z=>?_;obtain⟨t,h,q⟩:=U c A a s H vs Q E m Z;exact⟨t,h.nox,q⟩
abbrev k4(x Y:Str)(st:Stmt)(b:List Str):Prop:=∀(kV Z c:a_)(e:Option Addr)(a d:a_)(us:List a_),us.length=b.length->è (W.fnOf x Y (aM st) (aH st) (aA st) .none kV Z c e a d) ⟨us,[]⟩=pure (b.zip us)
theorem Fun.binds{st:Stmt}(F:Fun K x Y st f g)(h:k4 x Y st b):gO K g b []:=by obtain⟨k,j,kV,Z,c,e,a,d,i,rfl,l,U⟩:=F.ex;exact .all (h kV Z c e a d)
theorem dG{st:Stmt}{kV Z b Y d:a_}(l:K.lookup f=some ⟨h,g,.func (W.fnOf x U (aM st) (aH st) (aA st) .none kV Z b e Y d),a⟩)(c:W.codeIn K Y U=true)(k:W.keepIn K (.ref f)=true):Fun K x U st f (W.fnOf x U (aM st) (aH st) (aA st) .none kV Z b e Y d):=⟨⟨h,g,kV,Z,b,e,Y,d,a,rfl,l,c⟩,k⟩
end
theorem lB(U:Room k A):A.units+1<á:=Qd8 `a U.units
end L2
end
namespace DL
open PySem
section
open PySem.SeqAt
open PySem.AutoSeq1 (wpAny_loadPart')
open PySem.MeetsSeq PySem.MeetsSeq2 PySem.MeetsSeq3
end
end DL
namespace DL
open PySem PyProof.Rows
theorem VT:isSubtype (.type "tuple") (.type "set")=pure false:=by rw[isSubtype_type];kernel_rfl
theorem V4:isSubtype (.type "tuple") (.type "frozenset")=pure false:=by rw[isSubtype_type];kernel_rfl
section
variable{prog:o_}{w:F_}{A:I_}{E:a_->d_->Prop}{s:d_}
noncomputable abbrev iy(led:Bool):Obj:={ cls:=.type "set",dict:=none,data:=.set #[] 0 (.fresh 0 0 led) }
def Bu(prog:o_)(w:F_)(s:d_)(ns:List Int)(n:Nat)(h':Heap):Prop:=h'.SetOf (intKind prog w) s.heap.objs.size (fun k=>(Ń (fun i=>ns.getD i 0) n).any (· == k)) (Ń (fun i=>ns.getD i 0) n).length/\∀b o,b<s.heap.objs.size->s.heap.get? b=some o->h'.get? b=some o
set_option maxHeartbeats 3200000 in
theorem V9(I:A.handled=none)(H:s.heap.IsTuple t U)(hi:õ U.toList n)(J:U.size+1<ú)(L:∀h' r,Bu prog w s n U.size h'->R (.ok (.ret .none)) { s with heap:=h',toks:=r }):u_ (y_ prog w) A.in1 (ì.«set.__init__» ⟨[.ref s.heap.objs.size,.ref t],[]⟩) (fun fin Y=>match fin with|.done f=>R (.ok f) Y|.again E=>E.quiet=true/\Ï (y_ prog w) A E R Y) (fun e Y=>R (.error e) Y) { s with heap:=s.heap.push (iy led) }:=by
 obtain⟨⟨C,u,x,m⟩,g,j,F,h⟩:=H;simp only at j h;subst j;subst h;have d:=c_ (iy led) g;have O:=VT;have N:=V4;have M:(Value.type "tuple" == Value.type "dict")=false:=`d
 have l:(s.heap.push (iy led)).IsTuple t U:=⟨_,d,rfl,F,rfl⟩
 have K:(s.heap.push (iy led)).get? s.heap.objs.size=some (iy led):=l_ _ rfl;unfold ì.«set.__init__» noKeywords QeP;generalize B:ķ=PI
 wp_walk
 subst B;refine ĭ l (b_ (wpAny_runValue ?_));have Z:t<s.heap.objs.size:=n_ g;have q:(s.heap.push (iy led)).objs.size=s.heap.objs.size+1:=Ê ..;have y:t≠(s.heap.push (iy led)).objs.size:=by rw[q];exact H_ (Ħ Z)
 have c:s.heap.objs.size∉[(s.heap.push (iy led)).objs.size,t]:=by rw[q];simp only[m_,Ó,Q_j,not_or];exact⟨H_ (ħ _),ÿ Z⟩
 have a:∀(i:Nat)(v:a_),U[i]? = some v->∃r,v=.int ((fun i=>n.getD i 0) i) r:=fun i v G=>QdH hi i v (by rw[Qdx];exact G);refine codeAny_set_update_loopS ((Walks.tuple (A:=A.in1.in1) I _ t y U).toS) s.heap.objs.size c (fun i=>n.getD i 0) a J (U.size-0) 0 _ `r (é _) ⟨⟨_,l_ _ rfl,rfl,rfl⟩,l.push _⟩ ?_ fun Y p z=>?_
 .exact SetOf_congr ((setObjOf_fresh (knd:=intKind prog w) led).setOf (c_ _ K) (by unfold ú;omega)) (fun _=>rfl) rfl
 .obtain⟨h',g',d',tk',os'⟩:=Y;obtain rfl:g'=s.gens:=p.gens;obtain rfl:d'=s.drawn:=p.drawn;obtain rfl:os'=s.os:=p.os;show u_ _ _ _ _ _ _;refine f_ ?_;show u_ _ _ (ret Value.none) _ _ _;refine f_ (L h' tk' ⟨z,fun b o k e=>?_⟩);refine p.heap b o ?_ (c_ _ (c_ _ e));rw[q];simp only[m_,Ó,Q_j,not_or];exact⟨H_ k,H_ (Ħ k)⟩
set_option maxHeartbeats 3200000 in
theorem VJ(n:A.handled=none)(m:s.heap.IsTuple t U)(hi:õ U.toList i)(o:U.size+1<ú)(h:∀h' d,Bu prog w s i U.size h'->Q (.ref s.heap.objs.size) { s with heap:=h',toks:=d }):u_ (y_ prog w) A (call (.type "set") [.ref t]) Q E s:=by
 obtain⟨c,v,l⟩:=F.called_set.mro;have H:=F.called_set.made;have G:=F.called_set.sub;refine Ä (codeAny_of_tree ?_);show u_ _ _ (callAny (.type "set") _) _ _ _;refine f_ ⟨QcM _ `k,codeAny_builtin F.entry_type_call ?_⟩;rw[Around.under_plain (weight_type_call_type "set" [.ref t] []) rfl];have C:=F.called_set.notType;have B:=F.called_set.canCreate;have z:=F.typeCall_set_1 (.ref t)
 repeat (any_goals (first|assumption|wp_step))
 refine Ú (code_set_new_1 (.ref t) (E:=E) (Q₁:=fun g a=>∃led:Bool,g=.ref s.heap.objs.size/\a={ s with heap:=s.heap.push (iy led) }) fun led=>⟨led,rfl,rfl⟩) fun r a j=>?_;cases r with
|error e=>exact j
|ok u=>cases u with
 |ret g=>
   obtain⟨led,rfl,rfl⟩:=j;have p:Shared.TypeIs { s with heap:=s.heap.push (iy led) } (.ref s.heap.objs.size) "set" := ⟨_,l_ _ rfl,rfl⟩
   have y:=F.called_set.init.lookup;have x:=F.called_set.init.bind (.ref s.heap.objs.size)
   repeat (any_goals (first|assumption|wp_step))
   refine Ú (Ň (R:=wants (fun r Z=>r=.none/\∃h' d,Z={ s with heap:=h',toks:=d }/\Bu prog w s i U.size h') E) F.called_set.init.plain F.entry_set_init (check_set_init_1 p ?_)) fun f Z Y=>?_
   .refine V9 (A:=A.in1) (led:=led) n m hi o fun q d k=>?_;exact⟨rfl,q,d,rfl,k⟩
   .cases f with
   |error e=>exact Y
   |ok b=>cases b with
    |ret r=>
      obtain⟨rfl,h',d,rfl,k⟩:=Y
      repeat (any_goals (first|assumption|wp_step))
      exact h _ _ k
    |_=>exact Y.elim
 |_=>exact j.elim
end
end DL
namespace DL
open PySem PyProof.Rows PySem.W
noncomputable def tu{α:Type}(c:Nat->Nat->Bool):KasT α->α
|.ret a=>a
|.ask i j k=>tu c (k (c i j))
inductive Asks(n:Nat){α:Type}(P:α->Prop):KasT α->Prop where
 |ret {a:α}:P a->Asks n P (.ret a)
 |ask {i j:Nat} {k:Bool->KasT α}:i<n->j<n->(∀b,Asks n P (k b))->Asks n P (.ask i j k)
theorem Asks.bind{f:U->KasT Y}(h:Asks n P t)(c:∀a,P a->Asks n Z (f a)):Asks n Z (t.bind f):=by induction h with
|ret h=>exact c _ h
|ask e d _ b=>exact .ask e d b
theorem Asks.run{t:KasT U}(h:Asks n P t)(c:Nat->Nat->Bool):P (tu c t):=by induction h with
|ret h=>exact h
|ask _ _ _ Y=>exact Y _
theorem TZ(a:∀i j C,i<n->j<n->C (c i j) s->U i j C s){t:KasT Y}(h:Asks n P t):Q (tu c t) s->t.kasWp U Q s:=by induction h with
|ret _=>exact fun q=>q
|ask d b _ Z=>exact fun q=>a _ _ _ d b (Z _ q)
def ii(n:Nat)(p:Array Nat):Prop:=p.toList.Perm (x_ n)
theorem ii.bd(h:ii n p)(Y:0<n)(k:Nat):p.getD k 0<n:=by
 by_cases U:k<p.size
 .have e:p.getD k 0=p[k]:=by simp[Array.getD,U]
  rw[e];exact D_.mp (h.mem_iff.mp `s)
 simp_all
theorem ii.rev(h:ii n p)(i j:Nat):ii n (kas_rev p i j):=(QcN.mp (mirror_perm p i j _)).trans h
theorem ii.bub(h:ii n p)(i j:Nat):ii n (bubble p i j):=(QcN.mp (bubble_perm p i j)).trans h
section
variable{n:Nat}(hn:0<n)
include hn
theorem CH(h:ii n p):∀f k,Asks n (fun _=>True) (kas_asc p f k)
|0,k=>.ret trivial
|f+1,k=>.ask (h.bd hn _) (h.bd hn _) fun b=>by cases b with
 |true=>exact .ret trivial
 |false=>exact CH h f _
theorem zO:∀f (p:Array Nat) k q,ii n p->Asks n (fun r=>ii n r.1) (kas_desc f p k q)
|0,p,k,q,h=>.ret h
|f+1,p,k,q,h=>.ask (h.bd hn _) (h.bd hn _) fun b=>by cases b with
 |true=>
   rw[Q_d rfl];split
   .exact zO f _ _ _ (h.rev _ _)
   .exact zO f _ _ _ h
 |false=>refine .ask (h.bd hn _) (h.bd hn _) fun b=>?_;cases b with
  |true=>exact .ret h
  |false=>exact zO f _ _ _ h
theorem Kg(h:ii n p)(a b:Nat):Asks n (fun r=>ii n r.2) (kas_tail3 a b p):=Asks.bind (CH hn (h.rev 0 a) _ _) fun m _=>.ret (h.rev 0 a)
theorem Le(h:ii n p)(a b:Nat):Asks n (fun r=>ii n r.2) (kas_descPart a b p):=by
 refine Asks.bind (zO hn _ p _ _ h) fun r U=>?_;split
 .exact Kg hn (U.rev _ _) _ _
 .exact Kg hn U _ _
theorem US(h:ii n p)(a:Nat):Asks n (fun r=>ii n r.2) (kas_count a p):=by
 refine Asks.bind (CH hn h _ _) fun k _=>?_;split
 .exact .ret h
 .split
  .refine .ask (h.bd hn _) (h.bd hn _) fun b=>?_;cases b with
  |true=>exact .ret h
  |false=>exact Le hn (h.rev _ _) _ _
  .exact Le hn h _ _
theorem Dd(h:ii n p)(k:Nat):∀f l r,Asks n (fun _=>True) (kas_place p k f l r)
|0,l,r=>.ret trivial
|f+1,l,r=>by
  unfold kas_place;split
  .exact .ret trivial
  .refine .ask (h.bd hn _) (h.bd hn _) fun b=>?_;cases b with
  |true=>exact Dd h k f _ _
  |false=>exact Dd h k f _ _
theorem JH:∀f (p:Array Nat) k,ii n p->Asks n (ii n) (kas_bin f p k)
|0,p,k,h=>.ret h
|f+1,p,k,h=>Asks.bind (Dd hn h k _ _ _) fun l _=>JH f _ _ (h.bub _ _)
theorem Kf:Asks n (ii n) (kas_sort n):=by
 refine Asks.bind (US hn (by unfold ii;simp) n) fun r U=>?_;split
 .exact JH hn _ _ _ U
 .exact .ret U
end
def mX(n:Nat)(c:Nat->Nat->Bool):List Nat:=if n<2 then x_ n else(tu c (kas_sort n)).toList
theorem C9(n:Nat)(c:Nat->Nat->Bool):(mX n c).Perm (x_ n):=by
 unfold mX;split
 .exact .refl _
 .exact(Kf `o).run c
noncomputable def l5:List Int->List Int->Bool
|[],[]=>false
|[],_::_=>true
|_::_,[]=>false
|x::xs,y::ys=>if x=y then l5 xs ys else decide (x<y)
def kT(fin:Bool):List (List Int)->List (List Int)->Bool
|k::ks,l::ls=>if k=l then kT fin ks ls else l5 k l
|_,_=>fin
def iT(ks ls:List (List Int)):Bool:=kT (decide (ks.length<ls.length)) ks ls
end DL
namespace DL
open PySem PyProof.Rows PySem.W PySem.Calls
section
variable{prog:o_}{w:F_}{A:I_}{E:a_->d_->Prop}{s:d_}
theorem U0{vs:List a_}(i:s.heap.get? a=some (Ĕ "list" vs.toArray n))(p:vs.length<2)(h:∀h' c,(∀b o,b≠a->s.heap.get? b=some o->h'.get? b=some o)->h'.get? a=some (Ĕ "list" vs.toArray c)->P (.done (.ret .none)) { s with heap:=h' }):u_ (y_ prog w) A (ì.«list.sort» ⟨[.ref a],[]⟩) P E s:=by
 have U:vs.length<=sizeLine:=by rw[G_];omega
 have j:=fun(h:Heap)(f:Array a_->Array a_)=>Qcy h a (Ė f);obtain⟨l,m⟩:∃l,(s.heap.update a (Ė fun _=>(#[]:Array a_))).get? a=some (Ĕ "list" #[] l):=⟨_,get?_update_seq i fun _=>#[]⟩
 rw[list_sort_plain];refine b_ (listItems_at i rfl (b_ (listUpdate_at i rfl ?_ (by rw[E_];exact U) (é _))));refine b_ (seqEpoch_at m rfl (b_ (wpAny_newTuple (b_ (wpAny_newList (ø ?_) (é _))) (by show vs.length<=_;exact U))))
 dsimp only
 have g:vs.toArray.size<2:=by rw[E_];exact p
 rw[Q_d g,Q_d g];refine b_ (f_ ?_);have q:(pure ():StateT SortSt Sem Unit).run (Qfa general' (vs.toArray.zip vs.toArray) #[] 7 none)=pure ((),Qfa general' (vs.toArray.zip vs.toArray) #[] 7 none):=rfl;rw[q];refine b_ (f_ ?_)
 dsimp only
 have d:(arrOf (Qfa general' (vs.toArray.zip vs.toArray) #[] 7 none)).map (·.2)=vs.toArray:=by show((vs.toArray.zip vs.toArray).map (·.2))=vs.toArray;apply Array.ext';simp[QeA]
 rw[d];have Y:∀b o,(s.heap.update a (Ė fun _=>(#[]:Array a_))).get? b=some o->(((s.heap.update a (Ė fun _=>(#[]:Array a_))).push (Ĕ "tuple" vs.toArray 0)).push (Ĕ "list" #[] 0)).get? b=some o:=fun b o e=>c_ _ (c_ _ e);have Z:=Y _ _ m;refine b_ (seqEpoch_at Z rfl (b_ (listUpdate_at Z rfl ?_ (é _) (by rw[E_];exact Nat.le_succ_of_le U))));simp only[bne_self_eq_false,Qea,if_false];refine f_ (h _ _ (fun b o k e=>?_) (get?_update_seq Z fun _=>vs.toArray));exact((j _ _).2 b k).trans (Y b o (((j _ _).2 b k).trans e))
theorem V3{vs:List a_}(i:s.heap.IsList l vs.toArray)(k:vs.length<2)(h:∀h' c D,(∀b o,s.heap.get? b=some o->h'.get? b=some o)->s.heap.objs.size<=D->h'.get? D=some (Ĕ "list" vs.toArray c)->Q (.ref D) { s with heap:=h' }):u_ (y_ prog w) A (call (.builtin "sorted") [.ref l]) Q E s:=by
 refine Calls.call_function_entry kind_sorted plain_sorted entry_sorted (args_sorted1 _) ?_;refine b_ (f_ (b_ (collect_list i ?_ (by rw[G_];omega))));refine b_ (wpAny_newList ?_ (by rw[G_];omega));generalize f:((s.heap.push _).update s.heap.objs.size _)=Z;have a:Z.objs.size=s.heap.objs.size+1:=by rw[<-f,Heap.size_update,size_push']
 have Y:∀b o,s.heap.get? b=some o->(Z.push (Ĕ "list" vs.toArray 0)).get? b=some o:=fun b o q=>by have d:=n_ q;refine c_ _ ?_;rw[<-f,É _ _ _ _ (H_ d)];exact c_ _ q
 have U:(Z.push _).get? Z.objs.size=some (Ĕ "list" vs.toArray 0):=l_ _ rfl;refine b_ (ø (ę slot_list_sort ⟨_,U,rfl⟩ entry_list_sort ?_ (args_list_sort _)));refine U0 U k fun h' c g j=>?_;refine⟨_,rfl,f_ ⟨_,rfl,h h' c _ (fun b o e=>g b o ?_ (Y b o e)) `a j⟩⟩;rw[a];exact H_ (Ħ (n_ e))
end
end DL
namespace DL
open PySem PySem.Spec PyProof.Rows L2 PySem.W PySem.Calls
structure Lft(fr:List Addr)(a:Addr)(oe:Obj)(vs:Array a_)(T:Option Addr)(v:a_)(h h':Heap):Prop where
 keep:∀b o,b∉fr->b≠a->T≠some b->h.get? b=some o->h'.get? b=some o
 slot:∀b o,h.get? b=some o->(∀vs:Array a_,o.data≠Data.fields vs)->∃sl,h'.get? b=some { cls:=o.cls,dict:=o.dict,data:=o.data,slots:=sl }
 obj:∃tb ot ts,(h.get? tb=none\/T=some tb)/\tb≠a/\h'.get? a=some { cls:=oe.cls,dict:=oe.dict,data:=.fields (vs.setIfInBounds 1 (.ref tb)),slots:=oe.slots }/\h'.get? tb=some ot/\ot.data=.fields ts/\ts[3]? = some v
noncomputable abbrev FA(fl:Option Addr):a_:=fl.elim Value.none fun f=>ü f
theorem Lft.self(l:h.get? a=some U)(f:U.data=.fields vs)(z:vs[1]? = some (.ref T))(Z:T≠a)(k:h.get? T=some oT)(g:oT.data=.fields Y)(i:Y[3]? = some v):Lft j a U vs (some T) v h h:=by
 refine⟨fun b o _ _ _ e=>e,fun b o e _=>⟨o.slots,e⟩,T,oT,Y,.inr rfl,Z,?_,k,g,i⟩;rw[l];obtain⟨c,d,n,m⟩:=U;have:=f;subst this;have:vs.setIfInBounds 1 (.ref T)=vs:=`g
 rw[this]
variable{M:Ñ}{E:a_->d_->Prop}{s:d_}{a:Addr}
section
variable{A:I_}{B:Heap}{env:Env}{outer:List Env}{L:Addr}{oe:Obj}{vs:Array a_}{Q:Unit->d_->Prop}
theorem HS(N:A.frames=some (env::outer))(y:s.heap.FunFrames B (env::outer))(P:env.frame=some L)(W:s.heap.get? a=some oe)(x:oe.data=.fields vs)(K:1<vs.size)(q:∀h',Lft (dU (env::outer)) a oe vs none (ü ↑L) s.heap h'->Q () { s with heap:=h' }) :
  u_ M A (do
   let f <-PySem.frameOf env;let pl <-entryPlaceOf L t;let b <-EntryCells.newEntry l f Value.none (ü ↑L) Value.none pl
   setField (Value.ref a) 1 b) Q E s:=by
 have Id:a∉dU _:=fun z=>by
  obtain⟨_,o,G,m⟩:=y.mem z
  simp_all
 refine b_ (wpAny_frameOf_fun N y P fun h I=>?_);refine b_ (wpAny_entryPlaceOf fun pl r=>?_);obtain⟨LT,Z,IO⟩:=I;have T:=(Z a Id).trans W;have n:∀i,i.length<=100->i[3]? = some (ü ↑L)->u_ M A ((do
   let b <-newFields "traceback" i
   setField (Value.ref a) 1 b)) Q E { s with heap:=h }:=fun i k R=>by
  refine b_ ?_;have p:sizeOk (Data.fields i.toArray):=by
   have:=by simpa using k
   exact U_ this `d
  refine Ŧ ?_ p;have LE:h.get? h.objs.size=none:=by cases z:h.get? h.objs.size with
  |none=>rfl
  |some o=>exact Q_f (n_ z) (þ _)
  have Y:h.objs.size≠a:=fun z=>by grind
  generalize BT:h.objs.size=j at *;have F:(h.push { cls:=.type "traceback",dict:=none,data:=.fields i.toArray }).get? a=some oe:=c_ _ T;have X:(h.push { cls:=.type "traceback",dict:=none,data:=.fields i.toArray }).get? j=some { cls:=.type "traceback",dict:=none,data:=.fields i.toArray }:=by rw[<-BT];exact l_ _ rfl
  generalize H:h.push { cls:=.type "traceback",dict:=none,data:=.fields i.toArray }=h3' at *;refine Ĳ F x K ?_;have w:∀g,Ì g oe={ cls:=oe.cls,dict:=oe.dict,data:=.fields (g vs),slots:=oe.slots }:=fun g=>by obtain⟨c,d,da,u⟩:=oe;have:=x;subst this;rfl
  have C:=Ġ (Ì fun v=>v.setIfInBounds 1 (.ref j)) F (by rw[w];rfl);rw[w]at C;have U:∀b,b≠a->(h3'.update a (Ì fun v=>v.setIfInBounds 1 (.ref j))).get? b=h3'.get? b:=fun b O=>É _ _ _ _ O;refine q _ ⟨fun b o m J _ e=>?_,fun b o e m=>?_,j,_,_,.inl ?_,Y,C,(U j Y).trans X,rfl,by simpa using R⟩
  .have hb2:=(Z b m).trans e;rw[U b J,<-H];exact c_ _ hb2
  .obtain⟨u,G⟩:=IO b o e;have Cl:b≠a:=fun z=>by grind
   refine⟨u,?_⟩;rw[U b Cl,<-H];exact c_ _ G
  .cases z:s.heap.get? j with
  |none=>rfl
  |some o=>grind
 refine n _ ?_ rfl;rcases r with rfl|⟨x1,x2,x3,x4,x5,x6,_,rfl⟩ <;> simp
theorem zj(C:U.frame=env.frame)(w:A.frames=some (env::outer))(x:s.heap.FunFrames B (env::outer))(m:env.frame=some L)(h:s.heap.get? a=some oe)(d:oe.data=.fields vs)(F:(vs[1]? = some Value.none/\T=none)\/∃c oT j v,T=some c/\vs[1]? = some (.ref c)/\c≠a/\s.heap.get? c=some oT/\oT.data=.fields j/\j[3]? = some v)(q:∀h' v,Lft (dU (env::outer)) a oe vs T v s.heap h'->Q () { s with heap:=h' }):u_ M A (Ĝ (.ref a) U) Q E s:=by
 have G:Ĝ (.ref a) U=Ĝ (.ref a) env:=by unfold Ĝ PySem.frameOf;rw[C]
 rw[G];have u:1<vs.size:=`g
 unfold Ĝ;simp only[m];rcases F with⟨z,rfl⟩|⟨c,oT,j,v,rfl,z,g,r,k,n⟩
 .refine b_ (Z_ h d z ?_);exact HS w x m h d u fun h' l=>q h' _ l
 refine b_ (Z_ h d z ?_);refine b_ (Z_ r k n ?_);by_cases t:(v==ü ↑L)=true
 .rw[Q_d t];exact f_ (q _ _ (Lft.self h d z g r k n))
 .rw[Q_e t];have Y:=(Ź.mp n).1;refine b_ (Ĳ r k Y ?_);have p:∀b,b≠c->(s.heap.update c (Ì fun v=>v.setIfInBounds 3 Value.none)).get? b=s.heap.get? b:=fun b f=>É _ _ _ _ f;refine HS w (x.of_keeps fun b o e i=>?_) m ((p a (ê g)).trans h) d u fun h' l=>q h' (ü ↑L) ⟨fun b o i y Z e=>?_,fun b o e i=>?_,?_⟩
  .grind
  .have f:b≠c:=fun z=>Z (by rw[z]);exact l.keep b o i y `s ((p b f).trans e)
  .have f:b≠c:=fun z=>by simp_all
   exact l.slot b o ((p b f).trans e) i
  .obtain⟨tb,ot,ts',t1,t2⟩:=l.obj
   grind
theorem zI(f:Option Addr)(G:1<vs.size)(l:Lft t a oe vs T v h s.heap)(q:∀h',Lft t a oe vs T (FA f) h h'->Q () { s with heap:=h' }):u_ M A (Ů (.ref a) f) Q E s:=by
 obtain⟨i,Z,x,B,p,n,m,k,y⟩:=l.obj;have U:=(Ź.mp y).1;have r:∀g,Ì g Z={ cls:=Z.cls,dict:=Z.dict,data:=.fields (g x),slots:=Z.slots }:=fun g=>by obtain⟨c,d,I,C⟩:=Z;have:=k;subst this;rfl
 refine b_ (Z_ n rfl (S_ G) ?_);refine Ĳ m k U ?_;have w:∀b,b≠i->(s.heap.update i (Ì fun v=>v.setIfInBounds 3 (FA f))).get? b=s.heap.get? b:=fun b H=>É _ _ _ _ H;have u:=Ġ (Ì fun v=>v.setIfInBounds 3 (FA f)) m (by rw[r];rfl);rw[r]at u;refine q _ ⟨fun b o j F Y e=>(w b fun z=>?_).trans (l.keep b o j F Y e),fun b o e j=>?_,i,_,_,B,p,(w a (ê p)).trans n,u,rfl,S_ U⟩
 .simp_all
 .obtain⟨C,e1⟩:=l.slot b o e j
  grind
end
def XQ(h B:Heap)(a:Addr)(cls:a_)(od:Option Addr):Prop:=∃oe vs,h.get? a=some oe/\oe.cls=cls/\(∀dx,od=some dx->oe.dict=some dx)/\oe.data=.fields vs /\(vs[1]? = some Value.none\/∃T oT ts v,vs[1]? = some (.ref T)/\B.get? T=none/\T≠a/\h.get? T=some oT/\oT.data=.fields ts/\ts[3]? = some v)
structure Fly(P:o_)(w:F_)(st:List Env)(H:Hp)(s:d_)(H':Hp)(a:Addr)(cls:a_)(od:Option Addr)(s':d_):Prop where
 os:s'.os=s.os
 bare:Á s'.gens
 un:Un (dU st) [] H H' s.heap s'.heap
 hok:HOk P w H' s'.heap
 ex:∃B:Heap,B.StaysIn s'.heap/\B.get? a=none/\s'.heap.FunFrames B st/\XQ s'.heap B a cls od /\(∀b o,s.heap.get? b=some o->b∉dU st->∃o',B.get? b=some o')/\∀b u,H' b=some u->∃o',B.get? b=some o'
variable{X:Cx}{pz:List (Addr×Obj)}{σ:L2.St}{H:Hp}
section
variable{P:o_}{w:F_}{st:List Env}{H':Hp}{s':d_}{cls:a_}{od:Option Addr}
theorem Fly.inv(F:Fly X.prog X.w X.stack H s H' a cls od s')(I:Inv X pz σ H s):Inv X pz σ H' s':=I.call' F.os F.un F.hok F.bare fun b z=>Q_f z `s
theorem Fly.step(F:Fly P w st H s H' a cls od s'):∃B j vs T,s'.heap.FunFrames B st/\s'.heap.get? a=some j/\j.data=.fields vs/\j.cls=cls/\1<vs.size /\((vs[1]? = some Value.none/\T=none)\/∃i oT g v,T=some i/\vs[1]? = some (.ref i)/\i≠a/\s'.heap.get? i=some oT/\oT.data=.fields g/\g[3]? = some v) /\∀h' v,Lft (dU st) a j vs T v s'.heap h'->Fly P w st H s H' a cls od { s' with heap:=h' }:=by
 obtain⟨B,I,Z,U,⟨j,vs,r1,C,r3,r4,A⟩,t,x⟩:=F.ex;have Y:1<vs.size:=by rcases A with z|⟨_,_,_,_,z,_⟩ <;> exact(Ź.mp z).1
 obtain⟨T,G,h1⟩:∃T,(∀b,T=some b->B.get? b=none)/\((vs[1]? = some Value.none/\T=none)\/∃i oT g v,T=some i/\vs[1]? = some (.ref i)/\i≠a/\s'.heap.get? i=some oT/\oT.data=.fields g/\g[3]? = some v):=by
  rcases A with z|⟨T,oT,g,v,O,N,M,L,K,J⟩
  .exact⟨none,fun b e=>(nomatch e),.inl ⟨z,rfl⟩⟩
  .exact⟨some T,fun b e=>by cases e;exact N,.inr ⟨T,oT,g,v,rfl,O,M,L,K,J⟩⟩
 refine⟨B,j,vs,T,U,r1,r4,C,Y,h1,fun h' v l=>?_⟩;have d:∀b o,(∃E,B.get? b=some E)->s'.heap.get? b=some o->h'.get? b=some o:=fun b o ⟨E,e⟩ h=>by refine l.keep b o (fun z=>?_) (fun z=>by rw[z,Z]at e;cases e) (fun z=>by rw[G b z]at e;cases e) h;rw[(U.mem z).1]at e;cases e
 obtain⟨k,ot,g,m,t2,X,W,R,Q⟩:=l.obj;have dl:B.get? k=none:=by
  rcases m with m|m
  .cases z:B.get? k with
  |none=>rfl
  |some o=>have:=I k o z;rw[m]at this;cases this
  .exact G k m
 refine⟨F.os,F.bare,⟨fun b o e n f z=>d b o (t b o e f) (F.un.keep b o e n f z),fun b o e n f z=>?_,F.un.free,fun b o e z=>?_,F.un.tups,F.un.frzs,F.un.tbls⟩,fun b u e=>?_,B,fun b o e=>d b o ⟨o,e⟩ (I b o e),Z,U.of_keeps fun b o e p=>?_,⟨_,_,X,C,r3,rfl,.inr ⟨k,ot,g,_,S_ Y,dl,t2,W,R,Q⟩⟩,t,x⟩
 .obtain⟨sl,e1⟩:=F.un.slot b o e n f z;obtain⟨_,o2,r,p⟩:=U.mem f;rw[e1]at r;cases r;obtain⟨BT,y⟩:=l.slot b _ e1 p;exact⟨BT,y⟩
 .obtain⟨o1,e1⟩:=F.un.there b o e z;by_cases f:b∈dU st
  .obtain⟨_,o2,r,p⟩:=U.mem f;obtain⟨sl,y⟩:=l.slot b _ r p;exact⟨_,y⟩
  .exact⟨o1,d b o1 (t b o e f) e1⟩
 .refine(F.hok b u e).stay (fun c v q e1=>d c v ?_ e1) (fun _ z=>z) fun _ _ z=>z;rcases q with q|q
  .rw[q];exact x b u e
  .exact x c _ q
 .obtain⟨sl,e1⟩:=l.slot b o e p;exact⟨_,e1,rfl⟩
theorem Fly.out(F:Fly X.prog X.w X.stack H s H' a cls od s')(I:Inv X pz σ H s)(Z:X.stack=X.env::X.outer)(r:X.env.frame=some X.env.locals)(U:X.ex=[]):Fly X.prog X.w X.outer X.H₀ X.s₀ H' a cls od s':=by
 have d:=F.inv I;obtain⟨B,k,m,Y,h,i,j⟩:=F.ex;have c:dU X.stack=X.env.locals::dU X.outer:=by unfold dU;simp_all
 rw[Z]at Y;have p:=(show X.env.scope.kind≠ScopeKind.module/\(∃L o,X.env.frame=some L/\B.get? L=none/\s'.heap.get? L=some o/\∀(f:Array a_),o.data≠Data.fields f)/\s'.heap.FunFrames B X.outer by exact Y).2.2;refine⟨d.os,F.bare,U▸d.base,F.hok,B,k,m,p,h,fun b o e n=>?_,j⟩;obtain⟨g,l⟩:=I.base.there b o e (by rw[U];simp);refine i b g l ?_;rw[c];intro z;rcases m_.mp z with z|z
 .have h1:=n_ e;have q:=I.ok.above
  grind
 .exact n z
theorem Fly.leaves(F:Fly X.prog X.w X.stack H s H' a cls od s')(I:Inv X pz σ H s)(U:X.stack=X.env::X.outer)(Y:X.env.frame=some X.env.locals)(h:X.ex=[])(q:∀b,Fly X.prog X.w X.outer X.H₀ X.s₀ H' a cls od b->Q () b):u_ M X.A (leaving X.env (.ref a)) Q E s':=by obtain⟨B,k,i,T,Z,f,e,j,m,g,d⟩:=F.step;rw[U]at Z;exact b_ (zj rfl (by rw[I.ok.frames,U]) Z Y f e g fun c v l=>zI none `g l (fun c l=>q _ ((d c _ (by rw[U];exact l)).out I U Y h)))
end
noncomputable def jN(P:o_)(w:F_):je:=fun outer H s E e s'=>∃a cls H' od,e=.ref a/\Fly P w outer H s H' a cls od s'/\E cls od H'
theorem yF(x:fJ P w H h a o):∃u,h.get? a=some u:=by cases o with
|lst Y=>obtain⟨_,_,_,_,e⟩:=x;exact⟨_,e⟩
|tup Y=>obtain⟨_,_,_,_,o,e,_⟩:=x;exact⟨_,e⟩
|dK U=>obtain⟨_,_,_,_,o,_,_,e,_⟩:=x;exact⟨_,e⟩
|dT U=>obtain⟨_,_,_,_,o,_,_,e,_⟩:=x;exact⟨_,e⟩
|set S n=>obtain⟨o,_,_,_,e,_⟩:=x;exact⟨_,e⟩
|ins C j Z=>obtain⟨_,_,_,e,_⟩:=x;exact⟨_,e⟩
|own y=>exact x
|xd Z=>obtain⟨_,⟨_,_,_,e,_⟩,_⟩:=x;exact⟨_,e⟩
|rng g i=>obtain⟨_,_,_,e⟩:=x;exact⟨_,e⟩
|frz d u=>obtain⟨e,_⟩:=x;exact⟨_,e⟩
|tbl c=>exact⟨_,(x)⟩
|met f y=>exact⟨_,(x)⟩
|ext b=>exact x.2.1
noncomputable abbrev gy:List a_:=[Value.type "ValueError",Value.type "Exception",Value.type "BaseException",Value.type "object"]
theorem CS(t:ĉ h U Y)(Z:U.contains v=true):Y.contains v=true:=by induction t with
|base=>exact Z
|own _ _ _ _ a=>simp_all
theorem Qk{K:W.Frag}{a:String}(k:K.In h)(e:excIn K C U a=true):∃b N nm q bs hdct sn sub ab col dd k0 k1 k2 k3 k5 f,h.get? C=some (ë nm q C N bs b hdct sn sub ab col dd k0 k1 k2 k3 k5 a)/\h.Ns N f/\f (s_ "__init__")=none/\ĉ h U b:=by
 unfold excIn at e;split at e
 .rename_i dict cd sl hk;split at e
  .rename_i C' b k0 k1 k2 k3 n k5 hm hs;simp only[L_,beq_iff_eq,Ş]at e;obtain⟨⟨⟨⟨⟨rfl,rfl⟩,m⟩,i⟩,g⟩,j⟩:=e;have Z:=Qfb k g;obtain⟨nm,bs,c,d,q,hdct,sn,sub,ab,col,Y⟩:=cd;have r:c=Value.ref C'::b:=hm;have p:Y=false:=m;subst r p;have o:sl = #[k0,k1,k2,k3,some (Value.builtin n),k5]:=by cases sl with
   |mk l=>exact Q_g Array.mk hs
   subst o;exact⟨b,d,nm,q,bs,hdct,sn,sub,ab,col,dict,k0,k1,k2,k3,k5,h.nsMap d,k _ _ hk,Qdu Z,nsMap_none_of_in k g j,tail_of_in k i⟩
  .cases e
 .cases e
structure XC(K:W.Frag)(mg:Str->Option a_)(x:Str)(C:Addr):Prop where
 bound:mg x=some (.ref C)
 exc:excIn K C gy "ValueError.__new__" = true
section
variable{x:Str}{C:Addr}{np cpos pos:Pos}{e₀:Expr}{rest:List Expr}{t:TA}
theorem Fly.made(I:Inv X pz σ H s)(m:s.heap.MadeExcOf h' e Y vs):Fly X.prog X.w X.stack H s H e Y none { s with heap:=h' }:=by
 obtain⟨t,a,r,p⟩:=m.there;have U:∀b o,(ţ s.heap (dU X.stack)).get? b=some o->h'.get? b=some o:=fun b o e=>m.keeps b o (Qfc _ e);refine⟨rfl,I.bare,Un.kept m.keeps,I.hok.kept m.keeps,_,U,?_,?_,⟨_,_,a,rfl,(fun _ e=>nomatch e),rfl,.inl rfl⟩,fun b o e n=>⟨o,QdI _ e n⟩,fun b u e=>?_⟩
 .cases q:(ţ s.heap _).get? e with
 |none=>rfl
 |some o=>have:=Qfc _ q;rw[m.new]at this;cases this
 .have ff:=I.stack;have c:∀l,(∀b∈dU l,b∈dU X.stack)->s.heap.FunFrames X.base l->h'.FunFrames (ţ s.heap (dU X.stack)) l:=by
   intro l
   induction l with
  |nil=>intro _ _;trivial
  |cons k l d=>
    intro Z f;obtain⟨f1,⟨L,o,f2,v,j,i⟩,h⟩:=f;refine⟨f1,⟨L,o,f2,Qer _ (Z L ?_),m.keeps _ _ j,i⟩,d (fun b g=>Z b ?_) h⟩
    .unfold dU;simp_all
    .unfold dU;rw[Œ,f2];exact i_ _ g
  simp_all
 .obtain⟨o,eo⟩:=yF (I.hok b u e);exact⟨o,QdI _ eo fun z=>by rw[I.stkFree b z]at e;cases e⟩
theorem Sb{Q:Flow->d_->Prop}(I:Inv X pz σ H s)(o:X.calm=true)(c:XC X.K X.mg x C)(n:Gl X x)(p:PA X (Y::rest) t)(h:t σ H fun vs d=>vs.length<=sizeLine/\∀b a i,Inv X pz σ d b->Fly X.prog X.w X.stack d b d a (.ref C) none i->X.xe (.ref a) i)(U:!!Nq x)(g:!Sx X Y rest)(f:!Bx X cpos rest):u_ (y_ X.prog X.w) X.A (exec (.Raise (some (.Call (.Name x np) (Y::rest) [] cpos)) none pos) X.env) Q X.xe s:=by
 obtain⟨G,N,nm,q,bs,hdct,sn,sub,ab,col,dd,k0,k1,k2,k3,k5,B,y,v,u,k⟩:=Qk I.ok.mod.kin c.exc;refine wpAny_Raise_call_subT (nm:=nm) (q:=q) (C:=C) (N:=N) (bs:=bs) (hdct:=hdct) (sn:=sn) (sub:=sub) (ab:=ab) (col:=col) (dd:=dd) (k0:=k0) (k1:=k1) (k2:=k2) (k3:=k3) (k5:=k5) F.excBase_ValueError (CS k `d) (I.ok.hd o) ?_ u ?_
 .rw[g];exact f
 refine mG I n c.bound ⟨rfl,?_⟩ U;rw[g];refine evalArgs_plain ?_;have j:=p cpos pz s σ H _ I h;rw[g]at j;refine bJ j fun z b w=>?_;obtain⟨vs,d,Z,r,l,q⟩:=w;refine ⟨rfl,?_,Z.bk _ _ y,?_,?_,fun E e m=>q b e _ Z (Fly.made Z m)⟩
 .rw[<-r.length];exact l
 .exact v.keeps Z.bk
 .exact k.keeps Z.bk
end
end DL
namespace DL
open PySem PySem.Spec PyProof.Rows L2
inductive D where
 |non|bl (b:Bool)|int (i:Int)|str (x:Str)
 |tup (ds:List D)|lst (ds:List D)
 |dic (kvs:List (bO×D))
 |obj (c:Nat) (fs:List (Str×D))
instance:Inhabited D:=⟨.non⟩
inductive Res(α:Type) where
 |ok (a:α)|exc (x:D)|stuck
noncomputable def Res.bind{α β:Type}(r:Res α)(f:α->Res β):Res β:=match r with
|.ok a=>f a
|.exc x=>.exc x
|.stuck=>.stuck
@[simp] theorem bind_ok(a:U)(f:U->Res Y):(Res.ok a).bind f=f a:=rfl
def fin{α:Type}(r:Res α)(q:α->Prop)(x:D->Prop):Prop:=match r with
|.ok a=>q a
|.exc e=>x e
|.stuck=>False
theorem bW{q Y:U->Prop}(h:fin r q x)(hq:∀a,q a->Y a):fin r Y x:=by cases r with
|ok a=>exact hq a h
|exc e=>exact h
|stuck=>exact h
theorem cJ{f:Y->Res U}(h:fin (r.bind f) q x):fin r (fun a=>fin (f a) q x) x:=by cases r with
|ok a=>exact h
|exc e=>exact h
|stuck=>exact h
abbrev GH:=Addr->Option D
inductive Scl:V->D->Prop where
 |non:Scl .non .non
 |bl (b:Bool):Scl (.bl b) (.bl b)
 |int (i:Int):Scl (.int i) (.int i)
 |str (x:Str):Scl (.str x) (.str x)
inductive KC(K:W.Frag)(a:Addr):D->Prop where
|lst {xs:List V} {ds:List D}:dq K (fun _=>none) a xs->Paired Scl xs ds->KC K a (.lst ds)
|tup {xs:List V} {ds:List D}:e8 K (fun _=>none) a xs->Paired Scl xs ds->(∃o,K.lookup a=some o/\o.cls=.type "tuple"/\o.dict=none)->KC K a (.tup ds)
inductive RG(K:W.Frag)(G:GH):V->D->Prop where
 |scl {v:V} {d:D}:Scl v d->RG K G v d
 |ref {a:Addr} {d:D}:G a=some d->RG K G (.ref a) d
 |kc {a:Addr} {d:D}:KC K a d->RG K G (.ref a) d
abbrev dJ(K:W.Frag)(G:GH):List V->List D->Prop:=Paired (RG K G)
abbrev gS(K:W.Frag)(G:GH):List (bO×V)->List (bO×D)->Prop:=Paired fun p q=>p.1=q.1/\RG K G p.2 q.2
noncomputable abbrev xD(nm:Str)(ds:List (Str×D)):D:=.obj 0 (("__class__",.str nm)::ds)
def XN(K:W.Frag)(nm:Str)(C:Addr):Prop:=∃o cd,K.lookup C=some o/\o.data=Data.cls cd/\cd.name=nm
def kW(a C:Addr)(od:Option Addr):Heap->Prop:=fun h=>∃oe vs,h.get? a=some oe/\oe.cls=.ref C/\(∀dx,od=some dx->oe.dict=some dx)/\oe.data=.fields vs
def XF(G:GH)(od:Option Addr)(ds:List (Str×D)):Prop:=match od with
|none=>ds=[]
|some dx=>G dx=some (.obj 1 ds)
theorem XF.mono(h:XF G U ds)(Z:∀a d,G a=some d->Y a=some d):XF Y U ds:=by cases U with
|none=>exact h
|some b=>exact Z _ _ h
abbrev jC(K:W.Frag)(G:GH):List (Str×V)->List (Str×D)->Prop:=Paired fun p q=>p.1=q.1/\RG K G p.2 q.2
noncomputable abbrev iD(nm:Str)(ds:List (Str×D)):D:=.obj 2 (("__class__",.str nm)::ds)
inductive OB(K:W.Frag)(G:GH)(H:Hp)(a:Addr):D->Prop where
 |lst {xs:List V} {ds:List D}:Rd H a (.lst xs)->dJ K G xs ds->OB K G H a (.lst ds)
 |tup {xs:List V} {ds:List D}:Rd H a (.tup xs)->dJ K G xs ds->OB K G H a (.tup ds)
 |dic {ob:Obj} {ps:List (bO×V)} {kvs:List (bO×D)}:H a=some (.frz ob (.dK ps))->gS K G ps kvs->OB K G H a (.dic kvs)
 |exc {nm:Str} {C:Addr} {od:Option Addr} {ds:List (Str×D)}:H a=some (.ext (kW a C od))->XN K nm C->XF G od ds->OB K G H a (xD nm ds)
 |fld {fs:List (Str×V)} {ds:List (Str×D)}:H a=some (.xd fs)->jC K G fs ds->OB K G H a (.obj 1 ds)
 |ins {nm:Str} {C dx:Addr} {fs:List (Str×V)} {ds:List (Str×D)}:H a=some (.ins C dx fs)->XN K nm C->jC K G fs ds->OB K G H a (iD nm ds)
def cK(K:W.Frag)(G:GH)(H:Hp):Prop:=∀a d,G a=some d->OB K G H a d
inductive OwnO(K:W.Frag)(G:GH)(H:Hp)(a:Addr):D->Prop where
 |lst {xs:List V} {ds:List D}:H a=some (.lst xs)->dJ K G xs ds->OwnO K G H a (.lst ds)
 |dic {ps:List (bO×V)} {kvs:List (bO×D)}:H a=some (.dK ps)->gS K G ps kvs->OwnO K G H a (.dic kvs)
structure Own(K:W.Frag)(G:GH)(H:Hp)(a:Addr)(d:D):Prop where
 un:G a=none
 ob:OwnO K G H a d
structure Grow(K:W.Frag)(G:GH)(H:Hp)(G':GH)(H':Hp):Prop where
 ok:cK K G' H'
 he:∀a o,H a=some o->H' a=some o
 ge:∀a d,G a=some d->G' a=some d
 gf:∀a,H a≠none->G' a=G a
variable{K:W.Frag}{G G' G2:GH}{H H' H2:Hp}
section
variable{G1:GH}{H1:Hp}{a p:Addr}{d:D}{v:V}
theorem Rd.mono(h:Rd H a u)(U:∀a o,H a=some o->H' a=some o):Rd H' a u:=by
 rcases h with h|⟨o,h⟩
 .exact .inl (U _ _ h)
 .exact .inr ⟨o,U _ _ h⟩
theorem Rd.isS(h:Rd H a u):H a≠none:=by rcases h with h|⟨o,h⟩ <;> rw[h] <;> simp
theorem RG.mono(h:RG K G v d)(U:∀a d,G a=some d->G' a=some d):RG K G' v d:=by cases h with
|scl s=>exact .scl s
|ref e=>exact .ref (U _ _ e)
|kc k=>exact .kc k
theorem dJ.mono(h:dJ K G xs ds)(U:∀a d,G a=some d->G' a=some d):dJ K G' xs ds:=Paired.mono (fun _ _ r=>r.mono U) h
theorem gS.mono(h:gS K G xs ds)(U:∀a d,G a=some d->G' a=some d):gS K G' xs ds:=Paired.mono (fun _ _ r=>⟨r.1,r.2.mono U⟩) h
theorem OB.mono(h:OB K G H a d)(Y:∀a d,G a=some d->G' a=some d)(U:∀o,H a=some o->H' a=some o):OB K G' H' a d:=by
 have Z:∀{u:HO},Rd H a u->Rd H' a u:=fun r=>by
  rcases r with r|⟨o,r⟩
  .exact .inl (U _ r)
  .exact .inr ⟨o,U _ r⟩
 cases h with
|lst r s=>exact .lst (Z r) (s.mono Y)
|tup r s=>exact .tup (Z r) (s.mono Y)
|dic r s=>exact .dic (U _ r) (gS.mono s Y)
|exc r n f=>exact .exc (U _ r) n (f.mono Y)
|fld r s=>exact .fld (U _ r) (Paired.mono (fun _ _ r=>⟨r.1,r.2.mono Y⟩) s)
|ins r n s=>exact .ins (U _ r) n (Paired.mono (fun _ _ r=>⟨r.1,r.2.mono Y⟩) s)
theorem OB.isS(h:OB K G H a d):H a≠none:=by cases h with
|lst r s=>exact Rd.isS r
|tup r s=>exact Rd.isS r
|dic r s=>rw[r];simp
|exc r n f=>rw[r];simp
|fld r s=>rw[r];simp
|ins r n s=>rw[r];simp
theorem cK.isN(g:cK K G H)(h:H p=none):G p=none:=by cases e:G p with
|none=>rfl
|some d=>exact Q_f h (g p d e).isS
theorem OwnO.isS(h:OwnO K G H a d):H a≠none:=by cases h with
|lst r s=>rw[r];simp
|dic r s=>rw[r];simp
theorem OwnO.mono(h:OwnO K G H a d)(Y:∀a d,G a=some d->G' a=some d)(U:∀o,H a=some o->H' a=some o):OwnO K G' H' a d:=by cases h with
|lst r s=>exact .lst (U _ r) (s.mono Y)
|dic r s=>exact .dic (U _ r) (gS.mono s Y)
theorem Own.mono(h:Own K G H a d)(w:Grow K G H G' H'):Own K G' H' a d:=⟨by rw[w.gf a h.ob.isS];exact h.un,h.ob.mono w.ge fun o e=>w.he _ _ e⟩
def fz(H:Hp)(a:Addr)(ob:Obj):Hp:=match H a with
|some (.dK ps)=>aO H a (.frz ob (.dK ps))
|_=>H
theorem sx(h:b≠a):fz H a U b=H b:=by unfold fz;cases e:H a with
|none=>rfl
|some u=>cases u <;> first|rfl|exact bL h
theorem Yq(h:H a=some (.lst xs)):fz H a U=H:=by unfold fz;rw[h]
theorem OwnO.fast(h:OwnO K G H a d)(U:Obj):OB K G (fz H a U) a d:=by cases h with
|lst r s=>rw[Yq r];exact .lst (.inl r) s
|dic r s=>exact .dic ((fun h=>by unfold fz;rw[h];exact cX) r) s
theorem cK.fast(g:cK K G H)(Z:G a=none)(U:Obj):cK K G (fz H a U):=fun b d e=>by
 have Y:b≠a:=`g
 exact(g b d e).mono `s fun o z=>by rw[sx Y];exact z
theorem Grow.refl(g:cK K G H):Grow K G H G H:=⟨g,fun _ _ e=>e,fun _ _ e=>e,fun _ _=>rfl⟩
theorem Grow.trans(x:Grow K G H G1 H1)(y:Grow K G1 H1 G2 H2):Grow K G H G2 H2:=
 ⟨y.ok,fun a o e=>y.he _ _ (x.he _ _ e),fun a d e=>y.ge _ _ (x.ge _ _ e),fun a h=>by
  have U:H1 a≠Option.none:=by cases e:H a with
  |none=>exact Q_f e h
  |some o=>rw[x.he _ _ e];simp
  rw[y.gf a U,x.gf a h]⟩
noncomputable def gset(G:GH)(a:Addr)(d:D):GH:=fun b=>if b=a then some d else G b
theorem gV:gset G a d a=some d:=Q_d rfl
theorem jp(h:b≠a):gset G a d b=G b:=Q_e h
theorem lE(U:G a=none):∀b e,G b=some e->gset G a d b=some e:=fun b e h=>by
 have:b≠a:=`g
 rw[jp this];exact h
theorem cK.gset(g:cK K G H)(U:G a=none)(o:OB K G H a d):cK K (gset G a d) H:=fun b e h=>by
 by_cases Y:b=a
 .subst Y;rw[gV]at h;cases h;exact o.mono (lE U) fun _ q=>q
 .rw[jp Y]at h;exact(g b e h).mono (lE U) fun _ q=>q
theorem BU(U:H p=none):∀a u,H a=some u->aO H p o a=some u:=fun a u e=>by rw[bL (pd e U)];exact e
theorem Grow.new(g:cK K G H)(U:H p=none)(o:HO):Grow K G H G (aO H p o):=⟨fun a d e=>(g a d e).mono `s fun u q=>BU U _ _ q,fun a u e=>BU U _ _ e,fun _ _ e=>e,fun _ _=>rfl⟩
theorem Grow.newF(g:cK K G H)(U:H p=none)(Z:OB K G (aO H p o) p d):Grow K G H (gset G p d) (aO H p o):=by have w:=Grow.new g U o;have Y:=g.isN U;exact⟨w.ok.gset Y Z,w.he,fun a e h=>lE Y a e h,fun a h=>jp (by rintro rfl;exact h U)⟩
theorem Grow.frz(w:Grow K G H G' H')(Y:H a=none)(o:Own K G' H' a d)(U:Obj):Grow K G H (gset G' a d) (fz H' a U):=⟨(w.ok.fast o.un U).gset o.un (o.ob.fast U),fun b u e=>by rw[sx `g];exact w.he b u e,fun b e h=>lE o.un b e (w.ge b e h),fun b h=>by rw[jp `g];exact w.gf b h⟩
theorem RG.lst{ds:List D}(g:cK K G H)(h:RG K G v (.lst ds)):∃a xs,v=.ref a/\dq K H a xs/\dJ K G xs ds:=by cases h with
|scl s=>cases s
|ref e=>cases g _ _ e with
 |lst r s=>exact⟨_,_,rfl,.inl r,s⟩
|kc k=>cases k with
 |lst r s=>
   refine⟨_,_,rfl,?_,Paired.mono (fun _ _ z=>.scl z) s⟩;rcases r with(r|⟨o,r⟩)|r
   .cases r
   .cases r
   .exact .inr r
theorem RG.tup(g:cK K G H)(h:RG K G v (.tup ds)):∃a xs,v=.ref a/\e8 K H a xs/\dJ K G xs ds:=by cases h with
|scl s=>cases s
|ref e=>cases g _ _ e with
 |tup r s=>exact⟨_,_,rfl,.inl r,s⟩
|kc k=>cases k with
 |tup r s _=>
   refine⟨_,_,rfl,?_,Paired.mono (fun _ _ z=>.scl z) s⟩;rcases r with(r|⟨o,r⟩)|r
   .cases r
   .cases r
   .exact .inr r
theorem RG.dic{U:List (bO×D)}(g:cK K G H)(h:RG K G v (.dic U)):∃a Y,v=.ref a/\Rd H a (.dK Y)/\gS K G Y U:=by cases h with
|scl s=>cases s
|ref e=>cases g _ _ e with
 |dic r s=>exact⟨_,_,rfl,.inr ⟨_,r⟩,s⟩
|kc k=>cases k
theorem RG.int(g:cK K G H)(h:RG K G v (.int i)):v=.int i:=by cases h with
|scl s=>cases s;rfl
|ref e=>cases g _ _ e
|kc k=>cases k
theorem RG.str(g:cK K G H)(h:RG K G v (.str x)):v=.str x:=by cases h with
|scl s=>cases s;rfl
|ref e=>cases g _ _ e
|kc k=>cases k
theorem RG.bl(g:cK K G H)(h:RG K G v (.bl b)):v=.bl b:=by cases h with
|scl s=>cases s;rfl
|ref e=>cases g _ _ e
|kc k=>cases k
theorem RG.non(g:cK K G H)(h:RG K G v .non):v=.non:=by cases h with
|scl s=>cases s;rfl
|ref e=>cases g _ _ e
|kc k=>cases k
def RB(K:W.Frag)(G:GH)(H:Hp)(v:V)(d:D):Prop:=RG K G v d\/∃a,v=.ref a/\Own K G H a d
theorem RG.rb(h:RG K G v d):RB K G H v d:=.inl h
theorem RB.mono(h:RB K G H v d)(w:Grow K G H G' H'):RB K G' H' v d:=by
 rcases h with h|⟨a,e,h⟩
 .exact .inl (h.mono w.ge)
 .exact .inr ⟨a,e,h.mono w⟩
theorem RB.lst{ds:List D}(g:cK K G H)(h:RB K G H v (.lst ds)):∃a xs,v=.ref a/\dq K H a xs/\dJ K G xs ds:=by
 rcases h with h|⟨a,e,h⟩
 .exact h.lst g
 .cases h.ob with
 |lst r s=>exact⟨a,_,e,dq.of r,s⟩
theorem RB.tup(g:cK K G H)(h:RB K G H v (.tup ds)):∃a xs,v=.ref a/\e8 K H a xs/\dJ K G xs ds:=by
 rcases h with h|⟨a,e,h⟩
 .exact h.tup g
 .cases h.ob
theorem RB.dic{U:List (bO×D)}(g:cK K G H)(h:RB K G H v (.dic U)):∃a Y,v=.ref a/\Rd H a (.dK Y)/\gS K G Y U:=by
 rcases h with h|⟨a,e,h⟩
 .exact h.dic g
 .cases h.ob with
 |dic r s=>exact⟨a,_,e,.inl r,s⟩
theorem RB.int(g:cK K G H)(h:RB K G H v (.int i)):v=.int i:=by
 rcases h with h|⟨a,e,h⟩
 .exact h.int g
 .cases h.ob
theorem RB.str(g:cK K G H)(h:RB K G H v (.str x)):v=.str x:=by
 rcases h with h|⟨a,e,h⟩
 .exact h.str g
 .cases h.ob
theorem RB.bl(g:cK K G H)(h:RB K G H v (.bl b)):v=.bl b:=by
 rcases h with h|⟨a,e,h⟩
 .exact h.bl g
 .cases h.ob
theorem RB.non(g:cK K G H)(h:RB K G H v .non):v=.non:=by
 rcases h with h|⟨a,e,h⟩
 .exact h.non g
 .cases h.ob
theorem Paired.get:∀{l:List Y}{r:List U}{i:Nat}{b:U},Paired F l r->r[i]? = some b->∃a,l[i]? = some a/\F a b
|_,_,_,_,.nil,e=>by simp at e
|_,_,0,_,.cons h _,e=>by simp at e;subst e;exact⟨_,rfl,h⟩
|_,_,i+1,b,.cons _ t,e=>by obtain⟨a,c,Z⟩:=Paired.get (i:=i) t (by simpa using e);exact⟨a,by simpa using c,Z⟩
theorem Paired.app{l Z:List Y}{r r':List U}(h:Paired F l r)(q:Paired F Z r'):Paired F (l++Z) (r++r'):=by induction h with
|nil=>exact q
|cons h _ a=>exact .cons h a
theorem Paired.tk{l:List Y}{r:List U}(n:Nat)(h:Paired F l r):Paired F (l.take n) (r.take n):=by induction h generalizing n with
|nil=>cases n <;> exact .nil
|cons h _ Z=>cases n with
 |zero=>exact .nil
 |succ n=>exact .cons h (Z n)
theorem Paired.dr{l:List Y}{r:List U}(n:Nat)(h:Paired F l r):Paired F (l.drop n) (r.drop n):=by induction h generalizing n with
|nil=>cases n <;> exact .nil
|cons h t Z=>cases n with
 |zero=>exact .cons h t
 |succ n=>exact Z n
theorem Paired.st{a:Y}{b:U}(h:F a b)(n:Nat)(p:Paired F l r):Paired F (l.set n a) (r.set n b):=by induction p generalizing n with
|nil=>exact .nil
|cons q t Z=>cases n with
 |zero=>exact .cons h t
 |succ n=>exact .cons q (Z n)
theorem Paired.er{l:List Y}{r:List U}(n:Nat)(p:Paired F l r):Paired F (l.eraseIdx n) (r.eraseIdx n):=by induction p generalizing n with
|nil=>exact .nil
|cons q t Z=>cases n with
 |zero=>exact t
 |succ n=>exact .cons q (Z n)
end
inductive Md where
 |sh|ow|bw
 deriving DecidableEq
abbrev aI:=List (Option D)
structure GE where
 gh:GH
 h0:Hp
 hd:Nat->Option (Option V×Option D)
def Bw(K:W.Frag)(h0:Hp)(G:GH)(H:Hp)(v:V)(d:D):Prop:=RG K G v d\/∃a,v=V.ref a/\Own K G H a d/\h0 a≠none
theorem Bw.grow(h:Bw K U G H v d)(w:Grow K G H Z Y):Bw K U Z Y v d:=by
 rcases h with h|⟨a,e,c,b⟩
 .exact .inl (h.mono w.ge)
 .exact .inr ⟨a,e,c.mono w,b⟩
theorem Bw.rb(h:Bw K Y G H v d):RB K G H v d:=by
 rcases h with h|⟨a,e,U,Z⟩
 .exact .inl h
 .exact .inr ⟨a,e,U⟩
def Lk(r:aI)(st:L2.St)(i:Nat)(o:Option V×Option D):Prop:=st[i]? = some o.1/\∀d,r[i]? = some (some d)->o.2=some d
structure SI(X:Cx)(g:GE)(m:List Md)(r:aI)(G:GH)(st:L2.St)(H:Hp):Prop where
 gok:cK X.K G H
 old:∀a o,g.h0 a=some o->H a=some o
 ge:∀a d,g.gh a=some d->G a=some d
 gf:∀a,g.h0 a≠none->G a=g.gh a
 lm:m.length=st.length
 lr:r.length=st.length
 sh:∀(i:Nat) d,r[i]? = some (some d)->m[i]? = some .sh->∃v,st[i]? = some (some v)/\RG X.K G v d
 ow:∀(i:Nat) d,r[i]? = some (some d)->m[i]? = some .ow->∃a,st[i]? = some (some (V.ref a))/\Own X.K G H a d/\g.h0 a=none
 bw:∀(i:Nat) d,r[i]? = some (some d)->m[i]? = some .bw->∃v,st[i]? = some (some v)/\Bw X.K g.h0 G H v d
 dis:∀(i j:Nat) a d e,i≠j->r[i]? = some (some d)->r[j]? = some (some e)->m[i]? = some .ow->m[j]? = some .ow->st[i]? = some (some (V.ref a))->st[j]? = some (some (V.ref a))->False
 lk:∀(i:Nat) o,g.hd i=some o->m[i]? = some .bw->Lk r st i o
variable{X:Cx}{g:GE}{m:List Md}{r:aI}
section
variable{st:L2.St}
theorem SI.grow(s:SI X g m r G st H)(w:Grow X.K G H G' H'):SI X g m r G' st H' where
 gok:=w.ok
 old:=fun a o e=>w.he _ _ (s.old a o e)
 ge:=fun a d e=>w.ge _ _ (s.ge a d e)
 gf:=fun a h=>by
  have U:H a≠none:=by cases e:g.h0 a with
  |none=>exact Q_f e h
  |some o=>rw[s.old _ _ e];simp
  rw[w.gf a U,s.gf a h]
 lm:=s.lm
 lr:=s.lr
 sh:=fun i d U b=>by obtain⟨v,Z,Y⟩:=s.sh i d U b;exact⟨v,Z,Y.mono w.ge⟩
 ow:=fun i d U b=>by obtain⟨a,Z,Y,c⟩:=s.ow i d U b;exact⟨a,Z,Y.mono w,c⟩
 bw:=fun i d U b=>by obtain⟨v,Z,Y⟩:=s.bw i d U b;exact⟨v,Z,Y.grow w⟩
 dis:=s.dis
 lk:=s.lk
theorem SI.grown(s:SI X g m r G st H):Grow X.K g.gh g.h0 G H:=⟨s.gok,s.old,s.ge,s.gf⟩
theorem SI.frz(s:SI X g m r G st H)(i:Nat)(hi:m[i]? = some .ow):(∃u,(∀a d,G a=some d->u a=some d)/\SI X g (m.set i .sh) r u st H)\/∃a,∀x,∃u,(∀a d,G a=some d->u a=some d)/\SI X g (m.set i .sh) r u st (fz H a x):=by
 have l:i<m.length:=(g_.mp hi).1;by_cases t:∃d,r[i]? = some (some d)
 .obtain⟨d,hd⟩:=t;obtain⟨a,A,p,y⟩:=s.ow i d hd hi;refine .inr ⟨a,fun x=>⟨gset G a d,lE p.un,(s.gok.fast p.un x).gset p.un (p.ob.fast x),fun b o e=>by rw[sx (by rintro rfl;rw[y]at e;cases e)];exact s.old b o e,fun b e h=>lE p.un b e (s.ge b e h),fun b h=>?_,by simpa using s.lm,s.lr,?_,?_,?_,?_,fun j o c Z=>?_⟩⟩
  .rw[jp (by rintro rfl;exact h y)];exact s.gf b h
  .intro j e c Z;by_cases Y:i=j
   .subst Y;rw[hd]at c;cases c;exact⟨_,A,.ref gV⟩
   .rw[e_ Y]at Z;obtain⟨v,n,f⟩:=s.sh j e c Z;exact⟨v,n,f.mono (lE p.un)⟩
  .intro j e c Z;by_cases Y:i=j
   .subst Y;rw[r_ l]at Z;cases Z
   .rw[e_ Y]at Z;obtain⟨b,n,f,w⟩:=s.ow j e c Z;have U:b≠a:=by
     rintro rfl
     exact s.dis i j b d e Y hd c hi Z A n
    exact⟨b,n,⟨by rw[jp U];exact f.un,f.ob.mono (lE p.un) fun _ z=>by rw[sx U];exact z⟩,w⟩
  .intro j e c Z;by_cases Y:i=j
   .subst Y;rw[r_ l]at Z;cases Z
   .rw[e_ Y]at Z;obtain⟨v,n,f⟩:=s.bw j e c Z;refine⟨v,n,?_⟩;rcases f with f|⟨b,rfl,f,w⟩
    .exact .inl (f.mono (lE p.un))
    .have U:b≠a:=by rintro rfl;exact w y
     exact .inr ⟨b,rfl,⟨by rw[jp U];exact f.un,f.ob.mono (lE p.un) fun _ z=>by rw[sx U];exact z⟩,w⟩
  .intro j k b e e' hjk c hk Z hm' n f;have Y:i≠j:=by
    rintro rfl
    rw[r_ l]at Z;cases Z
   have q:i≠k:=by
    rintro rfl
    rw[r_ l]at hm';cases hm'
   rw[e_ Y]at Z;rw[e_ q]at hm';exact s.dis j k b e e' hjk c hk Z hm' n f
  .refine s.lk j o c ?_;by_cases Y:i=j
   .subst Y;rw[r_ l]at Z;cases Z
   .rw[e_ Y]at Z;exact Z
 .refine .inl ⟨G,fun _ _ z=>z,s.gok,s.old,s.ge,s.gf,by simpa using s.lm,s.lr,?_,?_,?_,?_,fun j o c Z=>?_⟩
  .intro j e c Z;have Y:i≠j:=by rintro rfl;exact t ⟨e,c⟩
   rw[e_ Y]at Z;exact s.sh j e c Z
  .intro j e c Z;have Y:i≠j:=by rintro rfl;exact t ⟨e,c⟩
   rw[e_ Y]at Z;exact s.ow j e c Z
  .intro j e c Z;have Y:i≠j:=by rintro rfl;exact t ⟨e,c⟩
   rw[e_ Y]at Z;exact s.bw j e c Z
  .intro j k b e e' hjk c hk Z hm' n f;have Y:i≠j:=by rintro rfl;exact t ⟨e,c⟩
   have q:i≠k:=by rintro rfl;exact t ⟨e',hk⟩
   rw[e_ Y]at Z;rw[e_ q]at hm';exact s.dis j k b e e' hjk c hk Z hm' n f
  .refine s.lk j o c ?_;by_cases Y:i=j
   .subst Y;rw[r_ l]at Z;cases Z
   .rw[e_ Y]at Z;exact Z
end
theorem PE.imp(h:PE X e t)(i:∀σ H Q,t' σ H Q->t σ H Q):PE X e t':=fun U s σ H Q I q=>h U s σ H Q I (i σ H Q q)
theorem PT.imp(h:PT X e t)(i:∀σ H Q,t' σ H Q->t σ H Q):PT X e t':=fun U s σ H Q I q=>h U s σ H Q I (i σ H Q q)
theorem PW.imp(h:PW X e t)(i:∀σ H Q,t' σ H Q->t σ H Q):PW X e t':=fun U Y s σ H Q I q=>h U Y s σ H Q I (i σ H Q q)
theorem PA.imp(h:PA X e t)(i:∀σ H Q,t' σ H Q->t σ H Q):PA X e t':=fun U Y s σ H Q I q=>h U Y s σ H Q I (i σ H Q q)
theorem PS.imp(h:PS X e t)(i:∀D σ H,t' D σ H->t D σ H):PS X e t':=fun U s σ H D I q=>h U s σ H D I (i D σ H q)
theorem d7.imp(h:d7 X e t)(i:∀D σ H,t' D σ H->t D σ H):d7 X e t':=fun U s σ H D I q=>h U s σ H D I (i D σ H q)
def Og(X:Cx)(σ:L2.St)(G:GH)(H':Hp)(e:a_)(x:D)(s':d_):Prop:=∃pz s H1 a C od nm ds,e=.ref a/\x=xD nm ds/\XN X.K nm C/\XF G od ds/\Inv X pz σ H1 s/\Fly X.prog X.w X.stack H1 s H' a (.ref C) od s'
def XW(X:Cx)(σ:L2.St)(G:GH)(H:Hp)(x:D):Prop:=∀pz e s' G' H',Grow X.K G H G' H'->Inv X pz σ H' s'->Og X σ G' H' e x s'->X.xe e s'
theorem XW.grow(h:XW X σ G H x)(w:Grow X.K G H Y U):XW X σ Y U x:=fun b e a d c Z I q=>h b e a d c (w.trans Z) I q
abbrev FE:=aI->Res D
noncomputable def tE(X:Cx)(g:GE)(m:List Md)(f:FE):TE:=fun σ H Q=>∃r G,SI X g m r G σ H/\fin (f r) (fun d=>∀v G' H',Grow X.K G H G' H'->RG X.K G' v d->Q v H') (XW X σ G H)
def tB(X:Cx)(g:GE)(m:List Md)(f:FE):TE:=fun σ H Q=>∃r G,SI X g m r G σ H/\fin (f r) (fun d=>∀v G' H',Grow X.K G H G' H'->RB X.K G' H' v d->Q v H') (XW X σ G H)
noncomputable def tO(X:Cx)(g:GE)(m:List Md)(f:FE):TE:=fun σ H Q=>∃r G,SI X g m r G σ H/\fin (f r) (fun d=>∀a G' H',Grow X.K G H G' H'->H a=none->Own X.K G' H' a d->Q (.ref a) H') (XW X σ G H)
noncomputable def tQ(X:Cx)(g:GE)(m:List Md)(f:aI->Res Bool):TT:=fun σ H Q=>∃r G,SI X g m r G σ H/\fin (f r) (fun b=>∀G' H',Grow X.K G H G' H'->Q b H') (XW X σ G H)
noncomputable def tL(X:Cx)(g:GE)(m:List Md)(f:aI->Res (List D)):TA:=fun σ H Q=>∃r G,SI X g m r G σ H/\fin (f r) (fun ds=>∀vs G' H',Grow X.K G H G' H'->dJ X.K G' vs ds->Q vs H') (XW X σ G H)
noncomputable def EY(X:Cx)(g:GE)(m:List Md)(f:aI->Res (List D)):TA:=fun σ H Q=>∃r G,SI X g m r G σ H/\fin (f r) (fun ds=>∀vs G' H',Grow X.K G H G' H'->Paired (RB X.K G' H') vs ds->Q vs H') (XW X σ G H)
def SE(X:Cx)(g:GE)(m:List Md)(e:Expr)(f:FE):Prop:=PE X e (tE X g m f)
def SB(X:Cx)(g:GE)(m:List Md)(e:Expr)(f:FE):Prop:=PE X e (tB X g m f)
def SO(X:Cx)(g:GE)(m:List Md)(e:Expr)(f:FE):Prop:=PE X e (tO X g m f)
def SQ(X:Cx)(g:GE)(m:List Md)(e:Expr)(f:aI->Res Bool):Prop:=PT X e (tQ X g m f)
def SW(X:Cx)(g:GE)(m:List Md)(e:Expr)(f:aI->Res Bool):Prop:=PW X e (tQ X g m f)
def SA(X:Cx)(g:GE)(m:List Md)(es:List Expr)(f:aI->Res (List D)):Prop:=PA X es (tL X g m f)
def jd(X:Cx)(g:GE)(m:List Md)(es:List Expr)(f:aI->Res (List D)):Prop:=PA X es (EY X g m f)
variable{a e b c:Expr}{f fa fb fc:FE}{pos:Pos}
theorem SE.toB(h:SE X g m e f):SB X g m e f:=PE.imp h fun a H Q y=>by obtain⟨r,G,U,q⟩:=y;exact ⟨r,G,U,bW q fun d k v Z Y w z=>k v Z Y w z.rb⟩
theorem Inv.fast{σ:L2.St}(I:Inv X pz σ H s)(a:Addr):∃g,Inv X pz σ (fz H a g) s:=by cases e:H a with
|none=>exact⟨{ cls:=.none,data:=.fields #[] },by unfold fz;rw[e];exact I⟩
|some u=>cases u with
 |dK f=>
   obtain⟨c,b,d,Z,o,h,i,U,Y⟩:=(I.hok a _ e)
   have j:fz H a o=aO H a (.frz o (.dK f)):=by unfold fz;rw[e]
   refine⟨o,?_⟩;rw[j];exact I.write (by rw[e];exact trivial) (.inl rfl) `s ⟨o,U⟩ (⟨U,c,b,d,Z,o,h,i,U,Y⟩)
 |_=>exact⟨{ cls:=.none,data:=.fields #[] },by unfold fz;rw[e];exact I⟩
theorem SO.toE(h:SO X g m e f):SE X g m e f:=by intro i s Z H Q I ⟨r,G,b,q⟩;refine bJ (h i s Z H (fun v Y=>∃a,v=.ref a/\∀U,Q v (fz Y a U)) I ⟨r,G,b,bW q fun d k a t Y w j o=>⟨a,rfl,fun U=>k _ _ _ (w.frz j o U) (.ref gV)⟩⟩) fun u p y=>?_;obtain⟨v,Y,n,c,a,_,z⟩:=y;obtain⟨U,l⟩:=Inv.fast n a;exact⟨v,_,l,c,z U⟩
theorem SO.toB(h:SO X g m e f):SB X g m e f:=h.toE.toB
theorem tZ(h:PE X e (tC v))(s:Scl v d):SE X g m e fun _=>.ok d:=PE.imp h fun Y H Q k=>by obtain⟨r,G,U,q⟩:=k;exact q v G H (Grow.refl U.gok) (.scl s)
theorem jE{j}:SE X g m (.Constant (.int i) j pos) fun _=>.ok (.int i):=tZ (fun _ _ _ H _ I h=>wpAny_Constant_int ⟨.int i,H,I.tok _,⟨_,rfl⟩,h⟩) (.int i)
theorem lR{j}:SE X g m (.Constant (.bool i) j pos) fun _=>.ok (.bl i):=tZ F5 (.bl i)
theorem fQ{j}:SE X g m (.Constant .none j pos) fun _=>.ok .non:=tZ (fun _ _ _ H _ I h=>Constant_none ⟨.non,H,I,rfl,h⟩) .non
theorem aU{j}:SE X g m (.Constant (.str i) j pos) fun _=>.ok (.str i):=tZ Bz (.str i)
noncomputable def eh(r:aI)(i:Nat):Res D:=match r[i]? with
|some (some d)=>.ok d
|_=>.stuck
theorem zi(h:fin (eh r i) q x):∃d,r[i]? = some (some d)/\q d:=by
 unfold eh at h;split at h
 .rename_i d e;exact⟨d,e,h⟩
 .exact h.elim
theorem Hd(Y:Gl X x)(U:X.mg x=some u)(r:aR v u)(s:Scl v d)(Z:!!Nq x):SE X g m (.Name x pos) fun _=>.ok d:=tZ (tY Y U r Z) s
theorem qi{k:D->D->Res i}{R:V->V->Hp->Prop}(l:SI X g m r G σ H)(h:fin ((fa r).bind fun c=>(fb r).bind fun b=>k c b) q (XW X σ G H))(s:∀c b Z Y d U,Grow X.K G H d U->RB X.K d U Z c->RB X.K d U Y b->fin (k c b) q (XW X σ G H)->R Z Y U):tB X g m fa σ H fun Z n=>tB X g m fb σ n fun Y U=>R Z Y U:=by refine⟨r,G,l,bW (cJ h) fun c a Z t n f p=>⟨r,t,l.grow f,?_⟩⟩;cases e:fb r with
|ok b=>rw[e]at a;exact fun Y d U j o=>s c b Z Y d U (f.trans j) (p.mono j) o a
|exc x=>rw[e]at a;exact(a).grow f
|stuck=>rw[e]at a;exact a
noncomputable def gj{α:Type}:Option α->Res α
|some a=>.ok a
|none=>.stuck
@[simp] theorem opt_some(a:U):gj (some a)=.ok a:=rfl
theorem d9{q:U->Prop}(h:fin (gj o) q x):∃a,o=some a/\q a:=by cases o with
|none=>exact h.elim
|some a=>exact⟨a,rfl,h⟩
def iZ(K:W.Frag)(r:R2)(k:D->D->Option D):Prop:=∀(G:GH)(H:Hp)(v1 v2:V)(d1 d2 d:D)(Q:VK),cK K G H->RB K G H v1 d1->RB K G H v2 d2->k d1 d2=some d ->(∀v G' H',Grow K G H G' H'->RG K G' v d->Q v H')->r v1 v2 H Q
def f2(fa fb:FE)(k:D->D->Option D):FE:=fun r=>(fa r).bind fun d1=>(fb r).bind fun d2=>gj (k d1 d2)
theorem Bh(i:iZ X.K R k)(h:PE X e (AH R (tB X g m fa) (tB X g m fb))):SE X g m e (f2 fa fb k):=by refine PE.imp h fun t H Q k=>?_;obtain⟨r,G,b,q⟩:=k;refine qi b q fun l j a Z p n w f c U=>?_;obtain⟨d,e,U⟩:=d9 U;exact i p n a Z l j d Q w.ok f c e fun v s o Y z=>U v s o (w.trans Y) z
theorem mV(U:eu X (ĝ op) R)(Y:iZ X.K R k)(c:SB X g m a fa)(Z:SB X g m b fb):SE X g m (.BinOp a op b pos) (f2 fa fb k):=Bh Y (F7 U c Z)
theorem Bd(l:eu X (ç op) R)(U:iZ X.K R k)(c:SB X g m a fa)(Z:SB X g m b fb)(Y:Ù op b=false):SE X g m (.Compare a [op] [b] pos) (f2 fa fb k):=Bh U ((fun U c Z Y=>by intro j s d H Q I h;exact wpAny_Compare1 (qK c Z I h fun v u e x y o n i f q=>U j e d o x y v u Q n i f q) Y) l c Z Y)
noncomputable def wU:D->Option Bool
|.bl b=>some b
|_=>none
def cN(f:FE):aI->Res Bool:=fun r=>(f r).bind fun d=>gj (wU d)
theorem oJ(n:eu X (ç op) R)(o:iZ X.K R k)(t:SB X g m a fa)(s:SB X g m b fb)(p:Ù op b=false):SQ X g m (.Compare a [op] [b] pos) (cN (f2 fa fb k)):=by
 refine PT.imp (IK n t s p) fun C H Q a=>?_;obtain⟨r,G,i,q⟩:=a;have e:cN (f2 fa fb k) r=(fa r).bind fun Y=>(fb r).bind fun Z=>(gj (k Y Z)).bind fun d=>gj (wU d):=by unfold cN f2;cases fa r with
 |ok Y=>cases fb r <;> rfl
 |exc _=>rfl
 |stuck=>rfl
 rw[e]at q;refine qi i q fun Y Z h f A x w l j U=>?_;obtain⟨d,e,U⟩:=d9 (cJ U);obtain⟨b,u,U⟩:=d9 U;cases d with
|bl E=>exact o A x h f Y Z _ _ w.ok l j e fun v B y c z=>⟨_,z.bl c.ok,U B y (w.trans c)⟩
|_=>cases u
instance decMul(i j:Int):Decidable (kY i j):=by unfold kY;infer_instance
instance decDiv(i j:Int):Decidable (oz i j):=by unfold oz;infer_instance
instance decPow(i j:Int):Decidable (qR i j):=by unfold qR;infer_instance
noncomputable def qU(k:Int->Int->D):D->D->Option D
|.int a,.int b=>some (k a b)
|_,_=>none
noncomputable def m7(C:Int->Int->Prop)[∀a b,Decidable (C a b)](k:Int->Int->D):D->D->Option D
|.int a,.int b=>if C a b then some (k a b)else none
|_,_=>none
@[simp] theorem intsC_int(C:Int->Int->Prop)[∀a b,Decidable (C a b)](k:Int->Int->D)(a b:Int):m7 C k (.int a) (.int b)=if C a b then some (k a b)else none:=rfl
theorem rF(a:∀i j,Scl (gv i j) (U i j)):iZ K (qj gv) (qU U):=by
 intro G H c b h f d Q g Z Y e q;unfold qU at e;split at e
 .cases e;exact⟨_,_,Z.int g,Y.int g,q _ G H (Grow.refl g) (.scl (a _ _))⟩
 .cases e
theorem rQ{C:Int->Int->Prop}[∀a b,Decidable (C a b)]{gv:Int->Int->V}{U:Int->Int->D}(c:∀i j,Scl (gv i j) (U i j)):iZ K (rI C gv) (m7 C U):=by
 intro G H h f l k d Q g Z Y e q;unfold m7 at e;split at e
 .split at e
  .rename_i hc;cases e;exact⟨_,_,Z.int g,Y.int g,hc,q _ G H (Grow.refl g) (.scl (c _ _))⟩
  .cases e
 .cases e
abbrev vZ:D->D->Option D:=qU fun a b=>.int (a-b)
abbrev cV:D->D->Option D:=m7 kY fun a b=>.int (a*b)
abbrev i0:D->D->Option D:=m7 oz fun a b=>.int (a/b)
abbrev cQ:D->D->Option D:=m7 (fun _ b=>0<b) fun a b=>.int (a%b)
abbrev j7:D->D->Option D:=m7 qR fun a b=>.int (a^b.toNat)
abbrev mL:D->D->Option D:=qU fun a b=>.bl (decide (a<b))
abbrev Oc:D->D->Option D:=qU fun a b=>.bl (decide (a<=b))
abbrev pq:D->D->Option D:=qU fun a b=>.bl (decide (b<a))
variable{p:FQ}{es:List Expr}{fl:aI->Res (List D)}
section
theorem xQ(Y:SB X g m a fa)(U:SB X g m b fb):SE X g m (.BinOp a .Sub b pos) (f2 fa fb vZ):=mV (wM fun _ _ _ _ _ _ _ q=>sub_int q) (rF fun _ _=>.int _) Y U
theorem jF(Z:SB X g m a fa)(Y:SB X g m b fb):SE X g m (.BinOp a .Mult b pos) (f2 fa fb cV):=mV (se fun _ _ _ _ _ _ _ U q=>mul_int q U.ok) (rQ fun _ _=>.int _) Z Y
theorem kK(Z:SB X g m a fa)(Y:SB X g m b fb):SE X g m (.BinOp a .FloorDiv b pos) (f2 fa fb i0):=mV (se fun i j _ _ _ _ _ U q=>by have d:(0:Int)<j:=U.1;have c:j<1073741824:=U.2;exact floordiv_int `o (by rw[QcP i `o];exact q) (.inl (PyProof.noPylong_small `o))) (rQ fun _ _=>.int _) Z Y
theorem fW(Z:SB X g m a fa)(Y:SB X g m b fb):SE X g m (.BinOp a .Mod b pos) (f2 fa fb cQ):=mV (se fun i j _ _ _ _ _ U q=>by have c:(0:Int)<j:=U;exact mod_int' `o (by rw[Int.fmod_eq_emod_of_nonneg i `o];exact q)) (rQ fun _ _=>.int _) Z Y
theorem Gp(Z:SB X g m a fa)(Y:SB X g m b fb):SE X g m (.BinOp a .Pow b pos) (f2 fa fb j7):=mV (se fun _ _ _ _ _ _ _ U q=>pow_int_small U.1 U.2.1 U.2.2 q) (rQ fun _ _=>.int _) Z Y
theorem wD(Y:SB X g m a fa)(U:SB X g m b fb):SE X g m (.Compare a [.Lt] [b] pos) (f2 fa fb mL):=Bd AX (rF fun _ _=>.bl _) Y U (oP _)
theorem kR(Y:SB X g m a fa)(U:SB X g m b fb):SQ X g m (.Compare a [.Lt] [b] pos) (cN (f2 fa fb mL)):=oJ AX (rF fun _ _=>.bl _) Y U (oP _)
theorem jx(Y:SB X g m a fa)(U:SB X g m b fb):SQ X g m (.Compare a [.Gt] [b] pos) (cN (f2 fa fb pq)):=oJ (qt fun _ _ _ _ _ _ _ q=>gt_int q) (rF fun _ _=>.bl _) Y U (oP _)
def f1(fa:FE)(k:D->Option D):FE:=fun r=>(fa r).bind fun d=>gj (k d)
noncomputable def Fm:D->Option D
|.int a=>some (.int (-a))
|_=>none
theorem Bg(f:SB X g m a fa):SE X g m (.UnaryOp .USub a pos) (f1 fa Fm):=by
 refine PE.imp (Xu (YY fun _ _ _ _ _ q=>neg_int q) f) fun k H Q z=>?_;obtain⟨r,G,Y,q⟩:=z;refine ⟨r,G,Y,bW (cJ q) fun d c v j h U Z=>?_⟩
 obtain⟨l,e,b⟩:=d9 c;cases d with
|int i=>cases e;exact⟨i,Z.int U.ok,b _ j h U (.scl (.int _))⟩
|_=>cases e
noncomputable def jY:D->Option Bool
|.non=>some false
|.bl b=>some b
|.int i=>some (i != 0)
|.str y=>if y.length<=sizeLine then some ((y.length:Int) != 0)else none
|.lst ds=>some (not ds.isEmpty)
|.tup ds=>some (not ds.isEmpty)
|.dic kvs=>some (not kvs.isEmpty)
|.obj _ _=>none
theorem C2{l:List Y}{r:List U}(h:Paired F l r):l.isEmpty=r.isEmpty:=by cases h <;> rfl
theorem Jk{b:Bool}(U:cK K G H)(h:RB K G H v d)(e:jY d=some b):qM K v H b:=by cases d with
|non=>cases e;rw[h.non U];rfl
|bl j=>cases e;rw[h.bl U];rfl
|int i=>cases e;rw[h.int U];rfl
|str y=>
  rw[h.str U];have Z:(if y.length<=sizeLine then some ((y.length:Int) != 0)else none)=some b:=e;by_cases c:y.length<=sizeLine
  .rw[Q_d c]at Z;cases Z;exact⟨c,rfl⟩
  .rw[Q_e c]at Z;cases Z
|lst g=>cases e;obtain⟨a,Y,rfl,s,r⟩:=h.lst U;exact .inl ⟨Y,s,by rw[C2 r]⟩
|tup g=>cases e;obtain⟨a,Y,rfl,s,r⟩:=h.tup U;exact .inr (.inl ⟨Y,s,by rw[C2 r]⟩)
|dic f=>cases e;obtain⟨a,Y,rfl,s,r⟩:=h.dic U;exact .inr (.inr ⟨Y,s,by rw[C2 r]⟩)
|obj _ _=>cases e
def dY(f:FE):aI->Res Bool:=fun r=>(f r).bind fun d=>gj (jY d)
theorem gN(j:SB X g m a fa)(i:!!!!∀U,isTrue a X.env U=(do let v <-U;ð a.pos;å [v] (ĸ v))):SQ X g m a (dY fa):=by
 refine PT.imp (zm j i) fun n H Q z=>?_;obtain⟨r,G,Z,q⟩:=z;refine ⟨r,G,Z,bW (cJ q) fun d h v l k Y c=>?_⟩
 obtain⟨b,e,f⟩:=d9 h;exact⟨b,Jk Y.ok c e,f l k Y⟩
abbrev FQ:=aI->Res Bool
def gM(p q:FQ):FQ:=fun r=>(p r).bind fun c=>if c=true then q r else .ok false
def kb(p q:FQ):FQ:=fun r=>(p r).bind fun c=>if c=true then .ok true else q r
def iY(p:FQ):FQ:=fun r=>(p r).bind fun c=>.ok (not c)
variable{q:FQ}{rest:List Expr}
theorem jr{r:Res U}{G b:GH}(h:fin r P (XW X σ G H))(w:Grow X.K G H b Z)(c:∀a,P a->Y a):fin r Y (XW X σ b Z):=by
   have h:=(bW h c)
   cases r with
  |ok a=>exact h
  |exc e=>exact(fun _ x=>x.grow w) e h
  |stuck=>exact h
theorem tJ(Z:SQ X g m a p):SW X g m (.BoolOp .And [a] pos) p:=by intro b Y s U H Q I h;refine isTrue_and (bJ (Z Y s U H Q I h) fun c d e=>?_);cases c with
  |true=>exact isTrue_and_nil e
  |false=>exact e
theorem mU(Z:SQ X g m a p):SW X g m (.BoolOp .Or [a] pos) p:=by intro b Y s U H Q I h;refine isTrue_or (bJ (Z Y s U H Q I h) fun c d e=>?_);cases c with
  |false=>exact isTrue_or_nil e
  |true=>exact e
theorem sP(h:SQ X g m a p)(f:SW X g m (.BoolOp .And (b::rest) pos) q):SW X g m (.BoolOp .And (a::b::rest) pos) (gM p q):=by
 refine PW.imp (Ow h f) fun n H Q y=>?_;obtain⟨r,G,Y,k⟩:=y;refine ⟨r,G,Y,bW (cJ k) fun c Z d i U=>?_⟩
 cases c with
|true=>exact⟨r,d,Y.grow U,jr Z U fun b z l j e=>z l j (U.trans e)⟩
|false=>exact Z d i U
theorem gY(h:SQ X g m a p)(f:SW X g m (.BoolOp .Or (b::rest) pos) q):SW X g m (.BoolOp .Or (a::b::rest) pos) (kb p q):=by
 refine PW.imp (Xw h f) fun n H Q y=>?_;obtain⟨r,G,Y,k⟩:=y;refine ⟨r,G,Y,bW (cJ k) fun c Z d i U=>?_⟩
 cases c with
|true=>exact Z d i U
|false=>exact⟨r,d,Y.grow U,jr Z U fun b z l j e=>z l j (U.trans e)⟩
theorem SW.toQ(h:SW X g m e p):SQ X g m e p:=PW.pt h
theorem ly(b:SQ X g m a p):SQ X g m (.UnaryOp .Not a pos) (iY p):=PT.imp (yJ b) fun f H Q z=>by obtain⟨r,G,Y,k⟩:=z;exact ⟨r,G,Y,bW (cJ k) fun c Z e d U=>Z e d U⟩
def jX(fa fb:FE):FE:=fun r=>(fa r).bind fun d=>(gj (wU d)).bind fun c=>if c=true then fb r else .ok (.bl false)
def ER(fa:FE):FE:=fun r=>(fa r).bind fun d=>(gj (wU d)).bind fun c=>.ok (.bl (not c))
theorem oE{op}(h:SE X g m a fa):SE X g m (.BoolOp op [a] pos) fa:=fun Y s U H Q I Z=>BoolOp_one (h Y s U H Q I Z)
theorem oB(n:SE X g m a fa)(l:SE X g m (.BoolOp .And (b::rest) pos) fb):SE X g m (.BoolOp .And (a::b::rest) pos) (jX fa fb):=by
 refine PE.imp (Oi n l) fun s H Q y=>?_;obtain⟨r,G,Y,k⟩:=y;refine ⟨r,G,Y,bW (cJ k) fun d j v f o U i=>?_⟩
 obtain⟨c,e,Z⟩:=d9 (cJ j);cases d with
|bl t=>cases e;refine⟨_,i.bl U.ok,?_⟩;cases c with
 |true=>exact⟨r,f,Y.grow U,jr Z U fun b z v q p h=>z v q p (U.trans h)⟩
 |false=>exact Z _ f o U (.scl (.bl _))
|_=>cases e
theorem YN(h:SE X g m a fa):SE X g m (.UnaryOp .Not a pos) (ER fa):=by
 refine PE.imp (Om h) fun l H Q z=>?_;obtain⟨r,G,Y,k⟩:=z;refine ⟨r,G,Y,bW (cJ k) fun d f v j i U Z=>?_⟩
 obtain⟨c,e,b⟩:=d9 (cJ f);cases d with
|bl n=>cases e;exact⟨_,Z.bl U.ok,b _ j i U (.scl (.bl _))⟩
|_=>cases e
def qy(p:FQ)(fa fb:FE):FE:=fun r=>(p r).bind fun c=>if c=true then fa r else fb r
theorem pB(i:SQ X g m c p)(l:SE X g m a fa)(j:SE X g m b fb):SE X g m (.IfExp c a b pos) (qy p fa fb):=by
 refine PE.imp (SY i l j) fun n H Q y=>?_;obtain⟨r,G,Z,k⟩:=y;refine ⟨r,G,Z,bW (cJ k) fun c f h o U=>?_⟩
 cases c with
|true=>exact⟨r,h,Z.grow U,jr f U fun b z v e d Y=>z v e d (U.trans Y)⟩
|false=>exact⟨r,h,Z.grow U,jr f U fun b z v e d Y=>z v e d (U.trans Y)⟩
variable{fr:aI->Res (List D)}
noncomputable def aE:aI->Res (List D):=fun _=>.ok []
def aG(fa:FE)(fl:aI->Res (List D)):aI->Res (List D):=fun r=>(fa r).bind fun d=>(fl r).bind fun ds=>.ok (d::ds)
theorem dh:SA X g m [] aE:=PA.imp jT fun Y H Q z=>by obtain⟨r,G,U,k⟩:=z;exact k [] G H (Grow.refl U.gok) .nil
theorem aQ(i:SE X g m e fa)(h:SA X g m es fl)(f:!Sx X e es):SA X g m (e::es) (aG fa fl):=by
 refine PA.imp (gR i h f) fun o H Q y=>?_;obtain⟨r,G,Z,k⟩:=y;refine ⟨r,G,Z,bW (cJ k) fun d c v n s U b=>⟨r,n,Z.grow U,?_⟩⟩
 exact jr (cJ c) U fun q z p l j Y a=>z _ l j (U.trans Y) (.cons (b.mono Y.ge) a)
theorem dg(Y:SE X g m e fa)(U:!Sx X e []):SA X g m [e] (aG fa aE):=aQ Y dh U
theorem NZ:jd X g m [] aE:=PA.imp jT fun Y H Q z=>by obtain⟨r,G,U,k⟩:=z;exact k [] G H (Grow.refl U.gok) .nil
theorem rm(i:SB X g m e fa)(h:jd X g m es fl)(f:!Sx X e es):jd X g m (e::es) (aG fa fl):=by
 refine PA.imp (gR i h f) fun o H Q y=>?_;obtain⟨r,G,Z,k⟩:=y;refine ⟨r,G,Z,bW (cJ k) fun d c v n s U b=>⟨r,n,Z.grow U,?_⟩⟩
 exact jr (cJ c) U fun q z p l j Y a=>z _ l j (U.trans Y) (.cons (b.mono Y) a)
theorem bK(Y:SB X g m e fa)(U:!Sx X e []):jd X g m [e] (aG fa aE):=rm Y NZ U
noncomputable def sz(ds:List D):Option (List D):=if ds.length<=sizeLine then some ds else none
theorem yB(h:sz ds=some U):U=ds/\ds.length<=sizeLine:=by unfold sz at h;grind
def gq(fl:aI->Res (List D)):FE:=fun r=>(fl r).bind fun ds=>(gj (sz ds)).bind fun ds=>.ok (.tup ds)
def ja(fl:aI->Res (List D)):FE:=fun r=>(fl r).bind fun ds=>(gj (sz ds)).bind fun ds=>.ok (.lst ds)
theorem dw{x1}(h:SA X g m es fl):SE X g m (.Tuple es x1 pos) (gq fl):=by
 refine PE.imp (On h) fun i H Q z=>?_;obtain⟨r,G,a,k⟩:=z;refine ⟨r,G,a,bW (cJ k) fun n c j q o U Y=>?_⟩
 obtain⟨f,e,b⟩:=d9 (cJ c);obtain⟨rfl,l⟩:=yB e;have Z:=Paired.length Y;refine⟨`o,fun p d=>?_⟩;exact b _ _ _ (U.trans (Grow.newF U.ok d (.tup (.inl cX) Y))) (.ref gV)
theorem dL(h:SA X g m es fl):SO X g m (.List es pos) (ja fl):=by
 refine PE.imp (Ol h) fun l H Q z=>?_;obtain⟨r,G,b,k⟩:=z;refine ⟨r,G,b,bW (cJ k) fun t d n j u U Z=>?_⟩
 obtain⟨i,e,c⟩:=d9 (cJ d);obtain⟨rfl,s⟩:=yB e;have a:=Paired.length Z;refine⟨`o,fun p Y=>?_⟩;have f:H p=none:=by cases q:H p with
 |none=>rfl
 |some o=>rw[U.he _ _ q]at Y;cases Y
 exact c p j _ (U.trans (Grow.new U.ok Y _)) f ⟨U.ok.isN Y,.lst cX Z⟩
end
def NS(K:W.Frag)(r:List V->Hp->VK->Prop)(k:List D->Option D):Prop:=∀(G:GH)(H:Hp)(vs:List V)(ds:List D)(d:D)(Q:VK),cK K G H->Paired (RB K G H) vs ds->k ds=some d ->(∀v G' H',Grow K G H G' H'->RG K G' v d->Q v H')->r vs H Q
def NU(K:W.Frag)(r:List V->Hp->VK->Prop)(k:List D->Option D):Prop:=∀(G:GH)(H:Hp)(vs:List V)(ds:List D)(d:D)(Q:VK),cK K G H->Paired (RB K G H) vs ds->k ds=some d ->(∀a G' H',Grow K G H G' H'->H a=none->Own K G' H' a d->Q (.ref a) H')->r vs H Q
def fC(fl:aI->Res (List D))(k:List D->Option D):FE:=fun r=>(fl r).bind fun ds=>gj (k ds)
theorem Grow.back(w:Grow K G H Z Y){a:Addr}(U:Y a=none):H a=none:=by cases q:H a with
|none=>rfl
|some o=>rw[w.he _ _ q]at U;cases U
section
variable{p p2:Pos}{x:Str}{id T:String}{R:List V->Hp->VK->Prop}{k:List D->Option D}
theorem ju(i:NS X.K R k)(h:PE X e (AJ R (EY X g m fl))):SE X g m e (fC fl k):=by
 refine PE.imp h fun s H Q k=>?_;obtain⟨r,G,a,q⟩:=k;refine ⟨r,G,a,bW (cJ q) fun j f Z o l U b=>?_⟩
 obtain⟨d,e,c⟩:=d9 f;exact i o l Z j d Q U.ok b e fun v p n Y z=>c v p n (U.trans Y) z
theorem GG(j:NU X.K R k)(h:PE X e (AJ R (EY X g m fl))):SO X g m e (fC fl k):=by
 refine PE.imp h fun t H Q k=>?_;obtain⟨r,G,a,q⟩:=k;refine ⟨r,G,a,bW (cJ q) fun l f Z p n U b=>?_⟩
 obtain⟨d,e,c⟩:=d9 f;exact j p n Z l d Q U.ok b e fun v s o Y i z=>c v s o (U.trans Y) (U.back i) z
noncomputable def lenD:List D->Option D
|[.str y]=>if y.length<=sizeLine then some (.int y.length)else none
|[.lst ds]=>some (.int ds.length)
|[.tup ds]=>some (.int ds.length)
|[.dic kvs]=>some (.int kvs.length)
|_=>none
theorem OJ:NS K (fun xs H Q=>(∃x n,xs=[x]/\wY K x H n/\Q (.int n) H)\/∃a Y,xs=[V.ref a]/\Rd H a (.dK Y)/\Q (.int Y.length) H) lenD:=by
 intro G H b c d Q U Z e q;unfold lenD at e;split at e
 .split at e
  .cases e;cases Z with
  |cons r t=>cases t;exact .inl ⟨_,_,rfl,by rw[r.str U];exact⟨by assumption,rfl⟩,q _ G H (Grow.refl U) (.scl (.int _))⟩
  .cases e
 .cases e;cases Z with
 |cons r t=>cases t;obtain⟨a,xs,rfl,s,r⟩:=r.lst U;have:=Paired.length r;exact .inl ⟨_,_,rfl,.inl ⟨xs,s,rfl⟩,q _ G H (Grow.refl U) (.scl (by rw[this];exact .int _))⟩
 .cases e;cases Z with
 |cons r t=>cases t;obtain⟨a,xs,rfl,s,r⟩:=r.tup U;have:=Paired.length r;exact .inl ⟨_,_,rfl,.inr ⟨xs,s,rfl⟩,q _ G H (Grow.refl U) (.scl (by rw[this];exact .int _))⟩
 .cases e;cases Z with
 |cons r t=>cases t;obtain⟨a,xs,rfl,s,r⟩:=r.dic U;have:=Paired.length r;exact .inr ⟨_,_,rfl,s,q _ G H (Grow.refl U) (.scl (by rw[this];exact .int _))⟩
 .cases e
theorem d8(d:Gl X "len")(c:X.mg "len" = none)(Z:jd X g m (e::es) fl)(f:!Sx X e es)(Y:!Bx X pos es):SE X g m (.Call (.Name "len" p) (e::es) [] pos) (fC fl lenD):=ju OJ (nA (gT.or RF (by intro o s j H k l Q I r h;obtain⟨a,U,rfl,Z,q⟩:=h;obtain⟨u,rfl,b⟩:=ik r;cases b;exact XV I Z fun t n i=>⟨.int U.length,H,i,⟨t,rfl⟩,q⟩)) d c PySem.boot_len Z `d (rfl) f Y)
noncomputable def xS:List D->Option D
|[.lst ds]=>some (.lst ds)
|[.tup ds]=>some (.lst ds)
|_=>none
theorem Qz:NU K (fun xs H Q=>∃p U,xs=[.ref p]/\(dq K H p U\/e8 K H p U)/\∀l,H l=none->Q (.ref l) (aO H l (.lst U))) xS:=by
 intro G H h i d Q Y f e q;have fin:∀{U:List V}{c:List D},dJ K G U c->(∀(a:Addr)(g:GH)(b:Hp),Grow K G H g b->H a=none->Own K g b a (.lst c)->Q (.ref a) b)->∀l,H l=none->Q (.ref l) (aO H l (.lst U)):=fun r q l Z=>q l G _ (Grow.new Y Z _) Z ⟨Y.isN Z,.lst cX r⟩;unfold xS at e;split at e
 .cases e;cases f with
 |cons r t=>cases t;obtain⟨a,xs,rfl,s,r⟩:=r.lst Y;exact⟨a,xs,rfl,.inl s,fin r q⟩
 .cases e;cases f with
 |cons r t=>cases t;obtain⟨a,xs,rfl,s,r⟩:=r.tup Y;exact⟨a,xs,rfl,.inr s,fin r q⟩
 .cases e
theorem yE(C:Gl X "list")(B:X.mg "list" = none)(F:jd X g m (e::es) fl)(E:!Sx X e es)(i:!Bx X pos es) :
  SO X g m (.Call (.Name "list" p) (e::es) [] pos) (fC fl xS):=GG Qz (o9 (by
     intro z s x H G J Q I r h;obtain⟨p,d,rfl,Z,q⟩:=h;obtain⟨u,rfl,y⟩:=ik r;cases y;have fin:∀(U:List a_),aJ d U->d.length<=sizeLine->∀(c:Heap)(t:Nat),(∀b v,s.heap.get? b=some v->c.get? b=some v) ->c.get? s.heap.objs.size=some { cls:=.type "list",dict:=none,data:=.seq U.toArray t,slots:=#[] }->EP X z x Q _ { s with heap:=c }:=fun U Y f c t A e=>⟨.ref s.heap.objs.size,_,I.laid A (k_ _) (show fJ X.prog X.w _ c _ (.lst d)from⟨f,U,t,Y,e⟩),rfl,q _ (I.hok.fresh (k_ _))⟩
     rcases Z with Z|Z
     .obtain⟨U,Y,pl,f⟩:=I.list Z;have a:=Y.length;obtain⟨o,j,l,n,k⟩:=pl.isList;exact call_list_seq p (.inl rfl) j l k `g `g
     .obtain⟨U,Y,pl,f⟩:=I.tuple Z;have a:=Y.length;obtain⟨o,j,l,n,k⟩:=pl;exact call_list_seq p (.inr rfl) j l k `g `g) C B rfl F `d (rfl) E i)
noncomputable def tupD:List D->Option D
|[.lst ds]=>some (.tup ds)
|[.tup ds]=>some (.tup ds)
|_=>none
theorem jH(h:Gl X "tuple")(c:X.mg "tuple" = none)(j:jd X g m (e::es) fl)(i:!Sx X e es)(Z:!Bx X pos es) :
  SE X g m (.Call (.Name "tuple" p) (e::es) [] pos) (fC fl tupD):=ju (by
     intro G H k n d Q U b e q;unfold tupD at e;split at e
     .cases e;cases b with
     |cons r t=>cases t;obtain⟨a,Y,rfl,s,r⟩:=r.lst U;exact⟨a,Y,rfl,.inl ⟨s,fun l f=>q _ _ _ (Grow.newF U f (.tup (.inl cX) r)) (.ref gV)⟩⟩
     .cases e;cases b with
     |cons r t=>
       cases t;rcases r with r|⟨a,_,o⟩
       .obtain⟨a,Y,rfl,s,r'⟩:=r.tup U;exact⟨a,Y,rfl,.inr ⟨s,q _ G H (Grow.refl U) r⟩⟩
       .cases o.ob
     .cases e) (o9 Wh h c rfl j `d (rfl) i Z)
def ixD:D->D->Option D
|.lst ds,.int i=>jM ds i
|.tup ds,.int i=>jM ds i
|.str z,.int i=>if z.length<=sizeLine then(jM z.cps.toList i).map fun c=>.str ⟨#[c]⟩else none
|_,_=>none
theorem NY(r:dJ K G xs ds)(h:jM ds i=some d):∃v,jM xs i=some v/\RG K G v d:=by unfold jM at h ⊢;rw[Paired.length r];cases e:j9 ds.length i with
|none=>rw[e]at h;cases h
|some j=>rw[e]at h;exact Paired.get r h
theorem A6:iZ K (Zc K) ixD:=by
 intro G H j h l k d Q U b Z e q;unfold ixD at e;split at e
 .obtain⟨a,xs,rfl,s,r⟩:=b.lst U;obtain⟨v,f,Y⟩:=NY r e;exact .inl ⟨a,xs,_,v,rfl,Z.int U,s,f,q v G H (Grow.refl U) Y⟩
 .obtain⟨a,xs,rfl,s,r⟩:=b.tup U;obtain⟨v,f,Y⟩:=NY r e;exact .inr (.inl ⟨a,xs,_,v,rfl,Z.int U,s,f,q v G H (Grow.refl U) Y⟩)
 .split at e
  .rename_i z i hz;cases g:jM z.cps.toList i with
  |none=>rw[g]at e;cases e
  |some c=>rw[g]at e;cases e;exact .inr (.inr ⟨z,i,c,b.str U,Z.int U,hz,g,q _ G H (Grow.refl U) (.scl (.str _))⟩)
  .cases e
 .cases e
def ie{α:Type}(xs:List α)(lo hi:Option Int):List α:=(xs.drop (HT.sIx xs.length 0 lo)).take (HT.sIx xs.length xs.length hi-HT.sIx xs.length 0 lo)
theorem N0{xs:List Y}{ds:List U}(r:Paired F xs ds)(lo hi:Option Int):Paired F (ie xs lo hi) (ie ds lo hi):=by unfold ie;rw[Paired.length r];exact Paired.tk _ (Paired.dr _ r)
abbrev FP:=aI->Res (Option Int)
noncomputable def tP(X:Cx)(g:GE)(m:List Md)(f:FP):TO:=fun σ H Q=>∃r G,SI X g m r G σ H/\fin (f r) (fun o=>∀G' H',Grow X.K G H G' H'->Q o H') (XW X σ G H)
def sk(X:Cx)(g:GE)(m:List Md)(e:Option Expr)(f:FP):Prop:=PO X e (tP X g m f)
theorem PO.imp{e:Option Expr}(h:PO X e t)(i:∀σ H Q,t' σ H Q->t σ H Q):PO X e t':=fun U s σ H Q I q=>h U s σ H Q I (i σ H Q q)
noncomputable def Zd:D->Option Int
|.int i=>some i
|_=>none
def oK(f:FE):FP:=fun r=>(f r).bind fun d=>(gj (Zd d)).bind fun i=>.ok (some i)
theorem oQ:sk X g m none fun _=>.ok none:=PO.imp (by intro Z s U H Q I h;exact f_ ⟨none,H,I,.none,h⟩) fun U H Q k=>by obtain⟨r,G,Y,q⟩:=k;exact q G H (Grow.refl Y.gok)
theorem oR(h:SB X g m e f):sk X g m (some e) (oK f):=by
 refine PO.imp (Rr h) fun l H Q z=>?_;obtain⟨r,G,Y,q⟩:=z;refine ⟨r,G,Y,bW (cJ q) fun d b v k c U Z=>?_⟩
 obtain⟨i,e,a⟩:=d9 (cJ b);cases d with
|int j=>cases e;exact⟨_,Z.int U.ok,a k c U⟩
|_=>cases e
def E8(d:D)(lo hi:Option Int):Option D:=match d with
|.tup ds=>if HT.sIx ds.length 0 lo=0/\HT.sIx ds.length ds.length hi=ds.length then none else some (.tup (ie ds lo hi))
|.lst ds=>some (.lst (ie ds lo hi))
|_=>none
def FC(fa:FE)(fl fh:FP):FE:=fun r=>(fa r).bind fun d=>(fl r).bind fun lo=>(fh r).bind fun hi=>gj (E8 d lo hi)
end
inductive Out where
 |nx (r:aI)|rt (d:D)|bk (r:aI)|ct (r:aI)|exc (x:D) (r:aI)|stuck
abbrev FS:=aI->Out
def bU(G G':GH):Prop:=∀a d,G a=some d->G' a=some d
theorem bU.refl(G:GH):bU G G:=fun _ _ e=>e
theorem bU.trans(a:bU G Y)(b:bU Y U):bU G U:=fun x d e=>b x d (a x d e)
noncomputable def forget(m:List Md)(r:aI):aI:=Ł (fun md o=>if md=Md.sh then o else none) m r
noncomputable def fD(m:List Md):List Md:=m.map fun _=>Md.sh
theorem vA{i:Nat}(h:(forget m r)[i]? = some (some d)):r[i]? = some (some d)/\m[i]? = some .sh:=by unfold forget at h;rw[Qdy]at h;cases Y:m[i]? with
|none=>rw[Y]at h;cases h
|some a=>cases Z:r[i]? with
 |none=>rw[Y,Z]at h;cases h
 |some o=>
   rw[Y,Z]at h;have U:(if a=Md.sh then o else none)=some d:=T_ h;split at U
   .rename_i hm;subst hm;rw[U];exact⟨rfl,rfl⟩
   .cases U
section
variable{st:L2.St}
theorem SI.forget(s:SI X g m r G st H):SI X g (fD m) (forget m r) G st H where
 gok:=s.gok
 old:=s.old
 ge:=s.ge
 gf:=s.gf
 lm:=by rw[fD,p_];exact s.lm
 lr:=by rw[DL.forget,Qcz,s.lm,s.lr,Nat.min_self]
 sh:=fun i d h _=>s.sh i d (vA h).1 (vA h).2
 ow:=fun i d h U=>by rw[fD,K_,(vA h).2]at U;cases U
 bw:=fun i d h U=>by rw[fD,K_,(vA h).2]at U;cases U
 dis:=fun i j a d e _ h _ U=>by rw[fD,K_,(vA h).2]at U;cases U
 lk:=fun i o _ U=>by rw[fD,K_]at U;cases q:m[i]? <;> rw[q]at U <;> cases U
theorem SI.set(s:SI X g m r G st H)(i:Nat)(t:RG X.K G v d):SI X g (m.set i .sh) (r.set i (some d)) G (st.set i (some v)) H where
 gok:=s.gok
 old:=s.old
 ge:=s.ge
 gf:=s.gf
 lm:=by simp[s.lm]
 lr:=by simp[s.lr]
 sh:=fun j e h Y=>by
  by_cases U:i=j
  .subst U;have Z:i<r.length:=by have:=(g_.mp h).1;simpa using this
   rw[r_ Z]at h;cases h;exact⟨v,by rw[r_ (by rw[<-s.lr];exact Z)],t⟩
  .rw[e_ U]at h Y;rw[e_ U];exact s.sh j e h Y
 ow:=fun j e h Y=>by
  by_cases U:i=j
  .subst U;have Z:i<m.length:=by have:=(g_.mp Y).1;simpa using this
   rw[r_ Z]at Y;cases Y
  .rw[e_ U]at h Y;rw[e_ U];exact s.ow j e h Y
 bw:=fun j e h Y=>by
  by_cases U:i=j
  .subst U;have Z:i<m.length:=by have:=(g_.mp Y).1;simpa using this
   rw[r_ Z]at Y;cases Y
  .rw[e_ U]at h Y;rw[e_ U];exact s.bw j e h Y
 dis:=fun j k a x w c q l Y b p n=>by
  have U:i≠j:=by
   rintro rfl
   have Z:i<m.length:=by have:=(g_.mp Y).1;simpa using this
   rw[r_ Z]at Y;cases Y
  have f:i≠k:=by
   rintro rfl
   have Z:i<m.length:=by have:=(g_.mp l).1;rw[Ē,s.lr,<-s.lm]at this;exact this
   rw[r_ Z]at b;cases b
  rw[e_ U]at q Y p;rw[e_ f]at l b n;exact s.dis j k a x w c q l Y b p n
 lk:=fun j o u Y=>by
  have U:i≠j:=by
   rintro rfl
   have Z:i<m.length:=by have:=(g_.mp Y).1;simpa using this
   rw[r_ Z]at Y;cases Y
  rw[e_ U]at Y;have:=s.lk j o u Y;exact⟨by rw[e_ U];exact this.1,fun d h=>this.2 d (by rw[e_ U]at h;exact h)⟩
theorem SI.setO(s:SI X g m r G st H)(i:Nat){a:Addr}(w:Own X.K G H a d)(y:g.h0 a=none)(t:∀(j:Nat)(b:Addr)(e:D),r[j]? = some (some e)->m[j]? = some Md.ow->st[j]? = some (some (V.ref b))->b≠a):SI X g (m.set i .ow) (r.set i (some d)) G (st.set i (some (V.ref a))) H where
 gok:=s.gok
 old:=s.old
 ge:=s.ge
 gf:=s.gf
 lm:=by simp[s.lm]
 lr:=by simp[s.lr]
 sh:=fun j e h Y=>by
  by_cases U:i=j
  .subst U;have Z:i<m.length:=by have:=(g_.mp Y).1;simpa using this
   rw[r_ Z]at Y;cases Y
  .rw[e_ U]at h Y;rw[e_ U];exact s.sh j e h Y
 ow:=fun j e h Y=>by
  by_cases U:i=j
  .subst U;have Z:i<r.length:=by have:=(g_.mp h).1;simpa using this
   rw[r_ Z]at h;cases h;exact⟨a,by rw[r_ (by rw[<-s.lr];exact Z)],w,y⟩
  .rw[e_ U]at h Y;rw[e_ U];exact s.ow j e h Y
 bw:=fun j e h Y=>by
  by_cases U:i=j
  .subst U;have Z:i<m.length:=by have:=(g_.mp Y).1;simpa using this
   rw[r_ Z]at Y;cases Y
  .rw[e_ U]at h Y;rw[e_ U];exact s.bw j e h Y
 dis:=fun j k b v u n q p Y l f c=>by
  by_cases U:i=j
  .subst U;rw[e_ n]at p l c;have Z:i<st.length:=by have:=(g_.mp f).1;simpa using this
   rw[r_ Z]at f;have e:a=b:=by injection f with f;injection f with f;injection f
   exact t k b u p l c e.symm
  .by_cases hik:i=k
   .subst hik;rw[e_ U]at q Y f;have Z:i<st.length:=by have:=(g_.mp c).1;simpa using this
    rw[r_ Z]at c;have e:a=b:=by injection c with c;injection c with c;injection c
    exact t j b v q Y f e.symm
   .rw[e_ U]at q Y f;rw[e_ hik]at p l c;exact s.dis j k b v u n q p Y l f c
 lk:=fun j o x Y=>by
  have U:i≠j:=by
   rintro rfl
   have Z:i<m.length:=by have:=(g_.mp Y).1;simpa using this
   rw[r_ Z]at Y;cases Y
  rw[e_ U]at Y;have:=s.lk j o x Y;exact⟨by rw[e_ U];exact this.1,fun d h=>this.2 d (by rw[e_ U]at h;exact h)⟩
theorem SI.other(s:SI X g m r G st H){p:Addr}(n:G p=none)(t:g.h0 p=none)(Z:∀(i:Nat),m[i]?≠some Md.ow)(o:HO):SI X g m r G st (aO H p o) where
 gok:=fun b e h=>(s.gok b e h).mono `g fun Y q=>by rw[bL `g];exact q
 old:=fun b Y h=>by rw[bL `g];exact s.old b Y h
 ge:=s.ge
 gf:=s.gf
 lm:=s.lm
 lr:=s.lr
 sh:=s.sh
 ow:=fun i d _ h=>Q_f h (Z i)
 bw:=fun i d l k=>by
  obtain⟨v,f,U⟩:=s.bw i d l k;refine⟨v,f,?_⟩;rcases U with U|⟨a,rfl,U,c⟩
  .exact .inl U
  .have ha:a≠p:=`g
   exact .inr ⟨a,rfl,⟨U.un,U.ob.mono `g fun Y z=>by rw[bL ha];exact z⟩,c⟩
 dis:=fun i j a d e _ _ _ h=>Q_f h (Z i)
 lk:=s.lk
theorem SI.less(s:SI X g m r G st H)(Y:r'.length=r.length)(h:∀(i:Nat) d,r'[i]? = some (some d)->r[i]? = some (some d)):SI X g m r' G st H:=⟨s.gok,s.old,s.ge,s.gf,s.lm,Y.trans s.lr,fun i d a b=>s.sh i d (h i d a) b,fun i d a b=>s.ow i d (h i d a) b,fun i d a b=>s.bw i d (h i d a) b,fun i j a d e n p q x y=>s.dis i j a d e n (h i d p) (h j e q) x y,fun i o Z U=>by have:=s.lk i o Z U;exact⟨this.1,fun d c=>this.2 d (h i d c)⟩⟩
theorem SI.held(s:SI X g m r G st H){j:Nat}{b:Addr}{e:D}(h:r[j]? = some (some e))(Z:m[j]? = some .ow)(Y:st[j]? = some (some (V.ref b))):H b≠none:=by
 obtain⟨a,U,c,_⟩:=s.ow j e h Z;rw[Y]at U;injection U with U;injection U with U;injection U with U
 rw[U];exact c.ob.isS
theorem SI.setN(s:SI X g m r G st H)(w:Grow X.K G H Z Y)(i:Nat){a:Addr}(U:H a=none)(c:Own X.K Z Y a d):SI X g (m.set i .ow) (r.set i (some d)) Z (st.set i (some (V.ref a))) Y:=by
 refine(s.grow w).setO i c ?_ fun j b e k h f=>?_
 .cases q:g.h0 a with
 |none=>rfl
 |some o=>rw[s.old _ _ q]at U;cases U
 .rintro rfl
  exact s.held k h f U
theorem SI.mut(s:SI X g m r G st H)(p:m[i]? = some .ow)(t:r[i]? = some (some d)):∃a,st[i]? = some (some (V.ref a))/\Own X.K G H a d/\∀(u:HO)(d':D),OwnO X.K G (aO H a u) a d'->SI X g m (r.set i (some d')) G st (aO H a u):=by
 obtain⟨a,B,A,y⟩:=s.ow i d t p;have L:i<r.length:=(g_.mp t).1;refine⟨a,B,A,fun u d' J=>?_⟩;have Y:∀(j:Nat)(b:Addr)(e:D),j≠i->r[j]? = some (some e)->m[j]? = some .ow->st[j]? = some (some (V.ref b))->b≠a:=fun j b e x l f n z=>by subst z;exact s.dis i j b d e (ê x) t l p f B n
 refine⟨fun b e h=>?_,fun b o h=>?_,s.ge,s.gf,s.lm,by simp[s.lr],?_,?_,?_,?_,fun j o x Z=>?_⟩
 .have hb:b≠a:=by rintro rfl;rw[A.un]at h;cases h
  exact(s.gok b e h).mono (fun _ _ z=>z) fun o q=>by rw[bL hb];exact q
 .have hb:b≠a:=by rintro rfl;rw[y]at h;cases h
  rw[bL hb];exact s.old b o h
 .intro j e h Z;have c:i≠j:=by rintro rfl;rw[p]at Z;cases Z
  rw[e_ c]at h;exact s.sh j e h Z
 .intro j e h Z;by_cases c:i=j
  .subst c;rw[r_ L]at h;cases h;exact⟨a,B,⟨A.un,J⟩,y⟩
  .rw[e_ c]at h;obtain⟨b,l,f,n⟩:=s.ow j e h Z;have hb:=Y j b e (ê c) h Z l;exact⟨b,l,⟨f.un,f.ob.mono (fun _ _ z=>z) fun o z=>by rw[bL hb];exact z⟩,n⟩
 .intro j e h Z;have c:i≠j:=by rintro rfl;rw[p]at Z;cases Z
  rw[e_ c]at h;obtain⟨v,l,f⟩:=s.bw j e h Z;refine⟨v,l,?_⟩;rcases f with f|⟨b,rfl,f,n⟩
  .exact .inl f
  .have hb:b≠a:=by rintro rfl;exact n y
   exact .inr ⟨b,rfl,⟨f.un,f.ob.mono (fun _ _ z=>z) fun o z=>by rw[bL hb];exact z⟩,n⟩
 .have bound:∀(j:Nat) e,(r.set i (some d'))[j]? = some (some e)->∃O,r[j]? = some (some O):=fun j e h=>by
   by_cases c:i=j
   .subst c;exact⟨d,t⟩
   .rw[e_ c]at h;exact⟨e,h⟩
  intro j k b Q P w l f I F E C;obtain⟨N,l⟩:=bound j Q l;obtain⟨M,f⟩:=bound k P f;exact s.dis j k b N M w l f I F E C
 .have c:i≠j:=by rintro rfl;rw[p]at Z;cases Z
  have:=s.lk j o x Z;exact⟨this.1,fun U h=>this.2 U (by rw[e_ c]at h;exact h)⟩
end
def RV(ro:Bool)(K:W.Frag)(H0:Hp)(G:GH)(H:Hp)(v:V)(d:D):Prop:=match ro with
|false=>RG K G v d
|true=>(∃a,v=.ref a/\H0 a=none/\Own K G H a d)\/(d=.non/\v=.non)
def dF(X:Cx)(g:GE)(ro:Bool)(m' mb:List Md)(G:GH)(D:Ends):Out->Prop
|.nx r'=>∀σ' G' H',bU G G'->SI X g m' r' G' σ' H'->D.nx σ' H'
|.rt d=>∀v G' H',Grow X.K g.gh g.h0 G' H'->RV ro X.K g.h0 G' H' v d->D.rt v H'
|.bk r'=>∀σ' G' H',bU G G'->SI X g mb r' G' σ' H'->D.bk σ' H'
|.ct r'=>∀σ' G' H',bU G G'->SI X g mb r' G' σ' H'->D.ct σ' H'
|.exc x r'=>∀pz e s' σ' G' H',bU G G'->SI X g (fD m') r' G' σ' H'->Inv X pz σ' H' s'->Og X σ' G' H' e x s'->X.xe e s'
|.stuck=>False
def tS(X:Cx)(g:GE)(ro:Bool)(m m' mb:List Md)(f:FS):TS:=fun D σ H=>∃r G,SI X g m r G σ H/\dF X g ro m' mb G D (f r)
def SS(X:Cx)(g:GE)(ro:Bool)(mb m:List Md)(st:Stmt)(f:FS)(m':List Md):Prop:=m'.length=m.length/\PS X st (tS X g ro m m' mb f)
def fU(X:Cx)(g:GE)(ro:Bool)(mb m:List Md)(st:List Stmt)(f:FS)(m':List Md):Prop:=m'.length=m.length/\d7 X st (tS X g ro m m' mb f)
theorem zN(h:m'.length=m.length):fD m'=fD m:=by unfold fD;rw[ř,ř,h]
theorem dF.x{D:Ends}{x:DL.D}(h:dF X g ro m' mb G D (.exc x (forget m r)))(U:SI X g m r G σ H)(a:m'.length=m.length):XW X σ G H x:=fun Z e Y d c w I b=>h Z e Y σ d c w.ge (by rw[zN a];exact(U.grow w).forget) I b
variable{ro:Bool}{m' m1 mb:List Md}{pos':Pos}{sts:List Stmt}{s1:FS}
section
variable{tg:Expr}{st:Stmt}{sts':List Stmt}{s2:FS}
theorem dF.gle{G c:GH}{D:Ends}(h:dF X g ro m' mb G D o)(w:bU G c):dF X g ro m' mb c D o:=by cases o with
|nx b=>exact fun U Z Y q a=>h U Z Y (w.trans q) a
|rt d=>exact h
|bk b=>exact fun U Z Y q a=>h U Z Y (w.trans q) a
|ct b=>exact fun U Z Y q a=>h U Z Y (w.trans q) a
|exc x b=>exact fun i e f U Z Y q=>h i e f U Z Y (w.trans q)
|stuck=>exact h
noncomputable def seqF(s1 s2:FS):FS:=fun r=>match s1 r with
|.nx r'=>s2 r'
|o=>o
noncomputable def aW:FS:=fun r=>.nx r
theorem dI:fU X g ro mb m [] aW m:=⟨rfl,d7.imp pT fun D U H k=>by obtain⟨r,G,Y,q⟩:=k;exact q U G H (bU.refl G) Y⟩
theorem aL(c:SS X g ro mb m st s1 m1)(a:fU X g ro mb m1 sts s2 m'):fU X g ro mb m (st::sts) (seqF s1 s2) m':=by refine⟨a.1.trans c.1,d7.imp (mI c.2 a.2) fun D k H ⟨r,G,h,q⟩=>⟨r,G,h,?_⟩⟩;unfold seqF at q;cases e:s1 r with
|nx Z=>rw[e]at q;exact fun Y b f w U=>⟨Z,b,U,dF.gle q w⟩
|rt d=>rw[e]at q;exact q
|bk Z=>rw[e]at q;exact q
|ct Z=>rw[e]at q;exact q
|exc x Z=>rw[e]at q;exact fun j e i Y b f w U=>q j e i Y b f w (by rw[zN a.1];exact U)
|stuck=>rw[e]at q;exact q
theorem aF(U:SS X g ro mb m st s1 m'):fU X g ro mb m [st] (seqF s1 aW) m':=aL U dI
theorem IE:SS X g ro mb m st (fun _=>.stuck) m:=⟨rfl,PS.imp (fun _ _ _ _ _ _ h=>h.elim) fun D U H ⟨r,G,Y,q⟩=>q⟩
theorem nz:fU X g ro mb m sts (fun _=>.stuck) m:=⟨rfl,d7.imp KI fun D U H k=>by obtain⟨r,G,Y,q⟩:=k;exact q⟩
theorem mW(i:Nat)(hi:m[i]? = some .ow)(h:SS X g ro mb (m.set i .sh) st s1 m'):SS X g ro mb m st s1 m':=by
 refine⟨h.1.trans `s,fun c s b H D I k=>?_⟩;obtain⟨r,G,d,q⟩:=k;rcases d.frz i hi with⟨Z,Y,U⟩|⟨a,z⟩
 .exact h.2 c s b H D I ⟨r,Z,U,dF.gle q Y⟩
 .obtain⟨ob,I2⟩:=Inv.fast I a;obtain⟨Z,Y,U⟩:=z ob;exact h.2 c s b _ D I2 ⟨r,Z,U,dF.gle q Y⟩
def onE{α:Type}(m:List Md)(r:aI)(x:Res α)(k:α->Out):Out:=match x with
|.ok a=>k a
|.exc e=>.exc e (forget m r)
|.stuck=>.stuck
@[simp] theorem onE_ok(m:List Md)(r:aI)(a:U)(k:U->Out):onE m r (.ok a) k=k a:=rfl
theorem iO{k:U->Out}{D:Ends}(Y:SI X g m r G σ H)(Z:m'.length=m.length)(h:dF X g ro m' mb G D (onE m r x k)):fin x (fun a=>dF X g ro m' mb G D (k a)) (XW X σ G H):=by cases x with
|ok a=>exact h
|exc e=>exact dF.x h Y Z
|stuck=>exact h
def aN(m:List Md)(i:Nat)(f:FE):FS:=fun r=>onE m r (f r) fun d=>.nx (r.set i (some d))
theorem gH(i:Nat)(l:X.N.Nodup)(hi:X.N[i]? = some x)(Z:lw X.env.scope x)(k:SO X g m e f)(b:!æ e (some (.Name x pos')) pos.line X.env=pure false)(j:!!!Fx X x):SS X g ro mb m (.Assign [.Name x pos'] e pos) (aN m i f) (m.set i .ow):=by
 have Y:(m.set i .ow).length=m.length:=`s
 refine⟨Y,PS.imp (yI l hi Z k b j) fun D p H ⟨r,G,U,q⟩=>⟨r,G,U,?_⟩⟩;exact bW (iO U Y q) fun d q a o n w h c=>q _ o n w.ge (U.setN w i h c)
def jP(m:List Md)(f:FE):FS:=fun r=>onE m r (f r) fun _=>.nx r
theorem jU(a:SE X g m e f)(Z:!æ e none pos.line X.env=pure false):SS X g ro mb m (.Expr e pos) (jP m f) m:=⟨rfl,PS.imp (oX a Z) fun D Y H k=>by obtain⟨r,G,U,q⟩:=k;exact ⟨r,G,U,bW (iO U rfl q) fun d q v c b w _=>q Y c b w.ge (U.grow w)⟩⟩
def retF(m:List Md)(f:FE):FS:=fun r=>onE m r (f r) fun d=>.rt d
theorem aZ(Z:SE X g m e f):SS X g false mb m (.Return (some e) pos) (retF m f) m:=⟨rfl,PS.imp (yH Z) fun D c H k=>by obtain⟨r,G,U,q⟩:=k;exact ⟨r,G,U,bW (iO U rfl q) fun d q v b a w Y=>q v b a (U.grow w).grown Y⟩⟩
theorem ew(Z:SE X g m e f):fU X g false mb m [.Return (some e) pos] (seqF (retF m f) aW) m:=aF (aZ Z)
theorem Ps(i:Nat)(b:m[i]? = some .ow)(f:X.N[i]? = some x)(Z:gC X.env.scope x)(c:!!Nq x)(U:!!Nc x):SS X g true mb m (.Return (some (.Name x pos')) pos) (retF m fun r=>eh r i) m:=by refine⟨rfl,PS.imp (yH (eV f Z c U)) fun D l H z=>?_⟩;obtain⟨r,G,Y,q⟩:=z;obtain⟨d,e,q⟩:=zi (iO Y rfl q);obtain⟨a,k,j,h⟩:=Y.ow i d e b;exact⟨_,k,q _ G H Y.grown (.inl ⟨a,rfl,h,j⟩)⟩
def fA(m:List Md)(p:FQ)(s1 s2:FS):FS:=fun r=>onE m r (p r) fun c=>if c=true then s1 r else s2 r
theorem bS(a:SQ X g m c p)(Y:fU X g ro mb m sts s1 m')(b:fU X g ro mb m sts' s2 m'):SS X g ro mb m (.If c sts sts' pos) (fA m p s1 s2) m':=by refine⟨Y.1,PS.imp (sS a Y.2 b.2) fun D d H ⟨r,G,U,q⟩=>⟨r,G,U,bW (iO U Y.1 q) fun c q Z e w=>?_⟩⟩;cases c with
|true=>exact⟨r,Z,U.grow w,dF.gle q w.ge⟩
|false=>exact⟨r,Z,U.grow w,dF.gle q w.ge⟩
theorem zM(i:Nat)(h:fU X g ro mb m sts s1 m')(hi:m'[i]? = some .ow):fU X g ro mb m sts s1 (m'.set i .sh):=by
 refine⟨by simp[h.1],fun k s y H D I ⟨r,G,A,q⟩=>?_⟩;refine bJ (h.2 k s y H ⟨fun Y Z=>D.nx Y Z\/∃a,∀c,D.nx Y (fz Z a c),D.rt,D.bk,D.ct⟩ I ⟨r,G,A,?_⟩) fun f o p=>?_
 .cases e:s1 r with
 |nx j=>
   rw[e]at q;intro Y v Z w b;rcases b.frz i hi with⟨n,l,U⟩|⟨a,z⟩
   .exact .inl (q Y n Z (w.trans l) U)
   .refine .inr ⟨a,fun c=>?_⟩;obtain⟨n,l,U⟩:=z c;exact q Y n _ (w.trans l) U
 |rt d=>rw[e]at q;exact q
 |bk j=>rw[e]at q;exact q
 |ct j=>rw[e]at q;exact q
 |exc x j=>rw[e]at q;exact fun k e o Y v Z w b=>q k e o Y v Z w (by rw[zN (m:=m') `s];exact b)
 |stuck=>rw[e]at q;exact q
 .cases f with
 |next=>
   obtain⟨Y,Z,t,z|⟨a,z⟩⟩:=p
   .exact⟨Y,Z,t,z⟩
   .obtain⟨c,I2⟩:=Inv.fast t a;exact⟨Y,_,I2,z c⟩
 |brk=>exact p
 |cont=>exact p
 |ret u=>exact p
end
abbrev FT:=D->aI->Option aI
abbrev mP:=List D->aI->Option aI
noncomputable def tG(X:Cx)(g:GE)(m m':List Md)(ft:FT):TG:=fun v σ H Q=>∃r G d,SI X g m r G σ H/\RG X.K G v d/\∃r',ft d r=some r'/\∀σ',SI X g m' r' G σ' H->Q σ' H
noncomputable def Y7(X:Cx)(g:GE)(m m':List Md)(ft:mP):mM:=fun vs σ H Q=>∃r G ds,SI X g m r G σ H/\dJ X.K G vs ds/\∃r',ft ds r=some r'/\∀σ',SI X g m' r' G σ' H->Q σ' H
theorem PG.imp(h:PG X e t)(i:∀v σ H Q,t' v σ H Q->t v σ H Q):PG X e t':=fun U s σ H v u Q I r q=>h U s σ H v u Q I r (i v σ H Q q)
theorem mh.imp{e:List Expr}(h:mh X e t)(i:∀v σ H Q,t' v σ H Q->t v σ H Q):mh X e t':=fun U s σ H v u Q I r q=>h U s σ H v u Q I r (i v σ H Q q)
def SG(X:Cx)(g:GE)(m:List Md)(tg:Expr)(ft:FT)(m':List Md):Prop:=m'.length=m.length/\PG X tg (tG X g m m' ft)
structure SGs(X:Cx)(g:GE)(m:List Md)(ts:List Expr)(n:Nat)(ft:mP)(m':List Md):Prop where
 ml:m'.length=m.length
 ln:∀ds r r',ft ds r=some r'->ds.length=n
 pg:mh X ts (Y7 X g m m' ft)
noncomputable def bX(i:Nat):FT:=fun d r=>some (r.set i (some d))
noncomputable def jb(ft:mP):FT:=fun d r=>match d with
|.tup ds=>ft ds r
|.lst ds=>ft ds r
|_=>none
noncomputable def i7:mP:=fun ds r=>match ds with
|[]=>some r
|_=>none
noncomputable def eJ(ft:FT)(fts:mP):mP:=fun ds r=>match ds with
|[]=>none
|d::ds=>(ft d r).bind fun r'=>fts ds r'
variable{ft:FT}
section
variable{tg:Expr}{ts:List Expr}{fts:mP}{n:Nat}
theorem kj:SGs X g m [] 0 i7 m:=by
 refine⟨rfl,fun U r b e=>?_,mh.imp Rq fun v Y H Q ⟨r,G,U,Z,a,b,e,k⟩=>?_⟩
 .cases U with
 |nil=>rfl
 |cons _ _=>cases e
 .cases a with
 |nil=>cases e;exact⟨rfl,k Y Z⟩
 |cons _ _=>cases e
theorem fK(h:SG X g m tg ft m1)(f:SGs X g m1 ts n fts m')(o:!(ó (tg::ts) X.env).map (·.2)=Ü tg X.env::(ó ts X.env).map (·.2)):SGs X g m (tg::ts) (n+1) (eJ ft fts) m':=by
 refine⟨f.ml.trans h.1,fun Z r U e=>?_,mh.imp (S2 h.2 f.pg o) fun v p H Q ⟨r,G,Z,j,c,U,e,k⟩=>?_⟩
 .cases Z with
 |nil=>cases e
 |cons d Z=>have Y:((ft d r).bind fun U=>fts Z U)=some U:=e;cases q:ft d r with
  |none=>rw[q]at Y;cases Y
  |some a=>rw[q]at Y;have:=f.ln Z a U Y;simp[this]
 .cases c with
 |nil=>cases e
 |@cons t d s Z c l=>have Y:((ft d r).bind fun U=>fts Z U)=some U:=e;cases q:ft d r with
  |none=>rw[q]at Y;cases Y
  |some a=>rw[q]at Y;exact⟨_,_,rfl,r,G,d,j,c,a,q,fun i b=>⟨a,G,Z,b,l,U,Y,k⟩⟩
theorem Os(w:X.calm=true)(h:mh X ts t)(p:(ó ts X.env).length=n)(U:(ó ts X.env).findIdx? (·.1)=none):PG X (.Tuple ts k pos) (fun v σ H Q=>∃a xs,v=.ref a/\dq X.K H a xs/\xs.length=n/\t xs σ H Q):=by intro d s σ H v u Q I r Z;obtain⟨a,xs,y,m,q,Z⟩:=Z;subst y;cases r;obtain⟨Y,c,⟨o,f,j,i,A,g⟩,B⟩:=I.list m;rw[PyProof.Rows.assign_Tuple];refine b_ (ĳ ?_);unfold unpack;rw[U,show(ó ts X.env).length=Y.toArray.size by simp[p,<-q,c.length]];refine b_ (ø (W.kun_itemsOf (I.ok.hd w) ⟨o,j,i,f,g⟩ fun x l=>?_));have z:Inv X d σ H { s with heap:=x }:=I.kept (t':=s.toks) fun b o e=>l b o (H_ (n_ e)) e;exact h d _ σ H xs _ Q z (by simpa using c) Z
theorem PG.or(h:PG X e t)(h':PG X e t'):PG X e (fun v σ H Q=>t v σ H Q\/t' v σ H Q):=fun U s σ H v u Q I r q=>q.elim (h U s σ H v u Q I r) (h' U s σ H v u Q I r)
theorem kl{k:Nat}(l:X.calm=true)(h:SGs X g m ts n fts m')(j:!(ó ts X.env).length=n)(U:!(ó ts X.env).findIdx? (·.1)=none):SG X g m (.Tuple ts k pos) (jb fts) m':=by refine⟨h.ml,PG.imp (PG.or (Oq l h.pg j U) (Os l h.pg j U)) fun v o H Q z=>?_⟩;obtain⟨r,G,d,b,i,c,e,k⟩:=z;cases d with
|tup Z=>obtain⟨a,f,rfl,s,Y⟩:=i.tup b.gok;exact .inl ⟨a,f,rfl,s,(Paired.length Y).trans (h.ln Z r c e),r,G,Z,b,Y,c,e,k⟩
|lst Z=>obtain⟨a,f,rfl,s,Y⟩:=i.lst b.gok;exact .inr ⟨a,f,rfl,s,(Paired.length Y).trans (h.ln Z r c e),r,G,Z,b,Y,c,e,k⟩
|_=>cases e
end
structure Yields(K:W.Frag)(J:It)(ds:List D)(G0:GH):Prop where
 go:∀G H (i:Nat),bU G0 G->cK K G H->i<ds.length->J.go i H
 yld:∀G H (i:Nat) x H' d,bU G0 G->cK K G H->J.yld i H x H'->ds[i]? = some d->∃G',Grow K G H G' H'/\RG K G' x d
 stop:∀G H,bU G0 G->cK K G H->J.stop ds.length H
abbrev FI:=aI->Res (List D)
noncomputable def tI(X:Cx)(g:GE)(m:List Md)(f:FI):TI:=fun σ H R=>∃r G,SI X g m r G σ H/\fin (f r) (fun ds=>∀J G' H',Grow X.K G H G' H'->Yields X.K J ds G'->R J H') (XW X σ G H)
def kg(X:Cx)(g:GE)(m:List Md)(tg iter:Expr)(f:FI):Prop:=PI X tg iter (tI X g m f)
theorem PI.imp(h:PI X U e t)(i:∀σ H Q,t' σ H Q->t σ H Q):PI X U e t':=fun Y s σ H R I q=>h Y s σ H R I (i σ H R q)
theorem Ck{a:Addr}{c:GH}(g:RG K c (.ref a) (.lst ds)):Yields K (AT K a) ds c:=by
 have Z:∀G H,bU c G->cK K G H->∃U,dq K H a U/\dJ K G U ds:=fun G H w Y=>by obtain⟨b,U,e,s,r⟩:=(g.mono w).lst Y;cases e;exact⟨U,s,r⟩
 refine⟨fun G H i w Y k=>?_,fun G H i x l d w Y y e=>?_,fun G H w Y=>?_⟩
 .obtain⟨U,s,r⟩:=Z G H w Y;have j:=Paired.length r;exact⟨U,U[i],s,q_ `o⟩
 .obtain⟨U,s,r⟩:=Z G H w Y;obtain⟨rfl,y⟩:=y;obtain⟨v,h,f⟩:=Paired.get r e;have:=y U s;rw[h]at this;cases this;exact⟨G,Grow.refl Y,f⟩
 .obtain⟨U,s,r⟩:=Z G H w Y;exact⟨U,s,ł (Paired.length r)⟩
theorem BV{a:Addr}{c:GH}(g:RG K c (.ref a) (.tup ds)):Yields K (F0 K a) ds c:=by
 have Z:∀G H,bU c G->cK K G H->∃U,e8 K H a U/\dJ K G U ds:=fun G H w Y=>by obtain⟨b,U,e,s,r⟩:=(g.mono w).tup Y;cases e;exact⟨U,s,r⟩
 refine⟨fun G H i w Y k=>?_,fun G H i x l d w Y y e=>?_,fun G H w Y=>?_⟩
 .obtain⟨U,s,r⟩:=Z G H w Y;have j:=Paired.length r;exact⟨U,U[i],s,q_ `o⟩
 .obtain⟨U,s,r⟩:=Z G H w Y;obtain⟨rfl,y⟩:=y;obtain⟨v,h,f⟩:=Paired.get r e;have:=y U s;rw[h]at this;cases this;exact⟨G,Grow.refl Y,f⟩
 .obtain⟨U,s,r⟩:=Z G H w Y;exact⟨U,s,ł (Paired.length r)⟩
noncomputable def fZ(lo:Int)(n:Nat):List D:=(x_ n).map fun(i:Nat)=>D.int (lo+(i:Int))
theorem Hj{lo:Int}{a:GH}:Yields K (wZ lo n) (fZ lo n) a:=by
 have Y:(fZ lo n).length=n:=by simp[fZ]
 refine⟨fun G H i w Z U=>(by rw[Y]at U;exact U),fun G H i x b d w Z y e=>?_,fun G H w Z=>(by rw[Y];exact k_ _)⟩;obtain⟨rfl,rfl⟩:=y;have U:i<n:=by have:=(g_.mp e).1;rw[Y]at this;exact this
 unfold fZ at e;rw[K_,Ų U]at e;cases e;exact⟨G,Grow.refl Z,.scl (.int _)⟩
noncomputable def fV:D->Option (List D)
|.lst ds=>some ds
|.tup ds=>some ds
|_=>none
variable{iter:Expr}
section
variable{tg:Expr}
def df(k:D->Option (List D))(f:FE):FI:=fun r=>(f r).bind fun d=>gj (k d)
theorem BP{g:TE}(r:PE X l g):PI X tg l (fun σ H R=>g σ H fun x Y=>(∃a,x=.ref a/\(∃xs,dq X.K Y a xs)/\R (AT X.K a) Y)\/∃a,x=.ref a/\(∃xs,e8 X.K Y a xs)/\R (F0 X.K a) Y):=by
 intro m s σ H R I h;refine bJ (r m s σ H _ I h) fun v Z z=>?_;obtain⟨x,Y,U,i,k⟩:=z;rcases k with⟨a,e,⟨xs,d⟩,q⟩|⟨a,e,⟨xs,d⟩,q⟩
 .subst e;cases i;obtain⟨c,j,p,n⟩:=U.list d;refine Qes p.isList ?_;refine⟨Z.heap.objs.size,[Z.heap.objs.size],_,_,Y,rfl,U.kept fun b o e=>c_ _ e,UX a _,⟨_,l_ _ rfl,rfl,rfl⟩,fun b f=>?_,q⟩;have e:=by simpa using f
  subst e;exact U.fpOk (k_ _) (U.hok.fresh (k_ _))
 .subst e;cases i;obtain⟨c,j,p,n⟩:=U.tuple d;refine ĭ (p) ?_;refine⟨Z.heap.objs.size,[Z.heap.objs.size],_,_,Y,rfl,U.kept fun b o e=>c_ _ e,U3 a _,⟨_,l_ _ rfl,rfl,rfl⟩,fun b f=>?_,q⟩;have e:=by simpa using f
  subst e;exact U.fpOk (k_ _) (U.hok.fresh (k_ _))
theorem sH(h:SE X g m e f):kg X g m tg e (df fV f):=by
 refine PI.imp (BP h) fun k H R z=>?_;obtain⟨r,G,i,q⟩:=z;refine ⟨r,G,i,bW (cJ q) fun d q v c b w U=>?_⟩
 obtain⟨l,e,q⟩:=d9 q;cases d with
|lst Z=>obtain⟨a,Y,rfl,s,j⟩:=U.lst w.ok;exact .inl ⟨a,rfl,⟨Y,s⟩,q _ c b w (Ck U)⟩
|tup Z=>obtain⟨a,Y,rfl,s,j⟩:=U.tup w.ok;exact .inr ⟨a,rfl,⟨Y,s⟩,q _ c b w (BV U)⟩
|_=>cases e
structure YieldsC(K:W.Frag)(J:It)(ds:List D)(G0:GH)(H0:Hp):Prop where
 go:∀G H (i:Nat),Grow K G0 H0 G H->i<ds.length->J.go i H
 yld:∀G H (i:Nat) x H' d,Grow K G0 H0 G H->J.yld i H x H'->ds[i]? = some d->∃G',Grow K G H G' H'/\RG K G' x d
 stop:∀G H,Grow K G0 H0 G H->J.stop ds.length H
theorem Yields.toC(y:Yields K J ds U):YieldsC K J ds U Z:=⟨fun G H i w Y=>y.go G H i w.ge w.ok Y,fun G H i x a d w q e=>y.yld G H i x a d w.ge w.ok q e,fun G H w=>y.stop G H w.ge w.ok⟩
noncomputable def Y5(X:Cx)(g:GE)(m:List Md)(f:FI):TI:=fun σ H R=>∃r G,SI X g m r G σ H/\fin (f r) (fun ds=>∀J G' H',Grow X.K G H G' H'->YieldsC X.K J ds G' H'->R J H') (XW X σ G H)
def iI(X:Cx)(g:GE)(m:List Md)(tg iter:Expr)(f:FI):Prop:=PI X tg iter (Y5 X g m f)
theorem kg.toC(h:kg X g m tg iter fi):iI X g m tg iter fi:=PI.imp h fun a H R z=>by obtain⟨r,G,U,q⟩:=z;exact ⟨r,G,U,bW q fun b k J Z Y w y=>k J Z Y w y.toC⟩
theorem O9{a:Addr}{b:GH}(o:Own K b Z a (.lst ds)):YieldsC K (AT K a) ds b Z:=by
 have Y:∀G H,Grow K b Z G H->∃U,dq K H a U/\dJ K G U ds:=fun G H w=>by cases(o.mono w).ob with
 |lst r s=>exact⟨_,dq.of r,s⟩
 refine⟨fun G H i w h=>?_,fun G H i x j d w y e=>?_,fun G H w=>?_⟩
 .obtain⟨U,s,r⟩:=Y G H w;have g:=Paired.length r;exact⟨U,U[i],s,`s⟩
 .obtain⟨U,s,r⟩:=Y G H w;obtain⟨rfl,y⟩:=y;obtain⟨v,f,c⟩:=Paired.get r e;have:=y U s;rw[f]at this;cases this;exact⟨G,Grow.refl w.ok,c⟩
 .obtain⟨U,s,r⟩:=Y G H w;exact⟨U,s,ł (Paired.length r)⟩
theorem gu(h:SB X g m e f):iI X g m tg e (df fV f):=by
 refine PI.imp (BP h) fun i H R k=>?_;obtain⟨r,G,c,q⟩:=k;refine ⟨r,G,c,bW (cJ q) fun d q v b Z w U=>?_⟩
 obtain⟨j,e,q⟩:=d9 q;cases d with
|lst Y=>
  rcases U with U|⟨a,rfl,o⟩
  .obtain⟨a,xs,rfl,s,rs⟩:=U.lst w.ok;exact .inl ⟨a,rfl,⟨xs,s⟩,q _ b Z w (Ck U).toC⟩
  .cases o.ob with
  |lst r s=>exact .inl ⟨a,rfl,⟨_,dq.of r⟩,q _ b Z w (O9 o)⟩
|tup Y=>
  rcases U with U|⟨a,rfl,o⟩
  .obtain⟨a,xs,rfl,s,rs⟩:=U.tup w.ok;exact .inr ⟨a,rfl,⟨xs,s⟩,q _ b Z w (BV U).toC⟩
  .cases o.ob
|_=>cases e
def j0:List D->Option (List D)
|[.int j]=>if-(2^62)<=j/\j<2^62 then some (fZ 0 j.toNat)else none
|_=>none
def kP:List D->Option (List D)
|[.int i,.int j]=>if-(2^62)<=i/\i<2^62/\-(2^62)<=j/\j<2^62 then some (fZ i (j-i).toNat)else none
|_=>none
def iX(k:List D->Option (List D))(fl:aI->Res (List D)):FI:=fun r=>(fl r).bind fun ds=>gj (k ds)
theorem o8{b:Pos}(f:Gl X "range")(d:X.mg "range" = none)(h:jd X g m [a] fl)(c:!B_ [a] X.env=[(false,eval a X.env)]):kg X g m tg (.Call (.Name "range" b) [a] [] pos) (iX j0 fl):=by
 refine PI.imp (Uj f d h c) fun l H R z=>?_;obtain⟨r,G,U,q⟩:=z;refine ⟨r,G,U,bW (cJ q) fun p q o k i w Y=>?_⟩
 obtain⟨n,e,q⟩:=d9 q;unfold j0 at e;split at e
 .split at e
  .rename_i j hj;cases e;cases Y with
  |cons Z t=>cases t;exact⟨j,by rw[Z.int w.ok],hj.1,hj.2,q _ k i w Hj⟩
  .cases e
 .cases e
theorem JT{f:Pos}(l:Gl X "range")(k:X.mg "range" = none)(n:jd X g m [a,b] fl)(h:!B_ [a,b] X.env=[(false,eval a X.env),(false,eval b X.env)])(U:!B_ [b] X.env=[(false,eval b X.env)]):kg X g m tg (.Call (.Name "range" f) [a,b] [] pos) (iX kP fl):=by
 refine PI.imp (Uk l k n h U) fun s H R z=>?_;obtain⟨r,G,Y,q⟩:=z;refine ⟨r,G,Y,bW (cJ q) fun x q v p o w Z=>?_⟩
 obtain⟨u,e,q⟩:=d9 q;unfold kP at e;split at e
 .split at e
  .rename_i i j hj;cases e;cases Z with
  |cons d t=>cases t with
   |cons c t=>cases t;exact⟨i,j,by rw[d.int w.ok,c.int w.ok],hj,q _ p o w Hj⟩
  .cases e
 .cases e
noncomputable def bN(ft:FT)(body:FS):List D->FS
|[],r=>.nx r
|d::ds,r=>match ft d r with
 |none=>.stuck
 |some r1=>match body r1 with
  |.nx r'=>bN ft body ds r'
  |.ct r'=>bN ft body ds r'
  |.bk r'=>.nx r'
  |o=>o
def jR(m:List Md)(fi:FI)(ft:FT)(body:FS):FS:=fun r=>onE m r (fi r) fun ds=>bN ft body ds r
theorem lA(hp:ą (y_ X.prog X.w) X.A X.env X.xe)(hc:X.calm=true)(hi:kg X g m tg iter fi)(hg:SG X g m tg ft m)(hb:fU X g ro m m sts s1 m)(hs:!!!!Ix X iter):SS X g ro mb m (.For tg iter sts [] pos) (jR m fi ft s1) m:=by
 refine⟨rfl,PS.imp (tH hp hc hi hg.2 hb.2 hs) fun D N H ⟨r,G,K,q⟩=>⟨r,G,K,bW (iO K rfl q) fun k q J C H0 O Y=>?_⟩⟩;refine⟨fun i n N H=>∃r G,SI X g m r G N H/\bU C G/\i<=k.length/\n=k.length-i/\dF X g ro m mb G D (bN ft s1 (k.drop i) r),⟨k.length,r,C,K.grow O,bU.refl C,é _,rfl,dF.gle q O.ge⟩,?_⟩
 rintro i n F v ⟨P,B,c,f,hi,rfl,a⟩
 by_cases j:i<k.length
 .have hd:=Ď j;rw[hd]at a;unfold bN at a;refine .inr ⟨Y.go B v i f c.gok j,fun t z=>∃r G,SI X g m r G t z/\bU C G/\dF X g ro m mb G D _,fun t z w=>by obtain⟨l,E,I,h,W⟩:=w;exact ⟨_,`o,l,E,I,h,j,rfl,W⟩,fun x z y=>?_⟩;obtain⟨E,p,T⟩:=Y.yld B v i x z k[i] f c.gok y (q_ j);have h:=f.trans p.ge;cases M:ft k[i] P with
 |none=>simp only[M]at a;exact a.elim
 |some L=>simp only[M]at a;refine⟨P,E,k[i],c.grow p,T,L,M,fun Q BT=>⟨L,E,BT,?_⟩⟩;cases s:s1 L with
  |nx l=>simp only[s]at a;exact fun b o u U Z=>⟨l,o,Z,h.trans U,dF.gle a (bU.trans p.ge U)⟩
  |ct l=>simp only[s]at a;exact fun b o u U Z=>⟨l,o,Z,h.trans U,dF.gle a (bU.trans p.ge U)⟩
  |bk l=>simp only[s]at a;exact fun b o u U Z=>a b o u (bU.trans p.ge U) Z
  |rt d=>simp only[s]at a;exact a
  |exc x l=>simp only[s]at a;exact fun pz e R b o u U=>a pz e R b o u (bU.trans p.ge U)
  |stuck=>simp only[s]at a;exact a
 .have e:i=k.length:=`o
  subst e;rw[ġ]at a;exact .inl ⟨Y.stop B v f c.gok,a F B v (bU.refl _) c⟩
noncomputable def ij(m:List Md):List Md:=m.map fun x=>if x=Md.sh then Md.sh else Md.bw
noncomputable def AW(m:List Md)(r:aI)(st:L2.St)(G:GH)(H:Hp):GE:=⟨G,H,fun i=>if m[i]? = some Md.ow\/m[i]? = some Md.bw then some ((st[i]?).join,(r[i]?).join)else none⟩
theorem uU{i:Nat}(h:m[i]? = some x):(ij m)[i]? = some (if x=Md.sh then Md.sh else Md.bw):=by unfold ij;rw[K_,h];rfl
theorem Su{i:Nat}(h:(ij m)[i]? = some Md.sh):m[i]? = some Md.sh:=by cases q:m[i]? with
|none=>unfold ij at h;rw[K_,q]at h;cases h
|some x=>rw[uU q]at h;cases x <;> first|rfl|(simp at h)
theorem Jo{i:Nat}(h:(ij m)[i]? = some Md.ow):False:=by cases q:m[i]? with
|none=>unfold ij at h;rw[K_,q]at h;cases h
|some x=>rw[uU q]at h;cases x <;> simp at h
theorem lockM_bw{i:Nat}(h:(ij m)[i]? = some Md.bw):m[i]? = some Md.ow\/m[i]? = some Md.bw:=by cases q:m[i]? with
|none=>unfold ij at h;rw[K_,q]at h;cases h
|some x=>rw[uU q]at h;cases x with
 |sh=>simp at h
 |ow=>exact .inl rfl
 |bw=>exact .inr rfl
theorem SI.lock{st:L2.St}(s:SI X g m r G st H):SI X (AW m r st G H) (ij m) r G st H where
 gok:=s.gok
 old:=fun _ _ e=>e
 ge:=fun _ _ e=>e
 gf:=fun _ _=>rfl
 lm:=by unfold ij;rw[p_];exact s.lm
 lr:=s.lr
 sh:=fun i d h U=>s.sh i d h (Su U)
 ow:=fun i d h U=>(Jo U).elim
 bw:=fun i d h U=>by
  rcases lockM_bw U with z|z
  .obtain⟨a,h1,h2,_⟩:=s.ow i d h z;exact⟨_,h1,.inr ⟨a,rfl,h2,h2.ob.isS⟩⟩
  .obtain⟨v,h1,h2⟩:=s.bw i d h z;refine⟨v,h1,?_⟩;rcases h2 with h2|⟨a,e,h2,_⟩
   .exact .inl h2
   .exact .inr ⟨a,e,h2,h2.ob.isS⟩
 dis:=fun i j a d e _ _ _ U=>(Jo U).elim
 lk:=fun i o h U=>by
  have Y:(if m[i]? = some Md.ow\/m[i]? = some Md.bw then some _ else none)=some o:=h;rw[Q_d (lockM_bw U)]at Y;cases Y;have b:=by have:=(g_.mp U).1;unfold ij at this;rw[p_,s.lm]at this;exact this
  refine⟨?_,fun d Z=>by rw[Z];rfl⟩;simp_all
theorem SI.unlock{st k:L2.St}(s:SI X g m r G st H)(n:SI X (AW m r st G H) (ij m) r' B k A):SI X g m r' B k A:=by
 have w:Grow X.K G H B A:=n.grown;have U:∀(i:Nat),(m[i]? = some Md.ow\/m[i]? = some Md.bw)->k[i]? = some (st[i]?).join/\∀d,r'[i]? = some (some d)->r[i]? = some (some d):=fun i p=>by
  have Z:(ij m)[i]? = some Md.bw:=by rcases p with z|z <;> rw[uU z] <;> simp
  obtain⟨f,l⟩:=n.lk i ((st[i]?).join,(r[i]?).join) (Q_d p) Z;refine⟨f,fun d y=>?_⟩;have:=l d y;cases q:r[i]? with
 |none=>rw[q]at this;cases this
 |some o=>rw[q]at this;rw[show o=some d from this]
 have Y:∀(i:Nat) v,(m[i]? = some Md.ow\/m[i]? = some Md.bw)->st[i]? = some (some v)->k[i]? = some (some v):=fun i v p h=>by rw[(U i p).1,h];rfl
 refine⟨n.gok,fun a o e=>n.old a o (s.old a o e),fun a d e=>n.ge a d (s.ge a d e),fun a h=>?_,?_,n.lr,fun i d h Z=>?_,fun i d h Z=>?_,fun i d h Z=>?_,fun i j a d e x f l u t M L=>?_,fun i o p Z=>?_⟩
 .have f:H a≠none:=by cases e:g.h0 a with
  |none=>exact Q_f e h
  |some o=>rw[s.old _ _ e];simp
  rw[w.gf a f,s.gf a h]
 .have:=n.lm;unfold ij at this;rw[p_]at this;exact this
 .exact n.sh i d h (by rw[uU Z];simp)
 .obtain⟨a,f,l,h3⟩:=s.ow i d ((U i (.inl Z)).2 d h) Z;exact⟨a,Y i _ (.inl Z) f,l.mono w,h3⟩
 .obtain⟨v,f,l⟩:=s.bw i d ((U i (.inr Z)).2 d h) Z;exact⟨v,Y i _ (.inr Z) f,l.grow w⟩
 .have e1:=(U i (.inl u)).2 d f;have J:=(U j (.inl t)).2 e l;obtain⟨b,E,_,_⟩:=s.ow i d e1 u;obtain⟨c,C,_,_⟩:=s.ow j e J t;have I:=Y i _ (.inl u) E;have F:=Y j _ (.inl t) C;rw[M]at I;rw[L]at F;cases I;cases F;exact s.dis i j a d e x e1 J u t E C
 .obtain⟨f,l⟩:=s.lk i o p Z;refine⟨?_,fun d y=>l d ((U i (.inr Z)).2 d y)⟩;rw[(U i (.inr Z)).1,f];rfl
theorem SI.unlockX{G f:GH}{st Y:L2.St}{H c:Hp}(s:SI X g m r G st H)(U:SI X (AW m r st G H) (fD (ij m)) r' f Y c):SI X g (fD m) r' f Y c:=by
 have w:Grow X.K G H f c:=U.grown;have p:fD (ij m)=fD m:=zN (by unfold ij;rw[p_]);rw[p]at U;have b:∀{i:Nat}{x:Md},(fD m)[i]? = some x->x=Md.sh:=fun{i x} h=>by unfold fD at h;simp_all
 refine⟨U.gok,fun a o e=>U.old a o (s.old a o e),fun a d e=>U.ge a d (s.ge a d e),fun a h=>?_,U.lm,U.lr,U.sh,fun i d h Z=>(nomatch (b Z)),fun i d h Z=>(nomatch (b Z)),fun i j a d e n k u l q=>(nomatch (b l)),fun i o t Z=>(nomatch (b Z))⟩;have k:H a≠none:=by cases e:g.h0 a with
 |none=>exact Q_f e h
 |some o=>rw[s.old _ _ e];simp
 rw[w.gf a k,s.gf a h]
theorem sZ(hp:ą (y_ X.prog X.w) X.A X.env X.xe)(hc:X.calm=true)(hi:iI X g m tg iter fi)(hg:∀g',SG X g' (ij m) tg ft (ij m))(hb:∀g',fU X g' ro (ij m) (ij m) sts s1 (ij m))(hs:!!!!Ix X iter):SS X g ro mb m (.For tg iter sts [] pos) (jR m fi ft s1) m:=by
 have Id:PG X tg (fun v k H Q=>∃g',tG X g' _ _ ft v k H Q):=fun N s k H v u Q I r w=>(by obtain⟨g',q⟩:=w;exact (hg g').2 N s k H v u Q I r q);have IO:d7 X sts (fun D k H=>∃g',tS X g' ro _ _ _ s1 D k H):=fun N s k H D I V=>(by obtain⟨g',q⟩:=V;exact (hb g').2 N s k H D I q);refine⟨rfl,PS.imp (tH hp hc hi Id IO hs) fun D k H ⟨r,G,W,q⟩=>⟨r,G,W,bW (iO W rfl q) fun j q J G0 H0 w0 Y=>?_⟩⟩;have E:=W.grow w0;refine⟨fun i n l F=>∃M t,SI X _ _ M t l F/\i<=j.length/\n=j.length-i/\dF X g ro m mb t D (bN ft s1 (j.drop i) M),⟨j.length,r,G0,E.lock,é _,rfl,dF.gle q w0.ge⟩,?_⟩
 rintro i n l F ⟨M,t,o,hi,rfl,b⟩
 have R:=o.grown;by_cases h:i<j.length
 .have hd:=Ď h;rw[hd]at b;unfold bN at b;refine .inr ⟨Y.go t F i R h,fun K P=>∃f B,SI X _ _ f B K P/\dF X g ro m mb B D _,fun K P A=>by obtain⟨f,B,T,q'⟩:=A;exact ⟨_,`o,f,B,T,h,rfl,q'⟩,fun x P y=>?_⟩;obtain⟨B,L,rv⟩:=Y.yld t F i x P j[i] R y (q_ h);cases BT:ft j[i] M with
 |none=>simp only[BT]at b;exact b.elim
 |some r2=>simp only[BT]at b;refine⟨_,M,B,j[i],o.grow L,rv,r2,BT,fun σ2 KK=>⟨_,r2,B,KK,?_⟩⟩;cases C:s1 r2 with
  |nx f=>simp only[C]at b;exact fun c p O Z U=>⟨f,p,U,dF.gle b (bU.trans L.ge Z)⟩
  |ct f=>simp only[C]at b;exact fun c p O Z U=>⟨f,p,U,dF.gle b (bU.trans L.ge Z)⟩
  |bk f=>simp only[C]at b;exact fun c p O Z U=>b c p O (bU.trans L.ge Z) (E.unlock U)
  |rt d=>simp only[C]at b;intro v G2 H2 wr Cl;refine b v G2 H2 (E.grown.trans wr) ?_;cases ro with
   |false=>exact Cl
   |true=>
     rcases Cl with⟨a,e1,e2,e3⟩|z
     .exact .inl ⟨a,e1,E.grown.back e2,e3⟩
     .exact .inr z
  |exc x f=>simp only[C]at b;exact fun N e s' c p O Z U=>b N e s' c p O (bU.trans L.ge Z) (E.unlockX U)
  |stuck=>simp only[C]at b;exact b
 .have e:i=j.length:=`o
  subst e;rw[ġ]at b;exact .inl ⟨Y.stop t F R,b l t F (bU.refl _) (E.unlock o)⟩
def jV(m:List Md)(p:FQ)(body:FS):Nat->FS
|0,_=>.stuck
|n+1,r=>onE m r (p r) fun c=>if c=true then(match body r with
  |.nx r'=>jV m p body n r'
  |.ct r'=>jV m p body n r'
  |.bk r'=>.nx r'
  |o=>o)else .nx r
theorem rJ(n:Nat)(E:ą (y_ X.prog X.w) X.A X.env X.xe)(F:SQ X g m c p)(I:fU X g ro m m sts s1 m):SS X g ro mb m (.While c sts [] pos) (jV m p s1 n) m:=by
 refine⟨rfl,PS.imp (R8 E F I.2) fun D u H w=>?_⟩;obtain⟨r,G,L,q⟩:=w;refine⟨fun n u H=>∃r G,SI X g m r G u H/\dF X g ro m mb G D (jV m p s1 n r),`g,?_⟩
 rintro n s M ⟨t,K,b,v⟩
 cases n with
|zero=>exact v.elim
|succ n=>refine⟨t,K,b,bW (iO b rfl v) fun c Z z J f=>?_⟩;cases c with
 |false=>exact Z s z J f.ge (b.grow f)
 |true=>refine⟨fun k y=>∃r G,SI X g m r G k y/\dF X g ro m mb G D _,fun k y h=>⟨n,ħ _,h⟩,t,z,b.grow f,?_⟩;cases j:s1 t with
  |nx l=>simp only[j]at Z;exact fun a i o U Y=>⟨l,i,Y,dF.gle Z (bU.trans f.ge U)⟩
  |ct l=>simp only[j]at Z;exact fun a i o U Y=>⟨l,i,Y,dF.gle Z (bU.trans f.ge U)⟩
  |bk l=>simp only[j]at Z;exact fun a i o U Y=>Z a i o (bU.trans f.ge U) Y
  |rt d=>simp only[j]at Z;exact Z
  |exc x l=>simp only[j]at Z;exact fun C e B a i o U=>Z C e B a i o (bU.trans f.ge U)
  |stuck=>simp only[j]at Z;exact Z
def jB(m:List Md)(f:FE)(ft:FT):FS:=fun r=>onE m r (f r) fun d=>match ft d r with
|some r'=>.nx r'
|none=>.stuck
theorem xP(l:SE X g m e f)(a:SG X g m tg ft m')(k:!QdY [tg] e pos.line X.env=pure false)(j:!QdZ [tg] e X.env=pure none)(n:!(ó [tg] X.env).map (·.2)=[Ü tg X.env]):SS X g ro mb m (.Assign [tg] e pos) (jB m f ft) m':=by refine⟨a.1,PS.imp (Hu l a.2 k j n) fun D p H ⟨r,G,Z,q⟩=>⟨r,G,Z,bW (iO Z a.1 q) fun d q v c o w h=>?_⟩⟩;cases b:ft d r with
|none=>simp only[b]at q;exact q.elim
|some i=>simp only[b]at q;exact⟨r,c,d,Z.grow w,h,i,b,fun U Y=>q U c o w.ge Y⟩
end
noncomputable def AM:Res D->Res D
|.ok d=>.ok d
|_=>.stuck
inductive ArgsOk(K:W.Frag)(G:GH)(H:Hp):List Md->List V->List D->Prop where
 |nil:ArgsOk K G H [] [] []
 |sh {v:V} {d:D} {ms:List Md} {vs:List V} {ds:List D}:RG K G v d->ArgsOk K G H ms vs ds->ArgsOk K G H (.sh::ms) (v::vs) (d::ds)
 |bw {v:V} {d:D} {ms:List Md} {vs:List V} {ds:List D}:RB K G H v d->ArgsOk K G H ms vs ds->ArgsOk K G H (.bw::ms) (v::vs) (d::ds)
theorem ArgsOk.len(h:ArgsOk K G H ms vs ds):vs.length=ms.length/\ds.length=ms.length:=by induction h with
|nil=>exact⟨rfl,rfl⟩
|sh h t U=>exact⟨Q_g (· + 1) U.1,Q_g (· + 1) U.2⟩
|bw h t U=>exact⟨Q_g (· + 1) U.1,Q_g (· + 1) U.2⟩
theorem ArgsOk.app(Y:Paired Scl U dds):∀{ms:List Md}{vs:List V}{ds:List D},ArgsOk K G H ms vs ds->ArgsOk K G H (ms++j_ dds.length .sh) (vs++U) (ds++dds)
|_,_,_,.nil=>by induction Y with
 |nil=>exact .nil
 |cons h t Z=>exact .sh (.scl h) Z
|_,_,_,.sh h t=>.sh h (t.app Y)
|_,_,_,.bw h t=>.bw h (t.app Y)
theorem ArgsOk.get:∀{ms:List Md}{vs:List V}{ds:List D}{i:Nat}{d:D},ArgsOk K G H ms vs ds->ds[i]? = some d->∃v,vs[i]? = some v/\((ms[i]? = some .sh/\RG K G v d)\/(ms[i]? = some .bw/\RB K G H v d))
|_,_,_,_,_,.nil,e=>by simp at e
|_,_,_,0,_,.sh h t,e=>by simp at e;subst e;exact⟨_,rfl,.inl ⟨rfl,h⟩⟩
|_,_,_,0,_,.bw h t,e=>by simp at e;subst e;exact⟨_,rfl,.inr ⟨rfl,h⟩⟩
|_,_,_,i+1,d,.sh h t,e=>by obtain⟨v,Y,U⟩:=t.get (i:=i) (d:=d) (by simpa using e);exact⟨v,by simpa using Y,by simpa using U⟩
|_,_,_,i+1,d,.bw h t,e=>by obtain⟨v,Y,U⟩:=t.get (i:=i) (d:=d) (by simpa using e);exact⟨v,by simpa using Y,by simpa using U⟩
noncomputable def nQ(K:W.Frag)(ro:Bool)(ms:List Md)(F:List D->Res D):Sp:=fun vs H Q _=>∃G ds,cK K G H/\ArgsOk K G H ms vs ds/\fin (F ds) (fun d=>∀v G' H',Grow K G H G' H'->RV ro K H G' H' v d->Q v H') fun _=>False
noncomputable def bQ(ro:Bool):Out->Res D
|.nx _=>if ro=true then .stuck else .ok .non
|.rt d=>.ok d
|.exc x _=>.exc x
|_=>.stuck
noncomputable def cS(n:Nat)(ds:List D):aI:=ds.map some++j_ (n-ds.length) none
noncomputable def gQ(n:Nat)(ms:List Md):List Md:=ms++j_ (n-ms.length) .sh
variable{w:F_}
section
variable{P:o_}{mg:Str->Option a_}{base:Heap}
theorem rR(m:cK X.K G H)(b:ArgsOk X.K G H ms vs ds)(s:ms.length<=N.length):SI X ⟨G,H,fun _=>none⟩ (gQ N.length ms) (cS N.length ds) G (L2.aX N vs) H:=by
 obtain⟨r,q⟩:=b.len;have f:(L2.aX N vs).length=N.length:=by unfold L2.aX;rw[đ,p_,Ő];omega
 have p:(cS N.length ds).length=N.length:=by unfold cS;rw[đ,p_,Ő];omega
 have n:(gQ N.length ms).length=N.length:=by unfold gQ;rw[đ,Ő];omega
 have Z:∀(i:Nat) d,(cS N.length ds)[i]? = some (some d)->i<ms.length/\(gQ N.length ms)[i]? = ms[i]?/\∃v,(L2.aX N vs)[i]? = some (some v)/\((ms[i]? = some .sh/\RG X.K G v d)\/(ms[i]? = some .bw/\RB X.K G H v d)):=fun i d h=>by
  unfold cS at h;by_cases c:i<ds.length
  .rw[O_ (by simpa using c),K_]at h;have l:ds[i]? = some d:=by cases z:ds[i]? with
   |none=>rw[z]at h;cases h
   |some t=>rw[z]at h;cases h;rfl
   obtain⟨v,k,g⟩:=b.get l;refine⟨`o,?_,v,?_,g⟩
   .unfold gQ;rw[O_ `o]
   .unfold L2.aX;rw[O_ (by rw[p_];omega),K_,k];rfl
  .rw[Ļ (by simpa using c),Ľ]at h;split at h <;> cases h
 refine⟨m,fun _ _ e=>e,fun _ _ e=>e,fun _ _=>rfl,by rw[n,f],by rw[f,p],fun i d h Y=>?_,fun i d h Y=>?_,fun i d h Y=>?_,fun i j a d e _ h _ Y=>?_,fun i o h=>nomatch h⟩
 .obtain⟨_,hq,v,h1,h2⟩:=Z i d h;rw[hq]at Y;rcases h2 with⟨_,h2⟩|⟨U,h2⟩
  .exact⟨v,h1,h2⟩
  .rw[Y]at U;cases U
 .obtain⟨_,hq,v,h1,h2⟩:=Z i d h;rw[hq]at Y;rcases h2 with⟨U,h2⟩|⟨U,h2⟩ <;> rw[Y]at U <;> cases U
 .obtain⟨_,hq,v,h1,h2⟩:=Z i d h;rw[hq]at Y;rcases h2 with⟨U,h2⟩|⟨U,h2⟩
  .rw[Y]at U;cases U
  .refine⟨v,h1,?_⟩;rcases h2 with h2|⟨a,rfl,h2⟩
   .exact .inl h2
   .exact .inr ⟨a,rfl,h2,h2.ob.isS⟩
 .obtain⟨_,hq,v,h1,h2⟩:=Z i d h;rw[hq]at Y;rcases h2 with⟨U,h2⟩|⟨U,h2⟩ <;> rw[Y]at U <;> cases U
theorem CK{fs:FS}(q:fin (bQ ro (fs r)) (fun d=>∀v Y U,Grow X.K G H Y U->RV ro X.K H Y U v d->Q v U) fun _=>False):dF X ⟨G,H,fun _=>none⟩ ro m' [] G { nx:=fun _ U=>Q .non U,rt:=Q } (fs r):=by cases e:fs r with
|nx Z=>rw[e]at q;cases ro with
 |false=>exact fun a Y U _ c=>q .non Y U c.grown (.scl .non)
 |true=>exact q.elim
|rt d=>rw[e]at q;exact fun v Y U b f=>q v Y U b f
|bk Z=>rw[e]at q;exact q.elim
|ct Z=>rw[e]at q;exact q.elim
|exc x Z=>rw[e]at q;exact q.elim
|stuck=>rw[e]at q;exact q
theorem GT{x a:Str}{st:Stmt}{f:Addr}{N c:List Str}{m':List Md}(F:Fun K x a st f i)(S:FnScope N c (aA st))(Y:ms.length=c.length)(U:∀(b:a_)(A:I_)(Z:List Env)(s:d_)(H:Hp)(g:GE)(E:XK),Room k (A.deeper (â a (aA st) s.heap.objs.size f b)) ->fU (dm eN P w K mg base N a (aA st) f b A Z s H E).nox g ro [] (gQ N.length ms) (aH st) fs m'):FnOk P w K mg base eN (k+1) f i c (nQ K ro ms fun ds=>bQ ro (fs (cS N.length ds))):=by
 refine F.ok S (fun j H Q E k=>by obtain⟨G,ds,e,d,q⟩:=k;exact d.len.1.trans Y) fun b A Z s H j Q E l h=>?_;obtain⟨G,ds,e,d,q⟩:=h;have m:c.length<=N.length:=by have:=Q_g Ö S.pre;grind
 exact⟨_,(U b A Z s H _ E l).2,_,G,rR e d `o,CK q⟩
end
section
variable{k:Nat}{fa:Addr}{fd:à}{ps:List Str}{F:List D->Res D}{dvs:List V}{ds:List a_}{dds:List D}{x:Str}{p:Pos}{ms:List Md}
noncomputable def AI(X:Cx)(g:GE)(m:List Md)(ms:List Md)(f:aI->Res (List D)):TA:=fun σ H Q=>∃r G,SI X g m r G σ H/\fin (f r) (fun ds=>∀vs G' H',Grow X.K G H G' H'->ArgsOk X.K G' H' ms vs ds->Q vs H') (XW X σ G H)
def iL(X:Cx)(g:GE)(m:List Md)(es:List Expr)(ms:List Md)(f:aI->Res (List D)):Prop:=PA X es (AI X g m ms f)
theorem sG:iL X g m [] [] aE:=PA.imp jT fun Y H Q z=>by obtain⟨r,G,U,k⟩:=z;exact k [] G H (Grow.refl U.gok) .nil
theorem bZ(j:SE X g m e f)(i:iL X g m es ms fl)(h:!Sx X e es):iL X g m (e::es) (.sh::ms) (aG f fl):=by
 refine PA.imp (gR j i h) fun p H Q y=>?_;obtain⟨r,G,Z,k⟩:=y;refine ⟨r,G,Z,bW (cJ k) fun d c v o t U b=>⟨r,o,Z.grow U,?_⟩⟩
 exact jr (cJ c) U fun s z q n l Y a=>z _ n l (U.trans Y) (.sh (b.mono Y.ge) a)
theorem bV(Y:SE X g m e f)(U:!Sx X e []):iL X g m [e] [.sh] (aG f aE):=bZ Y sG U
theorem aV(j:SB X g m e f)(i:iL X g m es ms fl)(h:!Sx X e es):iL X g m (e::es) (.bw::ms) (aG f fl):=by
 refine PA.imp (gR j i h) fun p H Q y=>?_;obtain⟨r,G,Z,k⟩:=y;refine ⟨r,G,Z,bW (cJ k) fun d c v o t U b=>⟨r,o,Z.grow U,?_⟩⟩
 exact jr (cJ c) U fun s z q n l Y a=>z _ n l (U.trans Y) (.bw (b.mono Y) a)
theorem aK(Y:SB X g m e f)(U:!Sx X e []):iL X g m [e] [.bw] (aG f aE):=aV Y sG U
def cP(fl:aI->Res (List D))(dds:List D)(F:List D->Res D):FE:=fun r=>(fl r).bind fun ds=>AM (F (ds++dds))
theorem CY(c:cK X.K G H)(b:ArgsOk X.K G H ms vs Z)(U:Paired Scl dvs dds)(q:fin (AM (F (Z++dds))) (fun d=>∀v a Y,Grow X.K G H a Y->RV ro X.K H a Y v d->Q v Y) fun _=>False):nQ X.K ro (ms++j_ dds.length .sh) F (vs++dvs) H Q E0:=by refine⟨G,_,c,b.app U,?_⟩;cases e:F _ with
|ok d=>rw[e]at q;exact q
|exc x=>rw[e]at q;exact q.elim
|stuck=>rw[e]at q;exact q.elim
theorem zE{r:Res U}{x:D->Prop}(h:fin r q x)(Y:∀e,r≠.exc e):fin r q fun _=>False:=by cases r with
|ok a=>exact h
|exc e=>simp_all
|stuck=>exact h
theorem By(r:Res D)(e:D):AM r≠.exc e:=by cases r <;> simp[AM]
def wL(f:FE):FE:=fun r=>(f r).bind fun d=>match d with
|.non=>.stuck
|d=>.ok d
end
theorem RL:∀(l:List (Str×Ç))(U:List (Str×Addr)),(∀x∈l,x.2=.free->∃c,env.cells.lookup x.1=some c)->(∀x c,U.lookup x=some c->env.cells.lookup x=some c) ->∃Z,(forIn l U (fun(x:Str×Ç)(U:List (Str×Addr))=>if (x.2==NameKind.free)=true then(do let a <-cellOf env x.1;pure (ForInStep.yield ((x.1,a)::U)))else pure (ForInStep.yield U)):Sem (List (Str×Addr)))=pure Z /\(∀x c,Z.lookup x=some c->env.cells.lookup x=some c)/\(∀x,(x,NameKind.free)∈l->∃c,Z.lookup x=some c)/\(∀x c,U.lookup x=some c->∃b,Z.lookup x=some b):=by
 intro l
 induction l with
|nil=>intro U _ h;exact⟨U,rfl,h,fun x Y=>(by cases Y),fun x c h=>⟨c,h⟩⟩
|cons y l o=>
  intro U f p;obtain⟨n,k⟩:=y;by_cases e:k=.free
  .subst e;obtain⟨c,r⟩:=f (n,.free) h_ rfl;have t:cellOf env n=pure c:=by unfold cellOf;rw[r]
   have g:∀x b,((n,c)::U).lookup x=some b->env.cells.lookup x=some b:=fun x b h=>by rw[Ģ]at h;cases q:x==n with
   |true=>rw[q]at h;cases h;rw[ù q];exact r
   |false=>rw[q]at h;exact p x b h
   obtain⟨Z,m,j,i,d⟩:=o ((n,c)::U) (fun x Y=>f x (i_ _ Y)) g;refine⟨Z,?_,j,fun x Y=>?_,fun x b h=>?_⟩
   .rw[<-m];rw[ŵ];show(cellOf env n >>= fun a=>pure (ForInStep.yield ((n,a)::U))) >>= _=_;rw[t];rfl
   .rcases m_.mp Y with z|z
    .cases z;exact d n c (by rw[Ģ];simp)
    .exact i x z
   .cases q:x==n with
   |true=>exact d x c (by rw[Ģ,q])
   |false=>exact d x b (by rw[Ģ,q];exact h)
  .obtain⟨Z,m,j,i,d⟩:=o U (fun x Y=>f x (i_ _ Y)) p;have s:(k==NameKind.free)=false:=by simpa using e
   refine⟨Z,?_,j,fun x Y=>?_,d⟩
   .rw[<-m,ŵ];simp only[s,Qea,if_false];rfl
   .rcases m_.mp Y with z|z
    .cases z;exact Q_f rfl e
    .exact i x z
theorem UT(Z:∀x∈U.names,x.2=.free->∃c,env.cells.lookup x.1=some c):∃Y,Qfd U env=pure Y/\(∀x c,Y.lookup x=some c->env.cells.lookup x=some c)/\(∀x,(x,NameKind.free)∈U.names->∃c,Y.lookup x=some c):=by obtain⟨Y,e,b,a,_⟩:=RL U.names [] Z `a;refine⟨Y,?_,b,a⟩;have d:Qfd U env=((forIn U.names _ _) >>= fun f=>pure f):=rfl;rw[d,e];rfl
theorem MV{f:Str->Ç->Ç}:∀(l:List (Str×Ç))(x:Str),(l.map fun y=>(y.1,f y.1 y.2)).lookup x=(l.lookup x).map (f x)
|[],x=>rfl
|(n,k)::l,x=>by rw[í,Ģ,Ģ];cases q:x==n with
 |true=>simp[ù q]
 |false=>exact MV l x
noncomputable def iz(env:Env)(n:Str)(k:Ç):Ç:=if (k==.free&&env.scope.kind==.function&&env.kindOf n==some .cell)=true then .cell else k
theorem MX(U:ã)(env:Env)(x:Str):(ō U env).names.lookup x=(U.names.lookup x).map (iz env x):=by
 rw[<-MV];congr 1;apply œ;intro y _;obtain⟨n,k⟩:=y;show(if (k==NameKind.free&&env.scope.kind==.function&&env.kindOf n==some .cell)=true then(n,NameKind.cell)else(n,k))=(n,iz env n k)
 unfold iz;split <;> rfl
structure CompSc(X:Cx)(scope:ã)(N':List Str)(nl:Nat)(cap:List Nat):Prop where
 kind:scope.kind=.function
 nocell:∀y∈scope.names,y.2≠.cell
 names:∀y∈scope.names,y.2=.local->scope.names.lookup y.1=some .local
 freeK:∀y∈scope.names,y.2=.free->X.env.kindOf y.1=some .cell\/X.env.kindOf y.1=some .free
 len:N'.length=nl+cap.length
 capN:∀j,j<cap.length->∃x,N'[nl+j]? = some x/\X.N[cap.getD j 0]? = some x/\scope.names.lookup x=some .free
noncomputable def gm(X:Cx)(s₀:d_)(H₀:Hp)(N':List Str)(scope:ã)(cl:List (Str×Addr))(C:Addr)(fp:List Addr):Cx where
 prog:=X.prog
 w:=X.w
 K:=X.K
 mg:=X.mg
 base:=X.base
 A:=X.A
 N:=N'
 s₀:=s₀
 H₀:=H₀
 env:=Ğ scope cl C X.env
 outer:=X.stack
 stack:=X.stack
 ex:=fp
 fn:=fun _=>false
 calm:=X.calm
 pn:=[]
 xe:=fun _ _=>False
variable{pz:List (Addr×Obj)}{σ:L2.St}{s:d_}{scope:ã}{N':List Str}{nl:Nat}{cap:List Nat}{cl:List (Str×Addr)}{C:Addr}{fp:List Addr}
theorem YK(I:Inv X pz σ H s)(i:CompSc X scope N' nl cap)(g:∀x c,cl.lookup x=some c->X.env.cells.lookup x=some c)(t:∀x,(x,NameKind.free)∈scope.names->∃c,cl.lookup x=some c)(d:∀b∈fp,gp X pz H b/\b<s.heap.objs.size)(l:s.heap.objs.size<=C):(gm X s H N' scope cl C fp).Ok where
 mod:=I.ok.mod
 kind:=i.kind
 glob:=I.ok.glob
 blt:=I.ok.blt
 above:=l
 inj:=fun x y c a b=>I.ok.inj x y c (g x c a) (g y c b)
 has:=fun x r=>by
  have Y:(scope.names.lookup x).map (iz X.env x)=some .cell\/(scope.names.lookup x).map (iz X.env x)=some .free:=by rw[<-MX];exact r
  cases e:scope.names.lookup x with
 |none=>simp_all
 |some k=>
   have j:=PySem.mem_of_lookup e;have p:k=.free:=by
    have U:iz X.env x k=.cell\/iz X.env x k=.free:=`a
    unfold iz at U;split at U
    .simp_all
    .rcases U with z|z
     .exact Q_f z (i.nocell _ j)
     .exact z
   subst p;exact t x j
 cab:=fun x c h=>by cases h
 hd:=I.ok.hd
 frames:=I.ok.frames
 stk:=.inl rfl
 exf:=fun b Z=>⟨H_ (A_ (d b Z).2 l),fun x c e=>(d b Z).1.2.2.2.2.1 x c (g x c e)⟩
 bs:=I.bs
 bsz:=U_ I.ok.bsz I.sz
 noex:=fun b o e Z=>by
  obtain⟨_,_,_,q,_⟩:=(d b Z).1;rcases q with z|z
  .exact I.ok.noex b o e z
  .exact Q_f (A_ (n_ e) (U_ I.ok.bsz z)) (þ _)
 exfs:=fun b Z f=>by
  obtain⟨_,n,m,_⟩:=(d b Z).1;rcases m_.mp (I.stkSub b f)with z|z
  .exact n z
  .exact m z
 funs:=I.stack
 frf:=I.stkFree
def jO(ft:FT)(q:FQ)(fe:FE)(r0:aI):List D->Res (List D)
|[]=>.ok []
|d::ds=>(gj (ft d r0)).bind fun r1=>(q r1).bind fun c=>if c=true then(fe r1).bind fun v=>(jO ft q fe r0 ds).bind fun vs=>.ok (v::vs)else jO ft q fe r0 ds
noncomputable def fB(nl:Nat)(cap:List Nat)(r:aI):aI:=j_ nl none++cap.map fun i=>r.getD i none
noncomputable def cM(nl:Nat)(cap:List Nat)(m:List Md):List Md:=j_ nl Md.sh++cap.map fun i=>if m.getD i Md.sh=Md.sh then Md.sh else Md.bw
noncomputable def ig(nl:Nat)(cap:List Nat)(st:L2.St):L2.St:=j_ nl none++cap.map fun i=>st.getD i none
theorem uD{U:Type}{u:U}{h:Nat->U}(hi:nl<=i):(j_ nl u++cap.map h)[i]? = (cap[i-nl]?).map h:=by rw[Ļ (by simpa using hi),Ő,K_]
theorem YJ(I:Inv X pz σ H s)(P:(gm X s H N' scope cl C fp).Ok)(y:CompSc X scope N' nl cap)(r:∀x c,cl.lookup x=some c->X.env.cells.lookup x=some c)(h2:∀x,(x,NameKind.free)∈scope.names->∃c,cl.lookup x=some c)(hN:X.N.Nodup){f:d_}{m:Hp}{G:Str->Option a_}(dl:f.os=s.os)(hb:Á f.gens)(J:∀b o,s.heap.get? b=some o->f.heap.get? b=some o)(Z:f.heap.Ns C G)(hC:s.heap.objs.size<=C)(BT:m C=none)(hH:∀b,H b=none->b<s.heap.objs.size->m b=none)(M:Un (dU X.stack) fp H m s.heap f.heap)(A:HOk X.prog X.w m f.heap):Inv (gm X s H N' scope cl C fp) [] (ig nl cap σ) m f:=by
 refine⟨P,dl,hb,M,⟨G,Z,fun i x v e1 d e3=>?_⟩,fun x c e=>?_,BT,fun x c e=>?_,fun p T=>Q_f (show p∈([]:List (Addr×Obj))from T) `s,A,?_⟩
 .have hi:nl<=i:=by
   by_cases z:i<nl
   .unfold ig at d;rw[O_ (by simpa using z),Ľ]at d;split at d <;> cases d
   .omega
  unfold ig at d;rw[uD hi]at d;cases t:cap[i-nl]? with
 |none=>rw[t]at d;cases d
 |some j=>
   rw[t]at d;have hj:i-nl<cap.length:=(g_.mp t).1;obtain⟨a,F,E,B⟩:=y.capN (i-nl) hj;have ed:cap.getD (i-nl) 0=j:=by rw[ļ,t];rfl
   rw[ed]at E;have ei:nl+(i-nl)=i:=`o
   rw[ei]at F;have Y:N'[i]? = some x:=e1;rw[F]at Y;have ex:a=x:=T_ Y;subst ex;have R:σ[j]? = some (some v):=by have z:σ.getD j none=some v:=T_ d;rw[ļ]at z;cases q:σ[j]? with
   |none=>rw[q]at z;cases z
   |some o=>rw[q]at z;rw[show o=some v from z]
   have U:=PySem.mem_of_lookup B;have K:=y.freeK _ U rfl;obtain⟨mx,Id,W⟩:=I.loc;obtain⟨u,O,Q⟩:=W j a v E R (.inr K);refine⟨u,O,.inr ?_⟩;obtain⟨c,L⟩:=h2 a U;have Cl:Env.kindOf (gm X s H N' scope cl C fp).env a=some .cell\/Env.kindOf (gm X s H N' scope cl C fp).env a=some .free:=by
    have z:(ō scope X.env).names.lookup a=some (iz X.env a .free):=by rw[MX,B];rfl
    show(ō scope X.env).names.lookup a=_\/(ō scope X.env).names.lookup a=_;rw[z];unfold iz;split
    .exact .inl rfl
    .exact .inr rfl
   refine⟨Cl,c,L,?_⟩;rcases Q with⟨k,_⟩|⟨_,c',l,g⟩
   .rcases K with z|z <;> rw[k]at z <;> cases z
   .rw[r a c L]at l;cases l;obtain⟨o,h,n⟩:=g;exact⟨o,J c o h,n⟩
 .obtain⟨v,o,h,n⟩:=I.cell x c (r x c e);exact⟨v,o,J c o h,n⟩
 .obtain⟨v,o,h,n⟩:=I.cell x c (r x c e);exact hH c (I.freeC x c (r x c e)) (n_ h)
 .show(ig nl cap σ).length=N'.length;rw[y.len];simp[ig]
section
variable{prog:o_}{A:I_}{R:Ĺ->d_->Prop}
theorem QI{j Z g:Expr}{p:Pos}(I:Nat->d_->Prop)(f:∀n s,I n s->u_ (y_ prog w) A (pyNext it) (fun r o=>match r with
  |none=>R (.ok .next) o
  |some v=>u_ (y_ prog w) A (Qds Z it v) (fun _ U=>u_ (y_ prog w) A (Ü Z env v) (fun _ u=>
     u_ (y_ prog w) A (forIn i true fun c r=>if r=true then do let ok <-isTrue c env (eval c env);pure (ForInStep.yield ok)else pure (ForInStep.yield r)) (fun ok l=>
      if ok=true then u_ (y_ prog w) A (eval j env) (fun x t=>u_ (y_ prog w) A (call (.builtin "list.append") [k,x]) (fun _ q=>∃m,m<n/\I m q) (û (y_ prog w) A env fun e a=>R (.error e) a) t) (û (y_ prog w) A env fun e a=>R (.error e) a) l
      else ∃m,m<n/\I m l) (û (y_ prog w) A env fun e a=>R (.error e) a) u) (û (y_ prog w) A env fun e a=>R (.error e) a) U)
     (û (y_ prog w) A env fun e a=>R (.error e) a) o) (û (y_ prog w) A env fun e a=>R (.error e) a) s)(n:Nat)(h:I n s):Ï (y_ prog w) A (.compLoop (.ListComp j [⟨Z,g,i,0⟩] d p) 0 it k env) R s:=by refine codeAny_loop rfl I (fun n s B=>?_) n h;refine wpAny_noted ?_;refine b_ (ĳ (b_ (V_ (f n s B) (fun r o z=>?_) fun _ _ b=>b)));cases r with
|none=>exact f_ z
|some v=>refine b_ (V_ z (fun _ U Y=>?_) fun _ _ b=>b);refine b_ (V_ Y (fun _ u F=>b_ (V_ F (fun ok l y=>?_) fun _ _ b=>b)) fun _ _ b=>b);cases ok with
 |false=>exact f_ ⟨rfl,y⟩
 |true=>exact b_ (b_ (V_ y (fun x t E=>b_ (V_ E (fun _ q C=>f_ (f_ ⟨rfl,C⟩)) fun _ _ b=>b)) fun _ _ b=>b))
end
def mO(X:Cx)(g:GE)(m:List Md)(ifs:List Expr)(f:FQ):Prop:=∀(pz:List (Addr×Obj))(s:d_)(σ:L2.St)(H:Hp)(Q:Bool->Hp->Prop),Inv X pz σ H s->tQ X g m f σ H Q ->u_ (y_ X.prog X.w) X.A (forIn ifs true fun c r=>if r=true then do let ok <-isTrue c X.env (eval c X.env);pure (ForInStep.yield ok)else pure (ForInStep.yield r)) (TP X pz σ Q) X.xe s
theorem yK:mO X g m [] fun _=>.ok true:=fun Z s Y H Q I k=>by obtain⟨r,G,U,q⟩:=k;exact wpAny_tests_nil ⟨H,I,q G H (Grow.refl U.gok)⟩
theorem rB(h:SQ X g m c p):mO X g m [c] p:=fun Y s U H Q I q=>wpAny_tests_one (h Y s U H Q I q)
def kh(ft:FT)(nl:Nat):Prop:=∀d r r1,ft d r=some r1->r1.length=r.length/\∀i,nl<=i->r1[i]? = r[i]?
def xI(ft:mP)(nl:Nat):Prop:=∀d r r1,ft d r=some r1->r1.length=r.length/\∀i,nl<=i->r1[i]? = r[i]?
theorem rn(h:i<nl):kh (bX i) nl:=fun d r U e=>by
 cases e
 grind
theorem JR:xI i7 nl:=fun U r Y e=>by cases U with
|nil=>cases e;exact⟨rfl,fun _ _=>rfl⟩
|cons _ _=>cases e
theorem zJ(g:kh ft nl)(f:xI U nl):xI (eJ ft U) nl:=fun Y r a e=>by cases Y with
|nil=>cases e
|cons d Y=>have b:((ft d r).bind fun c=>U Y c)=some a:=e;cases q:ft d r with
 |none=>simp_all
 |some Z=>rw[q]at b;obtain⟨k,j⟩:=g d r Z q;obtain⟨i,h⟩:=f Y Z a b;simp_all
theorem GV(h:xI U nl):kh (jb U) nl:=fun d r Z e=>by cases d with
|tup Y=>exact h Y r Z e
|lst Y=>exact h Y r Z e
|_=>cases e
variable{elt:Expr}{ifs:List Expr}{fe:FE}
section
variable{s2:d_}{tg:Expr}{J:It}{it:Addr}{tn:Nat->Heap->Prop}{ds vs:List D}{q:FQ}{E:a_->d_->Prop}
theorem Pn(i:Nat):(cM nl cap m)[i]?≠some Md.ow:=fun h=>by
 by_cases Y:i<nl
 .unfold cM at h;rw[O_ (by simpa using Y),Ľ]at h;split at h <;> cases h
 .unfold cM at h;rw[uD `o]at h;cases e:cap[i-nl]? with
 |none=>rw[e]at h;cases h
 |some j=>rw[e]at h;have U:(if m.getD j Md.sh=Md.sh then Md.sh else Md.bw)=Md.ow:=T_ h;split at U <;> cases U
theorem SI.wish{st:L2.St}(s:SI X g m r G st H):SI (X.wish E) g m r G st H:=⟨s.gok,s.old,s.ge,s.gf,s.lm,s.lr,s.sh,s.ow,s.bw,s.dis,s.lk⟩
theorem SI.unwish{st:L2.St}(s:SI (X.wish E) g m r G st H):SI X g m r G st H:=⟨s.gok,s.old,s.ge,s.gf,s.lm,s.lr,s.sh,s.ow,s.bw,s.dis,s.lk⟩
noncomputable def E3(El:W.Frag->GH->Hp->GH->Hp->V->D->Prop)(xp:Bool)(X:Cx)(g:GE)(m:List Md)(f:FE):TE:=fun σ H Q=>∃r G,SI X g m r G σ H/\fin (f r) (fun d=>∀v G' H',Grow X.K G H G' H'->El X.K G H G' H' v d->Q v H') fun x=>xp=true/\XW X σ G H x
theorem JM(j:X.xe=fun _ _=>False)(h:PE X e fun σ H Q=>∃r G,SI X g m r G σ H/\fin (f r) (fun d=>∀v Y U,Grow X.K G H Y U->El X.K G H Y U v d->Q v U) (XW X σ G H))(E:a_->d_->Prop):PE (X.wish E) e (E3 El false (X.wish E) g m f):=by
 intro a s σ H Q I ⟨r,G,Z,q⟩;refine V_ (h a s σ H Q I.unwish ⟨r,G,Z.unwish,?_⟩) (fun u i k=>by obtain⟨v,c,b,z⟩:=k;exact ⟨v,c,b.wish E,z⟩) fun _ _ z=>by simp_all
 cases e:f r with
|ok d=>rw[e]at q;exact q
|exc x=>rw[e]at q;exact Q_f q.1 t_
|stuck=>rw[e]at q;exact q
theorem Rz{a:List U}{b:U}{c:Res (List U)}:((c.bind fun vs=>.ok (b::vs)).bind fun rest=>.ok (a++rest))=c.bind fun rest=>.ok (a++[b]++rest):=by cases c <;> simp[Res.bind]
theorem Di{dl:Res (List D)}{Rl:Addr->GH->Hp->List V->List D->Prop}(R0:∀p G H,Rl p G H [] [])(Rg:∀{p G H I k ws ds},Rl p G H ws ds->Grow X.K G H I k->Rl p I k ws ds)(Rn:∀{p G H ws ds},Rl p G H ws ds->ws.length=ds.length)(Ra:∀{p G H I k ws ds v d},Rl p G H ws ds->Grow X.K G H I k->Grow X.K G2 H2 G H->H p=some (.lst ws)->El X.K G H I k v d->Rl p I (aO k p (.lst (ws++[v]))) (ws++[v]) (ds++[d]))(hN:X.N.Nodup)(Zy:X.calm=true)(sc:CompSc X scope N' nl cap)(h1:∀x c,cl.lookup x=some c->X.env.cells.lookup x=some c)(h2:∀x,(x,NameKind.free)∈scope.names->∃c,cl.lookup x=some c)(I2:Inv X pz σ H2 s2)(si:SI X g m r G2 σ H2)(T:Turn X.prog X.w X.K tg J fp it tn)(st:tn 0 s2.heap)(hf:∀b∈fp,gp X pz H2 b)(Y:YieldsC X.K J ds G2 H2)(hsz:ds.length<=sizeLine)(hg:∀C,SG (gm X s2 H2 N' scope cl C fp) ⟨G2,H2,fun _=>none⟩ (cM nl cap m) tg ft (cM nl cap m))(Z2:kh ft nl)(hq:∀C,mO (gm X s2 H2 N' scope cl C fp) ⟨G2,H2,fun _=>none⟩ (cM nl cap m) ifs q)(he:∀C E,PE ((gm X s2 H2 N' scope cl C fp).wish E) elt (E3 El xp ((gm X s2 H2 N' scope cl C fp).wish E) ⟨G2,H2,fun _=>none⟩ (cM nl cap m) fe))(ZM:jO ft q fe (fB nl cap r) ds=dl)(Zu:dl≠.stuck)(ZC:(∃vs,dl=.ok vs)\/(xp=true/\∀r e,q r≠.exc e)){RR:a_->Addr->Ĺ->d_->Prop}(hX:xp=true->∀x,dl=.exc x->∀(p C:Addr)(s1:d_)(H1:Hp),Inv X pz σ H1 s1->(∃mm,s1.heap.Ns C mm)->H1 C=none->C≠X.env.locals->X.s₀.heap.objs.size<=C->(∀x c,X.env.cells.lookup x=some c->c≠C)->(∀z∈X.pn++pz,z.1≠C) ->∀(a T:Addr)(od:Option Addr)(nm:Str)(fs:List (Str×D))(I:GH)(k:Hp)(B:d_),x=xD nm fs->XN X.K nm T->XF I od fs->Grow X.K G2 H2 I k->Fly X.prog X.w X.stack H1 s1 k a (.ref T) od B->û (y_ X.prog X.w) X.A (Ğ scope cl C X.env) (fun e B=>RR (.ref p) C (.error e) B) (.ref a) B)(ZW:∀vs,dl=.ok vs->∀(p C:Addr)(B:d_)(k:Hp)(I:GH),Inv X pz σ k B->(∃mm,B.heap.Ns C mm)->k C=none->C≠X.env.locals->X.s₀.heap.objs.size<=C->(∀x c,X.env.cells.lookup x=some c->c≠C)->(∀z∈X.pn++pz,z.1≠C) ->Grow X.K G2 H2 I k->H2 p=none->(∃ws,k p=some (.lst ws)/\I p=none/\Rl p I k ws vs)->RR (.ref p) C (.ok .next) B):u_ (y_ X.prog X.w) X.A (newList []) (fun acc s3=>u_ (y_ X.prog X.w) X.A (newFunctionEnv scope X.env.globals cl [] X.env.qual none .none (some X.env)) (fun Zr s4=>Ï (y_ X.prog X.w) X.A (.compStart (.ListComp elt [⟨tg,iter,ifs,0⟩] scope pos) 0 (.ref it) acc { Zr with scope:=ō scope X.env }) (RR acc Zr.locals) s4) E s3) E s2:=by
 refine Ŧ (wpAny_newFunctionEnv sc.nocell (by intro y hy;simp at hy) (fun ZO Zq Ty=>?_) sc.kind);generalize Zp:s2.heap.push { cls:=.type "list",dict:=none,data:=.seq ([]).toArray }=HH at Zq Ty ⊢;have hC:HH.objs.size=s2.heap.objs.size+1:=by rw[<-Zp,Ê]
 have ZJ:s2.heap.objs.size≠HH.objs.size:=by rw[hC];exact H_ (ħ _)
 have Z:s2.heap.objs.size<=HH.objs.size:=by rw[hC];exact ŝ _
 have BT:∀b,b<s2.heap.objs.size->b≠HH.objs.size/\b≠s2.heap.objs.size:=fun b s=>⟨by rw[hC];exact H_ (Ħ s),H_ s⟩
 have old:=fun b o e=>Ty.extBut b o (BT b (n_ e)).1 (c_ _ (Zp▸c_ _ e));have ZK:=Ty.extBut _ _ ZJ (c_ _ (Zp▸l_ _ rfl));have Id:=I2.hok.fresh (k_ _);have Zg:∀b∈fp,gp X pz H2 b/\b<s2.heap.objs.size:=fun b s=>⟨hf b s,by obtain⟨o,e,_⟩:=T.obj 0 s2.heap st b s;exact n_ e⟩
 have ok:=YK I2 sc h1 h2 Zg Z;generalize U:gm X s2 H2 N' scope cl HH.objs.size fp=l at ok;have ZN:=si.gok.isN Id;have w0:Grow X.K G2 H2 G2 (aO H2 s2.heap.objs.size (.lst [])):=Grow.new si.gok Id _;have ZL:HOk X.prog X.w (aO H2 s2.heap.objs.size (.lst [])) ZO:=I2.hok.laid old (k_ _) ⟨é _,[],0,.nil,ZK⟩;have IC:Inv l [] (ig nl cap σ) (aO H2 s2.heap.objs.size (.lst [])) { s2 with heap:=ZO,toks:=s2.toks+([]:List (Str×a_)).length }:=by
  subst U;refine YJ I2 ok sc h1 h2 hN rfl I2.bare old Zq Z ?_ (fun b s R=>?_) (Un.laid old (k_ _) Id) ZL
  .rw[bL (ê ZJ)];exact I2.hok.fresh Z
  .rw[bL (BT b R).2];exact s
 have SC:SI l ⟨G2,H2,fun _=>none⟩ (cM nl cap m) (fB nl cap r) G2 (ig nl cap σ) (aO H2 s2.heap.objs.size (.lst [])):=by
  subst U;have ZQ:(cM nl cap m).length=nl+cap.length:=by simp[cM]
  have Zx:(fB nl cap r).length=nl+cap.length:=by simp[fB]
  have Zi:(ig nl cap σ).length=nl+cap.length:=by simp[ig]
  have KK:∀(i:Nat) d,(fB nl cap r)[i]? = some (some d)->nl<=i/\∃j,cap[i-nl]? = some j/\r[j]? = some (some d):=fun i d h=>by
   by_cases M:i<nl
   .unfold fB at h;rw[O_ (by simpa using M),Ľ]at h;split at h <;> cases h
   .refine⟨`o,?_⟩;unfold fB at h;rw[uD `o]at h;cases e:cap[i-nl]? with
   |none=>rw[e]at h;cases h
   |some j=>rw[e]at h;refine⟨j,rfl,?_⟩;have h':r.getD j none=some d:=T_ h;rw[ļ]at h';cases e2:r[j]? with
    |none=>rw[e2]at h';cases h'
    |some o=>rw[e2]at h';rw[show o=some d from h']
  have IO:∀(i j:Nat) md,nl<=i->cap[i-nl]? = some j->(cM nl cap m)[i]? = some md->md=if m.getD j Md.sh=Md.sh then Md.sh else Md.bw:=fun i j md M O h=>by unfold cM at h;rw[uD M,O]at h;exact(T_ h).symm
  have XL:∀(i j:Nat) v,nl<=i->cap[i-nl]? = some j->σ[j]? = some (some v)->(ig nl cap σ)[i]? = some (some v):=fun i j v M O h=>by unfold ig;rw[uD M,O];show some (σ.getD j none)=_;rw[ļ,h];rfl
  have mj:∀(j:Nat) d,r[j]? = some (some d)->m[j]? = some (m.getD j Md.sh):=fun j d h=>by
   have hl:j<m.length:=by have:=(g_.mp h).1;rw[si.lr,<-si.lm]at this;exact this
   rw[ļ,q_ hl];rfl
  refine⟨w0.ok,w0.he,w0.ge,w0.gf,by rw[ZQ,Zi],by rw[Zx,Zi],fun i d h hm=>?_,fun i d h hm=>?_,fun i d h hm=>?_,fun i j a d e _ h _ hm=>?_,fun i o h=>nomatch h⟩
  .obtain⟨M,j,O,hr⟩:=KK i d h;have e:=IO i j _ M O hm;have Zv:m.getD j Md.sh=Md.sh:=by
    by_cases z:m.getD j Md.sh=Md.sh
    .exact z
    .rw[Q_e z]at e;cases e
   obtain⟨v,h1,h2⟩:=si.sh j d hr (by rw[mj j d hr,Zv]);exact⟨v,XL i j v M O h1,h2.mono w0.ge⟩
  .obtain⟨M,j,O,hr⟩:=KK i d h;have e:=IO i j _ M O hm;split at e <;> cases e
  .obtain⟨M,j,O,hr⟩:=KK i d h;have e:=IO i j _ M O hm;have Zv:m.getD j Md.sh≠Md.sh:=by intro z;rw[Q_d z]at e;cases e
   have Zk:=mj j d hr;cases q:m.getD j Md.sh with
  |sh=>exact Q_f q Zv
  |ow=>rw[q]at Zk;obtain⟨a,h1,h2,_⟩:=si.ow j d hr Zk;exact⟨_,XL i j _ M O h1,.inr ⟨a,rfl,h2.mono w0,h2.ob.isS⟩⟩
  |bw=>
    rw[q]at Zk;obtain⟨v,h1,h2⟩:=si.bw j d hr Zk;refine⟨v,XL i j _ M O h1,?_⟩;rcases h2 with h2|⟨a,rfl,h2,_⟩
    .exact .inl (h2.mono w0.ge)
    .exact .inr ⟨a,rfl,h2.mono w0,h2.ob.isS⟩
  .obtain⟨M,j',O,hr⟩:=KK i d h;have e:=IO i j' _ M O hm;split at e <;> cases e
 have Zs:=T.keep _ _ _ st fun b _ o e=>old b o e;have Zt:∀(k:Hp),(∀b∈fp,k b=none)->∀b∈fp,gp l [] k b:=fun k hn b s=>by
  subst U;obtain⟨z0,z1,z2,z3,z4,z5⟩:=hf b s;refine⟨hn b s,?_,?_,?_,?_,?_⟩
  .exact(BT b (Zg b s).2).1
  .intro hfs;rcases m_.mp (I2.stkSub b hfs)with z|z
   .exact z1 z
   .exact z2 z
  .exact .inl s
  .exact fun x c e=>z4 x c (h1 x c e)
  .intro p hp;exact Q_f (show p∈([])from hp) `s
 have eA:l.A=X.A:=Eq.rec rfl U;have eP:l.prog=X.prog:=Eq.rec rfl U;have eW:l.w=X.w:=Eq.rec rfl U;have eK:l.K=X.K:=Eq.rec rfl U;have eX:l.xe=fun _ _=>False:=Eq.rec rfl U;have eE:l.env=Ğ scope cl HH.objs.size X.env:=Eq.rec rfl U;have eC:l.calm=true:=Eq.rec Zy U;have eH:l.H₀=H2:=Eq.rec rfl U;have ZV:PG l tg (tG l _ _ _ ft):=Eq.rec (hg _).2 U;have hq':mO l _ _ ifs q:=Eq.rec (hq _) U;have ZB:∀E,PE (l.wish E) elt (E3 El xp (l.wish E) _ _ fe):=Eq.rec (he _) U;have eS:l.stack=X.stack:=Eq.rec rfl U;have ZD:∀{P:List _}{k:Hp}{B:d_}{σ':L2.St},Inv l P σ' k B->Inv X pz σ k B/\(∃mm,B.heap.Ns HH.objs.size mm)/\k HH.objs.size=none/\HH.objs.size≠X.env.locals/\X.s₀.heap.objs.size<=HH.objs.size/\(∀x c,X.env.cells.lookup x=some c->c≠HH.objs.size)/\∀z∈X.pn++pz,z.1≠HH.objs.size:=fun{P k B σ'} J1=>by
  subst U;have un:=J1.base;refine⟨?_,(let⟨mm,hn,_⟩:=J1.loc;⟨mm,hn⟩),J1.free,(ÿ (A_ I2.lt Z)),(U_ I2.sz Z),(fun x c e z=>?_),(fun z hz e=>?_)⟩
  .refine I2.call' J1.os un J1.hok J1.bare fun b s=>?_;obtain⟨z0,z1,z2,z3,z4,z5⟩:=hf b s;exact⟨z3,z1,z4,z5⟩
  .obtain⟨v,o,ho,_⟩:=I2.cell x c e;exact Q_f (A_ (n_ ho) Z) (by rw[z];exact þ _)
  .have:=(I2.pin z hz).1;exact Q_f (A_ (n_ this) Z) (by rw[e];exact þ _)
 have loop:Ï (y_ X.prog X.w) X.A (.compLoop (.ListComp elt [⟨tg,iter,ifs,0⟩] scope pos) 0 (.ref it) (.ref s2.heap.objs.size) (Ğ scope cl HH.objs.size X.env)) (RR (.ref s2.heap.objs.size) HH.objs.size)
   { s2 with heap:=ZO,toks:=s2.toks+([]:List (Str×a_)).length }:=by
  refine QI (fun n B=>∃(i:Nat)(σ':L2.St)(k:Hp)(I:GH)(ws:List V)(F:List D),Inv l [] σ' k B/\SI l _ _ _ I σ' k/\tn i B.heap/\(∀b∈fp,k b=none)/\Grow X.K G2 H2 I k /\k s2.heap.objs.size=some (.lst ws)/\I s2.heap.objs.size=none/\Rl s2.heap.objs.size I k ws F/\dl=((jO ft q fe _ (ds.drop i)).bind fun rest=>.ok (F++rest))/\F.length<=i/\i<=ds.length/\n=ds.length-i) ?_ ds.length
   ⟨0,_,_,G2,[],[],IC,SC,Zs,fun b s=>?_,w0,cX,ZN,R0 _ _ _,by rw[Qfe,ZM];cases dl <;> rfl,k_ _,é _,rfl⟩
  rotate_left
  .rw[bL (BT b (Zg b s).2).2];exact(hf b s).1
  rintro n s3 ⟨i,σ3,H3,G3,ws,F,I3,S3,st3,fr3,w3,hp3,hg3,rs3,f,hd3,hi3,rfl⟩
  have Cl:∀{α:Type}{t:Sem α}{Q:α->d_->Prop}{B:d_}{E':a_->d_->Prop},u_ (y_ l.prog l.w) l.A t Q l.xe B->u_ _ X.A t Q E' B:=fun h=>by rw[eP,eW,eA,eX]at h;exact V_ h (fun _ _ z=>z) fun _ _ z=>z.elim
  by_cases R:i<ds.length
  .have hd:=Ď R;rw[hd]at f;unfold jO at f;have ZE:=T.item l eP eW eK eC i [] s3 σ3 H3 (û (y_ X.prog X.w) X.A (Ğ scope cl HH.objs.size X.env) fun e B=>RR (.ref s2.heap.objs.size) HH.objs.size (.error e) B) I3 (Zt H3 fr3) st3 (Y.go G3 H3 i w3 R);rw[eA]at ZE;refine bJ ZE fun rr s4 g=>?_;obtain⟨u,hr,h4⟩:=g;subst hr;refine bJ h4 fun _ s5 W=>?_;obtain⟨x,H5,I5,r5,y5,st5,fr5⟩:=W;obtain⟨G5,w5,Z1⟩:=Y.yld G3 H3 i x H5 ds[i] w3 y5 (q_ R);have ZX:=w3.trans w5;cases Zj:ft ds[i] _ with
  |none=>rw[Zj]at f;exact Q_f f Zu
  |some r1=>
    rw[Zj]at f;simp  at f;have Z4:=I5.pinned (Zt H5 fr5) (T.obj _ _ st5);have S5:=S3.grow (by rw[eK];exact w5);have ZP:RG l.K G5 x ds[i]:=by rw[eK];exact Z1
    have Zz:=ZV _ s5 σ3 H5 x u (fun L H6=>H6=H5/\SI l _ _ r1 G5 L H5) Z4 r5 ⟨_,G5,ds[i],S5,ZP,r1,Zj,fun L ZS=>⟨rfl,ZS⟩⟩;rw[eE]at Zz;refine bJ (Cl Zz) fun _ s6 J=>?_;obtain⟨L,H6,I6,e6,S6⟩:=J;subst e6;obtain⟨Z3,fl2⟩:=Z2 _ _ _ Zj;cases Tm:q r1 with
   |stuck=>rw[Tm]at f;exact Q_f f Zu
   |exc xx=>
     rw[Tm]at f;rcases ZC with⟨vs,z⟩|z
     .rw[z]at f;cases f
     .exact Q_f Tm (z.2 r1 xx)
   |ok b1=>
     rw[Tm]at f;simp  at f;have ZI:=hq' _ s6 L H6 (fun b H7=>b=b1/\∃G7,Grow X.K G5 H6 G7 H7) I6 ⟨r1,G5,S6,by rw[Tm];exact fun G7 H7 w7=>⟨rfl,G7,by rw[eK]at w7;exact w7⟩⟩;rw[eE]at ZI;refine bJ (Cl ZI) fun b s7 N=>?_;obtain⟨H7,I7,eb,G7,w7⟩:=N;subst eb;have S7:=S6.grow (by rw[eK];exact w7);have Zh:=ZX.trans w7;have Zl:=w7.he _ _ (w5.he _ _ hp3);have ZF:G7 s2.heap.objs.size=none:=by rw[w7.gf _ (by rw[w5.he _ _ hp3];simp),w5.gf _ (by rw[hp3];simp)];exact hg3
     have back:∀{Zn:L2.St}{H8:Hp}{G8:GH}{s8:d_},Inv l _ Zn H8 s8->Inv l [] Zn H8 s8/\tn _ s8.heap/\∀b∈fp,H8 b=none:=fun{Zn H8 G8 s8} I8=>by refine⟨I8.unpinned,T.keep _ _ _ st5 fun b s o e=>(I8.pin _ (R_ _ (R_ _ (rV s e)))).1,fun b s=>?_⟩;obtain⟨o,e,_⟩:=T.obj _ _ st5 b s;exact(I8.pin _ (R_ _ (R_ _ (rV s e)))).2.1
     have less:∀{Zn:L2.St}{H8:Hp}{G8:GH},SI l _ _ r1 G8 Zn H8->SI l ⟨G2,H2,fun _=>none⟩ (cM nl cap m) _ G8 Zn H8:=fun h=>h.less Z3.symm fun j d O=>by
      by_cases ZT:j<nl
      .exact Q_f O ((fun M d=>fun h=>by unfold fB at h;rw[O_ (by simpa using M),Ľ]at h;split at h <;> cases h) ZT d)
      .rw[fl2 j `o];exact O
     cases b with
    |false=>obtain⟨ZR,t7,f7⟩:=back (G8:=G7) I7;exact⟨_,`o,i+1,L,H7,G7,ws,F,ZR,less S7,t7,f7,Zh,Zl,ZF,Rg rs3 (w5.trans w7),f,`o,R,rfl⟩
    |true=>rw[Q_d rfl]at f ⊢;cases ST:fe r1 with
     |stuck=>rw[ST]at f;exact Q_f f Zu
     |exc xx=>
       rw[ST]at f;have LT:=f;rcases ZC with⟨vs,z⟩|z
       .rw[z]at LT;cases LT
       have Zo:=ZB (û (y_ X.prog X.w) X.A (Ğ scope cl HH.objs.size X.env) fun e B=>RR (.ref s2.heap.objs.size) HH.objs.size (.error e) B) _ s7 L H7 (fun _ _=>False) (I7.wish _) ⟨r1,G7,S7.wish,by rw[ST];refine⟨z.1,fun P e B I k w' _ C=>?_⟩;obtain⟨pins1,s1,H1,a,T,od,nm,fs,ee,ex,xn,xf,I1,fl⟩:=C;subst ee;obtain⟨t1,t2,t3,t4,t5,t6,t7⟩:=ZD I1.unwish;have ZH:=fl;have ZG:=w';have xn':=xn;rw[eP,eW,eS]at ZH;rw[eK]at ZG xn';exact hX z.1 xx LT _ _ s1 H1 t1 t2 t3 t4 t5 t6 t7 a T od nm fs I k B ex xn' xf (Zh.trans ZG) ZH⟩;have LE:=Zo;rw[eP,eW,eA,eE]at LE;exact V_ LE (fun _ _ G=>by obtain⟨_,_,_,_,z⟩:=G;exact z.elim) fun _ _ z=>z
     |ok d1=>
       rw[ST]at f;simp  at f;rw[Rz]at f
       .have Zo:=ZB (fun _ _=>False) _ s7 L H7 (fun v H8=>∃G8,Grow X.K G7 H7 G8 H8/\El X.K G7 H7 G8 H8 v d1) (I7.wish _) ⟨r1,G7,S7.wish,by rw[ST];exact fun v G8 H8 w8 rv=>⟨G8,by rw[eK]at w8;exact w8,by rw[eK]at rv;exact rv⟩⟩;have LE:=Zo;rw[eP,eW,eA,eE]at LE;refine V_ LE (fun u8 s8 H=>?_) fun _ _ z=>z.elim;obtain⟨v8,H8,I8,r8,G8,w8,rv8⟩:=H;replace I8:=I8.unwish;have Z0:=w8.he _ _ Zl;have Zw:G8 s2.heap.objs.size=none:=by rw[w8.gf _ (by rw[Zl];simp)];exact ZF
        have S8:=S7.grow (by rw[eK];exact w8);have hlen:=Rn rs3;have ZY:=CU _ s8 L H8 (.ref s2.heap.objs.size) [v8] _ [u8] (fun v H9=>H9=aO H8 s2.heap.objs.size _) I8 rfl (.cons r8 .nil) ⟨_,ws,v8,rfl,rfl,Z0,`o,rfl⟩;refine bJ (Cl ZY) fun u9 s9 S=>?_;obtain⟨v9,H9,I9,r9,e9⟩:=S;subst e9;obtain⟨ZZ,t9,f9⟩:=back (G8:=G8) I9;have ZU:=Ra (Rg rs3 (w5.trans w7)) w8 Zh Zl rv8;have Zm:=Zh.trans w8;refine⟨_,`o,i+1,L,_,G8,_,_,ZZ,less (S8.other Zw Id Pn _),t9,f9,?_,cX,Zw,ZU,f,by rw[đ,Qcm];omega,R,rfl⟩;refine⟨fun b e s=>(Zm.ok b e s).mono (fun _ _ z=>z) fun o z=>?_,fun b o s=>?_,Zm.ge,Zm.gf⟩
        .rw[bL (by rintro rfl;rw[Zw]at s;cases s)];exact z
        .rw[bL (by rintro rfl;rw[Id]at s;cases s)];exact Zm.he b o s
  .have e:i=ds.length:=`o
   subst e;rw[ġ]at f;have LT:dl=.ok F:=by rw[f];show Res.ok _=_;rw[Ô]
   have dn:=T.done l eP eW eK eC ds.length [] s3 σ3 H3 (û (y_ X.prog X.w) X.A (Ğ scope cl HH.objs.size X.env) fun e B=>RR (.ref s2.heap.objs.size) HH.objs.size (.error e) B) I3 (Zt H3 fr3) st3 (Y.stop G3 H3 w3);rw[eA]at dn;refine bJ dn fun rr s4 k'=>?_;obtain⟨hr,I4⟩:=k';subst hr;obtain⟨t1,t2,t3,t4,t5,t6,t7⟩:=ZD I4;exact ZW F LT _ _ _ _ G3 t1 t2 t3 t4 t5 t6 t7 w3 Id ⟨_,hp3,hg3,rs3⟩
 exact codeAny_compStart_list loop (T.self X.A 0 _ _ _ Zs loop)
end
noncomputable def wN:Res (List D)->Res (List D)
|.ok d=>.ok d
|_=>.stuck
@[simp] theorem noXL_ok(d:List D):wN (.ok d)=.ok d:=rfl
def gG(nl:Nat)(cap:List Nat)(fi:FI)(ft:FT)(q:FQ)(fe:FE):FE:=fun r=>(fi r).bind fun ds=>(gj (sz ds)).bind fun ds=>(wN (jO ft q fe (fB nl cap r) ds)).bind fun vs=>.ok (.lst vs)
section
variable{tg:Expr}{spos:Pos}{fi:FI}{q:FQ}
theorem KO(h:fin (gG nl cap fi ft q fe r) P x):fin (fi r) (fun ds=>∃vs,ds.length<=sizeLine/\jO ft q fe (fB nl cap r) ds=.ok vs/\P (.lst vs)) x:=by refine bW (cJ h) fun ds b=>?_;obtain⟨Z,c,U⟩:=d9 (cJ b);obtain⟨rfl,a⟩:=yB c;cases Y:jO ft q fe _ Z with
|ok vs=>rw[Y]at U;exact⟨vs,a,rfl,U⟩
|exc x=>rw[Y]at U;exact U.elim
|stuck=>rw[Y]at U;exact U.elim
theorem CompSc.clo{pz:List (Addr×Obj)}{σ:L2.St}{H:Hp}{s:d_}(Y:CompSc X scope N' nl cap)(Z:X.Ok):∃U,Qfd scope X.env=pure U/\(∀x c,U.lookup x=some c->X.env.cells.lookup x=some c)/\(∀x,(x,NameKind.free)∈scope.names->∃c,U.lookup x=some c):=UT fun y a b=>Z.has y.1 (Y.freeK y a b)
theorem Ho(hN:X.N.Nodup)(U:X.calm=true)(u:CompSc X scope N' nl cap)(hi:iI X g m tg iter fi)(hg:∀s0 n l C j g',SG (gm X s0 n N' scope l C j) g' (cM nl cap m) tg ft (cM nl cap m))(KK:kh ft nl)(hq:∀s0 n l C j g',mO (gm X s0 n N' scope l C j) g' (cM nl cap m) ifs q)(he:∀s0 n l C j g',SE (gm X s0 n N' scope l C j) g' (cM nl cap m) elt fe)(hs:!!!!Ix X iter):SO X g m (.ListComp elt [⟨tg,iter,ifs,0⟩] scope pos) (gG nl cap fi ft q fe):=by
 intro pz s σ H Q I h;obtain⟨r,G,L,k⟩:=h;obtain⟨l,E,h1,h2⟩:=u.clo (pz:=pz) (σ:=σ) (H:=H) (s:=s) I.ok;have k1:=KO k;refine Qb2 rfl hs E u.kind u.names (bJ (hi pz s σ H (fun J f=>∃c i t,Grow X.K G H c f/\YieldsC X.K J i c f/\i.length<=sizeLine/\jO ft q fe _ i=.ok t /\(∀a c f,Grow X.K G H c f->H a=none->Own X.K c f a _->Q _ f)) I ⟨r,G,L,bW k1 fun i ⟨t,z1,z2,z3⟩ J c f w y=>⟨c,i,t,w,y,z1,z2,z3⟩⟩) fun v s1 z=>bJ z fun itv s2 BT=>?_);obtain⟨it,j,tn,J,H2,rfl,I2,T,O,hf,G2,i,t,x,Y,A,Z,hQ⟩:=BT;refine Di (El:=fun K _ _ c _ v d=>RG K c v d) (Rl:=fun _ G _ F i=>dJ X.K G F i) (fun _ _ _=>.nil) (fun h w=>h.mono w.ge) Paired.length (fun h w _ _ e=>Paired.snoc (h.mono w.ge) e) hN U u h1 h2 I2 (L.grow x) T O hf Y A (fun C=>hg _ _ _ _ _ _) KK (fun C=>hq _ _ _ _ _ _) (fun C=>JM rfl (he _ _ _ _ _ _)) Z nofun (.inl ⟨_,rfl⟩) nofun fun _ z=>?_;cases z;intro p C s' f c I' Cl LT dl IO LE Id M hp ⟨F,W,R,P⟩;have ho:Own X.K c f p _:=⟨R,.lst W P⟩
 obtain⟨mm,hn⟩:=Cl;refine⟨mm,hn,fun h' B=>⟨.ref p,f,?_,rfl,hQ p c f (x.trans M) (x.back hp) ho⟩⟩;exact I'.turned (fun b o hb e=>B.extBut b o hb e) LT dl.symm.symm (.inr IO) LE Id
theorem Ua(i:Nat)(Q:X.N.Nodup)(U:X.calm=true)(hy:X.N[i]? = some y)(Z:X.env.scope.names.lookup y=some .local)(B:CompSc X scope N' nl cap)(hi:iI X g m tg iter fi)(hg:∀s0 u n C l g',SG (gm X s0 u N' scope n C l) g' (cM nl cap m) tg ft (cM nl cap m))(Ty:kh ft nl)(hq:∀s0 u n C l g',mO (gm X s0 u N' scope n C l) g' (cM nl cap m) ifs q)(he:∀s0 u n C l g',SE (gm X s0 u N' scope n C l) g' (cM nl cap m) elt fe)(Zg:!æ (.ListComp elt [⟨tg,iter,ifs,0⟩] scope pos) (some (.Name y pos')) spos.line X.env=pure true)(hs:!!!!Ix X iter):SS X g ro mb m (.Assign [.Name y pos'] (.ListComp elt [⟨tg,iter,ifs,0⟩] scope pos) spos) (aN m i (gG nl cap fi ft q fe)) (m.set i .ow):=by
 refine⟨`s,?_⟩;intro pz s σ H D0 I h;obtain⟨r,G,A,k⟩:=h;obtain⟨n,M,h1,h2⟩:=B.clo (pz:=pz) (σ:=σ) (H:=H) (s:=s) I.ok;have k1:=KO (iO A `s k);rw[exec_Assign_Name_used _ _ _ _ Zg];refine b_ (ĳ (b_ ?_));refine b_ (V_ (Qb2 rfl hs M B.kind B.names (bJ (hi pz s σ H (fun J f=>∃c j z,Grow X.K G H c f/\YieldsC X.K J j c f/\j.length<=sizeLine/\jO ft q fe _ j=.ok z /\(∀t c f,bU G c->SI X g _ _ c t f->D0.nx t f)) I ⟨r,G,A,bW k1 fun j ⟨z,z1,z2,z3⟩ J c f w y=>⟨c,j,z,w,y,z1,z2,z3⟩⟩) fun v s1 E=>bJ E fun itv s2 Id=>?_)) (fun _ s' hq=>f_ (f_ hq)) fun _ _ e=>e);obtain⟨it,l,tn,J,H2,rfl,I2,T,R,hf,G2,j,z,x,Y,F,dl,hQ⟩:=Id;refine Di (El:=fun K _ _ c _ v d=>RG K c v d) (Rl:=fun _ G _ O j=>dJ X.K G O j) (fun _ _ _=>.nil) (fun h w=>h.mono w.ge) Paired.length (fun h w _ _ e=>Paired.snoc (h.mono w.ge) e) Q U B h1 h2 I2 (A.grow x) T R hf Y F (fun C=>hg _ _ _ _ _ _) Ty (fun C=>hq _ _ _ _ _ _) (fun C=>JM rfl (he _ _ _ _ _ _)) dl nofun (.inl ⟨_,rfl⟩) nofun fun _ E=>?_;cases E;intro p C s' f c I' IO LT Cl ST XL LE P hp ⟨O,o1,o2,o3⟩;have ho:Own X.K c f p _:=⟨o2,.lst o1 o3⟩
 obtain⟨mm,hn⟩:=IO;refine Qei (Kr I' Q hy (.inl Z) (v:=.ref p) rfl (fun W KK u=>?_) (.inr Z));obtain⟨a,L,ha⟩:=u;have Tm:C≠a:=`g
 refine⟨mm,hn.sameBut L Tm,fun h' BT=>?_⟩;refine⟨_,f,KK.turned (fun b o hb e=>BT.extBut b o hb e) LT Cl (.inr ST) XL LE,?_⟩;exact hQ _ c f (x.trans P).ge (A.setN (x.trans P) i (x.back hp) ho)
end
end DL
namespace DL
open PySem PySem.Spec PyProof.Rows L2 PySem.W PySem.Calls
section
variable{P:o_}{w:F_}{st:List Env}{H H':Hp}{s s':d_}{a C:Addr}{cls:a_}{od:Option Addr}
theorem RT(h:Heap)(a:Addr):(h.update a fun o=>{ o with data:=.freed }).get? a=none:=by cases e:(h.update a fun o=>{ o with data:=.freed }).get? a with
|none=>rfl
|some u=>exfalso;unfold Heap.get? Heap.update at e;simp only[Array.getElem?_modify,Q_k]at e;cases q:h.objs[a]? with
 |none=>rw[q]at e;cases e
 |some o=>rw[q]at e;obtain⟨c,d,Y,U⟩:=o;cases e
theorem Fly.less(F:Fly P w st H s H' a cls od s')(hC:H' C=none)(Z:s.heap.get? C=some A)(E:C∉dU st)(i:∀b,b≠C->j.get? b=s'.heap.get? b):Fly P w st H { s with heap:=s.heap.update C fun o=>{ o with data:=.freed } } H' a cls od { s' with heap:=j }:=by
 obtain⟨B,W,Y,BT,⟨y,m,x,t,r,p,r5⟩,R,hH⟩:=F.ex;have X:a≠C:=fun z=>by grind
 have d:∀{h:Heap} {b o},(h.update C fun o=>{ o with data:=.freed }).get? b=some o->b≠C/\h.get? b=some o:=fun{h b o} e=>by
  have g:b≠C:=fun z=>by rw[z,RT]at e;cases e
  exact⟨g,by rw[É _ _ _ _ g]at e;exact e⟩
 have U:∀{h:Heap} {b},h.get? b=none->(h.update C fun o=>{ o with data:=.freed }).get? b=none:=fun{h b} e=>by cases q:(h.update C fun o=>{ o with data:=.freed }).get? b with
 |none=>rfl
 |some o=>simp_all
 have dl:∀{h:Heap} {b o},b≠C->h.get? b=some o->(h.update C fun o=>{ o with data:=.freed }).get? b=some o:=fun{h b o} g e=>by rw[É _ _ _ _ g];exact e
 refine⟨F.os,F.bare,⟨fun b o e n f z=>?_,fun b o e n f z=>?_,fun b o e n z=>F.un.free b o (d e).2 n z,fun b o e z=>?_,F.un.tups,F.un.frzs,F.un.tbls⟩,fun b u e=>?_,_,fun b o e=>?_,U Y,?_,⟨y,m,(i a X).trans x,t,r,p,?_⟩,fun b o e n=>?_,fun b u e=>?_⟩
 .exact(i b (d e).1).trans (F.un.keep b o (d e).2 n f z)
 .obtain⟨sl,e1⟩:=F.un.slot b o (d e).2 n f z
  grind
 .obtain⟨o1,e1⟩:=F.un.there b o (d e).2 z
  grind
 .refine(F.hok b u e).stay (fun c v hc e1=>(i c ?_).trans e1) (fun _ z=>z) fun _ _ z=>z
  grind
 .exact(i b (d e).1).trans (W b o (d e).2)
 .have all:∀l,(∀b,b∈dU l->b∈dU st)->s'.heap.FunFrames B l->j.FunFrames _ l:=fun l=>by induction l with
  |nil=>intro _ _;trivial
  |cons e l O=>
    intro k Q;obtain⟨N,⟨L,o,M,K,J,I⟩,G⟩:=Q;have T:L∈dU (e::l):=by unfold dU;simp_all
    refine⟨N,⟨L,o,M,U K,(i L fun z=>E (z▸k L T)).trans J,I⟩,O (fun b g=>k b ?_) G⟩;unfold dU at g ⊢
    simp_all
  simp_all
 .grind
 .obtain⟨o1,e1⟩:=R b o (d e).2 n
  grind
 .grind
theorem Fly.passed(F:Fly P w st H s H' a cls od s')(d:s'.heap.get? a=some h)(c:h.data=.fields vs)(z:vs[1]? = some (.ref n))(q:∀b,Fly P w st H s H' a cls od b->E (.ref a) b):u_ M A (PySem.passOn U (.ref a) env:Sem e) Q E s':=by
 obtain⟨B,o,m,T,C,g,f,x,Y,t,Z⟩:=F.step;rw[d]at g;cases g;rw[c]at f;cases f;rcases t with⟨y,_⟩|⟨G,oT,u,v,rfl,y,l,k,j,i⟩
 .rw[z]at y;cases y
 refine b_ (Z_ d c y ?_);exact b_ (zI _ Y (Lft.self d c y l k j i) fun r p=>wpAny_throw (q _ (Z r _ p)))
end
def yQ(nl:Nat)(cap:List Nat)(fi:FI)(ft:FT)(q:FQ)(fe:FE):FE:=fun r=>(fi r).bind fun ds=>(gj (sz ds)).bind fun ds=>(jO ft q fe (fB nl cap r) ds).bind fun vs=>.ok (.lst vs)
section
variable{X:Cx}{g:GE}{m mb:List Md}{scope:ã}{N':List Str}{nl:Nat}{cap:List Nat}{elt tg iter:Expr}{ifs:List Expr}{pos pos' spos:Pos}{fi:FI}{ft:FT}{q:FQ}{fe:FE}{ro:Bool}
theorem P6(BT:X.stack=X.env::X.outer)(Tm:X.env.frame=some X.env.locals)(hN:X.N.Nodup)(LE:X.calm=true)(M:CompSc X scope N' nl cap)(hi:iI X g m tg iter fi)(hg:∀s0 A t C n g',SG (gm X s0 A N' scope t C n) g' (cM nl cap m) tg ft (cM nl cap m))(Zk:kh ft nl)(hq:∀s0 A t C n g',mO (gm X s0 A N' scope t C n) g' (cM nl cap m) ifs q)(XL:∀r e,q r≠.exc e)(he:∀s0 A t C n E g',SE ((gm X s0 A N' scope t C n).wish E) g' (cM nl cap m) elt fe)(hs:!!!!Ix X iter):SO X g m (.ListComp elt [⟨tg,iter,ifs,0⟩] scope pos) (yQ nl cap fi ft q fe):=by
 intro pz s σ H Q I h;obtain⟨r,G,L,k⟩:=h;obtain⟨t,hcl,h1,h2⟩:=M.clo (pz:=pz) (σ:=σ) (H:=H) (s:=s) I.ok;refine Qb2 rfl hs hcl M.kind M.names (bJ (hi pz s σ H (fun J f=>∃c i,Grow X.K G H c f/\YieldsC X.K J i c f/\i.length<=sizeLine /\fin (jO ft q fe (fB nl cap r) i) (fun R=>∀a c f,Grow X.K G H c f->H a=none->Own X.K c f a (.lst R)->Q (.ref a) f) (XW X σ G H)) I ⟨r,G,L,bW (cJ k) fun i z J c f w y=>?_⟩) fun v W hv=>bJ hv fun itv s2 Ty=>?_)
 .obtain⟨ds',e2,z2⟩:=d9 (cJ z);obtain⟨rfl,hl⟩:=yB e2;exact⟨c,_,w,y,hl,cJ z2⟩
 obtain⟨it,n,tn,J,H2,rfl,I2,T,Zg,hf,G2,i,F,Y,hsz,j⟩:=Ty;refine Di (xp:=true) (fe:=fe) (El:=fun K _ _ c _ v d=>RG K c v d) (Rl:=fun _ G _ ws i=>dJ X.K G ws i) (fun _ _ _=>.nil) (fun h w=>h.mono w.ge) Paired.length (fun h w _ _ e=>Paired.snoc (h.mono w.ge) e) hN LE M h1 h2 I2 (L.grow F) T Zg hf Y hsz (fun C=>hg _ _ _ _ _ _) Zk (fun C=>hq _ _ _ _ _ _)
  (fun C E=>PE.imp (he _ _ _ _ _ E _) fun σ H Q ⟨r,G,L,z⟩=>⟨r,G,L,?_⟩) rfl (fun z=>by rw[z]at j;exact j) (.inr ⟨rfl,XL⟩) (fun _ x hx p C W H1 P Cl U Z O KK IO a T' od nm fs c f s' ex xn xf wg fl=>?_) fun R hv=>?_
 .simp_all
 .rw[hx]at j;obtain⟨B,oe,R,T2,LT,r1,r4,r2,Zh,Zj,Zi⟩:=fl.step;rw[BT]at LT;have nf:C∉dU X.stack:=fun z=>by
   rcases m_.mp (P.stkSub C z)with z|z
   .exact Z z
   .obtain⟨_,o,ho,_⟩:=P.ok.funs.mem z;exact Q_f (A_ (n_ ho) O) (þ _)
  refine zj (env:=X.env) rfl (by rw[P.ok.frames,BT]) LT Tm r1 r4 Zj fun h' v l=>?_;have F2:=Zi h' v (by rw[BT];exact l);obtain⟨mm,oC,es,ep,Id,rC⟩:=Cl;have ST:=F2.un.keep C oC Id U nf `s;refine⟨mm,⟨oC,es,ep,ST,rC⟩,fun h2 sb Zl _=>?_⟩;have F3:=F2.less (F2.un.free C oC Id U `s) Id nf fun b u=>sb.2 b u;have I3:=P.turned (t':=W.toks) (h':=W.heap.update C fun o=>{ o with data:=.freed }) (fun b o u e=>by rw[É _ _ _ _ u];exact e) U Z (.inr O) KK IO;obtain⟨tb,ot,ts,t1,t2,t3,t4,t5,t6⟩:=l.obj;have aC:a≠C:=fun z=>by simp_all
  exact F3.passed ((sb.2 a aC).trans t3) rfl (S_ Zh) fun s'' F4=>j pz _ s'' c f (F.trans wg) (F4.inv I3) ⟨pz,_,H1,a,T',od,nm,fs,rfl,ex,xn,xf,I3,F4⟩
 .rw[hv]at j;intro p C s' f c I' Cl U Z O KK IO w' hp ⟨ws,o1,o2,o3⟩;have ho:Own X.K c f p _:=⟨o2,.lst o1 o3⟩
  obtain⟨mm,hn⟩:=Cl;exact⟨mm,hn,fun h' hsb=>⟨.ref p,f,I'.turned (fun b o u e=>hsb.extBut b o u e) U Z (.inr O) KK IO,rfl,j p c f (F.trans w') (F.back hp) ho⟩⟩
end
def mn(K:W.Frag)(r:V->List V->Hp->VK->Prop)(mk:D->List D->Option D):Prop:=∀(G:GH)(H:Hp)(a:Addr)(d:D)(vs:List V)(ds:List D)(d':D)(Q:VK),cK K G H->Own K G H a d->dJ K G vs ds->mk d ds=some d' ->(∀o',OwnO K G (aO H a o') a d'->Q .non (aO H a o'))->r (.ref a) vs H Q
noncomputable def ES(T:String):D->Bool
|.lst _=>T == "list"
|.dic _=>T == "dict"
|_=>false
def dC(T:String)(m:List Md)(i:Nat)(fl:aI->Res (List D))(mk:D->List D->Option D):FS:=fun r=>match r[i]? with
|some (some d)=>if ES T d=true then onE m r (fl r) fun ds=>(match mk d ds with
 |some d'=>.nx (r.set i (some d'))
 |none=>.stuck)else .stuck
|_=>.stuck
variable{X:Cx}{g:GE}{m mb:List Md}{e a b o:Expr}{f fa fb:FE}{pos pos':Pos}
section
variable{es:List Expr}{fl:aI->Res (List D)}{apos cpos:Pos}{ro:Bool}{x name:Str}{T id:String}{R:V->List V->Hp->VK->Prop}{mk:D->List D->Option D}
theorem sL(i:Nat)(p:m[i]? = some .ow)(C:Ŭ T)(b:Slot T name id)(W:typeOf (.builtin id)=pure (.type "method_descriptor"))(Id:ku X id R)(L:mn X.K R mk)(P:X.N[i]? = some x)(J:gC X.env.scope x)(O:SA X g m (e::es) fl)(M:!!Nq x)(KK:!!Nc x)(Z:!X_ (.Name x pos') name X.env (eval (.Name x pos') X.env)=eval (.Name x pos') X.env)(BT:!k8 X (e::es) cpos=true)(Y:!(apos.endLine==cpos.line)=true)(Cl:!Sx X e es)(U:!Bx X cpos es):SS X g ro mb m (.Expr (.Call (.Attribute (.Name x pos') name apos) (e::es) [] cpos) pos) (dC T m i fl mk) m:=
 ⟨rfl,PS.imp (oX (Bm C b W Id (eV P J M KK) O Z BT Y Cl U)) fun D0 z H h=>by obtain⟨r,G,f,k⟩:=h;unfold dC at k;cases c:r[i]? with
   |none=>simp only[c]at k;exact(k).elim
   |some E=>cases E with
    |none=>simp only[c]at k;exact(k).elim
    |some d=>
      simp only[c]at k;by_cases l:ES T d=true
      .rw[Q_d l]at k;obtain⟨a,q,Q,h3⟩:=f.mut p c;refine⟨_,q,(by cases Q.ob with
         |lst r s=>exact .inl ⟨ù l,_,dq.of r⟩
         |dic r s=>exact .inr (.inr (.inl ⟨ù l,.inl ⟨_,.inl r⟩⟩))),r,G,f,bW (iO f rfl k) fun t j A y H' w B=>?_⟩
       cases o:mk d t with
      |none=>simp only[o]at j;exact(j).elim
      |some v=>simp only[o]at j;obtain⟨a',u,IO,n⟩:=(f.grow w).mut p c;rw[q]at u;cases u;exact L y H' a d A t v _ w.ok IO B o fun I F=>j z y _ w.ge (n I v F)
      .rw[Q_e l]at k;exact(k).elim⟩
noncomputable def appD:D->List D->Option D
|.lst ds,[d]=>if ds.length<sizeLine then some (.lst (ds++[d]))else none
|_,_=>none
theorem YF{K:W.Frag}:mn K IL appD:=by
 intro G H a d b f g Q c Z U e q;unfold appD at e;split at e
 .split at e
  .cases e;cases Z.ob with
  |lst r s=>cases U with
   |cons Y t=>cases t;have:=Paired.length s;exact⟨a,_,_,rfl,rfl,r,`o,q _ (.lst cX (Paired.snoc s Y))⟩
  .cases e
 .cases e
noncomputable def A5(x:Int)(n:Nat):Nat:=if x<0 then(x+(n:Int)).toNat else min x.toNat n
def fL{α:Type}(xs:List α)(x:Int)(y:α):List α:=xs.take (A5 x xs.length)++y::xs.drop (A5 x xs.length)
def IQ:V->List V->Hp->VK->Prop:=fun x vs H Q=>∃l xs i y,x=.ref l/\vs=[.int i,y]/\H l=some (.lst xs)/\-(2^63)<=i/\i<2^63/\xs.length<sizeLine/\Q .non (aO H l (.lst (fL xs i y)))
theorem T4:ku X "list.insert" IQ:=by
 intro w s k H x o v p Q I c d h;obtain⟨l,m,i,y,rfl,rfl,a,j,g,A,q⟩:=h;cases c;obtain⟨u,Z,rfl,⟨t,rfl⟩,b⟩:=yC d;obtain⟨z,Y,n,r,f,e⟩:=I.lstM a;have U:¬(not (QcL i))=true:=by rw[fitsIndex_both j g];grind
 refine Å PySem.F.slot_list_insert ⟨_,e,rfl⟩ PySem.F.entry_list_insert (PySem.F.args_list_insert_3 _ _ _) (AutoListH.list_insert_list_int_val_1 l Y.toArray n i t Z U `a) ⟨e,?_⟩;refine⟨.non,_,I.lset (its':=fL Y i Z) a e ?_ ?_ ?_,rfl,q⟩
 .rw[E_];unfold fL A5
  grind
 .unfold fL;rw[f];exact aJ.append (r.take _) (.cons b (r.drop _))
 .unfold fL
  grind
def insD:D->List D->Option D
|.lst ds,[.int i,d]=>if ds.length<sizeLine/\-(2^63)<=i/\i<2^63 then some (.lst (fL ds i d))else none
|_,_=>none
theorem O0{x:Z}{y:Y}(h:Paired F l r)(i:Int)(U:F x y):Paired F (fL l i x) (fL r i y):=by unfold fL;rw[Paired.length h];exact Paired.app (Paired.tk _ h) (.cons U (Paired.dr _ h))
theorem O1{K:W.Frag}:mn K IQ insD:=by
 intro G H a d f g h Q c b U e q;unfold insD at e;split at e
 .split at e
  .rename_i hl;cases e;cases b.ob with
  |lst r s=>cases U with
   |cons Z t=>cases t with
    |cons Y t=>cases t;have:=Paired.length s;exact⟨a,_,_,_,rfl,by rw[Z.int c],r,hl.2.1,hl.2.2,`o,q _ (.lst cX (O0 s _ Y))⟩
  .cases e
 .cases e
end
noncomputable def eI:D->Bool
|.non=>true
|.bl _=>true
|.int _=>true
|.str _=>true
|_=>false
noncomputable def jZ:D->V
|.non=>.non
|.bl b=>.bl b
|.int i=>.int i
|.str x=>.str x
|_=>.non
def jc(a b:D):Bool:=jA (jZ a) (jZ b)
section
variable{K:W.Frag}{G:GH}{H:Hp}{v:V}{d:D}
theorem RB.flat(h:RB K G H v d)(U:cK K G H)(Y:eI d=true):v=jZ d/\i6 v=true:=by cases d with
|non=>rw[h.non U];exact⟨rfl,rfl⟩
|bl b=>rw[h.bl U];exact⟨rfl,rfl⟩
|int i=>rw[h.int U];exact⟨rfl,rfl⟩
|str x=>rw[h.str U];exact⟨rfl,rfl⟩
|_=>cases Y
theorem A1(h:dJ K G xs ds)(Y:cK K G H)(U:ds.all eI=true):xs=ds.map jZ/\xs.all i6=true:=by induction h with
|nil=>exact⟨rfl,rfl⟩
|cons r t Z=>
  rw[Ĥ,L_]at U;obtain⟨b,a⟩:=RB.flat r.rb Y U.1
  grind
end
noncomputable def iU:D->Option bO
|.int i=>some (.inl i)
|.str x=>some (.inr x)
|_=>none
noncomputable def h9(kvs:List (bO×D))(k:bO):Bool:=kvs.any fun kv=>decide (kv.1=k)
noncomputable def dP(kvs:List (bO×D))(k:bO):Option D:=(kvs.find? fun kv=>decide (kv.1=k)).map (·.2)
def lv(x c:D):Option Bool:=match c with
|.lst ds=>if eI x=true/\ds.all eI=true then some (ds.any fun y=>jc y x)else none
|.tup ds=>if eI x=true/\ds.all eI=true then some (ds.any fun y=>jc y x)else none
|.dic kvs=>(iU x).map (h9 kvs)
|.str y=>match x with
 |.str z=>some (not ((î y z 0 y.length 1).isEmpty))
 |_=>none
|_=>none
def iV(x c:D):Option D:=(lv x c).map .bl
def hV(x c:D):Option D:=(lv x c).map fun b=>.bl (not b)
theorem GS{K:W.Frag}(h:gS K G Z Y)(d:D)(e:dP Y k=some d):∃v,fX Z k=some v/\RG K G v d:=by induction h with
|nil=>cases e
|@cons p q Z Y r t g=>
  obtain⟨f,b⟩:=p;obtain⟨m,n⟩:=q;obtain⟨l,c⟩:=r;have U:=l;subst U;by_cases a:f=k
  .subst a;have:=by simpa[dP,Y_]using e
   subst this;exact⟨b,zy rfl,c⟩
  .have e':dP Y k=some d:=by simpa[dP,Y_,a]using e
   obtain⟨v,j,i⟩:=g e';exact⟨v,by rw[uN a];exact j,i⟩
theorem Tp{K:W.Frag}(h:gS K G Z Y)(e:dP Y k=none):fX Z k=none:=by induction h with
|nil=>rfl
|@cons p q Z Y r t c=>
  obtain⟨b,f⟩:=p;obtain⟨i,j⟩:=q;obtain⟨d,g⟩:=r;have U:=d;subst U;by_cases a:b=k
  .subst a;simp[dP,Y_]at e
  .have e':dP Y k=none:=by simpa[dP,Y_,a]using e
   rw[uN a];exact c e'
theorem Yt(U:List (bO×D))(k:bO):h9 U k=(dP U k).isSome:=by induction U with
|nil=>rfl
|cons p r Y=>
  by_cases e:p.1=k
  .simp[h9,dP,Y_,e]
  .have h1:h9 (p::r) k=h9 r k:=by simp[h9,e]
   have Z:dP (p::r) k=dP r k:=by simp[dP,Y_,e]
   rw[h1,Z,Y]
theorem BB{K:W.Frag}(U:cK K G H)(h:RB K G H v d)(e:iU d=some k):v=kV k:=by cases d with
|int i=>cases e;exact h.int U
|str x=>cases e;exact h.str U
|_=>cases e
section
variable{c:Expr}{fc:FE}
noncomputable def Fi(neg:Bool):R2:=fun y x H Q=>∃a o,x=.ref a/\mv H a y o/\Q (.bl (if neg then not o.isSome else o.isSome)) H
def kQ(K:W.Frag)(neg:Bool):R2:=fun x y H Q=>N8 K neg x y H Q\/Fi neg x y H Q\/∃i j,x=.str i/\y=.str j/\Q (.bl (if neg then not (not ((î j i 0 j.length 1).isEmpty))else not ((î j i 0 j.length 1).isEmpty))) H
theorem Hq(Z:X.A.units+1<á):eu X (ç .In) (kQ X.K false):=eu.or TW (eu.or ((fun Z=>by intro c s b H y x u v Q I U Y h;obtain⟨a,k,rfl,d,q⟩:=h;cases Y;exact FK Z I d U fun g e=>⟨.bl _,H,e,rfl,q⟩) Z) (by intro c s b H x y v u Q I Y U h;obtain⟨i,j,rfl,rfl,q⟩:=h;obtain⟨t,rfl⟩:=Y;obtain⟨f,rfl⟩:=U;exact in_str (fu I q rfl)))
theorem Qf(d:X.A.units+1<á):eu X (ç .NotIn) (kQ X.K true):=eu.or (by
   intro f s e H x y v u Q I U Y h;obtain⟨p,m,rfl,Z,g,b,q⟩:=h;cases Y;rcases Z with Z|Z
   .obtain⟨its,r,pl,hz⟩:=I.list Z;refine SeqAt.notIn_listAt _ pl.isList (fun w c=>pY U g r b w (by simpa using c)) ⟨.bl _,H,I,rfl,?_⟩;rw[show its.toArray.any _=its.any (jL x)by simp,uC r b];exact q
   .obtain⟨its,r,pl,hz⟩:=I.tuple Z;refine SeqAt.notIn_tupleAt _ pl (fun w c=>pY U g r b w (by simpa using c)) ⟨.bl _,H,I,rfl,?_⟩;rw[show its.toArray.any _=its.any (jL x)by simp,uC r b];exact q) (eu.or ((fun d=>by intro f s e H y x u v Q I Y U h;obtain⟨a,z,rfl,k,q⟩:=h;cases U;exact QP d I k Y fun o l=>⟨.bl _,H,l,rfl,q⟩) d) (by intro f s e H x y v u Q I U Y h;obtain⟨i,j,rfl,rfl,q⟩:=h;obtain⟨t,rfl⟩:=U;obtain⟨n,rfl⟩:=Y;exact notIn_str ⟨.bl _,H,I,rfl,q⟩))
theorem IB{K:W.Frag}(Z:Bool):iZ K (kQ K Z) (fun x c=>(lv x c).map fun b=>.bl (if Z then not b else b)):=by
 intro G H r o g B d Q U l j e q;have h:∀{f:List V}{Y:List D}{p:Addr},dJ K G f Y->o=.ref p->(dq K H p f\/e8 K H p f)->eI g=true->Y.all eI=true->d=.bl (if Z then not (Y.any fun y=>jc y g)else Y.any fun y=>jc y g)->kQ K Z r o H Q:=fun{f Y p} rs e2 hs hf hfs ed=>by
  obtain⟨A,f1⟩:=RB.flat l U hf;obtain⟨w,u⟩:=A1 rs U hfs;refine .inl ⟨p,f,e2,hs,f1,u,q _ G H (Grow.refl U) ?_⟩;have:AO r f=Y.any fun y=>jc y g:=by unfold AO;rw[w,Ś,A];rfl
  rw[this,ed];exact .scl (.bl _)
 cases B with
|lst Y=>
  by_cases a:eI g=true/\Y.all eI=true
  .simp only[lv,Q_d a,QeQ]at e;obtain⟨p,f,e2,hs,rs⟩:=j.lst U;exact h rs e2 (.inl hs) a.1 a.2 (T_ e).symm
  .simp only[lv,Q_e a,QeR]at e;cases e
|tup Y=>
  by_cases a:eI g=true/\Y.all eI=true
  .simp only[lv,Q_d a,QeQ]at e;obtain⟨p,f,e2,hs,rs⟩:=j.tup U;exact h rs e2 (.inr hs) a.1 a.2 (T_ e).symm
  .simp only[lv,Q_e a,QeR]at e;cases e
|dic i=>simp only[lv]at e;cases n:iU g with
 |none=>rw[n]at e;cases e
 |some k=>
   rw[n]at e;cases e;obtain⟨p,m,rfl,hs,rs⟩:=j.dic U;refine .inr (.inl ⟨p,fX m k,rfl,by rw[BB U l n];exact .inl ⟨m,k,hs,rfl,rfl⟩,q _ G H (Grow.refl U) ?_⟩);have:(fX m k).isSome=h9 i k:=by rw[Yt];cases s:dP i k with
   |none=>rw[Tp rs s];rfl
   |some d=>obtain⟨v,t,_⟩:=GS rs d s;rw[t];rfl
   rw[this];exact .scl (.bl _)
|str y=>cases g with
 |str z=>cases e;exact .inr (.inr ⟨z,y,l.str U,j.str U,q _ G H (Grow.refl U) (.scl (.bl _))⟩)
 |_=>cases e
|_=>cases e
theorem NP{K:W.Frag}:iZ K (kQ K false) iV:=by
 have h:=IB (K:=K) false;have e:(fun x c=>(lv x c).map fun b=>D.bl (if false=true then not b else b))=iV:=by funext x c;unfold iV;cases lv x c <;> rfl
 exact h
theorem OS{K:W.Frag}:iZ K (kQ K true) hV:=by
 have h:=IB (K:=K) true;have e:(fun x c=>(lv x c).map fun b=>D.bl (if true=true then not b else b))=hV:=by funext x c;unfold hV;cases lv x c <;> rfl
 exact h
theorem wE(U:X.A.units+1<á)(c:SB X g m a fa)(Z:SB X g m b fb)(Y:!Ù .In b=false):SE X g m (.Compare a [.In] [b] pos) (f2 fa fb iV):=Bd (Hq U) NP c Z Y
theorem lS(U:X.A.units+1<á)(c:SB X g m a fa)(Z:SB X g m b fb)(Y:!Ù .In b=false):SQ X g m (.Compare a [.In] [b] pos) (cN (f2 fa fb iV)):=oJ (Hq U) NP c Z Y
theorem xL(U:X.A.units+1<á)(c:SB X g m a fa)(Z:SB X g m b fb)(Y:!Ù .NotIn b=false):SQ X g m (.Compare a [.NotIn] [b] pos) (cN (f2 fa fb hV)):=oJ (Qf U) OS c Z Y
noncomputable def Fu:D->D->Option D
|.non,.non=>some (.bl true)
|_,.non=>some (.bl false)
|_,_=>none
noncomputable def n9:D->D->Option D
|.non,.non=>some (.bl false)
|_,.non=>some (.bl true)
|_,_=>none
theorem RB.isnon{K:W.Frag}(U:cK K G H)(h:RB K G H v d):(v=.non↔d=.non):=by
 constructor
 .intro e;subst e;rcases h with h|⟨a,e,_⟩
  .cases h with
  |scl s=>cases s;rfl
  .cases e
 .intro e;subst e;exact h.non U
theorem Yb{K:W.Frag}:iZ K (fun x y H Q=>y=.non/\Q (.bl (decide (x=.non))) H) Fu:=by intro G H g f Z c d Q U b a e q;have Y:=b.isnon U;cases c with
|non=>refine⟨a.non U,q _ G H (Grow.refl U) ?_⟩;cases Z with
 |non=>cases e;rw[Q_c (Y.mpr rfl)];exact .scl (.bl _)
 |_=>cases e;rw[Q_b (fun z=>by have:=Y.mp z;cases this)];exact .scl (.bl _)
|_=>cases Z <;> cases e
theorem O3{K:W.Frag}:iZ K (fun x y H Q=>y=.non/\Q (.bl (not (decide (x=.non)))) H) n9:=by intro G H g f Z c d Q U b a e q;have Y:=b.isnon U;cases c with
|non=>refine⟨a.non U,q _ G H (Grow.refl U) ?_⟩;cases Z with
 |non=>cases e;rw[Q_c (Y.mpr rfl)];exact .scl (.bl _)
 |_=>cases e;rw[Q_b (fun z=>by have:=Y.mp z;cases this)];exact .scl (.bl _)
|_=>cases Z <;> cases e
theorem qk(c:SB X g m a fa)(Z:SB X g m b fb):SQ X g m (.Compare a [.Is] [b] pos) (cN (f2 fa fb Fu)):=oJ (by
   intro e s d H x y v u Q I Y U h;obtain⟨rfl,q⟩:=h;cases U;refine is_none_gen (fu I q ?_);cases x <;> first
    |(rfl)
    |(obtain⟨t,rfl⟩:=Y;rfl)) Yb c Z (oP _)
theorem F9(c:SB X g m a fa)(Z:SB X g m b fb):SQ X g m (.Compare a [.IsNot] [b] pos) (cN (f2 fa fb n9)):=oJ (by
   intro e s d H x y v u Q I Y U h;obtain⟨rfl,q⟩:=h;cases U;refine isnot_none_gen (fu I q ?_);cases x <;> first
    |(rfl)
    |(obtain⟨t,rfl⟩:=Y;rfl)) O3 c Z (oP _)
end
end DL
section
namespace DL
open PySem PySem.Spec PyProof.Rows L2
variable{X:Cx}{g:GE}{m mb:List Md}{e a b o c:Expr}{f fa fb fc:FE}{pos pos':Pos}
section
variable{p1 p2:Pos}{ro:Bool}{x:Str}
def Fh:R2:=fun x y H Q=>∃a v,x=.ref a/\mv H a y (some v)/\Q v H
theorem Oy(j:X.A.units+1<á):mq X Fh:=by
 intro Y Z r s n H x y v u Q I i f h l;obtain⟨a,w,rfl,d,q⟩:=h;cases i;exact Ż ((fun I g=>by
    rcases g with⟨c,k,e,_,_⟩|⟨c,k,b,e,_,_,_⟩
    .obtain⟨_,_,vs,_,dd⟩:=q8 I.hok e;exact dd.typeIs
    .obtain⟨_,_,xs,_,dd⟩:=sv I.hok e;exact dd.typeIs) I d) PySem.F.slot_dict_getitem.lookup (Tl j I d f fun o p m U=>⟨w,H,m,U,q⟩) l
def di:D->D->Option D
|.dic kvs,k=>(iU k).bind (dP kvs)
|c,k=>ixD c k
theorem fm(s:X.A.units+1<á)(u:SB X g m a fa)(t:SB X g m b fb)(l:zd b:=by intro _ _;rfl):SE X g m (.Subscript a b pos) (f2 fa fb di):=Bh (by intro G H i h y Y d Q U c Z e q;cases y with
  |dic j=>obtain⟨a,r,rfl,l,p⟩:=c.dic U;have f:(iU Y).bind (dP j)=some d:=e;cases n:iU Y with
   |none=>rw[n]at f;cases f
   |some k=>rw[n]at f;obtain⟨v,x,w⟩:=GS p d f;refine .inl ⟨a,v,rfl,?_,q v G H (Grow.refl U) w⟩;rw[BB U Z n,<-x];exact .inl ⟨r,k,l,rfl,rfl⟩
  |lst o=>exact .inr (A6 G H i h _ Y d Q U c Z e q)
  |tup o=>exact .inr (A6 G H i h _ Y d Q U c Z e q)
  |str o=>exact .inr (A6 G H i h _ Y d Q U c Z e q)
  |_=>cases e) (F6 (mq.or (Oy s) (Qq.or (OA.or Oz))) u t l)
theorem nj:SO X g m (.Dict [] [] pos) fun _=>.ok (.dic []):=PE.imp SX fun Y H Q ⟨r,G,U,q⟩ p hp=>q p G _ (Grow.new U.gok hp _) hp ⟨U.gok.isN hp,.dic cX .nil⟩
noncomputable def g9(kvs:List (bO×D))(k:bO)(d:D):List (bO×D):=if (kvs.any fun kv=>decide (kv.1=k))=true then kvs.map fun kv=>if kv.1=k then(kv.1,d)else kv else kvs++[(k,d)]
theorem R6{K:W.Frag}(h:gS K G Z U):(Z.any fun Y=>decide (Y.1=k))=U.any fun Y=>decide (Y.1=k):=by induction h with
|nil=>rfl
|cons r t a=>rw[ĥ,ĥ,a,r.1]
theorem F8{K:W.Frag}(r:gS K G Z U)(h:RG K G v d):gS K G (eQ Z k v) (g9 U k d):=by
 unfold eQ g9;rw[R6 r];by_cases Y:(U.any fun a=>decide (a.1=k))=true
 .rw[Q_d Y,Q_d Y];clear Y
  induction r with
 |nil=>exact .nil
 |@cons p q Z U r t b=>
   refine .cons ?_ b
   grind
 .rw[Q_e Y,Q_e Y];exact Paired.snoc r ⟨rfl,h⟩
def iw:D->D->D->Option D
|.lst ds,.int k,v=>(j9 ds.length k).map fun j=>.lst (ds.set j v)
|.dic kvs,k,v=>(iU k).bind fun k=>if kvs.length<sizeLine then some (.dic (g9 kvs k v))else none
|_,_,_=>none
def GB:V->V->V->Hp->(Hp->Prop)->Prop:=fun o i v H Q=>∃p H',o=.ref p/\mr H p i v H'/\Q H'
theorem Rh(a:X.A.units+1<á):jD X GB:=by intro g s e H o i v j k u Q I Y Z U h;obtain⟨p,d,rfl,b,q⟩:=h;cases Y;exact Tn a I b Z U fun f c=>⟨d,c,q⟩
theorem jD.or(h:jD X t)(h':jD X t'):jD X (fun o i v H Q=>t o i v H Q\/t' o i v H Q):=by
 intro b s U H o i v c d u Q I Z a Y q;rcases q with q|q
 .exact h b s U H o i v c d u Q I Z a Y q
 .exact h' b s U H o i v c d u Q I Z a Y q
theorem PB{K:W.Frag}{a:Addr}{c b:V}(o:cK K G H)(t:Own K G H a d)(l:RB K G H c k)(i:RG K G b v)(e:iw d k v=some d')(q:∀m,OwnO K G (aO H a m) a d'->Q (aO H a m)):GC (.ref a) c b H Q\/GB (.ref a) c b H Q:=by cases t.ob with
|@lst p h r s=>cases k with
 |int k=>have Y:(j9 h.length k).map (fun j=>D.lst (h.set j v))=some d':=e;cases g:j9 h.length k with
  |none=>rw[g]at Y;cases Y
  |some j=>rw[g]at Y;cases Y;exact .inl ⟨a,p,k,j,rfl,l.int o,r,by rw[Paired.length s];exact g,q _ (.lst cX (Paired.st i j s))⟩
 |_=>cases e
|@dic w U r s=>have Y:(iU k).bind (fun k=>if U.length<sizeLine then some (D.dic (g9 U k v))else none)=some d':=e;cases f:iU k with
 |none=>rw[f]at Y;cases Y
 |some u=>
   rw[f]at Y;have Z:(if U.length<sizeLine then some (D.dic (g9 U u v))else none)=some d':=Y;by_cases n:U.length<sizeLine
   .rw[Q_d n]at Z;cases Z;have:=Paired.length s;refine .inr ⟨a,_,rfl,?_,q _ (.dic cX (F8 s i))⟩;rw[BB o l f];exact mr.k r `o
   .rw[Q_e n]at Z;cases Z
def putF(m:List Md)(i:Nat)(fk fv:FE):FS:=fun r=>onE m r (fv r) fun v=>match r[i]? with
|some (some d)=>onE m r (fk r) fun k=>(match iw d k v with
 |some d'=>.nx (r.set i (some d'))
 |none=>.stuck)
|_=>.stuck
theorem kA(i:Nat)(J:X.A.units+1<á)(t:m[i]? = some .ow)(Q:X.N[i]? = some x)(I:gC X.env.scope x)(L:SB X g m b fb)(M:SE X g m e f)(O:!!Nq x)(Z:!!Nc x)(P:!!!!∀v,Ü (.Subscript (.Name x p1) b p2) X.env v=(do
   let ov <-å [v] (eval (.Name x p1) X.env);let iv <-å [v,ov] (eval b X.env)
   ð p2
   å [v,ov,iv] (setItem ov iv v)
   release [v,ov,iv] []))(K:!QdY [.Subscript (.Name x p1) b p2] e pos.line X.env=pure false)(F:!QdZ [.Subscript (.Name x p1) b p2] e X.env=pure none)(p:!(ó [.Subscript (.Name x p1) b p2] X.env).map (·.2)=[Ü (.Subscript (.Name x p1) b p2) X.env]):SS X g ro mb m (.Assign [.Subscript (.Name x p1) b p2] e pos) (putF m i fb f) m:=by refine⟨rfl,PS.imp (Hu M (Op (eV Q I O Z) L (jD.or So (Rh J)) P) K F p) fun D0 u H ⟨r,G,c,k⟩=>⟨r,G,c,?_⟩⟩;refine bW (iO c rfl k) fun v h vv W H1 j w=>?_;cases l:r[i]? with
|none=>simp only[l]at h;exact(h).elim
|some z=>cases z with
 |none=>simp only[l]at h;exact(h).elim
 |some d=>simp only[l]at h;obtain⟨a,p,h2,h3⟩:=(c.grow j).mut t l;refine⟨_,p,r,W,c.grow j,?_⟩;refine bW (iO (c.grow j) rfl (dF.gle h j.ge)) fun E o kv T H2 n y=>?_;cases s:iw d E v with
  |none=>simp only[s]at o;exact(o).elim
  |some R=>simp only[s]at o;obtain⟨a',U,Y,q⟩:=((c.grow j).grow n).mut t l;rw[p]at U;cases U;exact PB n.ok Y y (w.mono n.ge) s fun C B=>o u T _ n.ge (q C R B)
end
mutual
noncomputable def dy:D->PyData
|.non=>.none
|.bl b=>.bool b
|.int i=>.int i
|.str x=>.str x
|.tup ds=>.tuple (zeM ds)
|.lst ds=>.list (zeM ds)
|.dic _=>.none
|.obj _ _=>.none
noncomputable def zeM:List D->List PyData
|[]=>[]
|d::ds=>dy d::zeM ds
end
noncomputable def dZ:Nat->D->Prop
|_,.non=>True
|_,.bl _=>True
|_,.int _=>True
|_,.str x=>ĩ x=true
|0,.tup _=>False
|0,.lst _=>False
|k+1,.tup ds=>∀d∈ds,dZ k d
|k+1,.lst ds=>∀d∈ds,dZ k d
|_,.dic _=>False
|_,.obj _ _=>False
theorem pV:dZ (k+1) (.lst ds)↔∀d∈ds,dZ k d:=by simp only[dZ]
theorem zb:dZ (k+1) (.tup ds)↔∀d∈ds,dZ k d:=by simp only[dZ]
noncomputable def oj(a b:D):Bool:=ń (dy a) (dy b)
section
variable{pz:List (Addr×Obj)}{σ:L2.St}{H:Hp}{s:d_}{G:GH}
theorem KJ(b:∀(d:D)(v:V)(u:a_),dZ k d->RG X.K G v d->L2.aR v u->∃Y,Reads s.heap u (dy d) Y)(ds:List D)(vs:List V)(us:List a_)(h:∀d∈ds,dZ k d)(r:dJ X.K G vs ds)(q:aJ vs us):∃Y,ReadsAll s.heap us (zeM ds) Y:=by induction r generalizing us with
|nil=>cases q;exact⟨[],.nil⟩
|cons r t U=>cases q with
 |cons a Z=>obtain⟨g,e⟩:=b _ _ _ (h _ h_) r a;obtain⟨f,c⟩:=U _ `a Z;exact⟨_,.cons e c⟩
theorem zo(I:Inv X pz σ H s)(Z:cK X.K G H):∀(k:Nat)(d:D)(v:V)(u:a_),dZ k d->RB X.K G H v d->L2.aR v u->∃e,Reads s.heap u (dy d) e:=by
 intro k
 induction k with
|zero=>intro d v u Y r U;cases d with
 |non=>rw[r.non Z]at U;cases U;exact⟨_,.none⟩
 |bl b=>rw[r.bl Z]at U;cases U;exact⟨_,.bool b⟩
 |int i=>rw[r.int Z]at U;obtain⟨t,rfl⟩:=U;exact⟨_,.int i t⟩
 |str x=>rw[r.str Z]at U;obtain⟨t,rfl⟩:=U;exact⟨_,.str x t⟩
 |tup _=>unfold dZ at Y;exact Y.elim
 |lst _=>unfold dZ at Y;exact Y.elim
 |dic _=>unfold dZ at Y;exact Y.elim
 |obj _ _=>unfold dZ at Y;exact Y.elim
|succ k C=>intro d v u Y r U;cases d with
 |non=>rw[r.non Z]at U;cases U;exact⟨_,.none⟩
 |bl b=>rw[r.bl Z]at U;cases U;exact⟨_,.bool b⟩
 |int i=>rw[r.int Z]at U;obtain⟨t,rfl⟩:=U;exact⟨_,.int i t⟩
 |str x=>rw[r.str Z]at U;obtain⟨t,rfl⟩:=U;exact⟨_,.str x t⟩
 |tup B=>obtain⟨a,f,rfl,g,l⟩:=r.tup Z;cases U;obtain⟨c,j,m,_⟩:=I.tuple g;obtain⟨o,p,w,n,q⟩:=m;obtain⟨e,h⟩:=KJ (k:=k) (fun d v u A z y=>C d v u A z.rb y) B f c (zb.mp Y) l j;refine⟨e,?_⟩;unfold dy;exact .tuple p w q (by simpa using h)
 |lst B=>obtain⟨a,f,rfl,g,l⟩:=r.lst Z;cases U;obtain⟨c,j,m,_⟩:=I.list g;obtain⟨o,p,w,n,q⟩:=m.isList;obtain⟨e,h⟩:=KJ (k:=k) (fun d v u A z y=>C d v u A z.rb y) B f c (pV.mp Y) l j;refine⟨a::e,?_⟩;unfold dy;exact .list p w q (by simpa using h)
 |dic _=>unfold dZ at Y;exact Y.elim
 |obj _ _=>unfold dZ at Y;exact Y.elim
theorem Cd(U:∀d,dZ k d->Â (dy d)=true/\Ã (dy d)<=k):∀ds:List D,(∀d∈ds,dZ k d)->Qc1 (zeM ds)=true/\Qdv (zeM ds)<=k
|[],_=>by unfold zeM Qc1 Qdv;exact⟨rfl,é _⟩
|d::ds,h=>by obtain⟨c,b⟩:=U d (h d h_);obtain⟨a,Z⟩:=Cd U ds fun x Y=>h x (i_ _ Y);unfold zeM Qc1 Qdv;rw[c,a];exact⟨rfl,Nat.max_le.mpr ⟨b,Z⟩⟩
theorem Pu:∀(k:Nat)(d:D),dZ k d->Â (dy d)=true/\Ã (dy d)<=k:=by
 intro k
 induction k with
|zero=>intro d U;cases d with
 |non=>unfold dy Â Ã;grind
 |bl b=>unfold dy Â Ã;grind
 |int i=>unfold dy Â Ã;grind
 |str x=>unfold dZ at U;unfold dy Â Ã;simp_all
 |tup _=>unfold dZ at U;exact U.elim
 |lst _=>unfold dZ at U;exact U.elim
 |dic _=>unfold dZ at U;exact U.elim
 |obj _ _=>unfold dZ at U;exact U.elim
|succ k Z=>intro d U;cases d with
 |non=>unfold dy Â Ã;grind
 |bl b=>unfold dy Â Ã;grind
 |int i=>unfold dy Â Ã;grind
 |str x=>unfold dZ at U;unfold dy Â Ã;simp_all
 |tup Y=>
   obtain⟨c,a⟩:=Cd Z Y (zb.mp U);unfold dy Â Ã
   grind
 |lst Y=>
   obtain⟨c,a⟩:=Cd Z Y (pV.mp U);unfold dy Â Ã
   grind
 |dic _=>unfold dZ at U;exact U.elim
 |obj _ _=>unfold dZ at U;exact U.elim
theorem zL(h:dZ 60 d):Qfp (dy d)=true:=by obtain⟨a,b⟩:=Pu 60 d h;unfold Qfp;rw[a,Q_c (U_ b `d)];rfl
end
def qY(a b:D):Bool:=eI a&&eI b&&nR (jZ a) (jZ b)
open Classical in
def ke(a b:D):Option Bool:=if qY a b=true then some (jc a b)else if dZ 60 a/\dZ 60 b then some (oj a b)else none
def eqD(a b:D):Option D:=(ke a b).map .bl
noncomputable def neD(a b:D):Option D:=(ke a b).map fun c=>.bl (not c)
theorem zh{a b:D}(h:qY a b=false)(Y:dZ 60 a)(U:dZ 60 b):ke a b=some (oj a b):=by unfold ke;simp_all
theorem CM{a b:D}(h:qY a b=true):ke a b=some (jc a b):=by unfold ke;rw[Q_d h]
@[simp] theorem eqB_int(a b:Int):ke (.int a) (.int b)=some (a==b):=CM rfl
@[simp] theorem eqB_str(a b:Str):ke (.str a) (.str b)=some (a==b):=CM rfl
@[simp] theorem eqB_non_int(b:Int):ke .non (.int b)=some false:=CM rfl
theorem Ka{a b:D}(h:nR (jZ a) (jZ b)=true)(Y:eI a=true)(U:eI b=true):decide (jZ a=jZ b)=jc a b:=by
 cases a <;> cases b <;> first
  |grind
  |grind
  |exact Q_f (h) t_
  |exact BY
  |exact Bo
  |exact BZ
  |rfl
  |simp[jZ,jc,jA]
def Cp(K:W.Frag)(neg:Bool):R2:=fun x y H Q=>∃(G:GH)(d1 d2:D),cK K G H/\RB K G H x d1/\RB K G H y d2/\dZ 60 d1/\dZ 60 d2/\Q (.bl (if neg then not (oj d1 d2) else oj d1 d2)) H
theorem KH(e:X.A.units+64<á):eu X (ç .Eq) (Cp X.K false):=by intro l s k H x y v u Q I b a h;obtain⟨G,j,i,Z,d,c,Y,U,q⟩:=h;obtain⟨n,g⟩:=zo I Z 60 j x v Y d b;obtain⟨m,f⟩:=zo I Z 60 i y u U c a;exact SeqAt.compareEq_shaped g f (zL Y) (zL U) e ⟨.bl _,H,I,rfl,q⟩
theorem eq_cases{a b:D}{c:Bool}(h:ke a b=some c):(qY a b=true/\c=jc a b)\/(dZ 60 a/\dZ 60 b/\c=oj a b):=by
 unfold ke at h
 grind
theorem NK{K:W.Frag}:iZ K (fun x y H Q=>N9 x y H Q\/Cp K false x y H Q) eqD:=by intro G H m l g f d Q Y b a e q;unfold eqD at e;cases Z:ke g f with
|none=>rw[Z]at e;cases e
|some c=>
  rw[Z]at e;cases e;rcases eq_cases Z with⟨U,rfl⟩|⟨i,h,rfl⟩
  .unfold qY at U;rw[L_,L_]at U;obtain⟨k,_⟩:=RB.flat b Y U.1.1;obtain⟨j,_⟩:=RB.flat a Y U.1.2;refine .inl ⟨`a,?_⟩;rw[k,j,Ka U.2 U.1.1 U.1.2];exact q _ G H (Grow.refl Y) (.scl (.bl _))
  .exact .inr ⟨G,g,f,Y,b,a,i,h,q _ G H (Grow.refl Y) (.scl (.bl _))⟩
theorem Xl{K:W.Frag}:iZ K (fun x y H Q=>N7 x y H Q\/Cp K true x y H Q) neD:=by intro G H m l g f d Q Y b a e q;unfold neD at e;cases Z:ke g f with
|none=>rw[Z]at e;cases e
|some c=>
  rw[Z]at e;cases e;rcases eq_cases Z with⟨U,rfl⟩|⟨i,h,rfl⟩
  .unfold qY at U;rw[L_,L_]at U;obtain⟨k,_⟩:=RB.flat b Y U.1.1;obtain⟨j,_⟩:=RB.flat a Y U.1.2;refine .inl ⟨`a,?_⟩;rw[k,j,Ka U.2 U.1.1 U.1.2];exact q _ G H (Grow.refl Y) (.scl (.bl _))
  .exact .inr ⟨G,g,f,Y,b,a,i,h,q _ G H (Grow.refl Y) (.scl (.bl _))⟩
theorem gA(U:X.A.units+64<á)(Z:SB X g m a fa)(Y:SB X g m b fb):SE X g m (.Compare a [.Eq] [b] pos) (f2 fa fb eqD):=Bd (eu.or Gi (KH U)) NK Z Y (oP _)
theorem dM(U:X.A.units+64<á)(Z:SB X g m a fa)(Y:SB X g m b fb):SQ X g m (.Compare a [.Eq] [b] pos) (cN (f2 fa fb eqD)):=oJ (eu.or Gi (KH U)) NK Z Y (oP _)
theorem j5(U:X.A.units+64<á)(k:SB X g m a fa)(j:SB X g m b fb):SQ X g m (.Compare a [.NotEq] [b] pos) (cN (f2 fa fb neD)):=oJ (eu.or Xr ((fun U=>by intro t s r H x y v u Q I e d h;obtain⟨G,p,o,c,i,f,Z,Y,q⟩:=h;obtain⟨z,n⟩:=zo I c 60 p x v Z i e;obtain⟨w,l⟩:=zo I c 60 o y u Y f d;exact SeqAt.compareNe_shaped n l (zL Z) (zL Y) U ⟨.bl _,H,I,rfl,q⟩) U)) Xl k j (oP _)
def Br(fa fb fc:FE)(k k':D->D->Option D):FE:=fun r=>(fa r).bind fun x=>(fb r).bind fun y=>(gj (k x y)).bind fun z=>(gj (wU z)).bind fun c=>if c=true then(fc r).bind fun w=>gj (k' y w)else .ok (.bl false)
def Ga(K:W.Frag):R2:=fun x y H Q=>∃l b xs zs,x=.ref l/\y=.ref b/\dq K H l xs/\dq K H b zs/\xs.length+zs.length<=sizeLine/\∀p,H p=none->Q (.ref p) (aO H p (.lst (xs++zs)))
theorem Qd:eu X (ĝ .Add) (Ga X.K):=by
 intro N s J H x y v u Q I p o h;obtain⟨l,b,M,L,rfl,rfl,z,A,R,q⟩:=h;cases p;cases o;obtain⟨a,r,t,_⟩:=I.list z;obtain⟨U,f,Z,_⟩:=I.list A;have P:=r.length;have O:=f.length;obtain⟨⟨E,C,k,m⟩,g,j,n,i⟩:=t.isList;obtain⟨⟨T,B,W,G⟩,c,Y,w,d⟩:=Z.isList;simp only at j i Y d;subst j i Y d;have e:a.toArray++U.toArray=(a++U).toArray:=`s
 refine Qel ⟨_,g,rfl⟩ ⟨_,c,rfl⟩ noFill_list_add seq_list_add PySem.F.slot_list_add PySem.F.entry_list_add (PySem.F.args_list_add_2 _ _) (list_addW _ _ a.toArray U.toArray n w C B m G `g) ⟨g,c,?_⟩;rw[e];exact⟨.ref _,_,I.lnew (t':=s.toks) (r.append f) (by rw[đ];omega),rfl,q _ I.fresh⟩
noncomputable def addA:D->D->Option D
|.int a,.int b=>some (.int (a+b))
|.str a,.str b=>if a.length+b.length<=sizeLine then some (.str (a++b))else none
|.lst a,.lst b=>if a.length+b.length<=sizeLine then some (.lst (a++b))else none
|.tup (x::a),.tup b=>if (x::a).length+b.length<=sizeLine then some (.tup (x::a++b))else none
|_,_=>none
theorem Pe{K:W.Frag}:iZ K (fun x y H Q=>(∃i j,x=.int i/\y=.int j/\Q (.int (i+j)) H)\/(∃i j,x=.str i/\y=.str j/\i.length+j.length<=sizeLine/\Q (.str (i++j)) H)\/Ga K x y H Q\/Gb K x y H Q) addA:=by
 intro G H u t w v d Q U Y f e q;unfold addA at e;split at e
 .cases e;exact .inl ⟨_,_,Y.int U,f.int U,q _ G H (Grow.refl U) (.scl (.int _))⟩
 .split at e
  .rename_i hl;cases e;exact .inr (.inl ⟨_,_,Y.str U,f.str U,hl,q _ G H (Grow.refl U) (.scl (.str _))⟩)
  .cases e
 .split at e
  .rename_i hl;cases e;obtain⟨a,h,rfl,l,c⟩:=Y.lst U;obtain⟨b,g,rfl,k,Z⟩:=f.lst U;have r:=Paired.length c;have o:=Paired.length Z;exact .inr (.inr (.inl ⟨a,b,h,g,rfl,rfl,l,k,`o,fun p m=>q _ _ _ (Grow.newF U m (.lst (.inl cX) (Paired.app c Z))) (.ref gV)⟩))
  .cases e
 .split at e
  .rename_i x0 a0 b0 hl;cases e;rcases Y with Y|⟨z,_,n⟩
   .obtain⟨a,h,rfl,l,c⟩:=Y.tup U;obtain⟨b,g,rfl,k,Z⟩:=f.tup U;have r:=Paired.length c;have o:=Paired.length Z;refine .inr (.inr (.inr ⟨a,b,h,g,rfl,rfl,l,k,?_,`o,fun s=>?_,fun _ p m=>q _ _ _ (Grow.newF U m (.tup (.inl cX) (Paired.app c Z))) (.ref gV)⟩))
    .rintro rfl
     cases c
    .subst s;cases Z;refine q _ G H (Grow.refl U) ?_;rw[Ô];exact Y
   .cases n.ob
  .cases e
 .cases e
theorem du(e:SB X g m a fa)(d:SB X g m b fb):SE X g m (.BinOp a .Add b pos) (f2 fa fb addA):=mV (eu.or (wM fun _ _ _ _ _ _ _ q=>add_int q) (eu.or (by intro l s f H x y v u Q I Z Y h;obtain⟨i,j,rfl,rfl,c,q⟩:=h;obtain⟨t,rfl⟩:=Z;obtain⟨U,rfl⟩:=Y;exact add_str (fun U k=>⟨.str (i++j),H,I.tok _,⟨_,rfl⟩,q⟩) c) (eu.or Qd Qe))) Pe e d
end DL
end
namespace DL
open PySem PySem.Spec PyProof.Rows L2
structure DefAt(K:W.Frag)(mg:Str->Option a_)(x:Str)(st:Stmt):Prop where
 ex:∃f fd,mg x=some (.ref f)/\Fun K x x st f fd
structure Callee(P:o_)(w:F_)(K:W.Frag)(mg:Str->Option a_)(base:Heap)(x:Str)(ps:List Str)(ds:List a_)(k:Nat)(ro:Bool)(ms:List Md)(F:List D->Res D):Prop where
 ex:∃f fd,mg x=some (.ref f)/\W.keepIn K (.ref f)=true/\gO K fd ps ds/\FnOk P w K mg base eN k f fd ps (nQ K ro ms F)
variable{w:F_}{K:W.Frag}
section
variable{P:o_}{mg:Str->Option a_}{base:Heap}
abbrev k6(k:Nat)(x:Str)(st:Stmt)(G:je)(P:o_)(w:F_)(K:W.Frag)(m:Str->Option a_)(h:Heap)(N:List Str)(R:Cx->GE->Prop):Prop:=∀(f:Addr)(a:a_)(A:I_)(b:List Env)(s:d_)(H:Hp)(g:GE)(E:XK),Room k (A.deeper (â x (aA st) s.heap.objs.size f a))->R (dm G P w K m h N x (aA st) f a A b s H E) g
theorem OO{st:Stmt}(A:DefAt K mg x st)(S:FnScope N b (aA st))(Y:ms.length=b.length)(e:k4 x x st b)(U:k6 k x st eN P w K mg base N fun X g=>fU X.nox g ro [] (gQ N.length ms) (aH st) fs m'):Callee P w K mg base x b [] (k+1) ro ms fun ds=>bQ ro (fs (cS N.length ds)):=by obtain⟨f,i,h,F⟩:=A.ex;exact⟨f,i,h,F.kp,F.binds e,GT F S Y (U f)⟩
structure DefAtD(K:W.Frag)(mg:Str->Option a_)(x:Str)(st:Stmt)(dds:List a_):Prop where
 ex:∃(f T:Addr)(o:Obj)(n:Nat)(oc:a_)(od:Option Addr)(kV doc pm:a_)(an:Option Addr)(cdv ct:a_)(osl:Array (Option a_)),mg x=some (.ref f)/\K.lookup T=some o/\o.data=.seq dds.toArray n/\K.lookup f=some ⟨oc,od,.func (W.fnOf x x (aM st) (aH st) (aA st) (.ref T) kV doc pm an cdv ct),osl⟩/\W.codeIn K cdv x=true/\W.keepIn K (.ref f)=true
theorem y7{st:Stmt}(A:DefAtD K mg x st dds)(S:FnScope N d (aA st))(Y:ms.length=d.length)(m:Nat)(O:m+ds.length=d.length)(C:∀(T:Addr)(kV c e:a_)(i:Option Addr)(a h:a_)(us:List a_),us.length=m->∃l:Option (Array a_)->Sem (List (Str×a_)),è (W.fnOf x x (aM st) (aH st) (aA st) (.ref T) kV c e i a h) ⟨us,[]⟩=seqItems? (.ref T) >>= l/\l (some dds.toArray)=pure (d.zip (us++ds)))(U:k6 k x st eN P w K mg base N fun X g=>fU X.nox g ro [] (gQ N.length ms) (aH st) fs m'):Callee P w K mg base x d ds (k+1) ro ms fun r=>bQ ro (fs (cS N.length r)):=by
 obtain⟨f,T,o,n,M,L,kV,c,e,i,a,h,u,I,F,B,v,Z,y⟩:=A.ex;refine⟨f,W.fnOf x x (aM st) (aH st) (aA st) (.ref T) kV c e i a h,I,y,fun s us J R=>?_,?_⟩
 .obtain⟨l,e1,e2⟩:=C T kV c e i a h us `g;exact BindsTo.of_defaults rfl (J _ _ F) B e1 e2
 .have hpl:d.length<=N.length:=by have:=Q_g Ö S.pre;grind
  refine xG v Z S (fun t H Q E k=>by obtain⟨G,ds,p,j,q⟩:=k;exact j.len.1.trans Y) fun A b s H t Q E z w=>?_;obtain⟨G,ds,p,j,q⟩:=w;exact⟨_,(U f a A b s H _ E z).2.nox,_,G,rR p j `o,CK q⟩
end
variable{X:Cx}{g:GE}{m:List Md}{e:Expr}{es:List Expr}{fl:aI->Res (List D)}{p pos:Pos}
section
variable{k:Nat}{ps:List Str}{F:List D->Res D}{dvs:List V}{ds:List a_}{dds:List D}{x:Str}{i:Nat}{ms ms':List Md}
theorem YI(c:Callee X.prog X.w X.K X.mg X.base x ps ds k false ms' F)(o:Room k X.A)(y:iL X g m (e::es) ms fl)(U:!ms'=ms++j_ dds.length .sh)(s:!Gl X x)(u:aJ dvs ds:=by exact .nil)(Z:Paired Scl dvs dds:=by exact .nil)(Y:!!Nq x)(t:!Sx X e es)(a:!Bx X pos es):SE X g m (.Call (.Name x p) (e::es) [] pos) (cP fl dds F):=by
 subst U;obtain⟨f,O,E,C,B,z⟩:=c.ex;refine PE.imp (Ca z o s E C B u mT y Y t a) fun L H Q w=>?_;obtain⟨r,G,j,q⟩:=w;refine ⟨r,G,j,?_⟩
 cases b:fl r with
|ok M=>unfold cP at q;rw[b]at q;intro N R P h n;exact CY h.ok n Z (bW (zE q (By _)) fun d k v J I i l=>k v J I (h.trans i) l)
|exc x=>unfold cP at q;rw[b]at q;exact q
|stuck=>unfold cP at q;rw[b]at q;exact q
theorem QJ(c:Callee X.prog X.w X.K X.mg X.base x ps ds k true ms' F)(s:Room k X.A)(C:iL X g m (e::es) ms fl)(U:!ms'=ms++j_ dds.length .sh)(y:!Gl X x)(B:aJ dvs ds:=by exact .nil)(Z:Paired Scl dvs dds:=by exact .nil)(Y:!!Nq x)(z:!Sx X e es)(h:!Bx X pos es):SO X g m (.Call (.Name x p) (e::es) [] pos) (wL (cP fl dds F)):=by
 subst U;obtain⟨f,T,L,J,I,E⟩:=c.ex;refine PE.imp (Ca E s y L J I B mT C Y z h) fun O H Q w=>?_;obtain⟨r,G,l,q⟩:=w;refine ⟨r,G,l,?_⟩
 cases i:fl r with
|ok P=>
  have q:=cJ q;unfold cP at q;rw[i]at q;intro R G' W b o;refine CY b.ok o Z (bW (zE q (By _)) fun d k v N M j n=>?_);rcases n with⟨a,rfl,u,t⟩|⟨rfl,rfl⟩
  .cases d with
  |non=>exact k.elim
  |_=>exact k a N M (b.trans j) (b.back u) t
  .exact k.elim
|exc x=>have q:=cJ q;unfold cP at q;rw[i]at q;exact q
|stuck=>have q:=cJ q;unfold cP at q;rw[i]at q;exact q
theorem v_(i:Nat)(a:!m[i]? = some .sh)(c:!X.N[i]? = some x)(Z:gC X.env.scope x:=by first|exact Or.inl rfl|exact Or.inr (Or.inl rfl)|exact Or.inr (Or.inr rfl))(b:!!Nq x)(U:!!Nc x):SE X g m (.Name x p) fun r=>eh r i:=by refine PE.imp (eV c Z b U) fun j H Q z=>?_;obtain⟨r,G,Y,q⟩:=z;obtain⟨d,e,k⟩:=zi q;obtain⟨v,h,f⟩:=Y.sh i d e a;exact⟨v,h,k v G H (Grow.refl Y.gok) f⟩
theorem aB(i:Nat)(f:!!i<m.length)(l:!X.N[i]? = some x)(b:gC X.env.scope x:=by first|exact Or.inl rfl|exact Or.inr (Or.inl rfl)|exact Or.inr (Or.inr rfl))(j:!!Nq x)(U:!!Nc x) :
  SB X g m (.Name x p) fun r=>eh r i:=by refine PE.imp (eV l b j U) fun n H Q z=>?_;obtain⟨r,G,Y,q⟩:=z;obtain⟨d,e,k⟩:=zi q;have c:=q_ f;cases h:m[i]with
    |sh=>obtain⟨v,a,Z⟩:=Y.sh i d e `a;exact⟨v,a,k v G H (Grow.refl Y.gok) Z.rb⟩
    |ow=>obtain⟨v,a,Z,_⟩:=Y.ow i d e `a;exact⟨_,a,k _ G H (Grow.refl Y.gok) (.inr ⟨v,rfl,Z⟩)⟩
    |bw=>obtain⟨v,a,Z⟩:=Y.bw i d e `a;exact⟨_,a,k _ G H (Grow.refl Y.gok) Z.rb⟩
end
noncomputable def uE(osc:ã)(ON:List Str)(sc:ã)(N':List Str)(nl:Nat)(cap:List Nat):Bool:=decide (sc.kind=.function)&&sc.names.all (fun y=>decide (y.2≠.cell))&&sc.names.all (fun y=>decide (y.2≠.local) || decide (sc.names.lookup y.1=some .local)) &&
 sc.names.all (fun y=>decide (y.2≠.free) || (decide (osc.names.lookup y.1=some .cell) || decide (osc.names.lookup y.1=some .free)))&&decide (N'.length=nl+cap.length) &&
 (x_ cap.length).all fun j=>match N'[nl+j]?,ON[cap.getD j 0]? with
 |some x,some y=>decide (x=y)&&decide (sc.names.lookup x=some .free)
 |_,_=>false
theorem zD(g:X.env.scope=osc)(f:X.N=ON)(h:uE osc ON a N' nl cap=true):CompSc X a N' nl cap:=by subst g f;unfold uE at h;simp only[L_,P_,Q_i,Bool.or_eq_true]at h;obtain⟨⟨⟨⟨⟨o,n⟩,m⟩,l⟩,k⟩,i⟩:=h;refine⟨o,n,fun y Y c=>(m y Y).resolve_left fun z=>z c,fun y Y e=>(l y Y).resolve_left fun z=>z e,k,fun j d=>?_⟩;have U:=i j (D_.mpr d);cases Z:N'[nl+j]? with
|none=>rw[Z]at U;cases U
|some x=>cases b:X.N[cap.getD j 0]? with
 |none=>rw[Z,b]at U;cases U
 |some y=>rw[Z,b]at U;simp only[L_,Q_i]at U;exact⟨x,rfl,by rw[U.1],U.2⟩
variable{mb:List Md}{a b:Expr}{f fa fb:FE}{pos':Pos}
section
variable{c:Expr}{fc:FE}
theorem Sm{k p:D->D->Option D}(N:eu X (ç op) R)(Y:eu X (ç U) u)(O:iZ X.K R k)(i:iZ X.K u p)(ha:SB X g m a fa)(W:SB X g m b fb)(T:SB X g m c fc)(P:lastMarks [op,U] [b,c]=false:=by with_unfolding_all rfl):SE X g m (.Compare a [op,U] [b,c] pos) (Br fa fb fc k p):=PE.imp (SV N Y ha W T P) fun σ H Q h=>by obtain⟨r,G,l,q⟩:=h;refine qi l q fun d1 t B j G2 H2 w F n M=>?_;obtain⟨z,ez,L⟩:=d9 (cJ M);obtain⟨cc,s,o⟩:=d9 (cJ L);refine O G2 H2 B j d1 t z _ w.ok F n ez fun v x H3 Z C=>?_;cases z with
    |bl b'=>cases s;refine⟨_,C.bl Z.ok,?_⟩;cases cc with
     |false=>exact o _ x H3 (w.trans Z) (.scl (.bl _))
     |true=>refine⟨r,x,(l.grow w).grow Z,jr (cJ o) (w.trans Z) fun d3 J A G4 H4 f E=>?_⟩;obtain⟨d,e,I⟩:=d9 J;exact i G4 H4 j A t d3 d Q f.ok ((n.mono Z).mono f) E e fun v G' H' y z=>I v G' H' (((w.trans Z).trans f).trans y) z
    |_=>cases s
theorem Xp:iZ K (qj fun i j=>V.bl (decide (i<j))) mL:=rF fun _ _=>.bl _
theorem Xo:iZ K (qj fun i j=>V.bl (decide (i<=j))) Oc:=rF fun _ _=>.bl _
end
theorem NG{b:Str->Option a_}{st:Stmt}(m:K.In h)(G:h.Ns M_ b){f:Addr}{g:a_}{e j:Option Addr}{kV Z d U i:a_}(a:W.nsIn K M_ x=some (some (.ref f)))(l:K.lookup f=some ⟨g,e,.func (W.fnOf x x (aM st) (aH st) (aA st) .none kV Z d j U i),Y⟩)(c:W.codeIn K U x=true)(k:W.keepIn K (.ref f)=true):DefAt K b x st:=⟨f,_,W.mg_of m G a,dG l c k⟩
theorem XZ{st:Stmt}(q:K.In h)(G:h.Ns M_ i){f T:Addr}{g p:a_}{e m o:Option Addr}{Z U:Array (Option a_)}{n:Nat}{kV b d Y j:a_}(a:W.nsIn K M_ x=some (some (.ref f)))(l:K.lookup f=some ⟨g,e,.func (W.fnOf x x (aM st) (aH st) (aA st) (.ref T) kV b d m Y j),Z⟩)(t:K.lookup T=some ⟨p,o,.seq dds.toArray n,U⟩)(c:W.codeIn K Y x=true)(k:W.keepIn K (.ref f)=true):DefAtD K i x st dds:=⟨f,T,_,n,g,e,kV,b,d,m,Y,j,Z,W.mg_of q G a,t,rfl,l,c,k⟩
theorem XJ{x p:Str}{st:Stmt}{e:Addr}(U:c x=some (.ref e))(A:DefAt K c x st)(m:k4 x x st [p])(C:∀(f:Addr)(Z:à),Fun K x x st f Z->∀base:Heap,FnOk P w K c base eN k f Z [p] (nQ K false [.sh] F)):∃Z:à,(∀(s:d_)(u:a_),ğ s Z ⟨[u],[]⟩ [(p,u)])/\∀base:Heap,K.In base->base.Ns M_ c->FnOk P w K c base eN k e Z [p] (nQ K false [.sh] F):=by obtain⟨f,Z,i,j⟩:=A.ex;rw[U]at i;cases i;refine⟨Z,fun s u=>?_,fun base _ _=>C e Z j base⟩;obtain⟨o,n,kV,a,d,h,b,g,l,rfl,q,Y⟩:=j.ex;exact .of_eq (m kV a d h b g [u] rfl)
theorem Ye{l:W.OpenLaw}{K:Params->W.Frag}{F:List D->Res D}(I:l.most=some 63)(Z:d.params.defaults=[])(G:Room k Ĉ)(J:∀(w:F_)(h:Heap),B w h->(K w.params).In h)(t:∀c:List Int,c.length<=63->F [.lst (c.map .int)]=.ok (.bl true))(C:∀(w:F_)(j:Str->Option a_)(A:Addr)(h:Heap),(K w.params).In h->h.Ns M_ j->j d.name=some (.ref A) ->∃y:à,(∀(s:d_)(u:a_),ğ s y ⟨[u],[]⟩ [(x,u)])/\∀base:Heap,(K w.params).In base->base.Ns M_ j->FnOk l.prog w (K w.params) j base eN k A y [x] (nQ (K w.params) false [.sh] F)):W.WalkO q Y M B l.row.toRowW d [] (fun f vs=>PySem.call f vs):=by
 refine L2.nM I `d Z G J C (fun w H a c r P g=>?_) fun _ _ _ _ _ z=>z;have U:∀(l:List Int),Paired Scl (l.map V.int) (l.map D.int):=fun l=>by induction l with
 |nil=>exact .nil
 |cons i l E=>exact .cons (.int i) E
 rcases g with g|g
 .refine⟨fun b=>if b=a then some _ else none,[.lst (c.map .int)],fun b L p=>?_,.sh (.ref (Q_d rfl)) .nil,?_⟩
  .by_cases e:b=a
   .subst e;have o:=(Q_d rfl).symm.trans p;cases o;exact .lst g (Paired.mono (fun _ _ z=>.scl z) (U c))
   simp_all
  .rw[t c r];intro v O N m n;exact n.bl m.ok
 .refine⟨fun _=>none,_,fun b L p=>(by cases p),.sh (.kc (.lst (.inr g) (U c))) .nil,?_⟩;rw[t c r];intro v O N m n;exact n.bl m.ok
section
open AutoSeq1 (wpAny_loadPart')
section
variable{prog:o_}{w:F_}{A:I_}{E:a_->d_->Prop}{s:d_}
theorem W4{items}(U:s.heap.IsTupleIter it t i)(d:s.heap.IsTuple t items)(c:items[i]? = some x)(f:∀h',h'.IsTupleIter it t (i+1)->ĺ it s.heap h'->Q x { s with heap:=h' }):u_ (y_ prog w) A (QbT (.ref it)) Q E s:=by
 obtain⟨o,Z,e,Y⟩:=id U;obtain⟨g,a,_,h,b⟩:=d;refine b_ (ī U.typeIs F.slot_tuple_iterator_next
  (ę F.slot_tuple_iterator_next U.typeIs F.entry_tuple_iterator_next ?_ (F.args_tuple_iterator_next_1 _)))
 show u_ _ _ (field _ 0 >>= _) _ _ s;refine b_ (Z_ Z Y rfl ?_);refine b_ (Z_ Z Y rfl ?_);refine b_ (ă a b ?_);simp only[ė,c];refine b_ (Ĳ Z Y `s (f_ ⟨x,rfl,f_ (f _ ?_ (Qcy ..))⟩));exact⟨_,Ġ _ Z (Obj.isFreed_of_fields (Qeb Y _)),(Obj.cls_mapFields ..).trans e,by rw[Qeb Y];simp[ü]⟩
theorem WY{items}(f:A.handled=none)(U:s.heap.IsTupleIter it t i)(d:s.heap.IsTuple t items)(c:items[i]? = none)(g:∀h' e,Heap.ExtBut it s.heap h'->(∃o,h'.get? e=some o/\o.cls=.type "StopIteration")->E (.ref e) { s with heap:=h' }):u_ (y_ prog w) A (QbT (.ref it)) Q E s:=by
 obtain⟨o,Z,k,b⟩:=id U;obtain⟨h,Y,_,j,a⟩:=d;unfold QbT;refine b_ (ī U.typeIs F.slot_tuple_iterator_next
  (ę F.slot_tuple_iterator_next U.typeIs F.entry_tuple_iterator_next ?_ (F.args_tuple_iterator_next_1 _)))
 show u_ _ _ (field (.ref it) 0 >>= _) _ _ s;refine b_ (Z_ Z b rfl ?_);refine b_ (Z_ Z b rfl ?_);refine b_ (ă Y a ?_);simp only[ė,c];refine b_ (Ĵ (b_ (Ĳ Z b `s ?_)));refine b_ ?_;refine b_ (m:=firstArgMember _ _) (wpAny_of_eq (by first|rfl|grind) ?_);refine Ŧ ?_ (by size_fits);refine b_ (wpAny_handled ?_)
 first|grind|rw[f]
 refine b_ (f_ (wpAny_throw ?_));exact g _ _ (((Qcy ..).extBut.push _).push _) ⟨_,l_ _ rfl,rfl⟩
end
theorem Yi(f:A.handled=none)(it l:Addr)(Z:l≠it)(a:Array a_):È prog w A it [it,l] a.size (fun i v=>a[i]? = some v) (fun i h=>h.IsTupleIter it l i/\h.IsTuple l a) where
 live:=fun _ _ b=>let⟨o,c,_⟩:=b.1;⟨o,c⟩
 frame:=fun _ _ _ b d=>⟨let⟨o,c,r⟩:=b.1;⟨o,d it `s o c,r⟩,let⟨o,c,r⟩:=b.2;⟨o,d l `s o c,r⟩⟩
 item:=fun i s Q E e b g=>by refine W4 b.1 b.2 (x:=a[i]) (by simp[e]) fun k Y U=>?_;exact g _ k s.toks (by simp[e]) ⟨Y,b.2.extBut U.extBut Z⟩ U
 done:=fun s Q E b j=>WY f b.1 b.2 `s j
abbrev la(l:Addr):Obj:={ cls:=.type "tuple_iterator",data:=.fields #[.ref l,.int 0 0] }
theorem WN(l:Addr)(Z:Array a_)(n:Nat)(U:Option Addr)(i:Array (Option a_)) :
  Meets (ì.«enumerate.__new__» ⟨[.type "enumerate",.ref l],[]⟩) (fun _ R s=>s.heap.get? l=some { cls:=.type "tuple",dict:=U,data:=.seq Z n,slots:=i } /\
   R (.ok (.ret (.ref (s.heap.push (la l)).objs.size)))
    { s with heap:=(s.heap.push (la l)).push { cls:=.type "enumerate",data:=.fields #[.none,.bool false,.ref s.heap.objs.size,ü 0,.none,.none] } }):=
 .of_wp fun e w A R s h=>by
  obtain⟨k,g,d,f,j⟩:=s;obtain⟨a,h⟩:=h;have Y:=sub_enumerate;have b:Heap.IsTuple (QeL ⟨k,g,d,f,j⟩) l Z:=⟨_,a,rfl,n,rfl⟩
  wp_walk using İ a
  refine wpAny_stack_any fun m=>f_ ?_;split
  .rename_i c _ _ _ _ _;cases(c==Value.type "enumerate")
   .wp_walk using İ a,ĭ b
    exact⟨_,rfl,h⟩
   .wp_walk using İ a,ĭ b
    exact⟨_,rfl,h⟩
  .wp_walk using İ a,ĭ b
   exact⟨_,rfl,h⟩
section
variable{prog:o_}{w:F_}{A:I_}{E:a_->d_->Prop}{s:d_}
theorem WR(j:s.heap.IsTuple l Y)(h:∀h',IsEnum h' (s.heap.objs.size+1) s.heap.objs.size 0 .none->h'.IsTupleIter s.heap.objs.size l 0->h'.objs.size=s.heap.objs.size+2 ->(∀b o,s.heap.get? b=some o->h'.get? b=some o)->Q (.ref (s.heap.objs.size+1)) { s with heap:=h' }):u_ (y_ prog w) A (call (.type "enumerate") [.ref l]) Q E s:=by
 obtain⟨⟨c,U,k,e⟩,f,i,n,g⟩:=j;subst i g;refine callType_new F.called_enumerate (rfl) (F.typeCall_enumerate_1 _) (F.newCall_enumerate_1 _) (fun Z=>F.args_object_init_2 Z _) F.entry_enumerate_new
  (WN l Y n U e) ⟨f,?_⟩
 have a:(s.heap.push (la l)).objs.size=s.heap.objs.size+1:=Ê ..;rw[a];have d:IsEnum ((s.heap.push (la l)).push
   { cls:=.type "enumerate",data:=.fields #[.none,.bool false,.ref s.heap.objs.size,ü 0,.none,.none] }) (s.heap.objs.size+1) s.heap.objs.size 0 .none:=by
  have:=l_ (s.heap.push (la l))
   (o:={ cls:=.type "enumerate",data:=.fields #[.none,.bool false,.ref s.heap.objs.size,ü 0,.none,.none] }) rfl
  grind
 refine⟨⟨_,d,rfl⟩,h _ d ⟨_,c_ _ (l_ _ rfl),rfl,rfl⟩ (by rw[Ê,a]) fun b o x=>c_ _ (c_ _ x)⟩
end
theorem JU{σ:L2.St}{ch:List Addr}{T:Addr}{t':Nat}(I:Inv X pz σ H s)(Y:∀b∈ch,gp X pz H b)(k:∀b a,b∉ch->s.heap.get? b=some a->h'.get? b=some a)(h:s.heap.objs.size<=T)(g:fJ X.prog X.w (aO H T o) h' T o):Inv X pz σ (aO H T o) { s with heap:=h',toks:=t' }:=by
 have Z:H T=none:=I.hok.fresh h;have trk:∀b u,H b=some u->b∉ch:=fun b u e f=>by rw[(Y b f).1]at e;cases e
 have l:∀b a,s.heap.get? b=some a->b≠T:=fun b a e=>H_ (A_ (n_ e) h);have U:∀b u,H b=some u->aO H T o b=some u:=fun b u e=>by rw[bL (pd e Z)];exact e
 refine I.step (g':=s.gens) (d':=s.drawn) (ch:=ch) (fun b f=>?_) (fun b a _ _ d e _=>k b a d e) (fun b a _ _ d e _=>⟨a.slots,k b a d e⟩) (fun b a d e n=>by rw[bL (l b a e)];exact n)
  (fun b a d e=>⟨a,k b a d e⟩) (fun b i e=>U b _ e) (fun b a u e=>U b _ e) (fun b p e=>⟨#[],by rw[U b _ e];simp⟩) (fun m j=>?_) (fun b u e=>?_) I.bare
 .obtain⟨z0,z1,z2,z3,z4,z5⟩:=Y b f;exact⟨z3,z1,z4,z5⟩
 .obtain⟨a,es,ep,ho,r⟩:=j;exact⟨a,es,ep,k _ a (fun f=>(Y _ f).2.1 rfl) ho,r⟩
 .by_cases f:b=T
  .subst f;rw[cX]at e;cases e;exact g
  .rw[bL f]at e;refine(I.hok b u e).stay (fun c v d q=>k c v ?_ q) (fun c q=>U c _ q) fun c i q=>U c _ q;rcases d with z|z
   .rw[z];exact trk b u e
   .exact trk c _ z
noncomputable def qQ(sq:Hp->List V->Prop):It:=⟨fun i H=>∃xs x,sq H xs/\xs[i]? = some x,fun i H x H'=>∃p v,H p=none/\x=.ref p/\H'=aO H p (.tup [.int i,v])/\∀xs,sq H xs->xs[i]? = some v,fun i H=>∃xs,sq H xs/\xs.length=i⟩
theorem Qj{i:Nat}(Y:h.get? T=some { cls:=.type "tuple",data:=.seq #[.int i U,x] })(r:L2.aR v x):fJ P w H h T (.tup [.int i,v]):=⟨by show 2<=sizeLine;decide,_,.cons ⟨U,rfl⟩ (.cons r .nil),⟨_,Y,rfl,0,rfl⟩,_,Y,rfl⟩
def iK(K:W.Frag)(t:Bool)(a:Addr)(H:Hp)(xs:List V):Prop:=match t with
|false=>dq K H a xs
|true=>e8 K H a xs
def n8(t:Bool)(a u:Addr)(i:Nat)(h:Heap):Prop:=match t with
|false=>h.IsListIter u a i
|true=>h.IsTupleIter u a i
def pk(t:Bool)(a:Addr)(xs:Array a_)(h:Heap):Prop:=match t with
|false=>h.IsList a xs
|true=>h.IsTuple a xs
theorem rD{a u:Addr}(e:n8 t a u i h):∃o,h.get? u=some o/\∀v,o.data≠.cell v:=by cases t <;> (obtain⟨o,U,Z,Y⟩:=e;simp_all)
theorem rP{a u:Addr}(e:n8 t a u i h)(k:∀o,h.get? u=some o->h'.get? u=some o):n8 t a u i h':=by cases t <;> (obtain⟨o,U,r⟩:=e;exact⟨o,k o U,r⟩)
theorem SL{a:Addr}(e:pk t a xs h)(k:∀o,h.get? a=some o->h'.get? a=some o):pk t a xs h':=by cases t <;> (obtain⟨o,U,r⟩:=e;exact⟨o,k o U,r⟩)
section
variable{X:Cx}{pz:List (Addr×Obj)}{σ:L2.St}{H:Hp}{s:d_}{t:Bool}{a u:Addr}{xs ys:List V}{i:Nat}
theorem yX(I:Inv X pz σ H s)(hq:iK X.K t a H xs):∃U:List a_,aJ xs U/\pk t a U.toArray s.heap:=by cases t with
|false=>obtain⟨U,Y,p,Z⟩:=I.list hq;exact⟨U,Y,p.isList⟩
|true=>obtain⟨U,Y,p,Z⟩:=I.tuple hq;exact⟨U,Y,p⟩
theorem q9(I:Inv X pz σ H s)(hc:X.calm=true)(hq:iK X.K t a H xs)(U:a≠u)(hi:n8 t a u i s.heap):∃(its:List a_)(St:Nat->Heap->Prop),aJ xs its/\È X.prog X.w X.A.in1 u [u,a] its.toArray.size (fun i v=>its.toArray[i]? = some v) St/\St i s.heap/\∀j h',St j h'->n8 t a u j h':=by obtain⟨its,rv,p⟩:=yX I hq;have hh:X.A.in1.handled=none:=I.ok.hd hc;cases t with
|false=>exact⟨its,_,rv,Draws.list hh u a U its.toArray,⟨hi,p⟩,fun j h' st=>st.1⟩
|true=>exact⟨its,_,rv,Yi hh u a U its.toArray,⟨hi,p⟩,fun j h' st=>st.1⟩
theorem Cf(I:Inv X pz σ H s)(Y:iK X.K t a H xs)(U:iK X.K t a H ys):xs=ys:=by cases t with
|false=>exact I.list_inj Y U
|true=>exact I.tuple_inj Y U
theorem rS(I:Inv X pz σ H s)(Z:iK X.K t a H xs):a<s.heap.objs.size:=by obtain⟨U,b,p⟩:=yX I Z;cases t <;> (obtain⟨o,Y,_⟩:=p;exact n_ Y)
end
theorem KW{p:List Expr}(a it e:Addr)(Y:e≠it)(dl:a≠it)(LE:e≠a):Turn P w K (.Tuple p k C) (qQ (iK K t a)) [e,it] e (fun i h=>(∃c,IsEnum h e it i c)/\n8 t a it i h) where
 mem:=`s
 obj:=fun i h g b d=>by
  obtain⟨⟨c,f⟩,l⟩:=g;rcases m_.mp d with rfl|d
  .exact⟨_,f,fun v z=>by have z':Data.fields _=Data.cell v:=z;cases z'⟩
  .rw[J_.mp d];exact rD l
 keep:=fun i h h' g T=>by obtain⟨⟨c,f⟩,l⟩:=g;exact⟨⟨c,T e `s _ f⟩,rP l fun o q=>T it `s o q⟩
 item:=by
  intro X n G N M i pz s σ H E I B g L;subst n G N;obtain⟨xs,x,A,m⟩:=L;obtain⟨⟨c,f⟩,l⟩:=g;obtain⟨j,St,r,Q,O,f1⟩:=q9 I M A dl l;obtain⟨o1,IO,_⟩:=rD l;have J:i<j.toArray.size:=by have:=(g_.mp m).1;rw[E_,<-r.length];exact this
  refine wpAny_pyNext_enum_itemD Q f O J Y (by simp[Y,LE]) fun y h' R n ho KK hT hsz hk=>?_;refine⟨_,rfl,wpAny_letOwnedTupleGo_enum ho fun Z BT U=>?_⟩;obtain⟨u,hu,ru⟩:=r.get m;have F:y=u:=by
   have:j[i]? = some y:=by simpa using n
   rw[hu]at this;exact(T_ this).symm
  subst F;have Id:s.heap.objs.size≠e:=ÿ (n_ f);have Cl:Z.get? s.heap.objs.size=some { cls:=.type "tuple",data:=.seq #[.int i R,y] }:=(U.2 _ Id).trans hT;refine⟨.ref s.heap.objs.size,aO H s.heap.objs.size (.tup [.int i,x]),JU (s:=s) (h':=Z) (t':=R+1) (ch:=[e,it]) I B (fun b ob d q=>?_) (k_ _) (Qj Cl ru),rfl,⟨_,x,I.hok.fresh (k_ _),rfl,rfl,fun ys F=>by rw[Cf I F A];exact m⟩,⟨⟨_,by simpa using BT⟩,rP (f1 _ _ KK) fun o q=>(U.2 _ (ê Y)).trans q⟩,fun b d=>?_⟩
  .have hbe:b≠e:=fun z=>d (by simp[z]);exact(U.2 b hbe).trans (hk b ob hbe (fun z=>d (by simp[z])) q)
  .rw[bL ?_]
   .exact(B b d).1
   .rcases m_.mp d with rfl|d
    .exact H_ (n_ f)
    .rw[J_.mp d];exact H_ (n_ IO)
 done:=by
  intro X n G N M i pz s σ H E I B g L;subst n G N;obtain⟨xs,A,m⟩:=L;obtain⟨⟨c,f⟩,l⟩:=g;obtain⟨j,St,r,Q,O,f1⟩:=q9 I M A dl l;obtain⟨f0,f1,f2,f3,f4,f5⟩:=B it `s;have hn:j.toArray.size=i:=by rw[E_,<-r.length];exact m
  exact wpAny_pyNext_enum_endD Q f (by rw[hn];exact O) fun h' eb=>⟨rfl,I.turned (t':=s.toks) (fun b o d q=>eb b o d q) f0 f1 f3 f4 f5⟩
 self:=fun _ _ _ _ _ g h=>let⟨⟨_,f⟩,_⟩:=g;Qc2 f h
end
noncomputable def qh:D->Option String
|.non=>some "NoneType"
|.bl _=>some "bool"
|.int _=>some "int"
|.str _=>some "str"
|.tup _=>some "tuple"
|.lst _=>some "list"
|.dic _=>some "dict"
|.obj _ _=>none
noncomputable def jt(t T:String):Bool:=t==T || (t == "bool" && T == "int")
def qv(T:String)(d:D):Option D:=(qh d).map fun t=>.bl (jt t T)
def Ze(K:W.Frag)(x:V)(H:Hp)(t:String):Prop:=match x with
|.non=>t = "NoneType"
|.bl _=>t = "bool"
|.int _=>t = "int"
|.str _=>t = "str"
|.ref p=>(t = "list"/\∃xs,dq K H p xs)\/(t = "tuple"/\∃xs,e8 K H p xs)\/(t = "dict"/\∃kvs,Rd H p (.dK kvs))
|_=>False
variable{p2:Pos}
theorem RD:gT X (.builtin "isinstance") (fun xs H Q=>∃x t T b,xs=[x,.ty T]/\Ze X.K x H t/\W.kitOne X.K (.type t) (.type T)=some b/\Q (.bl b) H):=by
 intro j s f H xs v Q I r h;obtain⟨x,t,T,b,rfl,U,e,q⟩:=h;obtain⟨u,n,rfl,Y,g⟩:=yC r;cases g;have fin:∀a,EP X j f Q _ { s with toks:=a }:=fun a=>⟨.bl b,H,I.tok a,rfl,q⟩
 cases x with
|non=>cases Y;cases(U);exact W.kia_one W.kitx_none I.kIn True.intro e `a fin
|bl y=>cases Y;cases(U);exact W.kia_one W.kitx_bool I.kIn True.intro e `a fin
|int i=>obtain⟨t,rfl⟩:=Y;cases U;exact W.kia_one W.kitx_int I.kIn True.intro e `a fin
|str i=>obtain⟨t,rfl⟩:=Y;cases U;exact W.kia_one W.kitx_str I.kIn True.intro e `a fin
|ref p=>
  cases Y;rcases U with⟨rfl,xs,Z⟩|⟨rfl,xs,Z⟩|⟨rfl,k,Z⟩
  .obtain⟨its,_,pl,_⟩:=I.list Z;obtain⟨o,c,d,_⟩:=pl.isList;exact W.kia_one W.kitx_list I.kIn ⟨o,c,d⟩ e `g fin
  .obtain⟨its,_,pl,_⟩:=I.tuple Z;obtain⟨o,c,d,_⟩:=pl;exact W.kia_one W.kitx_tuple I.kIn ⟨o,c,d⟩ e `g fin
  .obtain⟨_,_,vs,_,pp⟩:=(Z.ok I.hok)
   obtain⟨o,w,z,m,l,_⟩:=pp;exact W.kia_one W.kitx_dict I.kIn ⟨o,m,l.1⟩ e `g fin
|_=>exact(U).elim
theorem sK(x:Str)(T:String)(z:Ą x=some (.type T))(C:∀(d:D)(t:String),qh d=some t->W.kitOne X.K (.type t) (.type T)=some (jt t T))(E:Gl X "isinstance")(B:X.mg "isinstance" = none)(J:Gl X x)(Y:X.mg x=none)(F:SB X g m e f)(A:x≠"__name__" := by decide)(I:!!Nq x)(U:!B_ [e,.Name x p2] X.env=(false,eval e X.env)::B_ [.Name x p2] X.env)(Z:!B_ [.Name x p2] X.env=(false,eval (.Name x p2) X.env)::B_ [] X.env)(l:!(backTo pos (B_ [.Name x p2] X.env)).any (·.1)=false):SE X g m (.Call (.Name "isinstance" p) [e,.Name x p2] [] pos) (f1 f (qv T)):=by
 refine PE.imp (nA RD E B (by first|grind|rfl) (gR F (gR (Ic (v:=.ty T) J Y z rfl A I) jT Z) U) `d `d U l) fun N H Q e=>?_;obtain⟨r,G,u,q⟩:=e;refine ⟨r,G,u,bW (cJ q) fun d y v M L h j=>?_⟩
 obtain⟨O,n,w⟩:=d9 y;unfold qv at n;cases c:qh d with
|none=>simp_all
|some t=>
  rw[c]at n;cases n;exact⟨v,t,T,_,rfl,(by cases d with
    |non=>cases c;rw[j.non h.ok];rfl
    |bl b=>cases c;rw[j.bl h.ok];rfl
    |int i=>cases c;rw[j.int h.ok];rfl
    |str x=>cases c;rw[j.str h.ok];rfl
    |tup o=>cases c;obtain⟨a,k,rfl,s,r⟩:=j.tup h.ok;exact .inr (.inl ⟨rfl,k,s⟩)
    |lst o=>cases c;obtain⟨a,k,rfl,s,r⟩:=j.lst h.ok;exact .inl ⟨rfl,k,s⟩
    |dic o=>cases c;obtain⟨a,k,rfl,s,r⟩:=j.dic h.ok;exact .inr (.inr ⟨rfl,k,s⟩)
    |obj _ _=>cases c),C d t c,w _ M L h (.scl (.bl _))⟩
theorem C8(h:qh d=some t){P:String->Prop}(e:P "NoneType")(c:P "bool")(b:P "int")(a:P "str")(Z:P "tuple")(Y:P "list")(U:P "dict"):P t:=by cases d <;> cases h <;> assumption
theorem Qu(K:W.Frag)(d:D)(t:String)(h:qh d=some t):W.kitOne K (.type t) (.type "int")=some (jt t "int"):=C8 (P:=fun t=>W.kitOne K (.type t) _=some (jt t "int")) h (rfl) (rfl) (rfl) (rfl) (rfl) (rfl) (rfl)
theorem Tf(K:W.Frag)(d:D)(t:String)(h:qh d=some t):W.kitOne K (.type t) (.type "bool")=some (jt t "bool"):=C8 (P:=fun t=>W.kitOne K _ _=some (jt t "bool")) h (rfl) (rfl) (rfl) (rfl) (rfl) (rfl) (rfl)
theorem B8(K:W.Frag)(d:D)(t:String)(h:qh d=some t):W.kitOne K (.type t) (.type "str")=some (jt t "str"):=C8 (P:=fun t=>W.kitOne K _ _=some (jt t "str")) h (rfl) (rfl) (rfl) (rfl) (rfl) (rfl) (rfl)
variable{pos2:Pos}
noncomputable def jw(lo:Int)(n:Nat):List V:=(x_ n).map fun(i:Nat)=>V.int (lo+(i:Int))
theorem EA:∀{xs:List V}{us:List a_},xs.length=us.length->(∀(j:Nat) v u,xs[j]? = some v->us[j]? = some u->L2.aR v u)->aJ xs us
|[],[],_,_=>.nil
|v::xs,u::us,U,h=>.cons (h 0 v u rfl rfl) (EA (by simpa using U) fun j a b Z Y=>h (j+1) a b (by simpa using Z) (by simpa using Y))
|[],_::_,U,_=>by simp at U
|_::_,[],U,_=>by simp at U
theorem Se{lo:Int}(h:ItemsOf (fun i v=>∃t,v=.int (lo+i*1) t) U n):aJ (jw lo n) U.toList:=by
 refine EA (by simp[jw,h.1]) fun j v u Y a=>?_;have Z:j<n:=by have:=(g_.mp Y).1;simpa[jw]using this
 unfold jw at Y;rw[K_,Ų Z]at Y;cases Y;obtain⟨t,rfl⟩:=h.2 j u (by rw[<-Qdx];exact a);exact⟨t,`s⟩
theorem TB:gT X (.type "range") (fun xs H Q=>∃j,xs=[.int j]/\∀p,H p=none->Q (.ref p) (aO H p (.rng 0 j))):=by intro Z s U H xs Y Q I r h;obtain⟨j,rfl,q⟩:=h;obtain⟨u,rfl,t,rfl⟩:=ik r;refine call_range_1 ⟨.ref s.heap.objs.size,_,I.laid (o:=.rng 0 j) (fun b o e=>c_ _ e) (k_ _) ⟨_,_,_,l_ _ rfl⟩,rfl,q _ (I.hok.fresh (k_ _))⟩
theorem Wg(e:X.calm=true):gT X (.type "list") (fun xs H Q=>∃p lo hi,xs=[.ref p]/\H p=some (.rng lo hi)/\(-(2^62)<=lo/\lo<2^62/\-(2^62)<=hi/\hi<2^62)/\(hi-lo).toNat<=sizeLine/\∀l,H l=none->Q (.ref l) (aO H l (.lst (jw lo (hi-lo).toNat)))):=by
 intro z s o H xs x Q I r h;obtain⟨p,lo,hi,rfl,c,⟨j,i,g,f⟩,b,q⟩:=h;obtain⟨u,rfl,Z⟩:=ik r;cases Z;obtain⟨t,u,v,d⟩:=(I.hok p _ c)
 have m:Qc8 lo hi 1=(((hi-lo).toNat)):=by rw[rangeSize_one];split <;> omega
 refine call_list_range (I.ok.hd e) d (small_one j i g f) m (by rw[G_]at b;omega) fun k y Y n a A U=>?_;refine⟨.ref s.heap.objs.size,_,I.laid a (k_ _) (show fJ X.prog X.w _ k _ (.lst _)from⟨by unfold jw;simp_all,Y.toList,n,Se U,`o⟩),rfl,q _ (I.hok.fresh (k_ _))⟩
def xU:List D->Option D
|[.int j]=>if-(2^62)<=j/\j<2^62/\j.toNat<=sizeLine then some (.lst (fZ 0 j.toNat))else none
|_=>none
theorem GU{p l:Addr}(h:aO H p o l=none):H l=none/\l≠p:=by
 by_cases e:l=p
 .subst e;rw[cX]at h;cases h
 .rw[bL e]at h;exact⟨h,e⟩
theorem y8(C:X.calm=true)(Z:Gl X "list")(Y:X.mg "list" = none)(B:Gl X "range")(z:X.mg "range" = none)(E:jd X g m [a] fl)(x:!Sx X a [])(U:!B_ [.Call (.Name "range" p2) [a] [] pos2] X.env=(false,eval (.Call (.Name "range" p2) [a] [] pos2) X.env)::B_ [] X.env):SO X g m (.Call (.Name "list" p) [.Call (.Name "range" p2) [a] [] pos2] [] pos) (fC fl xU):=by
 refine PE.imp (o9 (Wg C) Z Y rfl (gR (o9 TB B z Qe0 E `d `d x rfl) jT U) `d `d U rfl) fun I H Q a=>?_;obtain⟨r,G,n,q⟩:=a;refine ⟨r,G,n,bW (cJ q) fun K v J F L b o=>?_⟩
 obtain⟨d,e,u⟩:=d9 v;unfold xU at e;split at e
 .split at e
  .rename_i j hj;cases e;cases o with
  |cons s t=>
    cases t;refine⟨j,by rw[s.int b.ok],fun p y=>⟨p,0,j,rfl,cX,⟨`d,`d,hj.1,hj.2.1⟩,by simpa using hj.2.2,fun l h=>?_⟩⟩;obtain⟨c,A⟩:=GU h;have f:=Grow.new b.ok y (.rng 0 j);have k:=Grow.new f.ok h (.lst (jw 0 (j-0).toNat));refine u l F _ (b.trans (f.trans k)) (b.back c) ⟨b.ok.isN c,.lst cX ?_⟩;rw[show j-0=j by omega];unfold jw fZ
    induction(x_ _)with
   |nil=>exact .nil
   |cons i l w=>exact .cons (.scl (.int _)) w
  .cases e
 .cases e
def qP(K:W.Frag)(r:V->List V->Hp->VK->Prop)(k:D->List D->Option D):Prop:=∀(G:GH)(H:Hp)(v:V)(d:D)(vs:List V)(ds:List D)(d':D)(Q:VK),cK K G H->RB K G H v d->Paired (RB K G H) vs ds->k d ds=some d' ->(∀v' G' H',Grow K G H G' H'->RG K G' v' d'->Q v' H')->r v vs H Q
noncomputable def AG(T:String):D->Bool
|.lst _=>T == "list"
|.tup _=>T == "tuple"
|.dic _=>T == "dict"
|.str _=>T == "str"
|.int _=>T == "int"
|_=>false
theorem O7(U:cK K G H)(h:RB K G H v d)(t:AG T d=true):AF K T v H:=by cases d with
|lst Z=>obtain⟨a,Y,rfl,s,r⟩:=h.lst U;exact .inl ⟨ù t,Y,s⟩
|tup Z=>
  have e:T = "tuple" := ù t;rcases h with h|⟨a,rfl,o⟩
  .cases h with
  |scl s=>cases s
  |ref q=>cases U _ _ q with
   |tup r s=>exact .inr (.inl ⟨e,.inr ⟨_,r⟩⟩)
  |kc k=>cases k with
   |tup r s z=>exact .inr (.inl ⟨e,.inl z⟩)
  .cases o.ob
|dic Z=>obtain⟨a,Y,rfl,s,r⟩:=h.dic U;exact .inr (.inr (.inl ⟨ù t,.inl ⟨Y,s⟩⟩))
|str x=>rw[h.str U];exact ù t
|int x=>rw[h.int U];exact ù t
|_=>cases t
def fM(T:String)(fo:FE)(fl:aI->Res (List D))(k:D->List D->Option D):FE:=fun r=>(fo r).bind fun d=>if AG T d=true then(fl r).bind fun ds=>gj (k d ds)else .stuck
section
variable{o:Expr}{fo:FE}{apos cpos:Pos}{ro:Bool}{x name:Str}{T id:String}{R:V->List V->Hp->VK->Prop}{k:D->List D->Option D}
theorem gI(w:Ŭ T)(a:Slot T name id)(J:typeOf (.builtin id)=pure (.type "method_descriptor"))(W:ku X id R)(A:qP X.K R k)(y:SB X g m o fo)(B:jd X g m (e::es) fl)(Z:!X_ o name X.env (eval o X.env)=eval o X.env)(F:!k8 X (e::es) cpos=true)(Y:!(apos.endLine==cpos.line)=true)(BT:!Sx X e es)(U:!Bx X cpos es):SE X g m (.Call (.Attribute o name apos) (e::es) [] cpos) (fM T fo fl k):=by
 refine PE.imp (Bm w a J W y B Z F Y BT U) fun σ H Q k=>?_;obtain⟨r,G,i,q⟩:=k;refine ⟨r,G,i,bW (cJ q) fun d c v O H1 b j=>?_⟩
 by_cases h:AG T d=true
 .rw[Q_d h]at c;refine⟨O7 b.ok j h,r,O,i.grow b,jr (cJ c) b fun E u n N L f s=>?_⟩;obtain⟨I,C,t⟩:=d9 u;exact A N L v d n E I Q f.ok (j.mono f) s C fun p P M l z=>t p P M ((b.trans f).trans l) z
 .rw[Q_e h]at c;exact c.elim
def m6(x:V):List V->Option Nat
|[]=>none
|y::xs=>if jA y x=true then some 0 else(m6 x xs).map (· + 1)
def kz(x:D):List D->Option Nat
|[]=>none
|y::xs=>if jc y x=true then some 0 else(kz x xs).map (· + 1)
theorem CN(x:D):∀ds:List D,m6 (jZ x) (ds.map jZ)=kz x ds
|[]=>rfl
|y::ds=>by show(if jA _ _=true then some 0 else(m6 _ _).map _)=if jc y x=true then some 0 else(kz x ds).map _;rw[CN x ds];rfl
theorem JP{x:V}(d:aJ xs us)(f:xs.all i6=true)(h:m6 x xs=some j):∃g:j<us.length,jL x us[j]=true/\∀i (hi:i<us.length),i<j->jL x us[i]=false:=by induction d generalizing j with
|nil=>cases h
|@cons y u xs us r t Z=>
  rw[Ĥ,L_]at f;unfold m6 at h;by_cases Y:jA y x=true
  .rw[Q_d Y]at h;cases h;exact⟨Nat.zero_lt_succ _,by show jL x u=true;rw[tK r f.1];exact Y,fun i _ U=>Q_f U (Nat.not_lt_zero _)⟩
  .rw[Q_e Y]at h;cases e:m6 x xs with
  |none=>rw[e]at h;cases h
  |some z=>rw[e]at h;cases h;obtain⟨a,b,c⟩:=Z f.2 e;refine⟨Nat.succ_lt_succ a,b,fun i hi U=>?_⟩;cases i with
   |zero=>show jL x u=false;rw[tK r f.1];simpa using Y
   |succ i=>exact c i (Qdq hi) (Qdq U)
def IP(K:W.Frag):V->List V->Hp->VK->Prop:=fun x vs H Q=>∃p xs y j,x=.ref p/\vs=[y]/\dq K H p xs/\i6 y=true/\xs.all i6=true/\m6 y xs=some j/\Q (.int j) H
theorem KF:ku X "list.index" (IP X.K):=by
 intro W s O H x R v T Q I A B h;obtain⟨p,P,y,j,rfl,rfl,L,N,z,e,q⟩:=h;cases A;obtain⟨u,rfl,C⟩:=ik B;obtain⟨d,r,E,G⟩:=I.list L;obtain⟨o,n,l,t,m,k⟩:=E;obtain⟨a,b,c⟩:=JP r z e;have hl:=r.length;obtain⟨g,Y,Z,U⟩:=o;simp only at t m k;subst t m k;refine Å PySem.F.slot_list_index ⟨_,l,rfl⟩ PySem.F.entry_list_index (PySem.F.args_list_index_2 _ _)
  (SeqAt.list_indexAt p d.toArray n none U u (jL y) j (by simpa using a) (by rw[G_]at G;omega) (by simpa using b) (fun i M f=>by simpa using c i (by simpa using M) f)) ⟨l,fun w J=>pY C N r z w (by simpa using J),⟨.int j,H,I.tok _,⟨_,rfl⟩,q⟩⟩
def OX:D->List D->Option D
|.lst ds,[x]=>if eI x=true/\ds.all eI=true then(kz x ds).map fun j=>.int j else none
|.tup ds,[x]=>if eI x=true/\ds.all eI=true then(kz x ds).map fun j=>.int j else none
|_,_=>none
theorem Um{x d':D}(Z:cK K G H)(b:dJ K G xs ds)(a:RB K G H v x)(e:(if eI x=true/\ds.all eI=true then(kz x ds).map fun j=>D.int j else none)=some d'):∃j:Nat,d'=.int j/\i6 v=true/\xs.all i6=true/\m6 v xs=some j:=by
 by_cases U:eI x=true/\ds.all eI=true
 .rw[Q_d U]at e;obtain⟨f,f1⟩:=RB.flat a Z U.1;obtain⟨d,c⟩:=A1 b Z U.2;cases Y:kz x ds with
 |none=>rw[Y]at e;cases e
 |some j=>rw[Y]at e;cases e;exact⟨j,rfl,f1,c,by rw[f,d,CN];exact Y⟩
 .rw[Q_e U]at e;cases e
def uF(d:D)(ds:List D):Option D:=match d with
|.lst _=>OX d ds
|_=>none
theorem Kw:qP K (IP K) uF:=by intro G H v d m k n Q U Z c e q;cases d with
|lst l=>cases k with
 |nil=>cases e
 |cons x t=>cases t with
  |nil=>cases c with
   |cons f b=>cases b;obtain⟨a,Y,rfl,s,r⟩:=Z.lst U;obtain⟨j,rfl,i,h,g⟩:=Um U r f e;exact⟨a,Y,_,j,rfl,rfl,s,i,h,g,q _ G H (Grow.refl U) (.scl (.int _))⟩
  |cons _ _=>cases e
|_=>cases e
noncomputable def rj(xs:List V):Bool:=xs.all fun x=>match x with|.int _=>true|_=>false
theorem Kz{k:Int}:∀{xs:List V}{us:List a_},aJ xs us->rj xs=true->∀u∈us,QeC u (.int k t) (jL (.int k) u)
|_,_,.nil,_=>fun u U=>by cases U
|y::xs,u::us,.cons r a,f=>fun Y U=>by unfold rj at f;rw[Ĥ,L_]at f;cases y with
 |int i=>
   obtain⟨Z,rfl⟩:=r;rcases m_.mp U with rfl|U
   .exact MeetsSeq.EqGives.int i k Z t
   .exact Kz a f.2 Y U
 |_=>exact Q_f f.1 t_
def Ge:V->List V->Hp->VK->Prop:=fun x vs H Q=>∃l xs k j,x=.ref l/\vs=[.int k]/\H l=some (.lst xs)/\rj xs=true/\m6 (.int k) xs=some j/\Q .non (aO H l (.lst (xs.eraseIdx j)))
theorem KG:ku X "list.remove" Ge:=by
 intro E s A H x B v C Q I p w h;obtain⟨l,o,k,j,rfl,rfl,m,Z,e,q⟩:=h;cases p;obtain⟨u,rfl,t,rfl⟩:=ik w;obtain⟨G,Y,n,r,K,g⟩:=I.lstM m;obtain⟨a,b,c⟩:=JP r ((fun h=>by unfold rj at h;rw[P_]at h ⊢;intro x J;cases x <;> first|rfl|grind) Z) e;have U:∀y,y∈Y.toArray->QeC y (.int k t) (jL (.int k) y):=fun y z=>Kz r Z y (by simpa using z);have d:Y.toArray.size<=sizeLine:=by rw[E_];omega
 refine Å PySem.F.slot_list_remove ⟨_,g,rfl⟩ PySem.F.entry_list_remove (PySem.F.args_list_remove_2 _ _) (MeetsSeq.list_remove l Y.toArray n (.int k t) (jL (.int k)) U j (by simpa using a) (by simpa using b) (fun i Z f=>by simpa using c i (by simpa using Z) f) d) ⟨g,?_⟩;refine⟨.non,_,I.lset (its':=Y.eraseIdx j) m g ?_ ?_ ?_,rfl,q⟩
 .apply QeD.mp;simp[Array.toList_eraseIdxIfInBounds]
 .exact aJ.eraseIdx j r
 .have:=List.length_eraseIdx_le o j;omega
noncomputable def isInt:D->Bool
|.int _=>true
|_=>false
theorem O2(h:dJ K G xs ds)(b:cK K G H)(U:ds.all isInt=true):rj xs=true/\xs=ds.map jZ:=by induction h with
|nil=>exact⟨rfl,rfl⟩
|@cons x d xs ds r t Y=>rw[Ĥ,L_]at U;obtain⟨a,Z⟩:=Y U.2;cases d with
 |int i=>
   have e:=r.int b;subst e;refine⟨?_,by rw[í,<-Z];rfl⟩;unfold rj at a ⊢
   assumption
 |_=>exact Q_f U.1 t_
def remD:D->List D->Option D
|.lst ds,[.int k]=>if ds.all isInt=true then(kz (.int k) ds).map fun j=>.lst (ds.eraseIdx j)else none
|_,_=>none
theorem G6:mn K Ge remD:=by
 intro G H a d h i l Q Y c Z e q;unfold remD at e;split at e
 .split at e
  .rename_i zs k hall;cases U:kz _ zs with
  |none=>rw[U]at e;cases e
  |some j=>rw[U]at e;cases e;cases c.ob with
   |lst r s=>cases Z with
    |cons b t=>cases t;obtain⟨g,f⟩:=O2 s Y hall;refine⟨a,_,k,j,rfl,by rw[b.int Y],r,g,?_,q _ (.lst cX (Paired.er j s))⟩;rw[f];exact(CN _ zs).trans U
  .cases e
 .cases e
def BC(kvs more:List (bO×D)):List (bO×D):=more.foldl (fun acc kv=>g9 acc kv.1 kv.2) kvs
theorem PU{a:List (bO×V)}(c:gS K G Y U)(h:gS K G a Z):gS K G (rA a Y) (BC Z U):=by induction c generalizing a Z with
|nil=>exact h
|@cons p q m d r t b=>have e:=r.1;show gS K G (rA (eQ a p.1 p.2) _) _;rw[e];exact b (F8 h r.2)
def IR:V->List V->Hp->VK->Prop:=fun x vs H Q=>∃d o kvs more,x=.ref d/\vs=[.ref o]/\d≠o/\H d=some (.dK kvs)/\Rd H o (.dK more)/\kvs.length+more.length<=sizeLine/\Q .non (aO H d (.dK (rA kvs more)))
theorem T5:ku X "dict.update" IR:=by
 intro P s K H x N v O Q I k l h;obtain⟨d,o,f,a,rfl,rfl,J,j,y,p,q⟩:=h;cases k;obtain⟨u,rfl,m⟩:=ik l;cases m;obtain⟨M,G,C,i,U⟩:=(I.hok d _ j)
 obtain⟨L,B,Z,g,E⟩:=(y.ok I.hok)
 have T:=Paired.length i;have R:=Paired.length g;refine call_meetsIn PySem.F.slot_dict_update U.typeIs PySem.F.entry_dict_update (PySem.F.args_dict_update_2 _ _) (meets_dict_update _ d o J B) ⟨C,Z,U,E,`o,fun A Y W t=>?_⟩;have c:=U_ (My a f) p;refine⟨.non,_,I.write (by rw[j];exact trivial) (.inl rfl) (fun b u z r=>(t.2 b z).trans r) (let⟨n,_,_,e,_⟩:=Y;⟨n,e⟩) (show fJ X.prog X.w _ A d (.dK _)from⟨c,G,_,KV.merge g i,Y⟩),rfl,q⟩
def updD:D->List D->Option D
|.dic kvs,[.dic more]=>if kvs.length+more.length<=sizeLine then some (.dic (BC kvs more))else none
|_,_=>none
theorem O8:mn K IR updD:=by
 intro G H a d j n o Q i f g e q;unfold updD at e;split at e
 .split at e
  .cases e;cases f.ob with
  |dic r s=>cases g with
   |cons c t=>
     cases t;have Y:=c.dic i;obtain⟨b,h,rfl,Y,Z⟩:=Y;have U:a≠b:=by
      rintro rfl
      cases c with
     |scl s=>cases s
     |ref z=>rw[f.un]at z;cases z
     |kc k=>cases k
     have m:=Paired.length s;have l:=Paired.length Z;exact⟨a,b,_,h,rfl,rfl,U,r,Y,`o,q _ (.dic cX (PU Z s))⟩
  .cases e
 .cases e
def Xx:V->List V->Hp->VK->Prop:=fun x vs H Q=>∃d kvs,x=.ref d/\vs=[]/\Rd H d (.dK kvs)/\∀p,H p=none->Q (.ref p) (aO H p (.ext fun h=>h.IsValuesView p d))
theorem T6:ku X "dict.values" Xx:=by
 intro t s m H x o v p Q I f g h;obtain⟨d,i,rfl,rfl,l,q⟩:=h;cases f;cases g;obtain⟨n,Y,Z,r,U⟩:=(l.ok I.hok)
 refine call_meetsIn PySem.F.slot_dict_values U.typeIs PySem.F.entry_dict_values (PySem.F.args_dict_values_1 _) (meets_dict_values _ d Y) ⟨⟨Z,U⟩,?_⟩;refine⟨.ref s.heap.objs.size,_,I.laid (fun b a e=>c_ _ e) (k_ _) ?_,rfl,q _ (I.hok.fresh (k_ _))⟩;refine⟨⟨_,l_ _ rfl,rfl,rfl⟩,⟨_,l_ _ rfl⟩,fun w u j k=>?_⟩;obtain⟨a,e,c⟩:=j;exact⟨a,k a e,c⟩
theorem WE(t:X.calm=true):gT X (.type "list") (fun xs H Q=>∃p d a,xs=[.ref p]/\H p=some (.ext fun h=>h.IsValuesView p d)/\Rd H d (.dK a)/\∀l,H l=none->Q (.ref l) (aO H l (.lst (a.map (·.2))))):=by
 intro G s B H xs E Q I r h;obtain⟨p,d,a,rfl,m,o,q⟩:=h;obtain⟨u,rfl,f⟩:=ik r;cases f;obtain⟨i,_,_⟩:=(I.hok p _ m)
 obtain⟨C,T,Cl,c,Z⟩:=(o.ok I.hok)
 obtain⟨N,z⟩:=Z.dictAt;have J:=Paired.length c;refine W.kdl_call (W.kdl_values) (I.ok.hd t) ⟨i,z⟩ `o fun x F b A g L U=>?_;have Y:aJ (a.map (·.2)) b.toList:=by refine EA (by have M:=U.1;simp_all) fun j v u e R=>?_;obtain⟨k,n⟩:=U.2 j u `a;rw[K_]at e;cases y:a[j]? with
 |none=>simp_all
 |some K=>
   rw[y]at e;obtain⟨BT,P,O⟩:=Paired.get c n
   simp_all
 refine⟨.ref s.heap.objs.size,_,I.laid g (k_ _) (show fJ X.prog X.w _ x _ (.lst _)from⟨`a,b.toList,A,Y,`o⟩),rfl,q _ (I.hok.fresh (k_ _))⟩
noncomputable def Bb:D->Option D
|.dic kvs=>some (.lst (kvs.map (·.2)))
|_=>none
theorem Hi:∀{Y:List (bO×V)}{U:List (bO×D)},gS K G Y U->dJ K G (Y.map (·.2)) (U.map (·.2))
|_,_,.nil=>.nil
|_,_,.cons r t=>.cons r.2 (Hi t)
theorem OU(C:X.calm=true)(B:Gl X "list")(A:X.mg "list" = none)(z:SB X g m o fo)(Y:!X_ o "values" X.env (eval o X.env)=eval o X.env)(U:!(apos.endLine==cpos.line)=true)(Z:!B_ [.Call (.Attribute o "values" apos) [] [] cpos] X.env=(false,eval (.Call (.Attribute o "values" apos) [] [] cpos) X.env)::B_ [] X.env):SO X g m (.Call (.Name "list" pos') [.Call (.Attribute o "values" apos) [] [] cpos] [] pos) (f1 fo Bb):=by
 refine PE.imp (o9 (WE C) B A rfl (gR (Hs PySem.F.plainAttrs_dict PySem.F.slot_dict_values PySem.F.type_dict_values T6 z Y U) jT Z) `d `d Z rfl) fun I H Q g=>?_;obtain⟨r,G,s,q⟩:=g;refine ⟨r,G,s,bW (cJ q) fun d x v E K b u=>?_⟩
 obtain⟨J,e,w⟩:=d9 x;cases d with
|dic y=>
  cases e;obtain⟨a,c,rfl,f,t⟩:=u.dic b.ok;refine⟨.inr (.inr (.inl ⟨rfl,.inl ⟨c,f⟩⟩)),a,c,rfl,rfl,f,fun p j=>⟨p,a,c,rfl,cX,?_,fun l k=>?_⟩⟩
  .exact Rd.mono f fun a o e=>BU j _ _ e
  .obtain⟨hl1,hl2⟩:=GU k;have i:=Grow.new b.ok j (.ext fun h=>h.IsValuesView p a);have n:=Grow.new i.ok k (.lst (c.map (·.2)));exact w l E _ (b.trans (i.trans n)) (b.back hl1) ⟨b.ok.isN hl1,.lst cX (Hi t)⟩
|_=>cases e
end
noncomputable def fN:Nat->List D->List D
|_,[]=>[]
|i,d::ds=>.tup [.int i,d]::fN (i+1) ds
theorem uO:∀(i:Nat)(ds:List D),(fN i ds).length=ds.length
|_,[]=>rfl
|i,d::ds=>Q_g (· + 1) (uO _ ds)
theorem CL:∀(i j:Nat)(ds:List D),(fN i ds)[j]? = (ds[j]?).map fun d=>D.tup [.int ((i+j:Nat):Int),d]
|_,_,[]=>by simp[fN]
|i,0,d::ds=>by simp[fN]
|i,j+1,d::ds=>by
  show(fN _ ds)[j]? = _;rw[CL _ j ds]
  grind
theorem Jg{a:GH}(h:∀G H,bU a G->cK K G H->∃xs,Z H xs/\dJ K G xs ds):Yields K (qQ Z) (fN 0 ds) a:=by
 refine⟨fun G H i w U g=>?_,fun G H i x n d w U y e=>?_,fun G H w U=>?_⟩
 .obtain⟨xs,s,r⟩:=h G H w U;rw[uO]at g;have l:=Paired.length r;exact⟨xs,xs[i],s,`s⟩
 .obtain⟨xs,s,r⟩:=h G H w U;obtain⟨p,v,f,rfl,rfl,c⟩:=y;rw[CL]at e;cases Y:ds[i]? with
 |none=>rw[Y]at e;cases e
 |some m=>rw[Y]at e;simp  at e;subst e;obtain⟨k,j,b⟩:=Paired.get r Y;have:=c xs s;rw[j]at this;cases this;exact⟨_,Grow.newF U f (.tup (.inl cX) (.cons (.scl (.int _)) (.cons b .nil))),.ref gV⟩
 .obtain⟨xs,s,r⟩:=h G H w U;rw[uO];exact⟨xs,s,Paired.length r⟩
def wT(f:FE):FI:=fun r=>(f r).bind fun d=>(gj (fV d)).bind fun ds=>.ok (fN 0 ds)
section
variable{elts:List Expr}{kk:Nat}
theorem Ij{w:TE}(L:Gl X "enumerate")(J:X.mg "enumerate" = none)(g:PE X e w)(B:!Sx X e []):PI X (.Tuple elts kk pos2) (.Call (.Name "enumerate" p) [e] [] pos) (fun σ H R=>w σ H fun x Y=>(∃a,x=.ref a/\(∃xs,dq X.K Y a xs)/\R (qQ fun H xs=>dq X.K H a xs) Y)\/∃a,x=.ref a/\(∃xs,e8 X.K Y a xs)/\R (qQ fun H xs=>e8 X.K H a xs) Y):=by
 intro z s σ H R I h;refine Call_ (pH I L J boot_enumerate (Š (bJ (gR g jT B pos z s σ H (fun v Y=>match v with
 |[x]=>(∃a,x=.ref a/\(∃xs,dq X.K Y a xs)/\R (qQ fun H xs=>dq X.K H a xs) Y)\/∃a,x=.ref a/\(∃xs,e8 X.K Y a xs)/\R (qQ fun H xs=>e8 X.K H a xs) Y
 |_=>False) I h) fun C Z w=>?_) B rfl));obtain⟨v,Y,c,G,l⟩:=w
 .cases G with
 |nil=>exact l.elim
 |@cons x u xs C y F=>cases F with
 |cons _ _=>exact l.elim
 |nil=>
  have fin:∀{k:Heap},k.objs.size=Z.heap.objs.size+2->(∀b o,Z.heap.get? b=some o->k.get? b=some o)->∀b∈[Z.heap.objs.size+1,Z.heap.objs.size],gp X z Y b:=fun A i b r=>by
   have U:Z.heap.objs.size<=b:=by
    rcases m_.mp r with rfl|r
    .exact ŝ _
    .rw[J_.mp r];exact k_ _
   exact c.fpOk U (c.hok.fresh U)
  rcases l with⟨a,rfl,⟨xs,f⟩,q⟩|⟨a,rfl,⟨xs,f⟩,q⟩
  .cases y;obtain⟨j,E,m,A⟩:=c.list f;refine call_enumerate_list m.isList fun k g n d i=>Qc2 g ?_;exact⟨_,[Z.heap.objs.size+1,Z.heap.objs.size],_,_,Y,rfl,c.kept (t':=Z.toks) i,KW (t:=false) a _ _ (ÿ (ħ _)) (H_ (rS (t:=false) c f)) (ÿ (Ħ (rS (t:=false) c f))),⟨⟨_,g⟩,n⟩,fin d i,q⟩
  .cases y;obtain⟨j,E,m,A⟩:=c.tuple f;refine WR (show Z.heap.IsTuple a j.toArray from m) fun k g n d i=>Qc2 g ?_;exact⟨_,[Z.heap.objs.size+1,Z.heap.objs.size],_,_,Y,rfl,c.kept (t':=Z.toks) i,KW (t:=true) a _ _ (ÿ (ħ _)) (H_ (rS (t:=true) c f)) (ÿ (Ħ (rS (t:=true) c f))),⟨⟨_,g⟩,n⟩,fin d i,q⟩
theorem BF(y:Gl X "enumerate")(x:X.mg "enumerate" = none)(z:SE X g m e f)(u:!Sx X e []):kg X g m (.Tuple elts kk pos2) (.Call (.Name "enumerate" p) [e] [] pos) (wT f):=by
 refine PI.imp (Ij y x z u) fun A H R f=>?_;obtain⟨r,G,o,q⟩:=f;refine ⟨r,G,o,bW (cJ q) fun d q v n l w U=>?_⟩
 obtain⟨B,e,q⟩:=d9 (cJ q);cases d with
|lst k=>cases e;obtain⟨a,Z,rfl,s,t⟩:=U.lst w.ok;refine .inl ⟨a,rfl,⟨Z,s⟩,q _ n l w (Jg fun G H i j=>?_)⟩;obtain⟨b,Y,e,c,h⟩:=(U.mono i).lst j;cases e;exact⟨Y,c,h⟩
|tup k=>cases e;obtain⟨a,Z,rfl,s,t⟩:=U.tup w.ok;refine .inr ⟨a,rfl,⟨Z,s⟩,q _ n l w (Jg fun G H i j=>?_)⟩;obtain⟨b,Y,e,c,h⟩:=(U.mono i).tup j;cases e;exact⟨Y,c,h⟩
|_=>cases e
end
theorem Ir:∀a b:List Int,HT.eR a b=l5 a b
|[],[]=>rfl
|[],_::_=>rfl
|_::_,[]=>rfl
|x::Y,y::U=>by rw[HT.hZ,l5,Ir Y U]
inductive TupI(h:Heap):a_->List Int->Prop where
 |mk {a:Addr} {items:Array a_} {ns:List Int}:Ø h a items->õ items.toList ns->TupI h (.ref a) ns
theorem U5:∀(xs U:List Int),((x_ (min xs.length U.length)).all (fun j=>decide (xs.getD j 0=U.getD j 0))&&xs.length==U.length)=decide (xs=U):=by
 intro xs U;rw[À,L_,P_,beq_iff_eq,Q_h];constructor
 .rintro⟨h1,h2⟩
  refine Qdc h2 fun i a b=>?_;have:=h1 i (D_.mpr `o)
  simp_all
 grind
theorem QY{p q:a_}(z:TupI s.heap p k)(hq:TupI s.heap q l)(y:A.units<á):Qd3 A s p q (decide (k=l)):=by cases z with
|@mk a x _ i c=>cases hq with
 |@mk b w _ h Z=>
   by_cases e:a=b
   .subst e;obtain⟨o,m,C,n,B⟩:=i;obtain⟨E,U,Y,F,f⟩:=h;rw[m]at U;cases U;rw[B]at f;cases f;have:=by have u:=c;have r:=Z;exact(Qfq u).symm.trans (Qfq r)
    subst this;rw[Q_c rfl];exact QeO _
   .have l1:=c.length;have g:=Z.length;rw[Array.length_toList]at l1 g;have d:=SeqAt.RcAt.tuples (e:=fun j=>decide (k.getD j 0=l.getD j 0)) (i) (h) y (fun j m C=>by
     obtain⟨t,H⟩:=QdH c j x[j] `s;obtain⟨v,G⟩:=QdH Z j w[j] `s;have:=QcJ (A:=A.in1) (s:=s) (k.getD j 0) t (l.getD j 0) v
     grind)
    rw[l1,g,U5]at d;exact SeqAt.EqAt.of_refs e d
inductive TupsI(h:Heap):List a_->List (List Int)->Prop where
 |nil:TupsI h [] []
 |cons {p:a_} {k:List Int} {ps:List a_} {ks:List (List Int)}:TupI h p k->TupsI h ps ks->TupsI h (p::ps) (k::ks)
theorem TupsI.length:∀{U:List a_}{Y:List (List Int)},TupsI h U Y->U.length=Y.length
|_,_,.nil=>rfl
|_,_,.cons _ t=>Q_g (· + 1) t.length
variable{s:d_}
section
variable{prog:o_}{A:I_}
theorem OK{fin:Bool}(c:A.units<á){a Y:List a_}(u:TupsI s.heap a Z)(g:TupsI s.heap Y U)(h:Q (kT fin Z U) s):W.KatLex prog w A false fin Q (a.zip Y) i s:=by induction u generalizing Y U i with
|nil=>cases g <;> exact W.kat_nil h
|@cons p k a Z f v m=>cases g with
 |nil=>exact W.kat_nil h
 |@cons q l Y U d j=>
   refine W.kat_cons (QY f d c prog w _ _ ?_);by_cases e:k=l
   .rw[Q_c e];have b:Q (kT fin Z U) s:=by unfold kT at h;simp_all
    exact W.kat_yes (m j b)
   .rw[Q_b e];have b:Q (l5 k l) s:=by unfold kT at h;simp_all
    refine W.kat_no ?_;refine W.kat_one _ _ ?_;cases f with
   |mk t o=>cases d with
    |mk r n=>refine HT.j8 t r o n c ?_;rw[Ir];exact b
inductive TupR(h:Heap):a_->List (List Int)->Prop where
 |mk {a:Addr} {items:List a_} {ks:List (List Int)}:Ø h a items.toArray->TupsI h items ks->ks≠[]->TupR h (.ref a) ks
theorem Q3{p q:a_}{c b:List (List Int)}(j:TupR s.heap p c)(hq:TupR s.heap q b)(i:A.units<á)(h:Q (iT c b) s):u_ (y_ prog w) A (keyLt' (tuples' false) p q) Q E s:=by cases j with
|@mk _ a _ r g l=>cases hq with
 |@mk _ Z _ m f k=>
   obtain⟨o,u,y,n,t⟩:=r;obtain⟨v,U,Y,x,d⟩:=m;refine W.kat_lt u t U d ?_;have e:decide (a.toArray.size<Z.toArray.size)=decide (c.length<b.length):=by rw[E_,E_,g.length,f.length]
   rw[e];exact OK i (by simpa using g) (by simpa using f) h
end
noncomputable def kn(ns:List Int):List Int:=ns.foldl ź []
theorem U9(U:List Int):Ń (fun i=>U.getD i 0) U.length=kn U:=by unfold Ń kn;congr 1;refine Qdc `s fun i Z Y=>?_;simp[ļ,Y]
noncomputable def lj:List D->Option (List Int)
|[]=>some []
|.int i::ds=>(lj ds).map (i::·)
|_=>none
theorem JG(a:cK K G H)(h:dJ K G xs ds)(e:lj ds=some U):xs=U.map V.int:=by induction h generalizing U with
|nil=>cases e;rfl
|@cons x d xs ds r t Z=>cases d with
 |int i=>have Y:(lj ds).map (i::·)=some U:=e;cases q:lj ds with
  |none=>rw[q]at Y;cases Y
  |some b=>rw[q]at Y;cases Y;rw[r.int a,Z q];rfl
 |_=>cases e
theorem Th(m:X.calm=true):gT X (.type "set") (fun xs H Q=>∃p Y,xs=[.ref p]/\(dq X.K H p (Y.map V.int)\/e8 X.K H p (Y.map V.int))/\Y.length+1<ú/\∀l,H l=none->Q (.ref l) (aO H l (.set (fun k=>(kn Y).any (· == k)) (kn Y).length))):=by
 intro v s n H xs x Q I r h;obtain⟨p,Y,rfl,d,y,q⟩:=h;obtain⟨u,rfl,t⟩:=ik r;cases t;have fin:∀(U:List a_)(Z:Heap)(a:Nat),U.length=Y.length->Z.SetOf _ s.heap.objs.size (fun k=>(Ń (fun i=>Y.getD i 0) U.toArray.size).any _) (Ń _ U.toArray.size).length ->(∀b o,b<s.heap.objs.size->s.heap.get? b=some o->Z.get? b=some o)->EP X v n Q _ { s with heap:=Z,toks:=a }:=fun U Z a c f g=>by rw[show U.toArray.size=Y.length by omega,U9]at f;exact⟨.ref s.heap.objs.size,_,I.laid (fun b o e=>g b o (n_ e) e) (k_ _) (show fJ X.prog X.w _ Z _ (.set _ _)from f),rfl,q _ (I.hok.fresh (k_ _))⟩
 rcases d with d|d
 .obtain⟨U,r',pl,hz⟩:=I.list d;have c:=r'.length;rw[p_]at c;exact call_set_list (I.ok.hd m) pl.isList (by simpa using Dk r') `g fun Z a f g=>fin U Z a c.symm f g
 .obtain⟨U,r',pl,hz⟩:=I.tuple d;have c:=r'.length;rw[p_]at c;exact VJ (I.ok.hd m) (pl) (by simpa using Dk r') `g fun Z a j=>fin U Z a c.symm j.1 j.2
theorem Tz:gT X (.builtin "len") (fun xs H Q=>∃p S n,xs=[.ref p]/\H p=some (.set S n)/\Q (.int n) H):=by
 intro j s g H xs i Q I r h;obtain⟨p,S,n,rfl,Z,q⟩:=h;obtain⟨u,rfl,Y⟩:=ik r;cases Y;obtain⟨o,f,l,t,a,U,d,_,_,e,c,b⟩:=(I.hok p _ Z)
 refine call_len_set a U d c ?_ ⟨.int n,H,I.tok _,⟨_,by rw[b]⟩,q⟩;have k:(f.size)<4096:=by unfold ú at e;omega
 grind
def Gq:D->Option D
|.lst ds=>(lj ds).bind fun ns=>if ns.length+1<ú then some (.int (kn ns).length)else none
|.tup ds=>(lj ds).bind fun ns=>if ns.length+1<ú then some (.int (kn ns).length)else none
|_=>none
theorem Sn(F:X.calm=true)(E:Gl X "len")(C:X.mg "len" = none)(L:Gl X "set")(N:X.mg "set" = none)(I:SB X g m a f)(h:!Sx X a [])(Z:!B_ [.Call (.Name "set" p2) [a] [] pos2] X.env=(false,eval (.Call (.Name "set" p2) [a] [] pos2) X.env)::B_ [] X.env):SE X g m (.Call (.Name "len" p) [.Call (.Name "set" p2) [a] [] pos2] [] pos) (f1 f Gq):=by
 refine PE.imp (nA Tz E C PySem.boot_len (gR (o9 (Th F) L N (by first|exact PyProof.Rows.boot_set|rfl) (gR I jT h) `d `d h rfl) jT Z) `d `d Z rfl) fun O H Q a=>?_;obtain⟨r,G,z,q⟩:=a;refine ⟨r,G,z,bW (cJ q) fun d B v y i s w=>?_⟩
 obtain⟨x,e,A⟩:=d9 B;have Y:∀{o:List D}{j:List V}{b:Addr},dJ X.K y j o->v=.ref b->(dq X.K i b j\/e8 X.K i b j)->(lj o).bind (fun c=>if c.length+1<ú then some (D.int (kn c).length)else none)=some x ->∃p c,[v]=[V.ref p]/\(dq X.K i p (c.map V.int)\/e8 X.K i p (c.map V.int))/\c.length+1<ú/\∀l,i l=none->∃p S n,[V.ref l]=[V.ref p]/\aO i l (.set (fun k=>(kn c).any (· == k)) (kn c).length) p=some (.set S n)/\Q (.int n) (aO i l (.set (fun k=>(kn c).any (· == k)) (kn c).length)):=fun{o j b} rs ev h he=>by cases u:lj o with
 |none=>rw[u]at he;cases he
 |some c=>
   rw[u]at he;have U:(if c.length+1<ú then some (D.int (kn c).length)else none)=some x:=he;by_cases t:c.length+1<ú
   .rw[Q_d t]at U;cases U;have J:=JG s.ok rs u;subst J;exact⟨b,c,by rw[ev],h,t,fun l M=>⟨l,_,_,rfl,cX,A _ y _ (s.trans (Grow.new s.ok M _)) (.scl (.int _))⟩⟩
   .rw[Q_e t]at U;cases U
 cases d with
|lst o=>obtain⟨b,j,ev,h,rs⟩:=w.lst s.ok;exact Y rs ev (.inl h) e
|tup o=>obtain⟨b,j,ev,h,rs⟩:=w.tup s.ok;exact Y rs ev (.inr h) e
|_=>cases e
def FV(K:W.Frag)(H:Hp)(x:V)(k:List Int):Prop:=∃b,x=.ref b/\e8 K H b (k.map V.int)
def AR(K:W.Frag)(H:Hp)(x:V)(ks:List (List Int)):Prop:=∃b xs,x=.ref b/\e8 K H b xs/\Paired (FV K H) xs ks/\ks≠[]
def sO{α:Type}(d:α)(ys:List α)(kss:List (List (List Int))):List α:=(mX ys.length fun i j=>iT (kss.getD i []) (kss.getD j [])).map fun i=>ys.getD i d
theorem fJ.isS{a:Addr}(x:fJ P w H h a o):h.get? a≠none:=by
 have s:∀{u:Obj},h.get? a=some u->h.get? a≠none:=fun e z=>by rw[z]at e;cases e
 cases o with
|lst Y=>obtain⟨_,_,_,_,e⟩:=x;exact s e
|tup Y=>obtain⟨_,_,_,⟨_,e,_⟩,_⟩:=x;exact s e
|dK U=>obtain⟨_,_,_,_,o,_,_,e,_⟩:=x;exact s e
|dT U=>obtain⟨_,_,_,_,o,_,_,e,_⟩:=x;exact s e
|set S n=>obtain⟨o,_,_,_,e,_⟩:=x;exact s e
|ins C j Z=>obtain⟨_,_,_,e,_⟩:=x;exact s e
|own y=>obtain⟨_,e⟩:=x;exact s e
|xd Z=>obtain⟨_,⟨_,_,_,e,_⟩,_⟩:=x;exact s e
|rng g i=>obtain⟨_,_,_,e⟩:=x;exact s e
|frz d u=>obtain⟨e,_⟩:=x;exact s e
|tbl c=>exact s (x)
|met f y=>exact s (x)
|ext b=>obtain⟨_,⟨_,e⟩,_⟩:=x;exact s e
variable{H:Hp}
section
variable{pz:List (Addr×Obj)}{σ:L2.St}
theorem TupI.stay{a:Str->Option a_}(g:h.Ns L a)(k:∀b o,b≠L->h.get? b=some o->h'.get? b=some o){p:a_}(x:TupI h p U):TupI h' p U:=by cases x with
|mk c f=>
  obtain⟨o,Z,i,n,Y⟩:=c;refine .mk ⟨o,k _ _ ?_ Z,i,n,Y⟩ f
  rintro rfl
  obtain⟨j,l,m,e,d,_⟩:=g;rw[Z]at e;cases e;rw[Y]at d;cases d
theorem TupsI.stay{a:Str->Option a_}(Z:h.Ns L a)(k:∀b o,b≠L->h.get? b=some o->h'.get? b=some o):∀{U:List a_}{Y:List (List Int)},TupsI h U Y->TupsI h' U Y
|_,_,.nil=>.nil
|_,_,.cons x t=>.cons (x.stay Z k) (t.stay Z k)
theorem TupR.stay(Y:h.Ns L Z)(k:∀b o,b≠L->h.get? b=some o->h'.get? b=some o){p:a_}(x:TupR h p U):TupR h' p U:=by cases x with
|mk a f c=>
  obtain⟨o,j,i,n,g⟩:=a;refine .mk ⟨o,k _ _ ?_ j,i,n,g⟩ (f.stay Y k) c
  rintro rfl
  obtain⟨l,m,q,e,d,_⟩:=Y
  simp_all
theorem TJ(I:Inv X pz σ H s)(h:Paired (FV X.K H) xs U)(v:aJ xs us):TupsI s.heap us U:=by induction h generalizing us with
|nil=>cases v;exact .nil
|cons h _ c=>cases v with
 |cons r q=>exact .cons ((fun I h r=>by obtain⟨b,rfl,d⟩:=h;cases r;obtain⟨a,Y,Z,_⟩:=I.tuple d;exact .mk Z (by simpa using Dk Y)) I h r) (c q)
theorem Ku(r:aJ Y us):∀(U:List Nat),(∀i∈U,i<Y.length)->aJ (U.map fun i=>Y.getD i .non) (U.map fun i=>us.getD i Value.none)
|[],_=>.nil
|i::U,h=>by refine .cons ?_ (Ku r U fun j Z=>h j (i_ _ Z));have a:=h i h_;obtain⟨u,c,b⟩:=r.get (q_ a);simp_all
theorem Inv.laidN{D:Addr}{f:List V}{a:List a_}(I:Inv X pz σ H s)(t:s.heap.get? D=none)(B:D≠X.env.locals)(k:∀b o,b≠X.env.locals->s.heap.get? b=some o->h'.get? b=some o)(Y:∀m,s.heap.Ns X.env.locals m->h'.Ns X.env.locals m)(l:h'.get? D=some { cls:=.type "list",data:=.seq a.toArray c })(i:aJ f a)(j:f.length<=sizeLine)(t':Nat):Inv X pz σ (aO H D (.lst f)) { s with heap:=h',toks:=t' }:=by
 have Z:H D=none:=by cases q:H D with
 |none=>rfl
 |some u=>exact Q_f t (fJ.isS (I.hok D u q))
 have neD:∀b o,s.heap.get? b=some o->b≠D:=fun b o e z=>by simp_all
 have U:∀b u,H b=some u->aO H D (.lst f) b=some u:=fun b u e=>by rw[bL (pd e Z)];exact e
 have A:∀b u,H b=some u->b≠X.env.locals:=fun b u e z=>by rw[z,I.free]at e;cases e
 refine I.step (ch:=[]) `a `a (fun b d r _ _ e _=>⟨d.slots,k b d r e⟩) (fun b d _ e n=>by rw[bL (neD b d e)];exact n)
  (fun b d _ e=>?_) `a `a (fun b x e=>⟨#[],`a⟩) Y (fun b u e=>?_) I.bare
 .by_cases hb:b=X.env.locals
  .subst hb;obtain⟨m,p,_⟩:=I.loc;obtain⟨o,_,_,g,_⟩:=Y m p;exact⟨o,g⟩
  simp_all
 .by_cases hb:b=D
  .subst hb;rw[cX]at e;cases e;exact⟨j,a,c,i,l⟩
  .rw[bL hb]at e;refine(I.hok b u e).stay (fun h v y q=>k h v ?_ q) `a fun h w q=>U h _ q
   grind
theorem HU{h:Heap}{m m':Str->Option a_}(a:h.Ns L m)(b:h.Ns L m'):m=m':=by
 obtain⟨o,g,i,e,d,_,f⟩:=a;obtain⟨Z,Y,U,j,k,_,c⟩:=b
 grind
theorem Jl:∀{us:List a_}{Y:List (List (List Int))},Paired (fun u Z=>TupR h u Z) us Y->∃fs,W.KatTups h us fs/\fs.length=us.length/\∀f∈fs,∃b o,f=Value.ref b/\h.get? b=some o/\o.cls=.type "tuple"
|_,_,.nil=>⟨[],W.KatTups.nil,rfl,fun f U=>nomatch U⟩
|_,_,.cons x t=>by obtain⟨fs,v,s,r⟩:=Jl t;cases x with
 |@mk a c Z i m l=>cases m with
  |nil=>exact Q_f rfl l
  |@cons p k A Z j _=>
    obtain⟨o,z,y,n,w⟩:=i;refine⟨p::fs,W.KatTups.cons z y w `r v,by simp[s],fun f U=>?_⟩;rcases m_.mp U with rfl|U
    .cases j with
    |mk q _=>obtain⟨g,e,d,_⟩:=q;exact⟨_,g,rfl,e,d⟩
    .exact r f U
theorem TH(I:Inv X pz σ H s)(h:Paired (AR X.K H) Y U)(v:aJ Y us):Paired (fun u c=>TupR s.heap u c) us U:=by induction h generalizing us with
|nil=>cases v;exact .nil
|cons h _ e=>cases v with
 |cons r q=>exact .cons ((fun I h r=>by obtain⟨b,j,rfl,f,g,i⟩:=h;cases r;obtain⟨d,Z,a,_⟩:=I.tuple f;exact .mk a (TJ I g Z) i) I h r) (e q)
theorem C7(h:i∈mX n c):i<n:=D_.mp ((C9 n c).mem_iff.mp h)
theorem U6(hr:Room k X.A):gT X (.builtin "sorted") (fun xs H Q=>∃p f d,xs=[.ref p]/\dq X.K H p f/\Paired (AR X.K H) f d/\f.length<64/\∀l,H l=none->Q (.ref l) (aO H l (.lst (sO .non f d)))):=by
 intro pz s σ H xs us Q I r h;obtain⟨p,f,d,rfl,M,N,IO,q⟩:=h;obtain⟨u,rfl,rx⟩:=ik r;cases rx;obtain⟨g,t,J,hz⟩:=I.list M;have hl:=t.length;have Id:=Paired.length N;by_cases n:g.length<2
 .refine V3 J.isList n fun O c D L B ho=>?_;have hs:=Ŏ B;refine⟨.ref D,_,Inv.laidN I hs (ÿ (A_ I.lt B)) (fun b o _ e=>L b o e) (fun m k=>by obtain⟨o,es,ep,e,z⟩:=k;exact ⟨o,es,ep,L _ _ e,z⟩) ho t `o s.toks,rfl,?_⟩;have e:sO V.non f d=f:=by
   unfold sO mX;rw[Q_d `o];refine Qdc `s fun i a b=>?_
   grind
  have:=q D (I.hok.fresh B)
  simp_all
 .obtain⟨mF,F⟩:=I.fr;have BT:=TH I N t;refine W.kat_sorted F (Cu) J.isList `o `o fun D P O F' E y=>?_;have Z:s.heap.get? D=none:=by cases z:s.heap.get? D with
  |none=>rfl
  |some o=>have G:=(E _ (h_)).2;exact Q_f (y (D,o) (DY G.1 G.2 z)) (þ _)
  have U:∀{n:Heap}{oD:Obj},Fr X.base X.env.locals n mF->News X.base X.env.locals n ((D,oD)::uB X.base s.heap X.env.locals)->∀b o,b≠X.env.locals->s.heap.get? b=some o->n.get? b=some o:=fun{n oD} F2 N2 b o hb e=>by cases z:X.base.get? b with
  |some o'=>have:=I.bk b o' z;rw[e]at this;cases this;exact F2.keep b o z
  |none=>exact(N2 (b,o) (i_ _ (DY hb z e))).1
  have k1:=U F' E;have Y:=Paired.mono (fun _ _ x=>x.stay F.ns k1) BT;obtain⟨fs,t1,t2,t3⟩:=Jl Y;refine W.kat_kind (T:=.type "tuple") t1 `o (fun v hv=>?_) (rfl) ?_
  .obtain⟨b,o,rfl,P,e2⟩:=t3 v hv;rw[<-e2];exact(W.Looks.ld P).andThen .now
  have hn:0<g.length:=`o
  refine TZ (c:=fun i j=>iT (d.getD i []) (d.getD j [])) (fun i j C w hj hC=>?_) (Kf hn) ?_
  .have gi:∀i,i<g.length->TupR O (g.getD i Value.none) (d.getD i []):=fun i w=>by
    have Cl:i<d.length:=`o
    obtain⟨a,ha,hx⟩:=Paired.get Y (q_ Cl)
    simp_all
   exact Q3 (gi i w) (gi j hj) (by have:=hr.un;grind) hC
  .refine W.KasFin.intro F' E (.head fun q M z=>?_) fun h3 c F3 R=>?_
   .grind
   .have oD:=(R _ h_)
    have dl:∀i∈mX f.length (fun i j=>iT (d.getD i []) (d.getD j [])),i<f.length:=fun i w=>C7 w;have e0:(tu (fun i j=>iT (d.getD i []) (d.getD j [])) (W.kas_sort g.length)).toList=mX f.length (fun i j=>iT (d.getD i []) (d.getD j [])):=by
     unfold mX
     grind
    rw[e0]at oD;refine⟨.ref D,_,Inv.laidN (t':=_) I Z oD.2.1 (U F3 R) (fun m hm=>by rw[HU hm F.ns];exact F3.ns) oD.1 (Ku t _ dl) ?_,rfl,q D ?_⟩
    .have:=(C9 f.length fun i j=>iT (d.getD i []) (d.getD j [])).length_eq
     simp_all
    .cases z:H D with
    |none=>rfl
    |some u=>exact Q_f Z (fJ.isS (I.hok D u z))
end
def pL:D->Option (List Int)
|.tup ds=>lj ds
|_=>none
def pE:List D->Option (List (List Int))
|[]=>some []
|d::ds=>(pL d).bind fun k=>(pE ds).map (k::·)
def xO:D->Option (List (List Int))
|.tup (d::ds)=>pE (d::ds)
|_=>none
def pK:List D->Option (List (List (List Int)))
|[]=>some []
|d::ds=>(xO d).bind fun k=>(pK ds).map (k::·)
def Bl:List D->Option D
|[.lst ds]=>(pK ds).bind fun kss=>if ds.length<64 then some (.lst (sO .non ds kss))else none
|_=>none
section
variable{G:GH}
theorem QW(Y:cK K G H)(h:dJ K G xs ds)(e:pE ds=some U):Paired (FV K H) xs U:=by induction h generalizing U with
|nil=>cases e;exact .nil
|@cons x d xs ds r t i=>have Z:(pL d).bind _=some U:=e;cases c:pL d with
 |none=>simp_all
 |some k=>rw[c]at Z;cases b:pE ds with
  |none=>simp_all
  |some g=>rw[b]at Z;cases Z;exact .cons ((fun Y r e=>by cases d with
     |tup ds=>obtain⟨a,xs,rfl,s,f⟩:=r.tup Y;have:=JG Y f e;subst this;exact⟨a,rfl,s⟩
     |_=>cases e) Y r c) (i b)
theorem PL(Z:cK K G H)(r:RG K G v d)(e:xO d=some U):AR K H v U:=by cases d with
|tup Y=>cases Y with
 |nil=>cases e
 |cons d Y=>
   obtain⟨a,b,rfl,s,c⟩:=r.tup Z;exact⟨a,b,rfl,s,QW Z c e,(by have i:(pL d).bind _=some U:=e;cases h:pL d with
     |none=>simp_all
     |some k=>cases g:pE Y with
      |none=>simp_all
      |some f=>grind)⟩
|_=>cases e
theorem QX(f:cK K G H)(h:dJ K G xs ds)(e:pK ds=some U):Paired (AR K H) xs U:=by induction h generalizing U with
|nil=>cases e;exact .nil
|@cons x d xs ds r t c=>have Y:(xO d).bind _=some U:=e;cases a:xO d with
 |none=>simp_all
 |some k=>rw[a]at Y;cases Z:pK ds with
  |none=>simp_all
  |some b=>rw[Z]at Y;cases Y;exact .cons (PL f r a) (c Z)
theorem JD(r:dJ K G xs ds):∀(U:List Nat),(∀i∈U,i<ds.length)->dJ K G (U.map fun i=>xs.getD i .non) (U.map fun i=>ds.getD i .non)
|[],_=>.nil
|i::U,h=>by refine .cons ?_ (JD r U fun j Y=>h j (i_ _ Y));have Z:=h i h_;obtain⟨u,b,a⟩:=Paired.get r (q_ Z);simp_all
end
section
variable{k:Nat}
theorem SK(v:Room k X.A)(z:Gl X "sorted")(w:X.mg "sorted" = none)(B:jd X g m [a] fl)(u:!Sx X a []):SO X g m (.Call (.Name "sorted" p) [a] [] pos) (fC fl Bl):=by
 refine GG ?_ (nA (U6 v) z w (by first|grind|rfl) B `d `d u rfl);intro G H C E d Q Z n e q;unfold Bl at e;split at e
 .rename_i zs;cases f:pK zs with
 |none=>rw[f]at e;cases e
 |some c=>
   rw[f]at e;have h:(if zs.length<64 then some _ else none)=some d:=e;by_cases Y:zs.length<64
   .rw[Q_d Y]at h;cases h;cases n with
   |cons o t=>cases t;obtain⟨b,j,rfl,s,r⟩:=o.lst Z;have x:=Paired.length r;refine⟨b,j,c,rfl,s,QX Z r f,`o,fun l U=>q l G _ (Grow.new Z U _) U ⟨Z.isN U,.lst cX ?_⟩⟩;unfold sO;rw[x];exact JD r _ fun i y=>C7 y
   simp_all
 .cases e
end
end DL
namespace DL
open PySem PyProof.Rows PySem.SeqAt PySem.MeetsSeq PySem.MeetsSeq2 PySem.MeetsSeq3 L2
section
open PySem.AutoSeq1 (wpAny_loadPart')
end
end DL
namespace DL
open PySem PySem.Spec PyProof.Rows L2
section
variable{X:Cx}{pz:List (Addr×Obj)}{σ:L2.St}{H:Hp}{s:d_}
theorem Inv.keptN(I:Inv X pz σ H s)(k:∀b o,b≠X.env.locals->s.heap.get? b=some o->h'.get? b=some o)(Y:∀m,s.heap.Ns X.env.locals m->h'.Ns X.env.locals m)(t':Nat):Inv X pz σ H { s with heap:=h',toks:=t' }:=by
 have U:∀b u,H b=some u->b≠X.env.locals:=fun b u e z=>by rw[z,I.free]at e;cases e
 refine I.step (g':=s.gens) (d':=s.drawn) (ch:=[]) (fun b a=>Q_f a `s) (fun b Z f _ _ e _=>k b Z f e) (fun b Z f _ _ e _=>⟨Z.slots,k b Z f e⟩) (fun b Z _ e n=>n)
  (fun b Z _ e=>?_) (fun b g e=>e) (fun b Z u e=>e) (fun b j e=>⟨#[],by rw[e];simp⟩) Y (fun b u e=>?_) I.bare
 .by_cases a:b=X.env.locals
  .subst a;obtain⟨m,h,_⟩:=I.loc;obtain⟨o,_,_,d,_⟩:=Y m h;exact⟨o,d⟩
  .exact⟨Z,k b Z a e⟩
 .refine(I.hok b u e).stay (fun c v i q=>k c v ?_ q) (fun c q=>q) fun c g q=>q;rcases i with z|z
  .rw[z];exact U b u e
  .exact U c _ z
theorem Inv.keptF(I:Inv X pz σ H s)(F:Fr X.base X.env.locals s.heap U)(Y:Fr X.base X.env.locals h' U)(N':News X.base X.env.locals h' (uB X.base s.heap X.env.locals))(t':Nat):Inv X pz σ H { s with heap:=h',toks:=t' }:=by refine Inv.keptN I (fun b o c e=>?_) (fun m a=>by rw[HU a F.ns];exact Y.ns) t';cases z:X.base.get? b with
|some Z=>have:=I.bk b Z z;rw[e]at this;cases this;exact Y.keep b o z
|none=>exact(N' _ (DY c z e)).1
theorem RI(a:X.calm=true):gT X (.builtin "min") (fun xs H Q=>∃i j:Int,xs=[.int i,.int j]/\Q (.int (if j<i then j else i)) H):=by intro f s d H xs e Q I r h;obtain⟨i,j,rfl,q⟩:=h;cases r with
|cons Z r=>cases r with
 |cons Y r=>cases r;obtain⟨t,rfl⟩:=Z;obtain⟨u,rfl⟩:=Y;obtain⟨g,F⟩:=I.fr;exact min_two_N (I.ok.hd a) F (Cu) fun k U c b=>⟨.int _,_,Inv.keptF I F c b U,⟨_,rfl⟩,q⟩
theorem RH(a:X.calm=true):gT X (.builtin "max") (fun xs H Q=>∃i j:Int,xs=[.int i,.int j]/\Q (.int (if j>i then j else i)) H):=by intro f s d H xs e Q I r h;obtain⟨i,j,rfl,q⟩:=h;cases r with
|cons Z r=>cases r with
 |cons Y r=>cases r;obtain⟨t,rfl⟩:=Z;obtain⟨u,rfl⟩:=Y;obtain⟨g,F⟩:=I.fr;exact max_two_N (I.ok.hd a) F (Cu) fun k U c b=>⟨.int _,_,Inv.keptF I F c b U,⟨_,rfl⟩,q⟩
end
noncomputable def minD:List D->Option D
|[.int i,.int j]=>some (.int (if j<i then j else i))
|_=>none
noncomputable def maxD:List D->Option D
|[.int i,.int j]=>some (.int (if j>i then j else i))
|_=>none
section
variable{X:Cx}{g:GE}{m:List Md}{e a b:Expr}{es:List Expr}{fl:aI->Res (List D)}{fa fb:FE}{pos p:Pos}
theorem YM(i:X.calm=true)(f:Gl X "min")(c:X.mg "min" = none)(j:jd X g m (e::es) fl)(h:!Sx X e es)(U:!Bx X pos es) :
  SE X g m (.Call (.Name "min" p) (e::es) [] pos) (fC fl minD):=ju (by
     intro G H k l d Q Y Z e q;unfold minD at e;split at e
     .cases e;cases Z with
     |cons b t=>cases t with
      |cons a t=>cases t;exact⟨_,_,by rw[b.int Y,a.int Y],q _ G H (Grow.refl Y) (.scl (.int _))⟩
     .cases e) (nA (RI i) f c PyProof.Rows.boot_min j `d (rfl) h U)
theorem YL(i:X.calm=true)(f:Gl X "max")(c:X.mg "max" = none)(j:jd X g m (e::es) fl)(h:!Sx X e es)(U:!Bx X pos es) :
  SE X g m (.Call (.Name "max" p) (e::es) [] pos) (fC fl maxD):=ju (by
     intro G H k l d Q Y Z e q;unfold maxD at e;split at e
     .cases e;cases Z with
     |cons b t=>cases t with
      |cons a t=>cases t;exact⟨_,_,by rw[b.int Y,a.int Y],q _ G H (Grow.refl Y) (.scl (.int _))⟩
     .cases e) (nA (RH i) f c PyProof.Rows.boot_max j `d (rfl) h U)
end
section
open PySem.AutoSeq1 (wpAny_loadPart')
end
end DL
namespace DL
open PySem PyProof.Rows PySem.W
section
variable{n:Nat}{c:Nat->Nat->Bool}(as:∀i j,c i j=true->c j i=false)(tr:∀i j k,c j i=false->c k j=false->c k i=false)
include tr in
include as tr in
include tr in
include as tr in
include as tr in
include as tr in
include as tr in
include as tr in
include as tr in
include as tr in
include as tr in
include as tr in
end
end DL
namespace DL
open PySem PySem.Spec PyProof.Rows L2
variable{X:Cx}{pz:List (Addr×Obj)}{σ:L2.St}{H:Hp}{s:d_}
theorem Tv(bs:List Bool):((x_ bs.length).all fun i=>bs.getD i true)=bs.all id:=by
 rw[À,P_,P_];constructor
 .intro h b hb;obtain⟨i,U,rfl⟩:=List.getElem_of_mem hb;have:=h i (D_.mpr U);simp_all
 .intro h i U;have U:=D_.mp U;have:=h bs[i] (Ŗ _);simp_all
theorem U4(R:X.calm=true)(I:Inv X pz σ H s){bs:List Bool}(hq:dq X.K H p (bs.map V.bl))(F:A.handled=none)(h:∀I G g n P St j it a,it=Value.ref I->Walks X.prog X.w A I G g n P St->St 0 a.heap->TruthOf X.prog X.w A P j->n=bs.length->(∀i,j i=bs.getD i true) ->(∀(h':Heap)(d:Nat),(∀(b:Addr)(o:Obj),¬b∈g->a.heap.get? b=some o->h'.get? b=some o)->Inv X pz σ H { a with heap:=h',toks:=d })->Q it a):u_ (y_ X.prog X.w) A (ķ (.ref p)) Q E s:=by
 obtain⟨c,l,y,O⟩:=I.list hq;have C:=l.length;rw[p_]at C;refine PySem.Flt.iter_list_ y.isList fun a M r B Z=>?_;refine h s.heap.objs.size [s.heap.objs.size,p] [s.heap.objs.size] c.toArray.size _ _ _ _ a rfl (Walks.list F _ p Z c.toArray) r ?_ `a (fun i=>rfl) fun h' d k=>?_
 .intro i v s' Q' E' hv hq';have U:=by simpa using hv
  have r:i<c.length:=(g_.mp U).1;have N:i<(bs.map V.bl).length:=`a
  obtain⟨u,x,t⟩:=l.get (i:=i) (q_ N);rw[U]at x;cases x;rw[List.getElem_map]at t;have f:=t;subst f;have e:bs.getD i true=bs[i]:=`a
  have Y:Q' (bs.getD i true) s':=hq';rw[e]at Y;exact f_ Y
 .subst M;have q:∀b o,s.heap.get? b=some o->¬ b∈[s.heap.objs.size]:=fun b o e z=>by have:=J_.mp z;subst this;exact Q_f (n_ e) (þ _)
  exact Inv.keptN I (fun b o _ e=>k b o (q b o e) (c_ _ e)) (fun m w=>by obtain⟨o,J,L,e,z⟩:=w;exact ⟨o,J,L,k _ _ (q _ _ e) (c_ _ e),z⟩) d
theorem RC(Y:X.calm=true):gT X (.builtin "all") (fun xs H Q=>∃(p:Addr)(bs:List Bool),xs=[.ref p]/\dq X.K H p (bs.map V.bl)/\Q (.bl (bs.all id)) H):=by intro y s w H xs x Q I r h;obtain⟨p,bs,rfl,d,q⟩:=h;obtain⟨u,rfl,c⟩:=ik r;cases c;refine call_all_walk (U4 Y I d (show X.A.in1.handled=none from I.ok.hd Y) fun J f Z n P St a it U v t o m l j i=>⟨J,f,Z,n,P,St,a,v,t,o,m,fun e b k=>?_⟩);have g:=funext j;rw[l,g,Tv];exact⟨.bl _,H,i e b k,rfl,q⟩
noncomputable def m5:List D->Option (List Bool)
|[]=>some []
|.bl b::ds=>(m5 ds).map (b::·)
|_=>none
theorem Pf{K:W.Frag}(a:cK K G H)(h:dJ K G xs ds)(e:m5 ds=some bs):xs=bs.map V.bl:=by induction h generalizing bs with
|nil=>cases e;rfl
|@cons x d xs ds r t Z=>cases d with
 |bl b=>have Y:(m5 ds).map _=some bs:=e;cases U:m5 ds with
  |none=>simp_all
  |some c=>rw[U]at Y;cases Y;rw[Z U,í,(RG.rb r).bl a]
 |_=>cases e
def allD:List D->Option D
|[.lst ds]=>(m5 ds).map fun bs=>.bl (bs.all id)
|_=>none
variable{g:GE}{m:List Md}{e:Expr}{pos p:Pos}
section
variable{es:List Expr}{fl:aI->Res (List D)}
theorem XB(j:X.calm=true)(h:Gl X "all")(f:X.mg "all" = none)(k:jd X g m (e::es) fl)(i:!Sx X e es)(U:!Bx X pos es) :
  SE X g m (.Call (.Name "all" p) (e::es) [] pos) (fC fl allD):=ju (by
     intro G H u v d Q Y a e q;unfold allD at e;split at e
     .rename_i zs;cases Z:m5 zs with
     |none=>rw[Z]at e;cases e
     |some n=>rw[Z]at e;cases e;cases a with
      |cons c t=>cases t;obtain⟨b,o,rfl,s,r⟩:=c.lst Y;have l:=Pf Y r Z;subst l;exact⟨b,n,rfl,s,q _ G H (Grow.refl Y) (.scl (.bl _))⟩
     .cases e) (nA (RC j) h f PyProof.Rows.boot_all k `d (rfl) i U)
end
def pw(h0 H:Hp):Prop:=∀a o,h0 a=some o->H a=some o
structure YieldsB(K:W.Frag)(h0:Hp)(J:It)(ds:List D)(G0:GH):Prop where
 go:∀G H (i:Nat),bU G0 G->cK K G H->pw h0 H->i<ds.length->J.go i H
 yld:∀G H (i:Nat) x H' d,bU G0 G->cK K G H->pw h0 H->J.yld i H x H'->ds[i]? = some d->∃G',Grow K G H G' H'/\RG K G' x d
 stop:∀G H,bU G0 G->cK K G H->pw h0 H->J.stop ds.length H
theorem Yields.toH{K:W.Frag}(y:Yields K J ds Y):YieldsB K a J ds Y:=⟨fun G H i w U _ Z=>y.go G H i w U Z,fun G H i x b d w U _ q e=>y.yld G H i x b d w U q e,fun G H w U _=>y.stop G H w U⟩
noncomputable def Y6(X:Cx)(g:GE)(m:List Md)(f:FI):TI:=fun σ H R=>∃r G,SI X g m r G σ H/\fin (f r) (fun ds=>∀J G' H',Grow X.K G H G' H'->YieldsB X.K g.h0 J ds G'->R J H') (XW X σ G H)
def qN(X:Cx)(g:GE)(m:List Md)(tg iter:Expr)(f:FI):Prop:=PI X tg iter (Y6 X g m f)
noncomputable def Y8(X:Cx)(g:GE)(m:List Md)(f:FE):TE:=fun σ H Q=>∃r G,SI X g m r G σ H/\fin (f r) (fun d=>∀v G' H',Grow X.K G H G' H'->Bw X.K g.h0 G' H' v d->Q v H') (XW X σ G H)
def FX(X:Cx)(g:GE)(m:List Md)(e:Expr)(f:FE):Prop:=PE X e (Y8 X g m f)
variable{pos2:Pos}{elts:List Expr}{kk:Nat}
section
variable{m' mb:List Md}{tg a iter:Expr}{f:FE}{ro:Bool}{sts:List Stmt}{s1:FS}
theorem vT(i:Nat){x:Str}(a:!m[i]? = some .bw)(c:!X.N[i]? = some x)(Z:gC X.env.scope x:=by first|exact Or.inl rfl|exact Or.inr (Or.inl rfl)|exact Or.inr (Or.inr rfl))(b:!!Nq x)(U:!!Nc x):FX X g m (.Name x pos) fun r=>eh r i:=by refine PE.imp (eV c Z b U) fun j H Q z=>?_;obtain⟨r,G,Y,q⟩:=z;obtain⟨d,e,k⟩:=zi q;obtain⟨v,h,f⟩:=Y.bw i d e a;exact⟨v,h,k _ G H (Grow.refl Y.gok) f⟩
theorem Ia{K:W.Frag}{a:Addr}(o:Own K Z Y a (.lst ds))(h:U a≠none)(c:pw U Y)(d:bU Z G)(b:pw U H):∃xs,dq K H a xs/\dJ K G xs ds:=by cases e:U a with
|none=>exact Q_f e h
|some u=>have g:=c a u e;have f:=b a u e;cases o.ob with
 |lst r s=>rw[g]at r;cases r;exact⟨_,dq.of f,dJ.mono s d⟩
theorem SI.oldIn{st:L2.St}(s:SI X g m r G st H):pw g.h0 H:=s.old
theorem yS(h:FX X g m e f):qN X g m tg e (df fV f):=by
 refine PI.imp (BP h) fun t H R f=>?_;obtain⟨r,G,j,q⟩:=f;refine ⟨r,G,j,bW (cJ q) fun d q v c Z w U=>?_⟩
 obtain⟨A,e,q⟩:=d9 q;cases d with
|lst b=>
  rcases U with U|⟨a,rfl,o,k⟩
  .obtain⟨a,xs,rfl,s,rs⟩:=U.lst w.ok;exact .inl ⟨a,rfl,⟨xs,s⟩,q _ c Z w (Ck U).toH⟩
  .cases o.ob with
  |lst r s=>exact .inl ⟨a,rfl,⟨_,dq.of r⟩,q _ c Z w ((fun h=>by
      refine⟨fun G H i w Y o z=>?_,fun G H i x Z d w Y o y e=>?_,fun G H w Y o=>?_⟩
      .obtain⟨xs,s,r⟩:=h G H w Y o;have u:=Paired.length r;exact⟨xs,xs[i],s,q_ `o⟩
      .obtain⟨xs,s,r⟩:=h G H w Y o;obtain⟨rfl,y⟩:=y;obtain⟨v,p,U⟩:=Paired.get r e;have:=y xs s;rw[p]at this;cases this;exact⟨G,Grow.refl Y,U⟩
      .obtain⟨xs,s,r⟩:=h G H w Y o;exact⟨xs,s,ł (Paired.length r)⟩) fun C B n _ l=>Ia o k (j.grow w).oldIn n l)⟩
|tup b=>
  rcases U with U|⟨a,rfl,o,k⟩
  .obtain⟨a,xs,rfl,s,rs⟩:=U.tup w.ok;exact .inr ⟨a,rfl,⟨xs,s⟩,q _ c Z w (BV U).toH⟩
  .cases o.ob
|_=>cases e
theorem Cj{K:W.Frag}{a:Hp}(h:∀G H,bU b G->cK K G H->pw a H->∃xs,Z H xs/\dJ K G xs ds):YieldsB K a (qQ Z) (fN 0 ds) b:=by
 refine⟨fun G H i w U o j=>?_,fun G H i x q d w U o y e=>?_,fun G H w U o=>?_⟩
 .obtain⟨xs,s,r⟩:=h G H w U o;rw[uO]at j;have m:=Paired.length r;exact⟨xs,xs[i],s,`s⟩
 .obtain⟨xs,s,r⟩:=h G H w U o;obtain⟨p,v,g,rfl,rfl,f⟩:=y;rw[CL]at e;cases Y:ds[i]? with
 |none=>rw[Y]at e;cases e
 |some n=>rw[Y]at e;simp  at e;subst e;obtain⟨l,k,c⟩:=Paired.get r Y;have:=f xs s;rw[k]at this;cases this;exact⟨_,Grow.newF U g (.tup (.inl cX) (.cons (.scl (.int _)) (.cons c .nil))),.ref gV⟩
 .obtain⟨xs,s,r⟩:=h G H w U o;rw[uO];exact⟨xs,s,Paired.length r⟩
theorem Qn(z:Gl X "enumerate")(y:X.mg "enumerate" = none)(A:FX X g m e f)(x:!Sx X e []):qN X g m (.Tuple elts kk pos2) (.Call (.Name "enumerate" p) [e] [] pos) (wT f):=by
 refine PI.imp (Ij z y A x) fun B H R f=>?_;obtain⟨r,G,j,q⟩:=f;refine ⟨r,G,j,bW (cJ q) fun d q v i h w U=>?_⟩
 obtain⟨C,e,q⟩:=d9 (cJ q);cases d with
|lst c=>
  rcases U with U|⟨a,rfl,o,k⟩
  .obtain⟨a,xs,rfl,s,rs⟩:=U.lst w.ok;refine .inl ⟨a,rfl,⟨xs,s⟩,q _ i h w (Cj fun G H Y Z _=>?_)⟩;obtain⟨b,l,e,n,t⟩:=(U.mono Y).lst Z
   grind
  .cases o.ob with
  |lst r s=>exact .inl ⟨a,rfl,⟨_,dq.of r⟩,q _ i h w (Cj fun F E Y _ u=>Ia o k (j.grow w).oldIn Y u)⟩
|tup c=>
  rcases U with U|⟨a,rfl,o,k⟩
  .obtain⟨a,xs,rfl,s,rs⟩:=U.tup w.ok;refine .inr ⟨a,rfl,⟨xs,s⟩,q _ i h w (Cj fun G H Y Z _=>?_)⟩;obtain⟨b,l,e,n,t⟩:=(U.mono Y).tup Z
   grind
  .cases o.ob
|_=>cases e
theorem sY(hp:ą (y_ X.prog X.w) X.A X.env X.xe)(hc:X.calm=true)(hi:qN X g m tg iter fi)(hg:SG X g m tg ft m)(hb:fU X g ro m m sts s1 m)(hs:!!!!Ix X iter):SS X g ro mb m (.For tg iter sts [] pos) (jR m fi ft s1) m:=by
 refine⟨rfl,PS.imp (tH hp hc hi hg.2 hb.2 hs) fun D N H ⟨r,G,K,q⟩=>⟨r,G,K,bW (iO K rfl q) fun k q J C H0 O Y=>?_⟩⟩;refine⟨fun i n N H=>∃r G,SI X g m r G N H/\bU C G/\i<=k.length/\n=k.length-i/\dF X g ro m mb G D (bN ft s1 (k.drop i) r),⟨k.length,r,C,K.grow O,bU.refl C,é _,rfl,dF.gle q O.ge⟩,?_⟩
 rintro i n F v ⟨P,B,b,f,hi,rfl,a⟩
 by_cases j:i<k.length
 .have hd:=Ď j;rw[hd]at a;unfold bN at a;refine .inr ⟨Y.go B v i f b.gok b.oldIn j,fun t z=>∃r G,SI X g m r G t z/\bU C G/\dF X g ro m mb G D _,fun t z w=>by obtain⟨l,E,I,h,W⟩:=w;exact ⟨_,`o,l,E,I,h,j,rfl,W⟩,fun x z y=>?_⟩;obtain⟨E,p,T⟩:=Y.yld B v i x z k[i] f b.gok b.oldIn y (q_ j);have h:=f.trans p.ge;cases M:ft k[i] P with
 |none=>simp only[M]at a;exact a.elim
 |some L=>simp only[M]at a;refine⟨P,E,k[i],b.grow p,T,L,M,fun Q BT=>⟨L,E,BT,?_⟩⟩;cases s:s1 L with
  |nx l=>simp only[s]at a;exact fun c o u U Z=>⟨l,o,Z,h.trans U,dF.gle a (bU.trans p.ge U)⟩
  |ct l=>simp only[s]at a;exact fun c o u U Z=>⟨l,o,Z,h.trans U,dF.gle a (bU.trans p.ge U)⟩
  |bk l=>simp only[s]at a;exact fun c o u U Z=>a c o u (bU.trans p.ge U) Z
  |rt d=>simp only[s]at a;exact a
  |exc x l=>simp only[s]at a;exact fun pz e R c o u U=>a pz e R c o u (bU.trans p.ge U)
  |stuck=>simp only[s]at a;exact a
 .have e:i=k.length:=`o
  subst e;rw[ġ]at a;exact .inl ⟨Y.stop B v f b.gok b.oldIn,a F B v (bU.refl _) b⟩
end
section
open HT (sIx)
section
variable{prog:o_}{w:F_}{A:I_}{E:a_->d_->Prop}{s:d_}
theorem Wi{e d:a_}{lo hi:Option Int}(b:Ø s.heap t a)(g:s.heap.IsSliceOf c e d .none)(j:Ð e lo)(i:Ð d hi)(f:sIx a.size 0 lo=0/\sIx a.size a.size hi=a.size)(h:Q (.ref t) s):u_ (y_ prog w) A (Ć (.ref t) (.ref c)) Q E s:=by
 obtain⟨k,Y,Z,l⟩:=id g;have U:s.TypeIs (.ref c) "slice" := ⟨k,Y,Z⟩
 unfold Ć
 try with_reducible refine ø ?_
 refine b_ (Qem b.typeIs (rfl) (b_ (ī b.typeIs Ĩ (ę Ĩ b.typeIs PyProof.Rows.entry_tuple_getitem ?_ (PyProof.Rows.args_tuple_getitem _ _)))));show u_ _ _ (QcK _ >>= _) _ _ s;refine b_ (PyProof.Rows.tupleItemsOf_ b (b_ (Ū U ?_)));refine b_ (HT.d6 g j i ?_);rw[f.1,f.2];show u_ _ _ (if (((0))==0&&(1)==1&&(a.size-0)==a.size)=true then _ else _) _ _ s;rw[Q_d `s];refine b_ (b_ (Ū b.typeIs (f_ ?_)));refine b_ (Ĵ ?_);exact f_ ⟨_,rfl,f_ h⟩
end
def Fc(K:W.Frag):V->Option Int->Option Int->Hp->VK->Prop:=fun x lo hi H Q=>∃a xs,x=.ref a/\e8 K H a xs/\(sIx xs.length 0 lo=0/\sIx xs.length xs.length hi=xs.length)/\Q (.ref a) H
theorem Sq:ma X (Fc X.K):=by
 intro n s j H x v l k o t m Q I c i e d h;obtain⟨a,b,rfl,f,g,q⟩:=h;cases c;obtain⟨Y,r,Z,p⟩:=I.tuple f;have U:Y.toArray.size=b.length:=by exact r.length.symm
 exact⟨"tuple",_,Ĩ.lookup,Z.typeIs,Wi Z i e d (by rw[U];exact g) ⟨.ref a,H,I,rfl,q⟩⟩
def AL(d:D)(lo hi:Option Int):Option D:=match d with
|.tup ds=>some (.tup (ie ds lo hi))
|.lst ds=>some (.lst (ie ds lo hi))
|_=>none
def ka(fa:FE)(fl fh:FP):FE:=fun r=>(fa r).bind fun d=>(fl r).bind fun lo=>(fh r).bind fun hi=>gj (AL d lo hi)
section
variable{X:Cx}{g:GE}{m:List Md}{e:Expr}{f fa:FE}{pos p2:Pos}
theorem Rj{R:V->Option Int->Option Int->Hp->Prop}(b:SI X g m r G σ H)(h:fin (ka fa i j r) q (XW X σ G H))(o:∀d lo hi v a U d',Grow X.K G H a U->RB X.K a U v d->AL d lo hi=some d'->q d'->R v lo hi U):tB X g m fa σ H fun x k=>tP X g m i σ k fun l U=>tP X g m j σ U fun u c=>R x l u c:=by refine⟨r,G,b,bW (cJ h) fun d w v z k Y n=>⟨r,z,b.grow Y,jr (cJ w) Y fun lo t a U Z=>⟨r,a,(b.grow Y).grow Z,?_⟩⟩⟩;refine jr (cJ t) (Y.trans Z) fun hi s y c f=>?_;obtain⟨d',e,p⟩:=d9 s;exact o d lo hi v y c d' ((Y.trans Z).trans f) ((n.mono Z).mono f) e p
theorem Tk{ds:List U}{lo hi:Option Int}(h:sIx ds.length 0 lo=0/\sIx ds.length ds.length hi=ds.length):ie ds lo hi=ds:=by unfold ie;rw[h.1,h.2];simp
theorem sM{lo hi:Option Expr}(o:SB X g m e f)(n:sk X g m lo h)(l:sk X g m hi i):SE X g m (.Subscript e (.Slice lo hi none p2) pos) (ka f h i):=by refine PE.imp (Jv (ma.or Sq (ma.or Rm Px)) o n l) fun x H Q f=>?_;obtain⟨r,G,j,q⟩:=f;refine Rj j q fun d lo hi v u t y w U e Z=>?_;cases d with
|tup Y=>
  cases e;rcases U with U|⟨z,_,k⟩
  .obtain⟨a,xs,rfl,s,r⟩:=U.tup w.ok;by_cases b:sIx Y.length 0 lo=0/\sIx Y.length Y.length hi=Y.length
   .refine .inl ⟨a,xs,rfl,s,by rw[Paired.length r];exact b,?_⟩;rw[Tk b]at Z;exact Z _ u t w U
   .rw[<-Paired.length r]at b;refine .inr (.inr ⟨a,xs,rfl,s,b,fun p c=>?_⟩);exact Z _ _ _ (w.trans (Grow.newF w.ok c (.tup (.inl cX) (N0 r lo hi)))) (.ref gV)
  .cases k.ob
|lst Y=>cases e;obtain⟨a,xs,rfl,s,r⟩:=U.lst w.ok;exact .inr (.inl ⟨a,xs,rfl,s,fun p c=>Z _ _ _ (w.trans (Grow.newF w.ok c (.lst (.inl cX) (N0 r lo hi)))) (.ref gV)⟩)
|_=>cases e
end
end
section
open AutoSeq1 (wpAny_loadPart')
structure ZA(zp ti to u1 u2:Addr)(f1 f2:List Addr):Prop where
 a1:ti≠zp
 a2:to≠zp
 a3:u1≠zp
 a4:u2≠zp
 a5:to≠u1
 a6:to≠u2
 a7:u1≠u2
 a8:ti≠to/\ti≠u1/\ti≠u2
 b1:zp∉f1/\to∉f1/\u2∉f1
 b2:zp∉f2/\to∉f2/\u1∉f2
theorem _root_.PySem.Draws.at'{prog:o_}{w:F_}{A:I_}{it:Addr}{U:List Addr}{n:Nat}{P:Nat->a_->Prop}{St:Nat->Heap->Prop}(D:È prog w A it U n P St){i:Nat}{h h':Heap}{c:Addr}(st:St i h)(e:Heap.ExtBut c h h')(Y:c∉U):St i h':=D.frame i h h' st fun b Z o q=>e b o (by rintro rfl;exact Y Z) q
section
variable{prog:o_}{w:F_}{A:I_}{E:a_->d_->Prop}{s:d_}{zp ti to u1 u2:Addr}{f1 f2:List Addr}{n1 n2:Nat}{P1 P2:Nat->a_->Prop}{St1 St2:Nat->Heap->Prop}{p q:a_}
theorem UI{Q:a_->d_->Prop}(Z:ZA zp ti to u1 u2 f1 f2)(f:È prog w A u1 f1 n1 P1 St1)(d:È prog w A u2 f2 n2 P2 St2)(m:ý s.heap zp ti to .none)(hi:ä s.heap ti (.ref u1) (.ref u2))(ho:ä s.heap to p q)(P:St1 i s.heap)(O:St2 i s.heap)(l1:i<n1)(X:i<n2)(hQ:∀x y h' N,P1 i x->P2 i y->ý h' zp ti to (ü s.heap.objs.size)->ä h' to x y->St1 (i+1) h'->St2 (i+1) h'->ä h' s.heap.objs.size x y->h'.objs.size=s.heap.objs.size+1 ->(∀c o,c≠zp->c≠to->c≠u1->c≠u2->s.heap.get? c=some o->h'.get? c=some o)->Q (.ref s.heap.objs.size) { s with heap:=h',toks:=N }):u_ (y_ prog w) A (ì.«zip.__next__» ⟨[.ref zp],[]⟩) (fun fin R=>∃v,fin=.done (.ret v)/\Q v R) E s:=by
 show u_ _ _ (field (.ref zp) 2 >>= _) _ _ _;refine b_ (Z_ m rfl (x:=.bool false) rfl ?_);refine b_ (Z_ m rfl (x:=.ref ti) rfl (b_ (ă hi rfl ?_)));refine b_ ?_;unfold Qb3;refine b_ (Z_ m rfl (x:=.none) rfl (f_ ?_));simp only[Q_k];refine b_ (Ĵ (b_ (Z_ m rfl (x:=.ref to) rfl (b_ (Į m `s fun g1 XL l=>?_)))));refine b_ ?_;simp only[QeE,QeS,ŵ,Qff];refine b_ (b_ (Ŋ ?_));refine b_ (f.item i _ _ _ l1 (f.at' P l.extBut Z.b1.1) fun x g2 t2 W ST k=>f_ ?_);have r:ä g2 to p q:=k.extBut _ _ Z.a5 (l.extBut _ _ Z.a2 ho);refine b_ (ă r rfl (b_ (Qct r fun g3 Y j=>?_)));replace Y:ä g3 to x q:=Y;refine b_ (QeM (f_ ?_));refine b_ (b_ (Ŋ ?_));refine b_ (d.item i _ _ _ X (d.at' (d.at' (d.at' O l.extBut Z.b2.1) k.extBut Z.b2.2.2) j.extBut Z.b2.2.1) fun y g4 t4 T Ty h=>f_ ?_);have K:ä g4 to x q:=h.extBut _ _ Z.a6 Y;refine b_ (ă K rfl (b_ (Qct K fun a U g=>?_)));replace U:ä a to x y:=U;refine b_ (QeM (f_ (f_ ?_)));refine b_ (ă U rfl (b_ (wpAny_newTuple ?_)));have n:a.objs.size=s.heap.objs.size:=by rw[g.1,h.1,j.1,k.1,l.1]
 have L:ý a zp ti to .ellipsis:=g.extBut _ _ Z.a2.symm (h.extBut _ _ Z.a4.symm (j.extBut _ _ Z.a2.symm (k.extBut _ _ Z.a3.symm XL)));have LT:St1 (i+1) a:=f.at' (f.at' (f.at' ST j.extBut Z.b1.2.1) h.extBut Z.b1.2.2) g.extBut Z.b1.2.1;have LE:St2 (i+1) a:=d.at' Ty g.extBut Z.b2.2.1;have G:zp<a.objs.size:=n_ L;refine b_ ?_;unfold QdV;have Tm:ý (a.push { cls:=.type "tuple",data:=.seq #[x,y] }) zp ti to .ellipsis:=c_ _ L;refine b_ (Į Tm `s fun g7 Zg C=>?_);refine Į Zg `s fun z I B=>?_;have u:∀c o,c≠zp->a.get? c=some o->z.get? c=some o:=fun c o t e=>B.extBut _ _ t (C.extBut _ _ t (c_ _ e));have J:ä z a.objs.size x y:=B.extBut _ _ (ÿ G) (C.extBut _ _ (ÿ G) (l_ _ rfl));have M:z.objs.size=a.objs.size+1:=by rw[B.1,C.1,Ê]
 rw[n]at I J M;refine f_ ⟨_,rfl,?_⟩;show Q (.ref a.objs.size) _;rw[n];refine hQ x y z _ W T I (u _ _ Z.a2 U) (f.frame _ _ _ LT fun b F o e=>u b o (by rintro rfl;exact Z.b1.1 F) e) (d.frame _ _ _ LE fun b F o e=>u b o (by rintro rfl;exact Z.b2.1 F) e) J M fun c o t H c3 c4 e=>u c o t ?_;exact g.extBut _ _ H (h.extBut _ _ c4 (j.extBut _ _ H (k.extBut _ _ c3 (l.extBut _ _ t e))))
theorem TL(Z:ZA zp ti to u1 u2 f1 f2)(k:È prog w A u1 f1 n1 P1 St1)(j:È prog w A u2 f2 n2 P2 St2)(f:ý s.heap zp ti to .none)(hi:ä s.heap ti (.ref u1) (.ref u2))(J:ä s.heap to p q)(y:St1 i s.heap)(I:St2 i s.heap)(U:i=n1\/(i<n1/\i=n2))(C:∀h' e H,(∀c o,c≠zp->c≠to->c≠u1->c≠u2->s.heap.get? c=some o->h'.get? c=some o)->(∃o,h'.get? e=some o/\o.cls=.type "StopIteration")->E (.ref e) { s with heap:=h',toks:=H }):u_ (y_ prog w) A (ì.«zip.__next__» ⟨[.ref zp],[]⟩) Q E s:=by
 show u_ _ _ (field (.ref zp) 2 >>= _) _ _ _;refine b_ (Z_ f rfl (x:=.bool false) rfl ?_);refine b_ (Z_ f rfl (x:=.ref ti) rfl (b_ (ă hi rfl ?_)));refine b_ ?_;unfold Qb3;refine b_ (Z_ f rfl (x:=.none) rfl (f_ ?_));simp only[Q_k];refine b_ (Ĵ (b_ (Z_ f rfl (x:=.ref to) rfl (b_ (Į f `s fun W G d=>?_)))));refine b_ ?_;simp only[QeE,QeS,ŵ,Qff];refine b_ (b_ (Ŋ ?_));rcases U with U|⟨m,U⟩
 .subst U;refine b_ (k.done _ _ _ (k.at' y d.extBut Z.b1.1) fun r e a n=>?_);obtain⟨l,t,Y⟩:=n;have O:ý r zp ti to .ellipsis:=a _ _ Z.a3.symm G;have v:e≠zp:=fun x=>by grind
  exact Į O `s fun F _ b=>C F e _ (fun c o h _ u _ x=>b.extBut _ _ h (a _ _ u (d.extBut _ _ h x))) ⟨l,b.extBut _ _ v t,Y⟩
 .subst U;refine b_ (k.item _ _ _ _ m (k.at' y d.extBut Z.b1.1) fun x r R T KK a=>f_ ?_);have g:ä r to p q:=a.extBut _ _ Z.a5 (d.extBut _ _ Z.a2 J);refine b_ (ă g rfl (b_ (Qct g fun F X b=>?_)));refine b_ (QeM (f_ ?_));refine b_ (b_ (Ŋ ?_));refine b_ (j.done _ _ _ (j.at' (j.at' (j.at' I d.extBut Z.b2.1) a.extBut Z.b2.2.2) b.extBut Z.b2.2.1) fun L e B n=>?_);obtain⟨l,t,Y⟩:=n;have P:ý L zp ti to .ellipsis:=B _ _ Z.a4.symm (b.extBut _ _ Z.a2.symm (a.extBut _ _ Z.a3.symm G));have v:e≠zp:=fun x=>by grind
  exact Į P `s fun K _ z=>C K e _ (fun c o h N u M x=>z.extBut _ _ h (B _ _ M (b.extBut _ _ N (a.extBut _ _ u (d.extBut _ _ h x))))) ⟨l,z.extBut _ _ v t,Y⟩
theorem VX(Z:ZA zp ti to u1 u2 f1 f2)(z:È prog w A.in1 u1 f1 n1 P1 St1)(v:È prog w A.in1 u2 f2 n2 P2 St2)(Y:ý s.heap zp ti to .none)(hi:ä s.heap ti (.ref u1) (.ref u2))(g:ä s.heap to p q)(d:St1 i s.heap)(b:St2 i s.heap)(f:i<n1)(e:i<n2)(h:∀x y h' U,P1 i x->P2 i y->ý h' zp ti to (ü s.heap.objs.size)->ä h' to x y->St1 (i+1) h'->St2 (i+1) h'->ä h' s.heap.objs.size x y->h'.objs.size=s.heap.objs.size+1 ->(∀c o,c≠zp->c≠to->c≠u1->c≠u2->s.heap.get? c=some o->h'.get? c=some o)->Q (some (.ref s.heap.objs.size)) { s with heap:=h',toks:=U }):u_ (y_ prog w) A (pyNext (.ref zp)) Q E s:=by
 have a:s.TypeIs (.ref zp) "zip" := ⟨_,Y,rfl⟩
 exact b_ (ũ (ī a F.slot_zip_next (ę F.slot_zip_next a F.entry_zip_next
   (UI Z z v Y hi g d b f e fun x y h' U u t r n b5 m l k j=>f_ (h x y h' U u t r n b5 m l k j)) (F.args_zip_next_1 _))))
theorem WK(Z:ZA zp ti to u1 u2 f1 f2)(n:È prog w A.in1 u1 f1 n1 P1 St1)(m:È prog w A.in1 u2 f2 n2 P2 St2)(b:ý s.heap zp ti to .none)(hi:ä s.heap ti (.ref u1) (.ref u2))(Y:ä s.heap to p q)(g:St1 i s.heap)(f:St2 i s.heap)(U:i=n1\/(i<n1/\i=n2))(l:∀h' a,(∀c o,c≠zp->c≠to->c≠u1->c≠u2->s.heap.get? c=some o->h'.get? c=some o)->Q none { s with heap:=h',toks:=a }):u_ (y_ prog w) A (pyNext (.ref zp)) Q E s:=by
 have d:s.TypeIs (.ref zp) "zip" := ⟨_,b,rfl⟩
 refine b_ (ũ (ī d F.slot_zip_next (ę F.slot_zip_next d F.entry_zip_next (TL Z n m b hi Y g f U fun h' e a h j=>?_) (F.args_zip_next_1 _))));obtain⟨o,Y,k⟩:=j;exact b_ (wpAny_isInstance ⟨o,Y,k⟩ isSubtype_stop (f_ (l _ _ h)))
end
noncomputable abbrev n6(c:String)(l:Addr):Obj:={ cls:=.type c,data:=.fields #[.ref l,.int 0 0] }
abbrev zQ(h:Heap)(c1 c2:String)(l1 l2:Addr):Heap:=(h.push (n6 c1 l1)).push (n6 c2 l2)
abbrev zP(h:Heap)(c1 c2:String)(l1 l2:Addr):Heap:=(zQ h c1 c2 l1 l2).push { cls:=.type "tuple",data:=.seq #[.ref h.objs.size,.ref (h.push (n6 c1 l1)).objs.size] }
abbrev rK(h:Heap)(c1 c2:String)(l1 l2:Addr):Heap:=(zP h c1 c2 l1 l2).push { cls:=.type "tuple",data:=.seq #[.none,.none] }
abbrev oV(h:Heap)(c1 c2:String)(l1 l2:Addr):Heap:=(rK h c1 c2 l1 l2).push { cls:=.type "zip",data:=.fields #[.none,.bool false,.bool false,.ref (zQ h c1 c2 l1 l2).objs.size,.ref (zP h c1 c2 l1 l2).objs.size] }
noncomputable abbrev n5(t:Bool):String:=match t with
|false => "list_iterator"
|true => "tuple_iterator"
theorem Gk(e:pk t l xs s.heap)(h:Q (.ref s.heap.objs.size) { s with heap:=s.heap.push (n6 (n5 t) l) }):u_ (y_ prog w) A (ķ (.ref l)) Q E s:=by cases t with
|false=>exact Qes e h
|true=>exact ĭ e h
theorem Sw(t1 t2:Bool)(Y Z:Addr)(xs a:Array a_):Meets (ì.«zip.__new__» ⟨[.type "zip",.ref Y,.ref Z],[]⟩) (fun _ R s=>pk t1 Y xs s.heap/\pk t2 Z a s.heap /\R (.ok (.ret (.ref (rK s.heap (n5 t1) (n5 t2) Y Z).objs.size))) { s with heap:=oV s.heap (n5 t1) (n5 t2) Y Z }):=
 .of_wp fun c w A R s h=>by
  obtain⟨e,f,g,b,d⟩:=s;obtain⟨j,i,h⟩:=h;have U:=sub_zip;have l:pk t1 Y xs (QeL ⟨e,f,g,b,d⟩):=j;have k:pk t2 Z a (QeL ⟨e.push (n6 (n5 t1) Y),f,g,b,d⟩):=SL i fun o=>c_ _
  wp_walk using Gk l,Gk k
  exact⟨_,rfl,h⟩
section
variable{prog:o_}{w:F_}{A:I_}{E:a_->d_->Prop}{s:d_}
def wX(s:d_)(c1 c2:String)(l1 l2:Addr)(Q:a_->d_->Prop):Prop:=∀h',ý h' (s.heap.objs.size+4) (s.heap.objs.size+2) (s.heap.objs.size+3) .none->ä h' (s.heap.objs.size+2) (.ref s.heap.objs.size) (.ref (s.heap.objs.size+1)) ->ä h' (s.heap.objs.size+3) .none .none->h'.get? s.heap.objs.size=some (n6 c1 l1)->h'.get? (s.heap.objs.size+1)=some (n6 c2 l2) ->(∀c o,s.heap.get? c=some o->h'.get? c=some o)->Q (.ref (s.heap.objs.size+4)) { s with heap:=h' }
theorem PR(h:wX s Y a U Z Q):(∃o,(oV s.heap Y a U Z).get? (rK s.heap Y a U Z).objs.size=some o/\o.cls=.type "zip")/\Q (.ref (rK s.heap Y a U Z).objs.size) { s with heap:=oV s.heap Y a U Z }:=by
 have e:(s.heap.push (n6 Y U)).objs.size=s.heap.objs.size+1:=Ê ..;have d:(zQ s.heap Y a U Z).objs.size=s.heap.objs.size+2:=by rw[Ê,e]
 have b:(zP s.heap Y a U Z).objs.size=s.heap.objs.size+3:=by rw[Ê,d]
 have g:(rK s.heap Y a U Z).objs.size=s.heap.objs.size+4:=by rw[Ê,b]
 have f:(oV s.heap Y a U Z).get? (rK s.heap Y a U Z).objs.size=some _:=l_ _ rfl;have i:(oV s.heap Y a U Z).get? (zP s.heap Y a U Z).objs.size=some _:=c_ _ (l_ _ rfl);have j:(oV s.heap Y a U Z).get? (zQ s.heap Y a U Z).objs.size=some _:=c_ _ (c_ _ (l_ _ rfl));have k:(oV s.heap Y a U Z).get? (s.heap.push _).objs.size=some _:=c_ _ (c_ _ (c_ _ (l_ _ rfl)));have l:(oV s.heap Y a U Z).get? s.heap.objs.size=some _:=c_ _ (c_ _ (c_ _ (c_ _ (l_ _ rfl))));rw[d,b,g]at f;rw[e,d]at j;rw[b]at i;rw[e]at k;rw[g];exact⟨⟨_,f,rfl⟩,h _ f j i l k fun c o x=>c_ _ (c_ _ (c_ _ (c_ _ (c_ _ x))))⟩
end
end
theorem Ik(e:h.get? u=some (n6 (n5 t) a)):n8 t a u 0 h:=by cases t <;> exact⟨_,e,rfl,rfl⟩
section
variable{t:Bool}{a u:Addr}{xs ys:List V}{i:Nat}
theorem TY{ch:List Addr}(I:Inv X pz σ H s)(U:∀b∈ch,gp X pz H b)(k:∀b Y,b∉ch->s.heap.get? b=some Y->h'.get? b=some Y):Inv X pz σ H { s with heap:=h',toks:=t' }:=by
 have trk:∀b u,H b=some u->b∉ch:=fun b u e Z=>by rw[(U b Z).1]at e;cases e
 refine I.step (fun b Z=>?_) `a (fun b Y _ _ a e _=>⟨Y.slots,k b Y a e⟩) `a
  `a `s `s (fun b g e=>⟨#[],by rw[e];simp⟩) (fun m d=>?_) (fun b u e=>?_) I.bare
 .obtain⟨z0,z1,z2,z3,z4,z5⟩:=U b Z
  grind
 .obtain⟨Y,es,ep,ho,r⟩:=d;exact⟨Y,es,ep,k _ Y (fun Z=>(U _ Z).2.1 rfl) ho,r⟩
 .refine(I.hok b u e).stay (fun c v a q=>k c v ?_ q) (fun c q=>q) fun c f q=>q
  grind
end
noncomputable def FZ(sq1 sq2:Hp->List V->Prop):It:=⟨fun i H=>∃xs ys x y,sq1 H xs/\sq2 H ys/\xs[i]? = some x/\ys[i]? = some y,fun i H x H'=>∃p v u,H p=none/\x=.ref p/\H'=aO H p (.tup [v,u])/\(∀xs,sq1 H xs->xs[i]? = some v)/\∀ys,sq2 H ys->ys[i]? = some u,fun i H=>∃xs ys,sq1 H xs/\sq2 H ys/\min xs.length ys.length=i⟩
theorem SN(U:h.get? T=some { cls:=.type "tuple",data:=.seq #[x,y] })(r1:L2.aR v x)(r2:L2.aR u y):fJ P w H h T (.tup [v,u]):=⟨by show 2<=sizeLine;decide,[x,y],.cons r1 (.cons r2 .nil),⟨_,U,rfl,0,rfl⟩,_,U,rfl⟩
theorem TK{K:W.Frag}(a b zp ti to u1 u2:Addr)(Z:ZA zp ti to u1 u2 [u1,a] [u2,b])(h1:a≠u1)(h2:b≠u2):Turn P w K (.Tuple elts k pos) (FZ (iK K t1 a) (iK K t2 b)) [zp,ti,to,u1,u2] zp (fun i h=>ý h zp ti to .none/\ä h ti (.ref u1) (.ref u2)/\(∃p q,ä h to p q)/\n8 t1 a u1 i h/\n8 t2 b u2 i h) where
 mem:=`s
 obj:=fun i h st c hc=>by
  obtain⟨hz,hi,⟨p,q,ho⟩,s1,s2⟩:=st;simp only[m_,Ó,Q_j]at hc;rcases hc with rfl|rfl|rfl|rfl|rfl
  .simp_all
  .simp_all
  .simp_all
  .exact rD s1
  .exact rD s2
 keep:=fun i h h' st kk=>by obtain⟨hz,hi,⟨p,q,ho⟩,s1,s2⟩:=st;exact⟨kk zp `s _ hz,kk ti `s _ hi,⟨p,q,kk to `s _ ho⟩,rP s1 fun o e=>kk u1 `s o e,rP s2 fun o e=>kk u2 `s o e⟩
 item:=by
  intro X hP hw hK hc i pz s σ H E I hf st hg;subst hP hw hK;obtain⟨xs,ys,x,y,q1,q2,hx,hy⟩:=hg;obtain⟨hz,hi,⟨p,q,ho⟩,s1,s2⟩:=st;obtain⟨BT,St1,Y,D1,d1,f1⟩:=q9 I hc q1 h1 s1;obtain⟨Cl,St2,dl,D2,d2,f2⟩:=q9 I hc q2 h2 s2;have l1:i<BT.toArray.size:=by have:=(g_.mp hx).1;rw[E_,<-Y.length];exact this
  have l2:i<Cl.toArray.size:=by have:=(g_.mp hy).1;rw[E_,<-dl.length];exact this
  refine VX Z D1 D2 hz hi ho d1 d2 l1 l2 fun vx vy h' tk px py Tm Id LT KK hT hsz hk=>⟨_,rfl,wpAny_letOwnedTupleGo_zip Tm fun ST IO U=>?_⟩
  obtain⟨wx,e1,r1⟩:=Y.get hx;obtain⟨wy,e2,r2⟩:=dl.get hy;have ex:vx=wx:=`g
  have ey:vy=wy:=`g
  subst ex ey;have nT:∀c o,s.heap.get? c=some o->s.heap.objs.size≠c:=fun c o e=>ÿ (n_ e);have LE:=(U.2 _ (nT _ _ hz)).trans hT;obtain⟨o1,Ty,_⟩:=rD s1;obtain⟨o2,ho2,_⟩:=rD s2;refine⟨.ref s.heap.objs.size,aO H s.heap.objs.size (.tup [x,y]),JU (s:=s) (h':=ST) (t':=tk) (ch:=[zp,to,u1,u2]) I (fun c hc=>hf c ?_) (fun c ob hb e=>?_) (k_ _) (SN LE r1 r2),rfl,⟨_,x,y,I.hok.fresh (k_ _),rfl,rfl,fun zs hz=>by rw[Cf I hz q1];exact hx,fun zs hz=>by rw[Cf I hz q2];exact hy⟩,⟨IO,?_,⟨vx,vy,?_⟩,?_,?_⟩,fun c hc=>?_⟩
  .grind
  .simp only[m_,Ó,Q_j,not_or]at hb;exact(U.2 c hb.1).trans (hk c ob hb.1 hb.2.1 hb.2.2.1 hb.2.2.2 e)
  .exact(U.2 _ Z.a1).trans (hk _ _ Z.a1 Z.a8.1 Z.a8.2.1 Z.a8.2.2 hi)
  .exact(U.2 _ Z.a2).trans Id
  .exact rP (f1 _ _ LT) fun o e=>(U.2 _ Z.a3).trans e
  .exact rP (f2 _ _ KK) fun o e=>(U.2 _ Z.a4).trans e
  .rw[bL ?_]
   .exact(hf c hc).1
   grind
 done:=by
  intro X hP hw hK hc i pz s σ H E I hf st hg;subst hP hw hK;obtain⟨xs,ys,q1,q2,hm⟩:=hg;obtain⟨hz,hi,⟨p,q,ho⟩,s1,s2⟩:=st;obtain⟨BT,St1,Y,D1,d1,f1⟩:=q9 I hc q1 h1 s1;obtain⟨Cl,St2,dl,D2,d2,f2⟩:=q9 I hc q2 h2 s2;have l1:=Y.length;have l2:=dl.length;refine WK Z D1 D2 hz hi ho d1 d2 ?_ fun h' tk hk=>⟨rfl,TY (h':=h') (t':=tk) (ch:=[zp,to,u1,u2]) I (fun c hc=>hf c ?_) fun c ob hb e=>?_⟩
  .grind
  .grind
  simp_all
 self:=fun _ _ _ _ _ st h=>wpAny_pyIter_zip st.1 h
def l7(fa fb:FE):FI:=fun r=>(fa r).bind fun d=>(fb r).bind fun e=>(gj (fV d)).bind fun ds=>(gj (fV e)).bind fun es=>.ok (Ł (fun a b=>D.tup [a,b]) ds es)
theorem Tr{Y U Z:Type}(f:Y->U->Z):∀(l:List Y)(r:List U)(i:Nat),(Ł f l r)[i]? = (match l[i]?,r[i]? with|some a,some b=>some (f a b)|_,_=>none):=fun l r i=>by rw[Qdy];cases l[i]? <;> cases r[i]? <;> rfl
section
variable{e1 e2:Expr}{fa fb:FE}
theorem Pm(I:Inv X pz σ H s)(e:iK X.K t1 a H xs)(d:iK X.K t2 b H c)(h:wX s (n5 t1) (n5 t2) a b Q):u_ (y_ X.prog X.w) X.A (call (.type "zip") [.ref a,.ref b]) Q E s:=by obtain⟨Y,_,g⟩:=yX I e;obtain⟨U,_,f⟩:=yX I d;exact callType_new F.called_zip (rfl) (F.typeCall_zip_2 _ _) (F.newCall_zip_2 _ _) (fun Z=>F.args_object_init_3 Z _ _) F.entry_zip_new (Sw t1 t2 a b Y.toArray U.toArray) ⟨g,f,PR h⟩
theorem pI{x y:Nat}(h:x≠y):(show Addr from x)≠(show Addr from y):=h
theorem Ys(h:c=k+4\/c=k+2\/c=k+3\/c=k\/c=k+1):k<=c:=`o
theorem Ot(hg:Gl X "zip")(T:X.mg "zip" = none)(ha:PE X e1 v)(hb:PE X e2 t)(z:!B_ [e1,e2] X.env=(false,eval e1 X.env)::B_ [e2] X.env)(Z:!Sx X e2 [])(l:!(backTo pos (B_ [e2] X.env)).any (·.1)=false):PI X (.Tuple elts kk pos2) (.Call (.Name "zip" p) [e1,e2] [] pos) (fun σ H R=>v σ H fun x m=>t σ m fun y e=>∃(t1 t2:Bool)(a b:Addr),x=.ref a/\y=.ref b/\(∃xs,iK X.K t1 a e xs)/\(∃i,iK X.K t2 b e i)/\R (FZ (iK X.K t1 a) (iK X.K t2 b)) e):=by
 intro M s σ H R I h;refine Call_ (pH I hg T boot_zip (Š (bJ (gR ha (gR hb jT Z) z pos M s σ H (fun r e=>match r with
 |[x,y]=>∃(t1 t2:Bool)(a b:Addr),x=.ref a/\y=.ref b/\(∃xs,iK X.K t1 a e xs)/\(∃i,iK X.K t2 b e i)/\R (FZ (iK X.K t1 a) (iK X.K t2 b)) e
 |_=>False) I h) fun E d v=>?_) z l));obtain⟨r,m,f,L,g⟩:=v
 cases L with
|nil=>exact g.elim
|@cons x u xs E G J=>cases J with
|nil=>exact g.elim
|@cons y u' B C F Y=>cases Y with
|cons _ _=>exact g.elim
|nil=>
 obtain⟨t1,t2,a,b,rfl,rfl,⟨zs,o⟩,⟨ws,n⟩,q⟩:=g;cases G;cases F;have k:=rS f o;have j:=rS f n;refine Pm f o n fun h' w W Q O N P=>wpAny_pyIter_zip w ?_;refine⟨_,[d.heap.objs.size+4,d.heap.objs.size+2,d.heap.objs.size+3,d.heap.objs.size,d.heap.objs.size+1],_,_,m,rfl,f.kept (t':=d.toks) P,TK (t1:=t1) (t2:=t2) a b _ _ _ _ _ ((fun k j=>⟨pI `o,pI `o,pI `o,pI `o,pI `o,pI `o,pI `o,`s,`g,`g⟩) k j) (H_ k) (H_ (Ħ j)),⟨w,W,⟨_,_,Q⟩,Ik O,Ik N⟩,fun c A=>?_,q⟩;have U:d.heap.objs.size<=c:=by simp only[m_,Ó,Q_j]at A;exact Ys A
 exact f.fpOk U (f.hok.fresh U)
theorem A4(hg:Gl X "zip")(hm:X.mg "zip" = none)(ha:SE X g m e1 fa)(hb:SE X g m e2 fb)(hs:!B_ [e1,e2] X.env=(false,eval e1 X.env)::B_ [e2] X.env)(Y:!Sx X e2 [])(I:!(backTo pos (B_ [e2] X.env)).any (·.1)=false):kg X g m (.Tuple elts kk pos2) (.Call (.Name "zip" p) [e1,e2] [] pos) (l7 fa fb):=by
 refine PI.imp (Ot hg hm ha hb hs Y I) fun σ H R g=>?_;obtain⟨r,G,O,q⟩:=g;refine ⟨r,G,O,bW (cJ q) fun d q v G1 H1 A h=>⟨r,G1,O.grow A,?_⟩⟩
 refine jr (cJ q) A fun e q u N T z C=>?_;obtain⟨o,n,q⟩:=d9 (cJ q);obtain⟨es,ee,q⟩:=d9 (cJ q);have U:=h.mono z.ge;have l:∀{v:V}{d:D}{o:List D},RG X.K N v d->fV d=some o->∃(t:Bool)(a:Addr),v=.ref a/\(∃Z,iK X.K t a T Z)/\∀G H,bU N G->cK X.K G H->∃Z,iK X.K t a H Z/\dJ X.K G Z o:=by intro v d o h n;cases d with
 |lst M=>cases n;obtain⟨a,Z,rfl,s,rs⟩:=h.lst z.ok;refine⟨false,a,rfl,⟨Z,s⟩,fun G H F c=>?_⟩;obtain⟨b,f,e,B,E⟩:=(h.mono F).lst c;cases e;exact⟨f,B,E⟩
 |tup M=>cases n;obtain⟨a,Z,rfl,s,rs⟩:=h.tup z.ok;refine⟨true,a,rfl,⟨Z,s⟩,fun G H F c=>?_⟩;obtain⟨b,f,e,B,E⟩:=(h.mono F).tup c;cases e;exact⟨f,B,E⟩
 |_=>cases n
 obtain⟨t1,a,rfl,x1,y1⟩:=l U n;obtain⟨t2,b,rfl,x2,y2⟩:=l C ee;exact⟨t1,t2,a,b,rfl,rfl,x1,x2,q _ N T (A.trans z) ((fun L J=>by
    refine⟨fun G H i w c hi=>?_,fun G H i x H' d w c y e=>?_,fun G H w c=>?_⟩
    .obtain⟨Z,s1,r1⟩:=L G H w c;obtain⟨f,j,k⟩:=J G H w c;rw[Qcz]at hi;have l1:=Paired.length r1;have l2:=Paired.length k;exact⟨Z,f,Z[i]' `o,f[i]' `o,s1,j,q_ _,q_ _⟩
    .obtain⟨Z,s1,r1⟩:=L G H w c;obtain⟨f,j,k⟩:=J G H w c;obtain⟨p,v,u,hp,rfl,rfl,hv,hu⟩:=y;rw[Tr]at e;cases e1:o[i]? with
    |none=>rw[e1]at e;cases e
    |some d1=>cases e2:es[i]? with
     |none=>rw[e1,e2]at e;cases e
     |some d2=>rw[e1,e2]at e;cases e;obtain⟨v',z1,h⟩:=Paired.get r1 e1;obtain⟨u',W,C⟩:=Paired.get k e2;have Q:=hv Z s1;have P:=hu f j;rw[z1]at Q;cases Q;rw[W]at P;cases P;exact⟨_,Grow.newF c hp (.tup (.inl cX) (.cons h (.cons C .nil))),.ref gV⟩
    .obtain⟨Z,s1,r1⟩:=L G H w c;obtain⟨f,j,k⟩:=J G H w c;refine⟨Z,f,s1,j,?_⟩;rw[Qcz,Paired.length r1,Paired.length k]) y1 y2)⟩
end
end DL
namespace DL
open PySem PySem.Spec PyProof.Rows L2 PySem.W PySem.Calls
noncomputable def ss:Nat:=2^2000
def sy(i j:Int):Prop:=i.natAbs<ss/\j.natAbs<ss
def AU(_i j:Int):Prop:=0<j/\j.natAbs<ss
instance decMulW(i j:Int):Decidable (sy i j):=by unfold sy;infer_instance
instance decDivW(i j:Int):Decidable (AU i j):=by unfold AU;infer_instance
theorem HN(h:i.natAbs<ss):ž i<=2000:=by
 unfold ž;split
 .exact é _
 .rename_i z;have U:i.natAbs≠0:=fun e=>z `a;have:=(ŷ U).mpr h;assumption
theorem sy.ok(h:sy i j):IntMulOk i j:=by
 have Y:=HN h.1;have U:=HN h.2;unfold IntMulOk;have e:Qdz ((ž i)+(ž j))=false:=by
  unfold Qdz;have:((bitsLine))=134217728:=`d
  grind
 rw[e];simp
abbrev Fp:D->D->Option D:=m7 sy fun a b=>.int (a*b)
abbrev X3:D->D->Option D:=m7 AU fun a b=>.int (a/b)
variable{X:Cx}{g:GE}{m:List Md}{e a b c:Expr}{f fa fb:FE}{fl:aI->Res (List D)}{pos:Pos}
section
variable{o:Expr}{es:List Expr}{fc fo:FE}{p apos cpos:Pos}
theorem mC(Z:SB X g m a fa)(Y:SB X g m b fb):SE X g m (.BinOp a .Mult b pos) (f2 fa fb Fp):=mV (se fun _ _ _ _ _ _ _ U q=>mul_int q U.ok) (rQ fun _ _=>.int _) Z Y
theorem ID(Z:SB X g m a fa)(Y:SB X g m b fb):SE X g m (.BinOp a .FloorDiv b pos) (f2 fa fb X3):=mV (se fun i j _ _ _ _ _ U q=>by
   have e:(0:Int)<j:=U.1;have c:j.natAbs<ss:=U.2;have d:j.natAbs≠0:=`o
   have:=(ŷ d).mpr c;exact floordiv_int `o (by rw[QcP i `o];exact q) (.inl (PyProof.noPylong_of_log2 `o))) (rQ fun _ _=>.int _) Z Y
noncomputable def absD:List D->Option D
|[.int i]=>some (.int (if i<0 then-i else i))
|_=>none
theorem Xz(c:Gl X "abs")(b:X.mg "abs" = none)(h:jd X g m (e::es) fl)(f:!Sx X e es)(U:!Bx X pos es) :
  SE X g m (.Call (.Name "abs" p) (e::es) [] pos) (fC fl absD):=ju (by
     intro G H i j d Q Y Z e q;unfold absD at e;split at e
     .cases e;cases Z with
     |cons a t=>cases t;exact⟨_,by rw[a.int Y],q _ G H (Grow.refl Y) (.scl (.int _))⟩
     .cases e) (nA RA c b PyProof.Rows.boot_abs h `d (rfl) f U)
theorem za(b:Gl X x)(Z:∃a,X.mg x=some (.ref a)/\KC X.K a d)(c:!!Nq x):SE X g m (.Name x pos) fun _=>.ok d:=by obtain⟨a,Y,k⟩:=Z;exact PE.imp (tY (v:=.ref a) b Y rfl c) fun e H Q z=>by obtain⟨r,G,U,q⟩:=z;exact q _ G H (Grow.refl U.gok) (.kc k)
theorem Cc(Z:Gl X x)(Y:∃t,X.mg x=some (.int i t))(a:!!Nq x):SE X g m (.Name x pos) fun _=>.ok (.int i):=by obtain⟨t,U⟩:=Y;exact Hd (v:=.int i) Z U ⟨t,rfl⟩ (.int i) a
theorem XG{K:W.Frag}(Y:K.In h)(G:h.Ns M_ U)(z:W.nsIn K M_ x=some (some (.int i t))):∃t,U x=some (.int i t):=⟨t,W.mg_of Y G z⟩
theorem Xf{K:W.Frag}(Z:K.In h)(G:h.Ns M_ U){a:Addr}(z:W.nsIn K M_ x=some (some (.ref a)))(l:K.lookup a=some ⟨.type "tuple",none,.seq #[.int i t,.int j u] n,Y⟩):∃a,U x=some (.ref a)/\KC K a (.tup [.int i,.int j]):=by refine⟨a,W.mg_of Z G z,.tup (xs:=[.int i,.int j]) (.inr ⟨_,_,_,l,rfl,rfl,?_,.cons ⟨_,rfl⟩ (.cons ⟨_,rfl⟩ .nil)⟩) (.cons (.int _) (.cons (.int _) .nil)) ⟨_,l,rfl,rfl⟩⟩;show 2<=sizeLine;decide
def IM(K:W.Frag):V->List V->Hp->VK->Prop:=fun x vs H Q=>∃p xs y,x=.ref p/\vs=[y]/\dq K H p xs/\i6 y=true/\xs.all i6=true/\Q (.int ((xs.countP fun z=>jA z y:Nat):Int)) H
theorem Hw:∀{xs:List V}{us:List a_},aJ xs us->xs.all i6=true->us.countP (jL y)=xs.countP fun z=>jA z y
|_,_,.nil,_=>rfl
|x::xs,u::us,.cons r t,f=>by rw[Ĥ,L_]at f;rw[QeF,QeF,Hw t f.2,tK r f.1]
theorem KB:ku X "list.count" (IM X.K):=by
 intro L s E H x G v J Q I g i h;obtain⟨p,f,y,rfl,rfl,t,C,d,q⟩:=h;cases g;obtain⟨u,rfl,j⟩:=ik i;obtain⟨Y,r,k,M⟩:=I.list t;obtain⟨o,n,c,B,A,m⟩:=k;obtain⟨b,Z,a,U⟩:=o;subst B A m;refine Å PySem.F.slot_list_count ⟨_,c,rfl⟩ PySem.F.entry_list_count (PySem.F.args_list_count_2 _ _)
  (SeqAt.list_countAt p Y.toArray n none U u _) ⟨c,fun w l=>pY j C r d w (by simpa using l),⟨.int _,H,I.tok _,⟨_,rfl⟩,?_⟩⟩
 have e:(Y.toArray.toList.countP _)=f.countP fun z=>jA z y:=Hw r d;rw[e];exact q
def GP(d:D)(zs:List D):Option D:=match d,zs with
|.lst ds,[x]=>if eI x=true/\ds.all eI=true then some (.int ((ds.countP fun z=>jc z x:Nat):Int))else none
|_,_=>none
theorem KM{K:W.Frag}:qP K (IM K) GP:=by
 intro G H v d j k l Q U Z c e q;unfold GP at e;split at e
 .rename_i zs x;split at e
  .rename_i hc;cases e;cases c with
  |cons f b=>
    cases b;obtain⟨a,Y,rfl,s,r⟩:=Z.lst U;obtain⟨i,f1⟩:=RB.flat f U hc.1;obtain⟨h,g⟩:=A1 r U hc.2;refine⟨a,Y,_,rfl,rfl,s,f1,g,?_⟩;have:(Y.countP fun z=>jA z (jZ x))=zs.countP fun z=>jc z x:=by rw[h,List.countP_map];rfl
    rw[i,this];exact q _ G H (Grow.refl U) (.scl (.int _))
  .cases e
 .cases e
end
noncomputable def wO:bO->D
|.inl i=>.int i
|.inr x=>.str x
theorem Qv(k:bO):Scl (kV k) (wO k):=by cases k with
|inl i=>exact .int i
|inr x=>exact .str x
def sV:D->Option (List D)
|.dic kvs=>some (kvs.map fun kv=>wO kv.1)
|_=>none
noncomputable def F1(a:Addr)(ob:Obj)(ps:List (bO×V)):It:=⟨fun i H=>H a=some (.frz ob (.dK ps))/\i<ps.length,fun i H x H'=>H'=H/\∃kv,ps[i]? = some kv/\x=kV kv.1,fun i H=>H a=some (.frz ob (.dK ps))/\i=ps.length⟩
theorem OE(h:(lp P w).is k u=true):aR (kV k) u:=by
 rcases keyIs_shape h with⟨i,t,rfl,rfl⟩|⟨x,t,rfl,rfl⟩
 .exact⟨t,rfl⟩
 .exact⟨t,rfl⟩
section
variable{pz:List (Addr×Obj)}{σ:L2.St}{H:Hp}{s:d_}{a:Addr}{ob:Obj}{ps:List (bO×V)}
theorem B0(I:Inv X pz σ H s)(e:H a=some (.frz ob (.dK ps))){c:Array ĵ}(Y:ob.data=.dict c d):∃vs,KV ps vs/\s.heap.DictAt (lp X.prog X.w) a vs d/\(a==Û)=false:=by
 obtain⟨b,z,y,vs,r,j,g,U,Z,i,f,h⟩:=(I.hok a _ e)
 rw[b]at Z;cases Z;rw[Y]at f;cases f;exact⟨vs,r,⟨ob,c,b,i,Y,h⟩,y⟩
end
theorem UW{K:W.Frag}(a it:Addr)(j:G.data=.dict es N):Turn P w K Q (F1 a G F) [it] it (fun i h=>h.IsKeyIter it a i F.length N) where
 mem:=`s
 obj:=fun i h f b g=>by obtain⟨o,e,c,d⟩:=f;simp_all
 keep:=fun i h M f k=>f.at fun o e=>k it `s o e
 item:=by
  intro X v q x L i T s O H E I n f t;subst v q x;obtain⟨u,hi⟩:=t;obtain⟨C,r,m,_⟩:=B0 I u j;have l:=Paired.length r;have Y:i<C.length:=`o
  obtain⟨J,h1,h2⟩:=DL.Paired.get r (q_ Y);obtain⟨B,f1,f2,A,z,y⟩:=n it `s;rw[l]at f;refine wpAny_pyNext_dict_item f m (q_ Y) fun p M Z U R=>?_;have I1:=I.turned (t':=s.toks) (fun b o g e=>(R.2 b g).trans e) B f1 A z y;obtain⟨o,e,c,d⟩:=id U;exact⟨p,rfl,xH e c d (rfl) ⟨kV J.1,H,I1,by rw[h2.1];exact OE Z,⟨rfl,J,h1,rfl⟩,by rw[l];exact U,fun b g=>(n b g).1⟩⟩
 done:=by intro X v q x L i T s O H E I n f t;subst v q x;obtain⟨u,hi⟩:=t;obtain⟨C,r,m,_⟩:=B0 I u j;have l:=Paired.length r;obtain⟨B,f1,f2,A,z,y⟩:=n it `s;rw[l]at f;exact wpAny_pyNext_dict_end (I.ok.hd L) f m `a fun M eb=>⟨rfl,I.turned (fun b o g e=>eb b o g e) B f1 A z y⟩
 self:=fun _ _ _ _ _ f h=>wpAny_pyIter_keyiter f h
section
variable{m' m1 mb:List Md}{tg iter:Expr}{p:FQ}{pos':Pos}{ro:Bool}{sts:List Stmt}{s1:FS}
theorem Ii(g:PE X l i):PI X tg l (fun σ H R=>i σ H fun x d=>∃a c f,x=.ref a/\d a=some (.frz c (.dK f))/\R (F1 a c f) d):=by
 intro w s σ H R I h;refine bJ (g w s σ H _ I h) fun v j i=>?_;obtain⟨x,d,Z,t,u⟩:=i;obtain⟨a,c,f,e,k,q⟩:=u;subst e;cases t;obtain⟨m,n,Y⟩:∃(m:Array ĵ)(n:Nat),c.data=.dict m n:=by
    obtain⟨J,z,y,p,r,F,E,U,G,M,L,K⟩:=(Z.hok a _ k)
    simp_all
 obtain⟨p,r,A,B⟩:=B0 Z k Y;have g:=Paired.length r;refine wpAny_pyIter_dict B A ?_;refine⟨j.heap.objs.size,[j.heap.objs.size],_,_,d,rfl,Z.kept fun b o e=>c_ _ e,UW a _ Y,⟨_,l_ _ rfl,rfl,by rw[g];rfl⟩,fun b C=>?_,q⟩;have e:=by simpa using C
 subst e;exact Z.fpOk (k_ _) (Z.hok.fresh (k_ _))
theorem Hl{K:W.Frag}{b:List (bO×V)}(r:gS K G b Y){i:Nat}(h:b[i]? = some Z)(a:(Y.map fun Z=>wO Z.1)[i]? = some d):RG K G (kV Z.1) d:=by rw[K_]at a;cases e:Y[i]? with
|none=>simp_all
|some q=>rw[e]at a;cases a;obtain⟨U,c,f⟩:=DL.Paired.get r e;rw[h]at c;cases c;rw[f.1];exact .scl (Qv _)
theorem RG.dicF{K:W.Frag}(b:cK K G H)(h:RG K G v (.dic U)):∃a Z Y,v=.ref a/\G a=some (.dic U)/\H a=some (.frz Z (.dK Y))/\gS K G Y U:=by cases h with
|scl s=>cases s
|ref e=>cases b _ _ e with
 |dic r s=>grind
|kc k=>cases k
theorem Qo(h:SE X g m e f):iI X g m tg e (df sV f):=by
 refine PI.imp (Ii h) fun p H R f=>?_;obtain⟨r,G,Z,q⟩:=f;refine ⟨r,G,Z,bW (cJ q) fun d q v o Y w b=>?_⟩
 obtain⟨z,e,q⟩:=d9 q;cases d with
|dic l=>obtain⟨a,k,j,rfl,_,U,c⟩:=RG.dicF w.ok b;exact⟨a,k,j,rfl,U,q _ o Y w ((fun U r=>by have t:=Paired.length r;refine⟨fun G H i w u=>⟨w.he _ _ U,`a⟩,fun G H i x Y d w y e=>?_,fun G H w=>⟨w.he _ _ U,`a⟩⟩;obtain⟨rfl,s,n,rfl⟩:=y;exact⟨G,Grow.refl w.ok,Hl (gS.mono r w.ge) n e⟩) U c)⟩
|_=>cases e
def ou(g:GE)(a:Addr)(d:D)(u:HO):GE:=⟨gset g.gh a d,aO g.h0 a u,g.hd⟩
theorem SI.up{st:L2.St}{a:Addr}(s:SI X g m r G st H)(hG:G a=some d)(p:H a=some u):SI X (ou g a d u) m r G st H where
 gok:=s.gok
 old:=fun b o e=>by
  by_cases Z:b=a
  .subst Z;have U:aO g.h0 b u b=some o:=e;rw[cX]at U;cases U;exact p
  .have U:aO g.h0 a u b=some o:=e;rw[bL Z]at U;exact s.old b o U
 ge:=fun b x e=>by
  by_cases Z:b=a
  .subst Z;have U:gset g.gh b d b=some x:=e;rw[gV]at U;cases U;exact hG
  .have U:gset g.gh a d b=some x:=e;rw[jp Z]at U;exact s.ge b x U
 gf:=fun b h=>by
  show G b=gset g.gh a d b;by_cases Z:b=a
  .subst Z;rw[gV];exact hG
  .rw[jp Z];exact s.gf b fun z=>h (show aO g.h0 a u b=none by rw[bL Z];exact z)
 lm:=s.lm
 lr:=s.lr
 sh:=s.sh
 ow:=fun i x n l=>by
  obtain⟨c,j,Y,f⟩:=s.ow i x n l;refine⟨c,j,Y,?_⟩;have k:c≠a:=by rintro rfl;rw[Y.un]at hG;cases hG
  show aO g.h0 a u c=none;rw[bL k];exact f
 bw:=fun i x n l=>by
  obtain⟨v,j,Y⟩:=s.bw i x n l;refine⟨v,j,?_⟩;rcases Y with Y|⟨c,e,Y,f⟩
  .exact .inl Y
  .refine .inr ⟨c,e,Y,?_⟩;have k:c≠a:=by rintro rfl;rw[Y.un]at hG;cases hG
   show aO g.h0 a u c≠none;rw[bL k];exact f
 dis:=s.dis
 lk:=s.lk
structure Had(g:GE)(a:Addr)(d:D)(u:HO):Prop where
 h0:∀o,g.h0 a=some o->o=u
 gh:∀x,g.gh a=some x->x=d
 gf:g.h0 a≠none->g.gh a=some d
theorem SI.had{st:L2.St}{a:Addr}(s:SI X g m r G st H)(hG:G a=some d)(U:H a=some u):Had g a d u:=⟨fun o e=>by have:=s.old a o e;simp_all,fun x e=>by have:=s.ge a x e;simp_all,fun h=>by rw[<-s.gf a h];exact hG⟩
theorem SI.down{st:L2.St}{a:Addr}(k:Had g a d u)(s:SI X (ou g a d u) m r G st H):SI X g m r G st H:=by
 have q:=s.old a u cX;have hG:=s.ge a d gV;exact{
  gok:=s.gok
  old:=fun b o e=>by
   by_cases Z:b=a
   .subst Z;rw[k.h0 o e];exact q
   .exact s.old b o (show aO g.h0 a u b=some o by rw[bL Z];exact e)
  ge:=fun b x e=>by
   by_cases Z:b=a
   .subst Z;rw[k.gh x e];exact hG
   .exact s.ge b x (show gset g.gh a d b=some x by rw[jp Z];exact e)
  gf:=fun b h=>by
   by_cases Z:b=a
   .subst Z;rw[hG,k.gf h]
   .have:=s.gf b (show aO g.h0 a u b≠none by rw[bL Z];exact h);rw[this];exact jp Z
  lm:=s.lm
  lr:=s.lr
  sh:=s.sh
  ow:=fun i x p n=>by
   obtain⟨c,j,Y,f⟩:=s.ow i x p n;have l:c≠a:=by rintro rfl;rw[Y.un]at hG;cases hG
   refine⟨c,j,Y,?_⟩;have U:aO g.h0 a u c=none:=f;rw[bL l]at U;exact U
  bw:=fun i x p n=>by
   obtain⟨v,j,Y⟩:=s.bw i x p n;refine⟨v,j,?_⟩;rcases Y with Y|⟨c,e,Y,f⟩
   .exact .inl Y
   .have l:c≠a:=by rintro rfl;rw[Y.un]at hG;cases hG
    refine .inr ⟨c,e,Y,?_⟩;have U:aO g.h0 a u c≠none:=f;rw[bL l]at U;exact U
  dis:=s.dis
  lk:=s.lk }
theorem Grow.down{K:W.Frag}{c:GH}{a:Addr}(Y:Had g a d u)(w:Grow K (ou g a d u).gh (ou g a d u).h0 c Z):Grow K g.gh g.h0 c Z:=
 ⟨w.ok,fun b o e=>by
  by_cases U:b=a
  .subst U;rw[Y.h0 o e];exact w.he b u cX
  .exact w.he b o (show aO g.h0 a u b=some o by rw[bL U];exact e),fun b x e=>by
  by_cases U:b=a
  .subst U;rw[Y.gh x e];exact w.ge b d gV
  .exact w.ge b x (show gset g.gh a d b=some x by rw[jp U];exact e),fun b h=>by
  by_cases U:b=a
  .subst U;rw[Y.gf h];exact w.ge b d gV
  .have:=w.gf b (show aO g.h0 a u b≠none by rw[bL U];exact h);rw[this];exact jp U⟩
def Y4(X:Cx)(g:GE)(m:List Md)(f:FE):TI:=fun σ H R=>∃r G,SI X g m r G σ H/\fin (f r) (fun d=>∀a ob ps kvs G' H',d=.dic kvs->Grow X.K G H G' H'->G' a=some (.dic kvs)->H' a=some (.frz ob (.dK ps))->gS X.K G' ps kvs->R (F1 a ob ps) H') (XW X σ G H)
theorem Yv(h:SE X g m e f)(l:∀r d,f r=.ok d->∃U,d=.dic U):PI X tg e (Y4 X g m f):=by
 refine PI.imp (Ii h) fun p H R z=>?_;obtain⟨r,G,i,q⟩:=z;refine ⟨r,G,i,?_⟩
 cases Y:f r with
|ok d=>rw[Y]at q;intro v o n w j;obtain⟨U,rfl⟩:=l r d Y;obtain⟨a,b,Z,rfl,hG,c,k⟩:=RG.dicF w.ok j;exact⟨a,b,Z,rfl,c,q a b Z U o n rfl w hG c k⟩
|exc x=>rw[Y]at q;exact q
|stuck=>rw[Y]at q;exact q
def xX(f:FE):FE:=fun r=>(f r).bind fun d=>match d with
|.dic kvs=>.ok (.dic kvs)
|_=>.stuck
theorem TV(f:FE):∀r d,xX f r=.ok d->∃U,d=.dic U:=by intro r d e;unfold xX at e;cases Y:f r with
|ok x=>
  rw[Y,bind_ok]at e
  grind
|exc x=>rw[Y]at e;cases e
|stuck=>rw[Y]at e;cases e
theorem To(h:fin (df sV f r) q x):fin (xX f r) (fun d=>∀Y,d=.dic Y->q (Y.map fun a=>wO a.1)) x:=by unfold df at h;unfold xX;cases Z:f r with
|ok d=>rw[Z]at h;cases d with
 |dic Y=>intro U e;cases e;exact h
 |_=>exact h
|exc y=>rw[Z]at h;exact h
|stuck=>rw[Z]at h;exact h
theorem Hc(hp:ą (y_ X.prog X.w) X.A X.env X.xe)(hc:X.calm=true)(hi:SE X g m iter f)(hg:∀g',SG X g' m tg ft m)(hb:∀g',fU X g' ro m m sts s1 m)(hs:!!!!Ix X iter):SS X g ro mb m (.For tg iter sts [] pos) (jR m (df sV f) ft s1) m:=by
 have Tm:PG X tg (fun v k H Q=>∃g',tG X g' m m ft v k H Q):=fun M s k H v u Q I r V=>(by obtain⟨g',q⟩:=V;exact (hg g').2 M s k H v u Q I r q);have Ty:d7 X sts (fun D k H=>∃g',tS X g' ro m m m s1 D k H):=fun M s k H D I A=>(by obtain⟨g',q⟩:=A;exact (hb g').2 M s k H D I q);refine⟨rfl,PS.imp (tH hp hc (Yv ((fun h=>PE.imp h fun k H Q ⟨r,G,L,q⟩=>⟨r,G,L,by refine bW (cJ q) fun d q v G' P w rv=>?_;cases d with
   |dic C=>exact q v G' P w rv
   |_=>exact q.elim⟩) hi) (TV f)) Tm Ty hs) fun D k H ⟨r,G,L,q⟩=>⟨r,G,L,bW (To (iO L rfl q)) fun d q a ob ps C T H0 ed w0 BT Id KK=>?_⟩⟩
 replace q:=q C ed;have LE:=L.grow w0;have hl:=Paired.length KK;have o:=LE.had BT Id;generalize Zg:(C.map fun kv=>wO kv.1)=l at q;have hdl:l.length=ps.length:=`g
 refine⟨fun i n k H=>∃r G,SI X _ m r G k H/\bU T G/\i<=l.length/\n=l.length-i/\dF X g ro m mb G D (bN ft s1 (l.drop i) r),⟨l.length,r,T,LE.up BT Id,bU.refl T,é _,rfl,dF.gle q w0.ge⟩,?_⟩
 rintro i n W H1 ⟨r1,R,p,B,hi,rfl,b⟩
 have IO:=p.old a _ cX;by_cases N:i<l.length
 .have hd:=Ď N;rw[hd]at b;unfold bN at b;refine .inr ⟨⟨IO,`o⟩,fun J P=>∃r G,SI X _ m r G J P/\bU T G/\dF X g ro m mb G D _,fun J P S=>by obtain⟨t,G',si',le',q'⟩:=S;exact ⟨_,`o,t,G',si',le',N,rfl,q'⟩,fun x P y=>?_⟩;obtain⟨rfl,kv,LT,rfl⟩:=y;have rv:RG X.K R _ l[i]:=Hl (gS.mono KK B) LT `a;cases Z:ft l[i] r1 with
 |none=>simp only[Z]at b;exact b.elim
 |some r2=>simp only[Z]at b;refine⟨_,r1,R,l[i],p,rv,r2,Z,fun σ2 XL=>⟨_,r2,R,XL,?_⟩⟩;cases F:s1 r2 with
  |nx t=>simp only[F]at b;exact fun j E O U Y=>⟨t,E,Y,B.trans U,dF.gle b U⟩
  |ct t=>simp only[F]at b;exact fun j E O U Y=>⟨t,E,Y,B.trans U,dF.gle b U⟩
  |bk t=>simp only[F]at b;exact fun j E O U Y=>b j E O U (Y.down o)
  |rt d=>simp only[F]at b;intro v G2 H2 wr Cl;refine b v G2 H2 (wr.down o) ?_;cases ro with
   |false=>exact Cl
   |true=>
     rcases Cl with⟨c,e1,e2,e3⟩|z
     .refine .inl ⟨c,e1,?_,e3⟩;have ST:c≠a:=by
       rintro rfl
       have:=wr.ge c _ gV;rw[e3.un]at this;cases this
      have dl:aO g.h0 a _ c=none:=e2;rw[bL ST]at dl;exact dl
     .exact .inr z
  |exc x t=>simp only[F]at b;exact fun M e s' j E O U Y=>b M e s' j E O U (Y.down o)
  |stuck=>simp only[F]at b;exact b
 .have e:i=l.length:=`o
  subst e;rw[ġ]at b;exact .inl ⟨⟨IO,`o⟩,b W R H1 (bU.refl _) (p.down o)⟩
noncomputable def j4:D->D->Option D
|.lst ds,.int k=>if-(2^62)<=k/\k<2^62/\ds.length*k.toNat<=sizeLine then some (.lst ((j_ k.toNat ds).flatten))else none
|_,_=>none
theorem GF{K:W.Frag}(r:dJ K G xs ds):∀n:Nat,dJ K G (j_ n xs).flatten (j_ n ds).flatten
|0=>.nil
|n+1=>by exact DL.Paired.app r (GF r n)
theorem mR(A:SO X g m a fa)(z:SB X g m b fb):SO X g m (.BinOp a .Mult b pos) (f2 fa fb j4):=by
 refine PE.imp (F7 OW A z) fun E H Q a=>?_;obtain⟨r,G,h,q⟩:=a;refine ⟨r,G,h,bW (cJ q) fun J t u C L Z U w=>⟨r,C,h.grow Z,jr (cJ t) Z fun I s F B K Y l=>?_⟩⟩
 obtain⟨d,e,n⟩:=d9 s;have v:=w.mono Y;unfold j4 at e;split at e
 .split at e
  .rename_i ds k hk;cases e;cases v.ob with
  |@lst f _ x i=>have y:=Paired.length i;refine⟨u,k,f,rfl,l.int Y.ok,x,`o,`o,by rw[y];exact hk.2.2,fun p c=>?_⟩;have j:=Grow.new Y.ok c (.lst (j_ k.toNat f).flatten);refine n p B _ ((Z.trans Y).trans j) ?_ ⟨Y.ok.isN c,.lst cX (GF i _)⟩;cases e:H p with
   |none=>rfl
   |some o=>rw[(Z.trans Y).he _ _ e]at c;cases c
  .cases e
 .cases e
end
section
open PySem.AutoSeq1 (wpAny_loadPart')
end
end DL
namespace DL
open PySem PySem.Spec PyProof.Rows L2 PySem.W PySem.Calls
noncomputable def jj(g:GE)(H:Hp)(fp:List Addr)(i:Nat)(p:Addr):GE:=⟨g.gh,fun b=>if b∈fp then H b else g.h0 b,fun j=>if j=i then some (some (V.ref p),none)else g.hd j⟩
theorem Ta(h:∀b∈U,Y b=H b):jj g Y U i p=jj g H U i p:=by
 unfold jj
 simp_all
variable{X:Cx}{g:GE}{i:Nat}{m m' m1 mb:List Md}{r r':aI}{G G':GH}{σ σ':L2.St}{H H':Hp}{sts:List Stmt}{ro:Bool}{pos:Pos}
section
variable{w:List (List D)}
abbrev Zf:=aI->List (List D)->Option (aI×List (List D))
variable{st:Stmt}{s1:FS}{f1 f2:Zf}{tg iter:Expr}
end
noncomputable def xY:List D->Option D
|[.bl b]=>some (.int (if b then 1 else 0))
|_=>none
theorem Tx:gT X (.type "int") (fun xs H Q=>∃b:Bool,xs=[.bl b]/\Q (.int (if b then 1 else 0)) H):=by intro a s Y H xs Z Q I r h;obtain⟨b,rfl,q⟩:=h;obtain⟨u,rfl,U⟩:=ik r;cases U;exact call_int_bool ⟨.int _,H,I.tok _,⟨_,rfl⟩,q⟩
theorem PQ{U p:Pos}(i:Gl X "int")(h:X.mg "int" = none)(k:jd X g m (e::Y) b)(j:!Sx X e Y)(Z:!Bx X U Y) :
  SE X g m (.Call (.Name "int" p) (e::Y) [] U) (fC b xY):=ju (by
     intro G H l n d Q a c e q;unfold xY at e;split at e
     .cases e;cases c with
     |cons f t=>cases t;exact⟨_,by rw[f.bl a],q _ G H (Grow.refl a) (.scl (.int _))⟩
     .cases e) (o9 Tx i h rfl k `d (rfl) j Z)
abbrev FW:=aI->Res D
section
variable{ms:List Md}{e c:Expr}{es:List Expr}{q:FQ}{st:Stmt}{sts1:List Stmt}{fl:aI->Res (List D)}{F:List D->Res D}{k:Nat}{ps:List Str}{p1 p2 p3 p4 apos cpos:Pos}{x y:Str}{d1:D}{ds:List D}
abbrev F3:=aI->D->List D->Option aI
end
end DL
section
namespace DL
section
open PySem PyProof.Rows PySem.W PySem.Calls
variable{prog:o_}{w:F_}{A:I_}{E:a_->d_->Prop}{s:d_}{l:Addr}{vs:List a_}{ns:List Int}
end
open PySem PySem.Spec PyProof.Rows L2
end DL
end
namespace DL
open PySem PySem.Spec PyProof.Rows L2
end DL
section
namespace DL
section
open PySem PyProof.Rows
variable{prog:o_}{w:F_}{A:I_}{R:Ĺ->d_->Prop}{I S:Addr}{fp wr:List Addr}{n:Nat}{P:Nat->a_->Prop}{St:Nat->Heap->Prop}{TP:Heap->Prop}{bt:Nat->Nat->Bool}
end
end DL
end
namespace DL
open PySem PySem.Spec PyProof.Rows L2
section
open PySem.AutoSeq1 (wpAny_loadPart')
end
end DL
namespace DL
open PySem PySem.Spec PyProof.Rows L2 PySem.W PySem.Calls
def N6(K:W.Frag)(ro:Bool)(ms:List Md)(F:List D->Res D):Sp:=fun vs H Q E=>∃G ds,cK K G H/\ArgsOk K G H ms vs ds /\fin (F ds) (fun d=>∀v G' H',Grow K G H G' H'->RV ro K H G' H' v d->Q v H') fun x=>∀C od nm fs G' H',x=xD nm fs->XN K nm C->XF G' od fs->Grow K G H G' H'->E (.ref C) od H'
variable{X:Cx}{ps:List Str}{dvs:List V}{ds:List a_}{p pos:Pos}{e:Expr}{es:List Expr}
section
variable{k:Nat}{f:Addr}{fd:à}{sp:Sp}{x:Str}{t:TA}
def sB(X:Cx)(σ:L2.St)(H:Hp)(E:XK):Prop:=∀pz s a cls od H' s',Inv X pz σ H s->Fly X.prog X.w X.stack H s H' a cls od s'->E cls od H'->X.xe (.ref a) s'
theorem y9{σ:L2.St}(F:FnOk X.prog X.w X.K X.mg X.base (jN X.prog X.w) k f fd ps sp)(i:Room k X.A)(m:gO X.K fd ps ds)(l:aJ dvs ds)(I:Inv X pz σ H s)(g:sB X σ H E)(r:aJ vs us)(h:sp (vs++dvs) H Q E):u_ (y_ X.prog X.w) X.A (call (.ref f) us) (EP X pz σ Q) X.xe s:=by
 have b:=r.append l;have j:(us++ds).length=ps.length:=by rw[<-b.length];exact F.len _ _ _ _ h
 refine Ä (Ú (F.run X.A X.stack s H _ _ _ Q E i I.env0 (m s us I.kIn j) b h) fun r c U=>?_);cases r with
|error e=>obtain⟨a,Z,n,d,rfl,Y,q⟩:=U;exact g pz s a Z d n c I Y q
|ok Y=>cases Y with
 |ret u=>exact I.after U
 |next=>exact Q_ U
 |brk=>exact Q_ U
 |cont=>exact Q_ U
theorem Ju(F:FnOk X.prog X.w X.K X.mg X.base (jN X.prog X.w) k f fd ps sp)(d:Room k X.A)(j:Gl X x)(g:X.mg x=some (.ref f))(i:W.keepIn X.K (.ref f)=true)(n:gO X.K fd ps ds)(m:aJ dvs ds)(o:PA X (e::es) t)(U:!!Nq x)(l:!Sx X e es)(Y:!Bx X pos es):PE X (.Call (.Name x p) (e::es) [] pos) (fun σ H Q=>t σ H fun vs Z=>∃E,sp (vs++dvs) Z Q E/\sB X σ Z E):=by intro b s σ H Q I h;refine Ă (mG I j g ?_ U);refine W.callWith_K I.ok.mod.kin i (bJ (o pos b s σ H _ I h) fun u v ⟨vs,Z,a,r,E,q,c⟩=>⟨a.kIn,?_⟩) l Y;exact y9 F d n m a c r q
end
variable{w:F_}
section
variable{P:o_}{K:W.Frag}{mg:Str->Option a_}{base:Heap}
structure CalleeX(P:o_)(w:F_)(K:W.Frag)(mg:Str->Option a_)(base:Heap)(x:Str)(ps:List Str)(ds:List a_)(k:Nat)(ro:Bool)(ms:List Md)(F:List D->Res D):Prop where
 ex:∃f fd,mg x=some (.ref f)/\W.keepIn K (.ref f)=true/\gO K fd ps ds/\FnOk P w K mg base (jN P w) k f fd ps (N6 K ro ms F)
theorem PY{st:Stmt}(A:DefAt K mg x st)(S:FnScope N ps (aA st))(dl:ms.length=ps.length)(hb:k4 x x st ps)(U:k6 k x st (jN P w) P w K mg base N fun X g=>fU X g ro [] (gQ N.length ms) (aH st) fs m'):CalleeX P w K mg base x ps [] (k+1) ro ms fun ds=>bQ ro (fs (cS N.length ds)):=by
 obtain⟨f,fd,h1,F⟩:=A.ex;exact⟨f,fd,h1,F.kp,F.binds hb,(by
    obtain⟨oc,od,kV,doc,pm,an,cdv,ct,osl,rfl,lk,BT⟩:=F.ex;refine xG lk BT S (fun vs H Q E k=>by obtain⟨G,ds,gk,rs,q⟩:=k;exact rs.len.1.trans dl) fun A outer s H vs Q E hr h=>?_;obtain⟨G,ds,gk,rs,q⟩:=h;have hpl:ps.length<=N.length:=by have:=Q_g Ö S.pre;grind
    refine⟨_,((U f) cdv A outer s H _ E hr).2,_,G,rR gk rs `o,?_⟩;replace q:fin (bQ ro _) _ _:=q;cases e:fs _ with
   |nx r'=>rw[e]at q;cases ro with
    |false=>exact fun σ' G' H' _ si=>q .non G' H' si.grown (.scl .non)
    |true=>exact q.elim
   |rt d=>rw[e]at q;exact fun v G' H' wg rv=>q v G' H' wg rv
   |bk r'=>rw[e]at q;exact q.elim
   |ct r'=>rw[e]at q;exact q.elim
   |exc x r'=>rw[e]at q;intro pz ev s' σ' G' H' le si I ex;obtain⟨pins1,s1,H1,a,C,Y,nm,Z,rfl,rfl,xn,xf,I1,fl⟩:=ex;exact fl.leaves I1 rfl rfl rfl fun s'' fl2=>⟨a,_,H',Y,rfl,fl2,q C Y nm Z G' H' rfl xn xf si.grown⟩
   |stuck=>rw[e]at q;exact q)⟩
end
variable{g:GE}{ro:Bool}{m mb:List Md}{C:Addr}
section
variable{fl:aI->Res (List D)}{k:Nat}{F:List D->Res D}{dds:List D}{x:Str}{np:Pos}{ms:List Md}
def gF(fl:aI->Res (List D))(dds:List D)(F:List D->Res D):FE:=fun r=>(fl r).bind fun ds=>F (ds++dds)
theorem Re(c:CalleeX X.prog X.w X.K X.mg X.base x ps ds k false (ms++j_ dds.length .sh) F)(P:Room k X.A)(W:aJ dvs ds)(Y:Paired Scl dvs dds)(ha:iL X g m (e::es) ms fl)(R:!Gl X x)(U:!!Nq x)(T:!Sx X e es)(u:!Bx X pos es):SE X g m (.Call (.Name x p) (e::es) [] pos) (gF fl dds F):=by
 obtain⟨fa,fd,h1,h2,h3,G1⟩:=c.ex;refine PE.imp (Ju G1 P R h1 h2 h3 W ha U T u) fun σ H Q k=>?_;obtain⟨r,G,L,q⟩:=k;refine ⟨r,G,L,?_⟩
 cases z:fl r with
|ok J=>
  unfold gF at q;rw[z]at q;intro vs E B t N;refine⟨fun j l h=>∃C b f Z,j=.ref C/\F (J++dds)=.exc (xD b f)/\XN X.K b C/\XF Z l f/\Grow X.K E B Z h,⟨E,_,t.ok,N.app Y,?_⟩,?_⟩
  .cases ef:F _ with
  |ok d=>replace q:fin (F _) _ _:=q;rw[ef]at q;exact fun v Z h i M=>q v Z h (t.trans i) M
  |exc y=>exact fun C l b f Z h O n o i=>⟨C,b,f,Z,rfl,by rw[O],n,o,i⟩
  |stuck=>replace q:fin (F _) _ _:=q;rw[ef]at q;exact q
  .intro pz s a j l h s' I fl ⟨C,b,f,Z,hc,ef,n,o,i⟩;subst hc;replace q:fin (F _) _ _:=q;rw[ef]at q;exact q pz _ s' Z h (t.trans i) (fl.inv I) ⟨pz,s,B,a,C,l,b,f,rfl,rfl,n,o,I,fl⟩
|exc x=>unfold gF at q;rw[z]at q;exact q
|stuck=>unfold gF at q;rw[z]at q;exact q
def nS(m:List Md)(nm:Str)(fl:aI->Res (List D)):FS:=fun r=>onE m r (fl r) fun ds=>if ds.length<=100 then .exc (xD nm []) (forget m r)else .stuck
theorem rH(v:X.calm=true)(c:XC X.K X.mg x C)(j:XN X.K nm C)(t:Gl X x)(w:SA X g m (e::es) fl)(U:!!Nq x)(u:!Sx X e es)(Z:!Bx X p es):SS X g ro mb m (.Raise (some (.Call (.Name x np) (e::es) [] p)) none pos) (nS m nm fl) m:=by
 refine⟨rfl,fun d s i H D I e=>?_⟩;obtain⟨r,G,Y,q⟩:=e;refine Sb I v c t w ⟨r,G,Y,?_⟩ U u Z;refine bW (iO Y rfl q) fun A q z y h b n=>?_;have o:=Paired.length n;split at q
 .rename_i h100;refine⟨by rw[o];exact U_ h100 `d,fun k a l f fl=>?_⟩;exact q d _ l i y h b.ge (by have:=(Y.grow b).forget;exact this) (fl.inv f) ⟨d,k,h,a,C,none,nm,[],rfl,rfl,j,rfl,f,fl⟩
 .exact q.elim
end
def sm(f:FS):Prop:=∀r r',f r≠.nx r'
theorem HR:sm (retF m f):=by
 intro r U h;unfold retF onE at h
 grind
theorem Js(h:sm Y):sm (seqF Y Z):=by intro r b e;unfold seqF at e;cases U:Y r with
|nx a=>exact h r a U
|rt d=>rw[U]at e;cases e
|bk _=>rw[U]at e;cases e
|ct _=>rw[U]at e;cases e
|exc _ _=>rw[U]at e;cases e
|stuck=>rw[U]at e;cases e
theorem uP(h:sm Y):sm (seqF Z Y):=by intro r b e;unfold seqF at e;cases U:Z r with
|nx a=>rw[U]at e;exact h a b e
|rt d=>rw[U]at e;cases e
|bk _=>rw[U]at e;cases e
|ct _=>rw[U]at e;cases e
|exc _ _=>rw[U]at e;cases e
|stuck=>rw[U]at e;cases e
variable{m1:List Md}
section
variable{m2:List Md}{sts:List Stmt}{f:FS}
theorem IH(h:fU X g ro mb m sts f m1)(a:sm f)(Y:m2.length=m.length):fU X g ro mb m sts f m2:=by
 have b:fD m2=fD m1:=by have e:=Y.trans h.1.symm;unfold fD;rw[ř,ř,e]
 refine⟨Y,d7.imp h.2 fun D c H ⟨r,G,Z,q⟩=>⟨r,G,Z,?_⟩⟩;cases e:f r with
|nx U=>exact Q_f e (a r U)
|bk U=>rw[e]at q;exact q
|ct U=>rw[e]at q;exact q
|rt d=>rw[e]at q;exact q
|exc x U=>rw[e]at q;unfold dF at q ⊢;rw[b]at q;exact q
|stuck=>rw[e]at q;exact q
end
variable{M:Ñ}{A:I_}{E:a_->d_->Prop}{s:d_}{nm:Str}{N T:Addr}{bm sub:List a_}{hdct ab:Bool}{sn:List Str}{col:Option Bool}{dd:Option Addr}{k0 k1 k2 k3 k5:Option a_}{newId:String}
section
variable{q nmT qT:Str}{NT:Addr}{bs bsT bmT:List a_}{hdctT:Bool}{snT:List Str}{subT':List a_}{abT:Bool}{colT:Option Bool}{ddT:Option Addr}{t0 t1 t2 t3 t5:Option a_}{newIdT:String}
theorem WF{e:Addr}(f:s.heap.get? C=some (ë nm q C N bs bm hdct sn sub ab col dd k0 k1 k2 k3 k5 newId))(U:s.heap.get? T=some (ë nmT qT T NT bsT bmT hdctT snT subT' abT colT ddT t0 t1 t2 t3 t5 newIdT))(a:s.heap.get? e=some Y)(c:Y.cls=.ref C)(d:bmT.contains (Value.type "BaseException")=true)(hq:Q ((Value.ref C::bm).contains (.ref T)) s):u_ M A (excMatches (.ref e) (.ref T)) Q E s:=by refine b_ (wpAny_isInstance (b:=false) ⟨_,U,rfl⟩ `q ?_);refine b_ (f_ ?_);refine b_ (b_ ?_);refine b_ (b_ (b_ (ı U (f_ ?_))));refine Ĭ U ?_;rw[Ŕ,d,ş];refine f_ (f_ ?_);refine b_ ?_;refine b_ (ı a (f_ ?_));rw[c];refine b_ (b_ (b_ (Ĭ f ?_)));cases Z:(Value.ref C::bm).contains _ with
|true=>rw[Z]at hq;exact f_ (f_ (f_ hq))
|false=>rw[Z]at hq;exact f_ (f_ (f_ hq))
end
variable{pz:List (Addr×Obj)}{σ:L2.St}{H H':Hp}{s':d_}
theorem Inv.unbind{m:Str->Option a_}(I:Inv X pz σ H s)(J:X.N.Nodup)(hi:X.N[i]? = some n)(t:s.heap.Ns X.env.locals m)(G:h'.Ns X.env.locals fun x=>if x=n then u else m x)(d:ĺ X.env.locals s.heap h')(M:∀x v,m x=some v->True):Inv X pz (σ.set i none) H { s with heap:=h' }:=by
 have l:∀b o,X.s₀.heap.get? b=some o->b≠X.env.locals:=fun b o e z=>by
  have P:=n_ e;have O:=I.ok.above
  grind
 have B:∀{c v},s.heap.IsCell c v->h'.IsCell c v:=fun{c v} hc=>by
  have Z:c≠X.env.locals:=by
   obtain⟨o,a,A⟩:=hc;obtain⟨q,Q,R,L,r⟩:=t
   grind
  obtain⟨o,a,A⟩:=hc;exact⟨o,(d.2 c Z).trans a,A⟩
 refine⟨I.ok,I.os,I.bare,⟨fun b o e n f z=>(d.2 b (l b o e)).trans (I.base.keep b o e n f z),fun b o e n f z=>?_,I.base.free,fun b o e z=>?_,I.base.tups,I.base.frzs,I.base.tbls⟩,?_,fun x c hc=>?_,I.free,I.freeC,fun p F=>?_,fun b o e=>?_,by rw[Ē];exact I.len⟩
 .obtain⟨sl,a⟩:=I.base.slot b o e n f z;exact⟨sl,(d.2 b (l b o e)).trans a⟩
 .obtain⟨q,a⟩:=I.base.there b o e z;exact⟨q,(d.2 b (l b o e)).trans a⟩
 .obtain⟨m0,hm0,lk⟩:=I.loc;refine⟨_,G,fun j x v y h K=>?_⟩;have g:i≠j:=`g
  rw[e_ g]at h;obtain⟨w,U,C⟩:=lk j x v y h K;have Y:x≠n:=by
   rintro rfl
   exact g ((List.getElem?_inj (g_.mp hi).1 J).mp (hi.trans y.symm))
  refine⟨w,U,?_⟩;rcases C with⟨k,e⟩|⟨k,c,hc,E⟩
  .refine .inl ⟨k,?_⟩;show(if x=n then u else m x)=some w;rw[Q_e Y,t.agree hm0];exact e
  .exact .inr ⟨k,c,hc,B E⟩
 .obtain⟨v,h⟩:=I.cell x c hc;exact⟨v,B h⟩
 .obtain⟨p1,p2,p3,p4,p5⟩:=I.pin p F;exact⟨(d.2 _ p3).trans p1,p2,p3,p4,p5⟩
 .have hb:∀c u,H c=some u->c≠X.env.locals:=fun c u e z=>by rw[z,I.free]at e;cases e
  refine(I.hok b o e).stay (fun c v hc a=>(d.2 c ?_).trans a) (fun _ z=>z) fun _ _ z=>z
  grind
theorem UG(I:Inv X pz σ H s)(o:X.N.Nodup)(hi:X.N[i]? = some n)(h:σ[i]? = some (some v))(l:X.env.kindOf n=some NameKind.local)(U:X.env.scope.names.lookup n=some .local)(q:∀b,Inv X pz (σ.set i none) H b->Q () b):u_ M A (QdL X.env n Z) Q E s:=by
 refine Ŋ ?_;obtain⟨m,c,g⟩:=id I.loc;obtain⟨w,Y,f⟩:=g i n v hi h (.inl U);have a:m n=some w:=by
  rcases f with⟨_,e⟩|⟨k,_⟩
  .exact e
  simp_all
 refine wpAny_unbindName_local l c a ?_ fun p u j d=>q _ (Inv.unbind I o hi c j d fun _ _ _=>trivial);rw[I.ok.kind];rfl
def XO(K:W.Frag)(C:Addr)(bm:List a_):Prop:=∃N nm q bs hdct sn sub ab col dd k0 k1 k2 k3 k5 newId,K.lookup C=some (ë nm q C N bs bm hdct sn sub ab col dd k0 k1 k2 k3 k5 newId)
noncomputable abbrev _root_.L2.Cx.held(X:Cx)(v:a_):Cx:={ X with A:=X.A.mark (some v),calm:=false,xe:=fun _ _=>False }
variable{a:Addr}{od:Option Addr}
theorem Inv.held(I:Inv X pz σ H s)(v:a_):Inv (X.held v) pz σ H s:=⟨⟨I.ok.mod,I.ok.kind,I.ok.glob,I.ok.blt,I.ok.above,I.ok.inj,I.ok.has,I.ok.cab,(fun h=>nomatch h),I.ok.frames,I.ok.stk,I.ok.exf,I.ok.bs,I.ok.bsz,I.ok.noex,I.ok.exfs,I.ok.funs,I.ok.frf⟩,I.os,I.bare,I.base,I.loc,I.cell,I.free,I.freeC,I.pin,I.hok,I.len⟩
theorem Fly.laid(F:Fly X.prog X.w X.stack H s H' a (.ref C) od s')(I:Inv X pz σ H s):H' a=none/\Inv X pz σ (aO H' a (.ext (kW a C od))) s':=by
 obtain⟨B,K,O,v,⟨A,x,h,r,q,p,y⟩,G,J⟩:=F.ex;have Y:H' a=none:=by cases e:H' a with
 |none=>rfl
 |some u=>grind
 have P:a∉dU X.stack:=fun z=>by
  obtain⟨_,o,N,E⟩:=v.mem z
  grind
 have Z:∀b o,s.heap.get? b=some o->b≠a:=fun b o e z=>by grind
 have U:∀b u,H' b=some u->b≠a:=fun b u e z=>by simp_all
 refine⟨Y,I.call' F.os ⟨F.un.keep,F.un.slot,fun b o e n z=>by rw[bL (Z b o e)];exact F.un.free b o e n z,F.un.there,fun b g e=>?_,fun b o u e=>?_,fun b t e=>?_⟩ (fun b u e=>?_) F.bare fun b z=>Q_f z `s⟩
 .have:=F.un.tups b g e;rw[bL (U b _ this)];exact this
 .have:=F.un.frzs b o u e;rw[bL (U b _ this)];exact this
 .obtain⟨mo,this⟩:=F.un.tbls b t e;exact⟨mo,by rw[bL (U b _ this)];exact this⟩
 .by_cases hb:b=a
  .subst hb;rw[cX]at e;cases e;exact⟨⟨_,_,h,r,q,p⟩,⟨_,h⟩,fun M L ⟨f,d,m,l,j,i⟩ k=>⟨f,d,k _ m,l,j,i⟩⟩
  .rw[bL hb]at e;refine(F.hok b u e).stay (fun _ _ _ z=>z) (fun c z=>?_) fun c g z=>?_
   .rw[bL (U c _ z)];exact z
   .rw[bL (U c _ z)];exact z
theorem Fly.noted(F:Fly X.prog X.w X.stack H s H' a (.ref C) od s')(I:Inv X pz σ H s)(U:X.stack=X.env::X.outer)(u:X.env.frame=some X.env.locals)(q:∀h' e vs c d b,Inv X pz σ (aO H' a (.ext (kW a C od))) { s' with heap:=h' }->H' a=none->h'.get? a=some e->e.cls=.ref C->e.data=.fields vs->vs[1]? = some (.ref c)->h'.get? c=some d->d.data=.fields b->b[3]? = some Value.none ->Q () { s' with heap:=h' }):u_ M X.A (Ĝ (.ref a) X.env) (fun _ n=>u_ M X.A (Ů (.ref a) none) Q E n) E s':=by obtain⟨B,e,vs,T,Z,r,o,p,Y,t,m⟩:=F.step;rw[U]at Z;refine zj rfl (by rw[I.ok.frames,U]) Z u r o t fun h' v l=>zI none Y l fun g f=>?_;obtain⟨y,x⟩:=(m g _ (by rw[U];exact f)).laid I;obtain⟨c,d,b,G,z,k,j,i,h⟩:=f.obj;exact q g _ _ c d b x y k p rfl (S_ Y) j i h
theorem RJ{n m:Str}{LT:Stmt}{D:Ends}{rest:List ExceptHandler}(F:Fly X.prog X.w X.stack H s H' a (.ref C) od s')(I:Inv X pz σ H s)(IO:X.stack=X.env::X.outer)(BT:X.env.frame=some X.env.locals)(Tm:X.calm=true)(cT:X.mg m=some (.ref T))(oT:XO X.K T bmT)(LE:bmT.contains (Value.type "BaseException")=true)(oC:XO X.K C bm)(y:(Value.ref C::bm).contains (.ref T)=true)(hg:Gl X m)(B:X.N.Nodup)(hi:X.N[i]? = some n)(hl:X.env.kindOf n=some NameKind.local)(U:X.env.scope.names.lookup n=some .local)(hs:d7 (X.held (.ref a)) (LT::Y) t)(q:H' a=none->t { nx:=fun g h=>D.nx (g.set i none) h,rt:=fun _ _=>False } (σ.set i (some (.ref a))) (aO H' a (.ext (kW a C od))))(ST:!!Nq m):u_ (y_ X.prog X.w) X.A (Ĝ (.ref a) X.env) (fun _ l=>u_ (y_ X.prog X.w) X.A (Ů (.ref a) none) (fun _ XL=>u_ (y_ X.prog X.w) X.A (handleBy (.ref a) X.env (.ExceptHandler (some (.Name m np)) (some n) (LT::Y) Z::rest)) (SP X pz D) X.xe XL) X.xe l) X.xe s':=by
 refine F.noted I IO BT fun E oe vs r M j p KK R e2 e3 e4 Q G e7=>?_;refine wpAny_handleBy_cons ?_ (by intro z;cases z);have Ih:=Inv.held p (.ref a);refine codeAny_handlers_test (mG (X:=X.held (.ref a)) Ih hg cT ?_ ST);obtain⟨N1,Zm,q1,Zn,Zr,Zv,Zj,Zo,Ty,Zs,a0,a1,a2,a3,a5,Zu,z1⟩:=oC;obtain⟨N2,Zp,q2,Zk,hd2,Zl,Zg,Zt,Zh,Zq,c0,c1,c2,c3,c5,Zw,z2⟩:=oT;refine WF (p.kIn _ _ z1) (p.kIn _ _ z2) R e2 LE ?_;rw[y,Q_d rfl];refine codeAny_handlers_suite_as ?_;unfold Ů;refine b_ (Z_ R e3 e4 ?_);rw[Q_d `r];have Cl:3<j.size:=(Ź.mp e7).1;refine Ĳ Q G Cl ?_;have I2:Inv X pz σ (aO H' a (.ext (kW a C od))) { s' with heap:=E.update r (Ì fun v=>v.setIfInBounds 3 Value.none) }:=by
  refine p.kept fun b u e=>?_;show(E.update r _).get? b=some u;by_cases P:b=r
  .subst P;have Id:E.get? b=some M:=Q;have:u=M:=`a
   subst this;have mf:Ì (fun v=>v.setIfInBounds 3 Value.none) u=u:=by
    obtain⟨c,d,J,L⟩:=u;have:J=.fields j:=G;subst this;show({ cls:=c,dict:=d,data:=.fields (j.setIfInBounds 3 Value.none),slots:=L }:Obj)=_;have:j.setIfInBounds 3 Value.none=j:=`g
    rw[this]
   have nf:(Ì (fun v=>v.setIfInBounds 3 Value.none) u).isFreed=false:=by obtain⟨c,d,J,L⟩:=u;have:J=.fields j:=G;subst this;rfl
   have:=Ġ (Ì fun v=>v.setIfInBounds 3 Value.none) Id nf
   simp_all
  .rw[É _ _ _ _ P];exact e
 refine zw (X:=X.held (.ref a)) (i:=i) (v:=.ref a) (Inv.held I2 (.ref a)) B hi (.inl U) rfl (fun s3 I3=>?_) (.inr U);refine V_ (hs pz s3 _ _ _ I3 (q KK)) (fun f x o=>?_) fun _ _ z=>Q_ z;have fin:∀{g:L2.St}{h:Hp} ,Inv (X.held (.ref a)) pz g h x->D.nx (g.set i none) h->f=Flow.next->u_ (y_ X.prog X.w) X.A (do
   bindName X.env n Value.none
   QdL X.env n Z) (fun _ Zi=>SP X pz D f Zi) X.xe x:=fun{g h} I4 k hf=>by
  subst hf;have W:Inv X pz g h x:=⟨⟨I4.ok.mod,I4.ok.kind,I4.ok.glob,I4.ok.blt,I4.ok.above,I4.ok.inj,I4.ok.has,I4.ok.cab,I.ok.hd,I4.ok.frames,I4.ok.stk,I4.ok.exf,I4.ok.bs,I4.ok.bsz,I4.ok.noex,I4.ok.exfs,I4.ok.funs,I4.ok.frf⟩,I4.os,I4.bare,I4.base,I4.loc,I4.cell,I4.free,I4.freeC,I4.pin,I4.hok,I4.len⟩
  refine b_ (wpAny_bindName (zw (i:=i) (v:=.non) W B hi (.inl U) rfl (fun s5 I5=>?_) (.inr U)));have O:i<g.length:=by rw[W.len];grind
  refine UG (v:=.non) I5 B hi `a hl U fun s6 I6=>?_;rw[List.set_set]at I6;exact⟨_,h,I6,k⟩
 cases f with
|next=>obtain⟨g,h,I4,k⟩:=o;exact fin I4 k rfl
|brk=>obtain⟨g,h,I4,k⟩:=o;exact k.elim
|cont=>obtain⟨g,h,I4,k⟩:=o;exact k.elim
|ret u=>obtain⟨v,g,h,I4,_,k⟩:=o;exact k.elim
theorem SI.cx{st:L2.St}(s:SI X g m r G st H)(h:X'.K=X.K):SI X' g m r G st H:=by
 constructor
 .rw[h];exact s.gok
 .exact s.old
 .exact s.ge
 .exact s.gf
 .exact s.lm
 .exact s.lr
 .rw[h];exact s.sh
 .rw[h];exact s.ow
 .rw[h];exact s.bw
 .exact s.dis
 .exact s.lk
theorem SI.unset{st:L2.St}(s:SI X g m r G st H)(t:m[i]? = some .sh):SI X g m (r.set i none) G (st.set i none) H:=by
 have U:∀{j:Nat}{d:D},(r.set i none)[j]? = some (some d)->i≠j/\r[j]? = some (some d):=fun{j d} h=>by grind
 refine⟨s.gok,s.old,s.ge,s.gf,by rw[Ē];exact s.lm,by rw[Ē,Ē];exact s.lr,fun j d h Y=>?_,fun j d h Y=>?_,fun j d h Y=>?_,fun j k a d e Z c b q p l f=>?_,fun j o h Y=>?_⟩
 .obtain⟨hij,h⟩:=U h;rw[e_ hij];exact s.sh j d h Y
 .obtain⟨hij,h⟩:=U h;rw[e_ hij];exact s.ow j d h Y
 .obtain⟨hij,h⟩:=U h;rw[e_ hij];exact s.bw j d h Y
 .obtain⟨z1,c⟩:=U c;obtain⟨n,b⟩:=U b;rw[e_ z1]at l;rw[e_ n]at f;exact s.dis j k a d e Z c b q p l f
 .obtain⟨l1,l2⟩:=s.lk j o h Y;exact⟨`g,fun d u=>l2 d `a⟩
noncomputable abbrev _root_.L2.Cx.tr(X:Cx)(ps:List (Addr×Obj))(E:a_->d_->Prop):Cx:={ X with pn:=ps,xe:=E }
section
variable{pins':List (Addr×Obj)}
theorem Inv.tr(I:Inv X pz σ H s)(E:a_->d_->Prop):Inv (X.tr (X.pn++pz) E) [] σ H s:=⟨⟨I.ok.mod,I.ok.kind,I.ok.glob,I.ok.blt,I.ok.above,I.ok.inj,I.ok.has,I.ok.cab,I.ok.hd,I.ok.frames,I.ok.stk,I.ok.exf,I.ok.bs,I.ok.bsz,I.ok.noex,I.ok.exfs,I.ok.funs,I.ok.frf⟩,I.os,I.bare,I.base,I.loc,I.cell,I.free,I.freeC,fun p U=>I.pin p `a,I.hok,I.len⟩
theorem Inv.untr(I:Inv (X.tr (X.pn++pz) E) pins' σ H s):Inv X pz σ H s:=⟨⟨I.ok.mod,I.ok.kind,I.ok.glob,I.ok.blt,I.ok.above,I.ok.inj,I.ok.has,I.ok.cab,I.ok.hd,I.ok.frames,I.ok.stk,I.ok.exf,I.ok.bs,I.ok.bsz,I.ok.noex,I.ok.exfs,I.ok.funs,I.ok.frf⟩,I.os,I.bare,I.base,I.loc,I.cell,I.free,I.freeC,fun p U=>I.pin p (Qcs _ U),I.hok,I.len⟩
theorem SP.untr{D:Ends}(h:SP (X.tr (X.pn++pz) E) [] D f s):SP X pz D f s:=by cases f with
|next=>obtain⟨U,Y,I,q⟩:=h;exact⟨U,Y,Inv.untr I,q⟩
|brk=>obtain⟨U,Y,I,q⟩:=h;exact⟨U,Y,Inv.untr I,q⟩
|cont=>obtain⟨U,Y,I,q⟩:=h;exact⟨U,Y,Inv.untr I,q⟩
|ret u=>obtain⟨v,U,Y,I,r,q⟩:=h;exact⟨v,U,Y,Inv.untr I,r,q⟩
end
def su(K:W.Frag)(T:Addr)(hit:Str->Bool):Prop:=∀nm C,hit nm=true->XN K nm C->∃bm,XO K C bm/\(Value.ref C::bm).contains (.ref T)=true
noncomputable def YX:D->Option Str
|.obj 0 ((_,.str nm)::_)=>some nm
|_=>none
def lP(m1:List Md)(i:Nat)(hit:Str->Bool)(fb fh:FS):FS:=fun r=>match fb r with
|.nx r'=>.nx (forget m1 r')
|.rt d=>.rt d
|.exc x r'=>(match YX x with
 |some nm=>if hit nm=true then(match fh (r'.set i (some x))with
  |.nx r2=>.nx (r2.set i none)
  |_=>.stuck)else .stuck
 |none=>.stuck)
|_=>.stuck
section
variable{fb fh:FS}
theorem YO{n M:Str}{np dl Q:Pos}{XL:Stmt}(i:Nat)(IO:X.stack=X.env::X.outer)(Id:X.env.frame=some X.env.locals)(Y:X.calm=true)(cT:X.mg M=some (.ref T))(oT:XO X.K T bmT)(Tm:bmT.contains (Value.type "BaseException")=true)(hk:su X.K T y)(hg:Gl X M)(hN:X.N.Nodup)(hi:X.N[i]? = some n)(hl:X.env.kindOf n=some NameKind.local)(Ty:X.env.scope.names.lookup n=some .local)(B:∀ps E,fU (X.tr ps E) g ro [] m t fb m1)(hs:∀a,fU (X.held (.ref a)) g ro [] (fD m1) (XL::U) fh (fD m1))(Zg:!!Nq M):SS X g ro mb m (.Try t [.ExceptHandler (some (.Name M np)) (some n) (XL::U) dl] [] [] Q) (lP m1 i y fb fh) (fD m1):=by
 have ST:(fD m1).length=m.length:=by rw[fD,p_];exact(B [] fun _ _=>False).1
 refine⟨ST,fun pz s σ H D I n=>?_⟩;obtain⟨r,G,si,q⟩:=n;refine wpAny_Try_except ?_;generalize hE:(fun(e) (s₁)=>u_ _ X.A _ _ X.xe s₁)=E';have key:dF (X.tr (X.pn++pz) E') g ro m1 [] G { nx:=D.nx,rt:=D.rt } (fb r):=by unfold lP at q;cases e:fb r with
 |nx P=>rw[e]at q;exact fun c J v le l=>q c J v le (SI.cx (X':=X) l rfl).forget
 |rt d=>rw[e]at q;exact q
 |bk P=>rw[e]at q;exact q.elim
 |ct P=>rw[e]at q;exact q.elim
 |stuck=>rw[e]at q;exact q
 |exc x P=>
   rw[e]at q;intro W ev s' c J v le l L ex;obtain⟨R,s1,H1,a,C,od,O,ds,rfl,rfl,xn,xf,I1,fl⟩:=ex;rw[<-hE];replace q:dF X g ro _ mb G D (if y O=true then(match fh _ with
   |.nx r2=>.nx _
   |_=>.stuck)else .stuck):=q
   split at q
   .rename_i hh;obtain⟨bm,oC,hc⟩:=hk O C hh xn;refine RJ fl (Inv.untr I1) IO Id Y cT oT Tm oC hc hg hN hi hl Ty (hs a).2 (fun LT=>?_) Zg;have Zi:=l.gok.isN LT;have w:Grow X.K J v (gset J a (xD O ds)) (aO v a (.ext (kW a C od))):=by
     have ge:∀b d,J b=some d->gset J a (xD O ds) b=some d:=fun b d e=>by
      have:b≠a:=`g
      rw[jp this];exact e
     refine⟨fun b d e=>?_,fun b o e=>?_,ge,fun b h=>?_⟩
     .by_cases B:b=a
      .subst B;rw[gV]at e;cases e;exact .exc cX xn (xf.mono ge)
      .rw[jp B]at e;exact(l.gok b d e).mono ge fun o z=>by rw[bL B];exact z
     .have:b≠a:=`g
      rw[bL this];exact e
     .have:b≠a:=`g
      exact jp this
    have Z:=((SI.cx l rfl).grow w).set i (.ref gV);have Cl:(fD m1)[i]? = some .sh:=by
     have p:i<(fD m1).length:=by rw[l.lm,L.len];grind
     have Zh:=by rw[fD,p_]at p;exact p
     unfold fD
     simp_all
    have BT:(fD m1).set i .sh=fD m1:=by
     refine ų fun j=>?_
     grind
    rw[BT]at Z;refine⟨_,_,SI.cx Z rfl,?_⟩;cases F:fh _ with
   |nx r2=>rw[F]at q;exact fun σ2 G2 H2 LE KK=>q _ G2 H2 (le.trans (bU.trans w.ge LE)) (SI.unset (SI.cx KK rfl) Cl)
   |rt d=>rw[F]at q;exact q.elim
   |bk _=>rw[F]at q;exact q.elim
   |ct _=>rw[F]at q;exact q.elim
   |exc _ _=>rw[F]at q;exact q.elim
   |stuck=>rw[F]at q;exact q.elim
   .exact q.elim
 refine V_ ((B _ E').2 [] s σ H _ (Inv.tr I E') ⟨r,G,SI.cx si rfl,key⟩) (fun f s1 h1=>?_) fun e s1 h1=>?_
 .have h2:=SP.untr h1;cases f with
 |next=>obtain⟨c,v,L,k⟩:=h2;exact į ⟨c,v,L,k⟩
 |brk=>obtain⟨c,v,L,k⟩:=h2;exact k.elim
 |cont=>obtain⟨c,v,L,k⟩:=h2;exact k.elim
 |ret u=>exact h2
 .exact h1
end
theorem Qs:builtinKind "BaseException.__getattribute__" = some .slot:=rfl
theorem TC:splitId "BaseException.__getattribute__" = some ("BaseException","__getattribute__"):=`k
variable{prog:o_}{oe:Obj}
section
variable{q:Str}{bs:List a_}
theorem JN{T:String}(b:s.heap.get? C=some (ë nm q C N bs bm hdct sn sub ab col dd k0 k1 k2 k3 k5 newId))(Y:s.heap.get? a=some oe)(Z:oe.cls=.ref C)(hq:Q ((Value.ref C::bm).contains (.type T)) s):u_ (y_ prog w) A (ŋ (.ref a) (.type T)) Q E s:=by unfold ŋ;refine b_ (Í Y ?_);rw[Z];obtain⟨e,f,U,c,d⟩:=s;exact Ĭ b hq
theorem Pl(f:s.heap.get? C=some (ë nm q C N bs bm hdct sn sub ab col dd k0 k1 k2 k3 k5 newId))(b:s.heap.get? a=some oe)(c:oe.cls=.ref C)(d:bm.contains (Value.type "BaseException")=true)(h:u_ (y_ prog w) A.in1 (ì.«object.__getattribute__» ⟨[.ref a,v],[]⟩) (fun fin Z=>∃u,fin=.done (.ret u)/\Q u Z) E s):u_ (y_ prog w) A (call (.builtin "BaseException.__getattribute__") [.ref a,v]) Q E s:=by
 refine Ä (Ň `q F.entry_bexc_ga ((fun f b c d Y=>by unfold checkBuiltinCall;simp only[Qs,TC];refine b_ (JN f b c ?_);rw[Ŕ,d,ş,Q_e `s];have:=F.args_bexc_ga (.ref a) v;unfold argsOk at this;revert this;generalize Manifest.signature? "BaseException.__getattribute__" = sg;intro this;cases sg with
   |none=>exact f_ Y
   |some U=>have e:QcS "BaseException.__getattribute__" U ⟨[.ref a,v],[]⟩=pure ():=this;show u_ _ _ (QcS "BaseException.__getattribute__" U ⟨[.ref a,v],[]⟩) _ _ _;rw[e];exact f_ Y) f b c d ?_))
 refine V_ h (fun fin Z k=>?_) fun e Z z=>z;obtain⟨u,e,Y⟩:=k;subst e;exact Y
theorem HJ{K:W.Frag}(Z:K.In s.heap)(l:s.heap.get? C=some (ë nm q C N bs bm hdct sn sub ab col dd k0 k1 k2 k3 k5 newId))(d:s.heap.get? a=some oe)(f:oe.cls=.ref C)(k:bm.contains (Value.type "BaseException")=true)(n:ö K (.ref C) "__getattribute__" = some (some (.builtin "BaseException.__getattribute__")))(m:ö K (.ref C) "__getattr__" = some none)(h:u_ (y_ prog w) A.in1 (ì.«object.__getattribute__» ⟨[.ref a,v],[]⟩) (fun fin c=>∃u,fin=.done (.ret u)/\ů u=pure u/\Q u c) (fun _ _=>False) s):u_ (y_ prog w) A (getAttrBy (.ref a) v Y U) Q E s:=by
 refine ø (b_ (Í d ?_));rw[f];refine b_ (Ņ Z n _ _ _ _ (fun b o e=>e) ?_);show u_ _ _ (if (onTheHeap _&&(Value.builtin "BaseException.__getattribute__" == Value.builtin "object.__getattribute__"))=true then _ else _) _ _ _;refine b_ (Ņ Z m _ _ _ _ (fun b o e=>e) ?_);refine b_ (ũ (ø ?_));unfold callGetattribute;have g:(U&&onTheHeap (Value.builtin "BaseException.__getattribute__"))=false:=by cases U <;> rfl
 rw[g,Q_e t_];unfold boundAndCalled bindSpecial;refine b_ (b_ (f_ ?_));refine f_ ?_;refine Pl l d f k (V_ h (fun fin c ⟨u,e,j,i⟩=>⟨u,e,?_⟩) fun _ _ z=>Q_ z);show u_ _ _ (ů u) _ _ _;rw[j];exact f_ i
end
theorem Qt:builtinKind "getset_descriptor.__get__" = some .slot:=rfl
theorem TD:splitId "getset_descriptor.__get__" = some ("getset_descriptor","__get__"):=`k
theorem RO:entryFor table "getset_descriptor.__get__" = some ì.«getset_descriptor.__get__»:=`q
theorem RP:entryFor table "object.__class__" = some ì.«object.__class__»:=`q
theorem Q0:typeOf (.builtin "object.__class__")=pure (.type "getset_descriptor"):=`q
theorem OQ:Qdh (.builtin "object.__class__")=pure (s_ "__class__",Value.type "object"):=rfl
theorem PC:isSubtype (.type "getset_descriptor") (.type "getset_descriptor")=pure true:=`q
section
variable{q:Str}{bs:List a_}
theorem S4(h:s.heap.get? C=some (ë nm q C N bs bm hdct sn sub ab col dd k0 k1 k2 k3 k5 newId))(b:s.heap.get? a=some oe)(c:oe.cls=.ref C)(g:bm.contains (Value.type "object")=true)(hq:Q (.ref C) s):u_ (y_ prog w) A (call (.builtin "getset_descriptor.__get__") [.builtin "object.__class__",.ref a,.ref C]) Q E s:=by
 refine Ä (Ň `q RO ?_);unfold checkBuiltinCall;simp only[Qt,TD];unfold ŋ;rw[Q0];refine b_ (b_ (f_ ?_));rw[PC];refine f_ ?_;rw[Q_e `d];have this:argsOk "getset_descriptor.__get__" ⟨[(.builtin "object.__class__"),(.ref a),(.ref C)],[]⟩:=`q
 unfold argsOk at this;revert this;generalize Manifest.signature? "getset_descriptor.__get__" = sg;intro this;have Y:u_ (y_ prog w) A.in1 (ì.«getset_descriptor.__get__» ⟨[.builtin "object.__class__",.ref a,.ref C],[]⟩) (fun fin U=>match fin with
  |Fin.done f=>(match (Except.ok f:Ĺ)with|.ok (.ret v)=>Q v U|.ok _=>False|.error e=>E e U)
  |Fin.again d=>d.quiet=true/\Ï (y_ prog w) A d (fun r U=>match r with|.ok (.ret v)=>Q v U|.ok _=>False|.error e=>E e U) U) (fun e U=>E e U) s:=by
  unfold ì.«getset_descriptor.__get__» Qed QdM;refine b_ ?_;show u_ _ _ (pure ((Value.builtin "object.__class__",some (Value.ref a),some (Value.ref C)):a_×Option a_×Option a_)) _ _ _;refine f_ ?_;unfold QdS Qdd
  dsimp only
  rw[OQ];refine b_ (b_ (f_ (b_ (JN h b c ?_))));rw[Ŕ,g,ş,Q_e `d];refine f_ (f_ ⟨plainId_quiet `q _,?_⟩);refine codeAny_builtin RP ?_;unfold ì.«object.__class__» shownTypeOf;refine b_ (b_ (Í b ?_));rw[c,Q_e (by intro z;cases z)];exact f_ (f_ hq)
 cases sg with
|none=>exact f_ Y
|some Z=>have e:QcS "getset_descriptor.__get__" Z ⟨[.builtin "object.__class__",.ref a,.ref C],[]⟩=pure ():=this;show u_ _ _ (QcS "getset_descriptor.__get__" Z ⟨[.builtin "object.__class__",.ref a,.ref C],[]⟩) _ _ _;rw[e];exact f_ Y
end
structure XA(K:W.Frag)(C:Addr)(bm:List a_):Prop where
 ob:XO K C bm
 be:bm.contains (Value.type "BaseException")=true
 bo:bm.contains (Value.type "object")=true
 ga:ö K (.ref C) "__getattribute__" = some (some (.builtin "BaseException.__getattribute__"))
 gn:ö K (.ref C) "__getattr__" = some none
 gc:ö K (.ref C) "__class__" = some (some (.builtin "object.__class__"))
 gg:specialIn K (.builtin "object.__class__") "__get__" = some (some (.builtin "getset_descriptor.__get__"))
 gt:takesIn K (.builtin "object.__class__")=some true
theorem Tg{K:W.Frag}{m:List a_}(x:XA K C m):KitX K (.ref a) (.ref C) (kW a C k):=by
 obtain⟨G,J,q,H,N,L,U,Z,Y,I,F,B,z,y,v,t,f⟩:=x.ob;refine⟨fun M h c g A Q E s i d=>?_,fun M h c g A Q E s i d=>?_,fun h j u l n p c r=>?_,fun{prog w A E Q s} c g d=>?_⟩
 .obtain⟨oe,vs,e1,e2,_⟩:=g;exact Í (i _ _ e1) (by rw[e2];exact d)
 .exact ks_wpAny_isType_cls (i _ _ (c _ _ f)) rfl d
 .cases hb:(Value.ref C==Value.ref j)with
 |false=>rfl
 |true=>
   have e:=ù hb;have:=c _ _ f
   simp_all
 .obtain⟨oe,vs,e1,e2,_⟩:=g;refine b_ (wpAny_mkText ?_);refine b_ (ũ (HJ c (c _ _ f) e1 e2 x.be x.ga x.gn ?_));refine b_ ?_;refine f_ ?_;refine b_ ?_;refine f_ (b_ (Í e1 ?_));rw[e2];refine b_ ?_;refine b_ (Ņ c x.gc _ _ _ _ (fun b o e=>e) ?_);refine b_ ?_;refine looks_specialIn c x.gg _ _ _ _ (fun b o e=>e) ?_;refine b_ ?_;refine b_ (looks_takesIn c x.gt _ _ _ _ (fun b o e=>e) ?_);refine f_ (b_ (Ĵ (f_ ?_)));refine b_ (ø (S4 (c _ _ f) e1 e2 x.bo ?_));exact f_ ⟨_,rfl,rfl,(f_ d)⟩
noncomputable def gL(tab:Str->Option Bool):D->Option D
|.non=>some (.bl false)
|.obj 0 ((_,.str nm)::_)=>(tab nm).map .bl
|_=>none
structure IsxOk(K:W.Frag)(c:a_)(tab:Str->Option Bool):Prop where
 no:Ę K (.type "NoneType") c=some false
 ex:∀nm b C,tab nm=some b->XN K nm C->∃bm,XA K C bm/\Ę K (.ref C) c=some b
section
variable{f:FE}{p2:Pos}
theorem RE(U:∀u,aR cv u->u=c):gT X (.builtin "isinstance") (fun xs H Q=>∃x b,xs=[x,cv]/\((x=.non/\Ę X.K (.type "NoneType") c=some b)\/∃a C d f,x=.ref a/\H a=some (.ext (kW a C d))/\XA X.K C f/\Ę X.K (.ref C) c=some b)/\Q (.bl b) H):=by
 intro k s g H xs n Q I r h;obtain⟨x,b,rfl,h,q⟩:=h;obtain⟨u,m,rfl,Z,j⟩:=yC r;have:=U _ j;subst this;have fin:∀Y,EP X k g Q _ { s with toks:=Y }:=fun Y=>⟨.bl b,H,I.tok Y,rfl,q⟩
 rcases h with⟨rfl,e⟩|⟨a,C,d,f,rfl,l,i,e⟩
 .cases Z;exact W.kia_one W.kitx_none I.kIn True.intro e (fun z=>nomatch z) fin
 .cases(Z);exact W.kia_one (Tg i) I.kIn (I.hok a _ l).1 e (fun z=>nomatch z) fin
theorem RB.exc{K:W.Frag}{G:GH}{H:Hp}{v:V}{k:Str}{nm:Str}{ds:List (Str×D)}(Y:cK K G H)(h:RB K G H v (.obj 0 ((k,.str nm)::ds))):∃a C U,v=.ref a/\H a=some (.ext (kW a C U))/\XN K nm C:=by
 rcases h with h|⟨a,rfl,h⟩
 .cases h with
 |scl s=>cases s
 |ref e=>cases Y _ _ e with
  |exc r n f=>grind
 |kc k=>cases k
 .cases h.ob
theorem He(Y:∀u,aR cv u->u=c)(t:IsxOk X.K c h)(P:PE X j (tC cv))(M:Gl X "isinstance")(J:X.mg "isinstance" = none)(N:SB X g m e f)(U:!B_ [e,j] X.env=(false,eval e X.env)::B_ [j] X.env)(Z:!Sx X j [])(n:!(backTo pos (B_ [j] X.env)).any (·.1)=false):SE X g m (.Call (.Name "isinstance" p) [e,j] [] pos) (f1 f (gL h)):=by
 refine PE.imp (nA (RE Y) M J (by first|grind|rfl) (gR N (gR P jT Z) U) `d (rfl) U n) fun T H Q u=>?_;obtain⟨r,G,B,q⟩:=u;refine ⟨r,G,B,bW (cJ q) fun d E v y x l o=>?_⟩
 obtain⟨W,i,s⟩:=d9 E;unfold gL at i;split at i
 .cases i;have I:=o.non l.ok;subst I;exact⟨.non,false,rfl,.inl ⟨rfl,t.no⟩,s _ y x l (.scl (.bl _))⟩
 .rename_i k nm ds;cases w:h nm with
 |none=>simp_all
 |some b=>rw[w]at i;cases i;obtain⟨a,C,F,rfl,O,z⟩:=RB.exc l.ok o;obtain⟨R,A,L⟩:=t.ex nm b C w z;exact⟨.ref a,b,rfl,.inr ⟨a,C,F,R,rfl,O,A,L⟩,s _ y x l (.scl (.bl _))⟩
 .cases i
theorem pC{a:Str->Option Bool}(Z:X.mg x=some (.ref T))(c:IsxOk X.K (.ref T) a)(Y:Gl X x)(i:Gl X "isinstance")(d:X.mg "isinstance" = none)(j:SB X g m e f)(k:!!Nq x)(U:!B_ [e,.Name x p2] X.env=(false,eval e X.env)::B_ [.Name x p2] X.env)(l:!B_ [.Name x p2] X.env=(false,eval (.Name x p2) X.env)::B_ [] X.env)(b:!(backTo pos (B_ [.Name x p2] X.env)).any (·.1)=false):SE X g m (.Call (.Name "isinstance" p) [e,.Name x p2] [] pos) (f1 f (gL a)):=He (cv:=.ref T) (fun u h=>h) c (tY Y Z rfl k) i d j U l b
theorem Pr{T:String}{a:Str->Option Bool}(d:Ą x=some (.type T))(Z:X.mg x=none)(c:IsxOk X.K (.type T) a)(Y:Gl X x)(k:Gl X "isinstance")(j:X.mg "isinstance" = none)(l:SB X g m e f)(i:x≠"__name__" := by decide)(n:!!Nq x)(U:!B_ [e,.Name x p2] X.env=(false,eval e X.env)::B_ [.Name x p2] X.env)(o:!B_ [.Name x p2] X.env=(false,eval (.Name x p2) X.env)::B_ [] X.env)(b:!(backTo pos (B_ [.Name x p2] X.env)).any (·.1)=false):SE X g m (.Call (.Name "isinstance" p) [e,.Name x p2] [] pos) (f1 f (gL a)):=He (cv:=.ty T) (fun u h=>h) c (Ic Y Z d rfl i n) k j l U o b
end
def NR(_ b:Int):Prop:=b≠0/\b.natAbs<ss
instance (a b:Int):Decidable (NR a b):=by unfold NR;exact inferInstance
theorem XN.uniq{K:W.Frag}(h:XN K nm C)(k:(K.all fun e=>match e.2.data with|.cls Y=>Y.name != nm || e.1==c|_=>true)=true):C=c:=by
 obtain⟨o,Y,f,d,b⟩:=h;have a:(C,o)∈(K:List (Addr×Obj)):=by
  have U:∀l:List (Addr×Obj),l.lookup C=some o->(C,o)∈l:=by
   intro l
   induction l with
  |nil=>intro h;cases h
  |cons q l Z=>
    intro h;rw[Õ]at h;split at h
    .rename_i hb;have:=ù hb;cases h;rw[this];exact h_
    .exact i_ _ (Z h)
  exact U K f
 have:=P_.mp k _ a;simp only[d]at this;rw[b]at this;simpa using this
end DL
namespace DL
open PySem PySem.Spec PyProof.Rows L2
theorem jC.get{K:W.Frag}(h:jC K G fs ds)(l:ds.lookup f=some d):∃v,fs.lookup f=some v/\RG K G v d:=by induction h with
|nil=>cases l
|@cons p q fs ds r _ U=>grind
theorem RB.ins{K:W.Frag}(U:cK K G H)(h:RB K G H v (.obj 2 ((k,.str nm)::ds))):∃a C Z fs,v=.ref a/\H a=some (.ins C Z fs)/\XN K nm C/\jC K G fs ds/\RG K G v (.obj 2 ((k,.str nm)::ds)):=by
 rcases h with h|⟨a,rfl,h⟩
 .cases h with
 |scl s=>cases s
 |@ref a _ e=>have Y:=e;cases U _ _ e with
  |ins r n f=>exact⟨_,_,_,_,rfl,r,n,f,.ref Y⟩
 |kc k=>cases k
 .cases h.ob
def jf(K:W.Frag)(f:Str)(hit:Str->Bool):Prop:=∀nm C,hit nm=true->XN K nm C->Cls K C/\jo K C f
noncomputable def dQ(hit:Str->Bool)(f:Str):D->Option D
|.obj 2 ((_,.str nm)::ds)=>if hit nm=true then ds.lookup f else none
|_=>none
variable{X:Cx}{g:GE}{m:List Md}{e:Expr}{es:List Expr}{fl:aI->Res (List D)}{fe:FE}{f nm:Str}{C:Addr}{p pos:Pos}
section
variable{ro:Bool}{mb:List Md}{a o:Expr}{fo:FE}{x mt:Str}{p2 np apos:Pos}{hit:Str->Bool}
theorem ip(p:jf X.K f hit)(s:SB X g m e fe)(t:!X_ e f X.env (eval e X.env)=eval e X.env):SE X g m (.Attribute e f pos) (f1 fe (dQ hit f)):=by
 refine PE.imp (pJ s t) fun B H Q e=>?_;obtain⟨r,G,c,q⟩:=e;refine ⟨r,G,c,bW (cJ q) fun d n v A z Y i=>?_⟩
 obtain⟨E,U,j⟩:=d9 n;unfold dQ at U;split at U
 .rename_i k nm ds;split at U
  .rename_i hh;obtain⟨a,C,x,w,rfl,u,b,rf,_⟩:=RB.ins Y.ok i;obtain⟨y,o⟩:=p nm C hh b;obtain⟨Z,l,h⟩:=rf.get U;exact⟨a,C,x,w,Z,rfl,u,y,o,l,j Z A z Y h⟩
  .cases U
 .cases U
end
structure MethAt(K:W.Frag)(nm mt qual:Str)(st:Stmt):Prop where
 ex:∃C f fd,(∀C',XN K nm C'->C'=C)/\Cls K C/\Meth K C mt f/\Fun K mt qual st f fd
noncomputable def xJ(f:Str)(v:D):List (Str×D)->List (Str×D)
|[]=>[(f,v)]
|(g,x)::r=>if g=f then(g,v)::r else(g,x)::xJ f v r
theorem jC.put{K:W.Frag}(r:RG K G y d)(h:jC K G fs ds):jC K G (L2.putF f y fs) (xJ f d ds):=by induction h with
|nil=>exact .cons ⟨rfl,r⟩ .nil
|@cons p q fs ds U t Z=>
  obtain⟨a,v⟩:=p;obtain⟨b,c⟩:=q;have Y:=U.1;subst Y;show jC K G (if a=f then(a,y)::fs else(a,v)::L2.putF f y fs) (if a=f then(a,d)::ds else(a,c)::xJ f d ds);by_cases z:a=f
  .rw[Q_d z,Q_d z];exact .cons ⟨rfl,r⟩ t
  .rw[Q_e z,Q_e z];exact .cons U Z
theorem jC.mono{K:W.Frag}(h:jC K G fs ds)(Y:∀a d,G a=some d->U a=some d):jC K U fs ds:=Paired.mono (fun _ _ r=>⟨r.1,r.2.mono Y⟩) h
theorem jC.len{K:W.Frag}(h:jC K G fs ds):fs.length=ds.length:=by induction h with
|nil=>rfl
|cons _ _ U=>simp_all
section
variable{r:aI}{G G':GH}{σ:L2.St}{H H':Hp}{x dx:Addr}{fs fs':List (Str×V)}
theorem SI.ins(s:SI X g m r G σ H)(e:H x=some (.ins C dx fs))(j:g.h0 x=none)(hG:G x=none):SI X g m r G σ (aO H x (.ins C dx fs')):=by
 have c:∀b d,G b=some d->b≠x:=fun b d h z=>by simp_all
 have own:∀{b:Addr}{d:D},Own X.K G H b d->b≠x:=fun{b d} o z=>by subst z;cases o.ob with
 |lst r _=>rw[e]at r;cases r
 |dic r _=>rw[e]at r;cases r
 have f:∀{b:Addr}{d:D},Own X.K G H b d->Own X.K G (aO H x (.ins C dx fs')) b d:=fun{b d} o=>⟨o.un,o.ob.mono `g fun u U=>by rw[bL (own o)];exact U⟩
 refine⟨fun b d h=>(s.gok b d h).mono `g fun u U=>by rw[bL (c b d h)];exact U,fun b u h=>?_,s.ge,s.gf,s.lm,s.lr,s.sh,fun i d Z Y=>?_,fun i d Z Y=>?_,s.dis,s.lk⟩
 .rw[bL `g];exact s.old b u h
 .obtain⟨a,q1,q2,q3⟩:=s.ow i d Z Y;simp_all
 .obtain⟨v,q1,q2⟩:=s.bw i d Z Y;refine⟨v,q1,?_⟩;rcases q2 with q2|⟨a,rfl,q2,q3⟩
  .exact .inl q2
  .exact .inr `a
end
abbrev FN:=aI->List (Str×D)->Res (List (Str×D))
structure NI(X:Cx)(g:GE)(m:List Md)(x C dx:Addr)(r:aI)(ds:List (Str×D))(G:GH)(σ:L2.St)(H:Hp):Prop where
 si:SI X g m r G σ H
 me:σ[0]? = some (some (V.ref x))
 ob:∃fs,H x=some (.ins C dx fs)/\jC X.K G fs ds
 od:H dx=some (.own x)
 gx:G x=none
 hx:g.h0 x=none
 hd:g.h0 dx=none
noncomputable def Fo(X:Cx)(g:GE)(m:List Md)(x C dx:Addr)(r:aI)(G:GH)(σ:L2.St)(E:Ends):Res (List (Str×D))->Prop
|.ok ds=>∀G' H',bU G G'->NI X g m x C dx r ds G' σ H'->E.nx σ H'
|_=>False
def tN(X:Cx)(g:GE)(m:List Md)(C:Addr)(f:FN):TS:=fun D σ H=>∃r ds G x dx,NI X g m x C dx r ds G σ H/\Fo X g m x C dx r G σ D (f r ds)
def AS(X:Cx)(g:GE)(m:List Md)(C:Addr)(st:List Stmt)(f:FN):Prop:=d7 X st (tN X g m C f)
noncomputable def Oa{α:Type}(x:Res α)(k:α->Res (List (Str×D))):Res (List (Str×D)):=match x with
|.ok a=>k a
|_=>.stuck
section
variable{x0:Str}{pos':Pos}{sts:List Stmt}{s2:FN}
theorem Xk:AS X g m C [] fun _ ds=>.ok ds:=d7.imp pT fun D Y H k=>by obtain⟨r,ds,G,x,Z,U,q⟩:=k;exact q G H (bU.refl G) U
def oh(f:Str)(fe:FE)(s2:FN):FN:=fun r ds=>Oa (fe r) fun d=>if ds.length<900 then s2 r (xJ f d ds)else .stuck
theorem Qc{k:U->Res (List (Str×DL.D))}{D:Ends}(h:Fo X g m a C Y r G σ D (Oa x k)):fin x (fun y=>Fo X g m a C Y r G σ D (k y)) Z:=by cases x with
|ok a=>exact h
|exc e=>exact(h).elim
|stuck=>exact h
theorem Bv(w:Cls X.K C)(i:jo X.K C f)(t:X.N[0]? = some x0)(l:gC X.env.scope x0)(o:SE X g m e fe)(u:AS X g m C sts s2)(s:!!Nq x0)(Y:!!Nc x0)(n:!æ e (some (.Attribute (.Name x0 p) f pos')) pos.line X.env=pure false):AS X g m C (.Assign [.Attribute (.Name x0 p) f pos'] e pos::sts) (oh f fe s2):=by
 refine d7.imp (mI (tF (eV t l s Y) o n) u) fun D E H f=>?_;obtain⟨r,J,G,x,c,Z,q⟩:=f;refine ⟨r,G,Z.si,bW (Qc q) fun d b v A L a h=>?_⟩
 split at b
 .obtain⟨fs,hx,rf⟩:=Z.ob;have U:=a.he _ _ hx;refine⟨_,Z.me,x,C,c,fs,rfl,U,w,i,by rw[rf.len];omega,r,_,A,x,c,⟨(Z.si.grow a).ins U Z.hx ?_,Z.me,⟨_,cX,(rf.mono a.ge).put h⟩,?_,?_,Z.hx,Z.hd⟩,?_⟩
  .rw[a.gf x (by rw[hx];simp)];exact Z.gx
  .rw[bL (fun z=>by have I:=a.he _ _ Z.od;simp_all)];exact a.he _ _ Z.od
  .rw[a.gf x (by rw[hx];simp)];exact Z.gx
  .cases ez:s2 r _ with
  |ok F=>rw[ez]at b;exact fun B y k j=>b B y (bU.trans a.ge k) j
  |exc e=>rw[ez]at b;exact b
  |stuck=>rw[ez]at b;exact b
 .exact(b).elim
end
abbrev xA:=List D->Res (List (Str×D))
def wA(K:W.Frag)(C:Addr)(nm:Str)(ms:List Md)(F:xA):Sp:=fun vs H Q _=>∃G H1 x dx us ds,H=aO (aO H1 dx (.own x)) x (.ins C dx [])/\H1 x=none/\H1 dx=none/\dx≠x/\vs=.ref x::us/\cK K G H1/\ArgsOk K G H1 ms us ds /\fin (F ds) (fun fd=>∀G' H',Grow K G H1 G' H'->G' x=some (iD nm fd)->Q .non H') fun _=>False
structure CalleeN(P:o_)(w:F_)(K:W.Frag)(mg:Str->Option a_)(base:Heap)(x nm:Str)(ps:List Str)(dv:List a_)(k:Nat)(ms:List Md)(F:xA):Prop where
 ex:∃C f fd,mg x=some (.ref C)/\Mk K C f/\gO K fd ps dv/\FnOk P w K mg base eN k f fd ps (wA K C nm ms F)
def qW(nm:Str)(fl:aI->Res (List D))(dds:List D)(F:xA):FE:=fun r=>(fl r).bind fun ds=>match F (ds++dds)with
|.ok fd=>.ok (iD nm fd)
|_=>.stuck
section
variable{ms ms':List Md}{x:Str}{ps:List Str}{k:Nat}{F:xA}{dvs:List V}{dv:List a_}{dds:List D}
theorem make_core{Q:VK}(m:cK X.K G H)(h:ArgsOk X.K G H ms vs Z)(U:Paired Scl dvs dds)(q:fin (match F (Z++dds)with|.ok g=>Res.ok (iD nm g)|_=>.stuck) (fun d=>∀v c b,Grow X.K G H c b->RG X.K c v d->Q v b) fun _=>False):∀a Y,H a=none->H Y=none->Y≠a->wA X.K C nm (ms++j_ dds.length .sh) F (.ref a::(vs++dvs)) (aO (aO H Y (.own a)) a (.ins C Y [])) (fun v n=>v=.non/\Q (.ref a) n) E0:=by intro a Y l k j;refine⟨G,H,a,Y,vs++dvs,Z++dds,rfl,l,k,j,rfl,m,h.app U,?_⟩;cases f:F (Z++dds)with
|ok g=>rw[f]at q;exact fun c b w i=>⟨rfl,q _ c b w (.ref i)⟩
|exc e=>rw[f]at q;exact(show False from q).elim
|stuck=>rw[f]at q;exact(show False from q).elim
theorem BI(c:CalleeN X.prog X.w X.K X.mg X.base x nm ps dv k ms' F)(s:Room (k+1) X.A)(y:iL X g m (e::es) ms fl)(U:!ms'=ms++j_ dds.length .sh)(t:!Gl X x)(u:aJ dvs dv:=by exact .nil)(Z:Paired Scl dvs dds:=by exact .nil)(Y:!!Nq x)(a:!Sx X e es)(b:!Bx X pos es):SE X g m (.Call (.Name x p) (e::es) [] pos) (qW nm fl dds F):=by
 subst U;obtain⟨C,f,P,I,E,B,z⟩:=c.ex;refine PE.imp (Ro E z s t I B u mT y Y a b) fun M H Q w=>?_;obtain⟨r,G,l,q⟩:=w;refine ⟨r,G,l,?_⟩
 unfold qW at q;cases h:fl r with
|ok N=>rw[h,bind_ok]at q;intro O T R i o;refine make_core i.ok o Z (bW (zE q ?_) fun d k v L J j n=>k v L J (i.trans j) n);intro e a;split at a <;> cases a
|exc x=>rw[h]at q;exact q
|stuck=>rw[h]at q;exact q
end
section
variable{P:o_}{w:F_}{K:W.Frag}{mg:Str->Option a_}{base:Heap}
structure MakeAt(K:W.Frag)(mg:Str->Option a_)(x nm qual:Str)(st:Stmt):Prop where
 ex:∃C f fd,mg x=some (.ref C)/\XN K nm C/\Cls K C/\Mk K C f/\Fun K "__init__" qual st f fd
theorem JY(k:cK X.K G H)(r:ArgsOk X.K G H ms us ds)(t:ms.length+1<=N.length)(m:H x=none)(A:H Y=none)(y:Y≠x):NI X ⟨G,H,fun _=>none⟩ (gQ N.length (.sh::ms)) x C Y (none::(ds.map some++j_ (N.length-(ds.length+1)) none)) [] G (L2.aX N (.ref x::us)) (aO (aO H Y (.own x)) x (.ins C Y [])):=by
 have s0:=rR k (.sh (.scl .non) r) (by simpa using t);have B:(L2.aX N (.ref x::us)).length=(L2.aX N (.non::us)).length:=by unfold L2.aX;simp
 have U:∀i,i≠0->(L2.aX N (.ref x::us))[i]? = (L2.aX N (.non::us))[i]?:=fun i l=>by
  obtain⟨j,rfl⟩:∃j,i=j+1:=⟨i-1,`o⟩
  unfold L2.aX;simp
 have c:∀i d,(none::(ds.map some++j_ _ none))[i]? = some (some d)->i≠0/\(cS N.length (.non::ds))[i]? = some (some d):=fun i d h=>by cases i with
 |zero=>simp at h
 |succ j=>unfold cS;simpa using h
 have w:Grow X.K G H G (aO (aO H Y (.own x)) x (.ins C Y [])):=by
  have v:∀b o,H b=some o->aO (aO H Y (.own x)) x (.ins C Y []) b=some o:=fun b o g=>by rw[bL `g,bL `g];exact g
  exact⟨fun b d g=>(k b d g).mono `s `a,v,fun _ _ z=>z,fun _ _=>rfl⟩
 have p:SI X ⟨G,H,fun _=>none⟩ (gQ N.length (.sh::ms)) (none::(ds.map some++j_ (N.length-(ds.length+1)) none)) G (L2.aX N (.ref x::us)) H:=by
  refine⟨s0.gok,s0.old,s0.ge,s0.gf,by exact s0.lm,?_,fun i d h Z=>?_,fun i d h Z=>?_,fun i d h Z=>?_,fun i j a d e f l u=>?_,fun i o h=>(nomatch h)⟩
  .rw[B,<-s0.lr];unfold cS;simp
  .obtain⟨z,q⟩:=c i d h;rw[U i z];exact s0.sh i d q Z
  .obtain⟨z,q⟩:=c i d h;rw[U i z];exact s0.ow i d q Z
  .obtain⟨z,q⟩:=c i d h;rw[U i z];exact s0.bw i d q Z
  .obtain⟨z,q⟩:=c i d l;obtain⟨n,s⟩:=c j e u;rw[U i z,U j n];exact s0.dis i j a d e f q s
 refine⟨p.grow w,?_,⟨[],cX,.nil⟩,by rw[bL y,cX],k.isN m,m,A⟩;unfold L2.aX;simp
theorem P0{st:Stmt}(A:MakeAt K mg x nm c st)(S:FnScope N j (aA st))(Y:ms.length+1=j.length)(l:k4 "__init__" c st j)(U:∀(C:Addr),XN K nm C->k6 k c st eN P w K mg base N fun X g=>AS X.nox g (gQ N.length (.sh::ms)) C (aH st) fn):CalleeN P w K mg base x nm j [] (k+1) ms fun ds=>fn (none::(ds.map some++j_ (N.length-(ds.length+1)) none)) []:=by
 obtain⟨C,f,p,n,u,cl,M,F⟩:=A.ex;exact⟨C,f,p,n,M,F.binds l,(by
    refine F.ok S (fun I H Q E k=>by obtain⟨G,B,a,y,us,ds,_,_,_,_,O,v,o,q⟩:=k;rw[O,Ë,o.len.1];exact Y) fun i A Z s H I Q E R h=>?_;obtain⟨G,B,a,y,us,ds,rfl,n,h2,h3,rfl,v,o,q⟩:=h;have T:j.length<=N.length:=by have:=Q_g Ö S.pre;rw[ŕ]at this;omega
    refine⟨_,(U C u f) i A Z s _ ⟨G,B,fun _=>none⟩ E R,_,[],G,a,y,JY v o `o n h2 h3,?_⟩;cases r:fn (none::(ds.map some++j_ (N.length-(ds.length+1)) none)) []with
   |ok p=>simp only[r]at q;have J:=q;intro G' H' le m;obtain⟨fs,X,rf⟩:=m.ob;have w:=m.si.grown;refine J (gset G' a (iD nm p)) H' ⟨m.si.gok.gset m.gx (.ins X u rf),w.he,fun b d l=>lE m.gx b d (w.ge b d l),fun b l=>?_⟩ gV;rw[jp (fun z=>l (by rw[z];exact n))];exact w.gf b l
   |exc e=>simp only[r]at q;exact q
   |stuck=>simp only[r]at q;exact q)⟩
end
end DL
namespace DL
open PySem PySem.Spec PyProof.Rows L2 PySem.W PySem.Calls
noncomputable def kN(K:W.Frag)(C:Addr):Option (List a_×Str):=match K.lookup C with
|some ⟨.type "type",_,.cls cd,sl⟩=>(match cd.mro,sl.toList with
 |.ref C'::bm,[_,_,_,_,some (.builtin _),_]=>if (C'==C && not cd.hasDel)=true then some (bm,cd.name)else none
 |_,_=>none)
|_=>none
theorem Bc{K:W.Frag}(h:kN K C=some (Z,nm)):XO K C Z/\XN K nm C:=by
 unfold kN at h;split at h
 .rename_i dict cd sl hk;split at h
  .rename_i C' bm' k0 k1 k2 k3 n k5 hm hs;split at h
   .rename_i hc;cases h;simp only[L_,beq_iff_eq,Ş]at hc;obtain⟨rfl,d⟩:=hc;refine⟨?_,_,cd,hk,rfl,rfl⟩;obtain⟨c,m,Y,k,q,a,j,b,o,i,U⟩:=cd;have g:Y=Value.ref C'::Z:=hm;have f:U=false:=d;subst g f;have e:sl = #[k0,k1,k2,k3,some (Value.builtin n),k5]:=by cases sl with
    |mk l=>exact Q_g Array.mk hs
    subst e;exact⟨_,_,_,_,_,_,_,_,_,_,_,_,_,_,_,_,hk⟩
   .cases h
  .cases h
 .cases h
noncomputable def lN(K:W.Frag)(nm:Str)(c:Addr):Bool:=K.all fun e=>match e.2.data with
|.cls cd=>cd.name != nm || e.1==c
|_=>true
structure CF(K:W.Frag)(nm:Str)(c:Addr)(bm:List a_):Prop where
 xa:XA K c bm
 xn:XN K nm c
 un:lN K nm c=true
theorem CF.eq{K:W.Frag}(f:CF K nm c U)(h:XN K nm C):C=c:=XN.uniq h f.un
theorem XE{K:W.Frag}(l:List (Str×Addr×List a_))(h:∀q∈l,CF K q.1 q.2.1 q.2.2/\(Value.ref q.2.1::q.2.2).contains (.ref T)=true)(b:∀nm,U nm=true->∃q∈l,q.1=nm):su K T U:=by intro nm C a Y;obtain⟨q,Z,rfl⟩:=b nm a;obtain⟨f,c⟩:=h q Z;have:=f.eq Y;subst this;exact⟨_,f.xa.ob,c⟩
theorem O4{K:W.Frag}(l:List (Str×Addr×List a_))(n:Ę K (.type "NoneType") c=some false)(h:∀q∈l,CF K q.1 q.2.1 q.2.2/\Ę K (.ref q.2.1) c=U q.1)(d:∀nm b,U nm=some b->∃q∈l,q.1=nm):IsxOk K c U:=by refine⟨n,fun nm b C Y Z=>?_⟩;obtain⟨q,a,rfl⟩:=d nm b Y;obtain⟨f,e⟩:=h q a;have:=f.eq Z;subst this;exact⟨_,f.xa,by rw[e,Y]⟩
theorem AE{K:W.Frag}(Y:K.In h)(G:h.Ns M_ U)(a:W.nsIn K M_ x=some (some (.ref C)))(e:excIn K C gy "ValueError.__new__" = true):XC K U x C:=⟨W.mg_of Y G a,e⟩
noncomputable def ze(s:Stmt)(j:Nat):Stmt:=match s with
|.ClassDef _ _ _ b _ _ _ _ _ _ _=>b.getD j s
|_=>s
noncomputable def nL(K:W.Frag)(C:Addr)(nm:Str):Bool:=match K.lookup C with
|some o=>(match o.data with
 |.cls cd=>cd.name==nm
 |_=>false)
|none=>false
structure OC(K:W.Frag)(nm:Str)(C:Addr):Prop where
 un:∀C',XN K nm C'->C'=C
 xn:XN K nm C
 cl:Cls K C
theorem ND{K:W.Frag}(x:nL K C nm=true)(u:lN K nm C=true)(a:W.plainGet K C ā=true)(b:W.hasDictIn K C=true)(c:W.plainOver K C=true)(d:W.findIn K (.ref C) "__setattr__" = some (some (.builtin "object.__setattr__"))):OC K nm C:=
 ⟨fun U h=>XN.uniq h u,(by
    unfold nL at x;split at x
    .rename_i o e;split at x
     .rename_i cd ed;exact⟨o,cd,e,ed,ù x⟩
     .cases x
    .cases x),⟨a,b,c,d⟩⟩
theorem vS{K:W.Frag}(l:List (Str×Addr))(h:∀q∈l,OC K q.1 q.2/\jo K q.2 f)(c:∀nm,U nm=true->nm∈l.map (·.1)):jf K f U:=fun nm C b Y=>by obtain⟨q,a,rfl⟩:=w_.mp (c nm b);obtain⟨o,Z⟩:=h q a;rw[o.un C Y];exact⟨o.cl,Z⟩
theorem NC{K:W.Frag}{st:Stmt}(o:OC K nm C)(b:W.findIn K (.ref C) Y=some (some (.ref f)))(a:W.isFn K (.ref f)=true)(F:Fun K Y U st f Z):MethAt K nm Y U st:=⟨C,f,Z,o.un,o.cl,⟨b,a,F.kp⟩,F⟩
theorem NB{K:W.Frag}{st:Stmt}(o:OC K nm C)(a:Y x=some (.ref C))(e:W.makesIn K C=true)(d:W.findIn K (.ref C) "__init__" = some (some (.ref f)))(c:W.isFn K (.ref f)=true)(b:W.keepIn K (.ref C)=true)(F:Fun K "__init__" U st f Z):MakeAt K Y x nm U st:=⟨C,f,Z,a,o.xn,o.cl,⟨e,d,c,b⟩,F⟩
def ki{α:Type}(P:α->Prop):List α->Prop
|[]=>True
|a::l=>P a/\ki P l
theorem ki.mem:∀{l:List Y},ki P l->∀q∈l,P q
|[],_,_,U=>by cases U
|a::l,h,q,U=>by
  rcases m_.mp U with rfl|U
  .exact h.1
  .exact ki.mem h.2 q U
abbrev QL:=List (Str×Addr×List a_)
theorem FH{Y U N:List Str}{L:QL}(a:L.map (·.1)=N)(Z:(Y++U).all (fun x=>N.contains x)=true)(h:(if Y.contains nm=true then some true else if U.contains nm=true then some false else none)=some b):∃q∈L,q.1=nm:=`g
theorem pi{K:W.Frag}{Y U N:List Str}{L:QL}(b:L.map (·.1)=N)(f:ki (fun q=>CF K q.1 q.2.1 q.2.2) L)(n:Ę K (.type "NoneType") c=some false)(h:L.all (fun q=>Ę K (.ref q.2.1) c==if Y.contains q.1=true then some true else if U.contains q.1=true then some false else none)=true)(a:(Y++U).all (fun x=>N.contains x)=true:=by decide+kernel):IsxOk K c fun nm=>if Y.contains nm=true then some true else if U.contains nm=true then some false else none:=O4 L n (fun q Z=>⟨f.mem q Z,ù (P_.mp h q Z)⟩) fun _ _ z=>FH b a z
variable{prog:o_}{w:F_}{A:I_}{E:a_->d_->Prop}{s:d_}{nm:Str}{C N:Addr}{bm sub:List a_}{sn:List Str}{ab:Bool}{col:Option Bool}{dd:Option Addr}{k0 k1 k2 k3 k5:Option a_}
section
variable{q:Str}{a:Addr}{bs:List a_}{newId:String}{oe:Obj}
theorem Yr{K:W.Frag}{Q:a_->d_->Prop}(c:K.In s.heap)(p:s.heap.get? C=some (ë nm q C N bs bm true sn sub ab col dd k0 k1 k2 k3 k5 newId))(d:s.heap.get? a=some oe)(n:oe.cls=.ref C)(U:oe.data=.fields vs)(Y:oe.dict=some g)(m:s.heap.Ns g f)(r:ö K (.ref C) name=some none)(k:f name=some v)(l:ů v=pure v)(hq:Q v s):u_ (y_ prog w) A (ì.«object.__getattribute__» ⟨[.ref a,.str name h],[]⟩) (fun fin i=>∃u,fin=.done (.ret u)/\ů u=pure u/\Q u i) E s:=by obtain⟨t,Z,x,j⟩:=oe;subst n U Y;refine b_ ?_;refine f_ ?_;refine b_ ?_;refine f_ (b_ (Í d ?_));refine b_ ?_;refine b_ (Ņ c r _ _ _ _ (fun b o e=>e) ?_);refine b_ ?_;refine f_ (b_ ?_);refine f_ ?_;refine b_ (b_ (b_ (ı d ?_)));refine b_ (ı d ?_);refine b_ ?_;refine b_ (QeZ p (f_ ?_));refine f_ ?_;refine wpAny_nsGet m ?_;rw[k];exact b_ (Ĵ (f_ (f_ ⟨v,rfl,l,hq⟩)))
end
noncomputable abbrev gX(C t:Addr)(od:Option Addr):Obj:={ cls:=.ref C,dict:=od,data:=.fields #[.ref t,.none,.none,.none,.bool false,.none] }
variable{h:Heap}{gs:Array GenState}{os:OsState}{ql:Str}{nw:String}
section
variable{dr:Drawn}{tk:Nat}
variable{fI:Addr}{bs bB:List a_}{hdct:Bool}{B ini:String}{mN:Str->Option a_}{us:List a_}{oI:Obj}
theorem QV(XF:ExcBaseFacts B nw ini bB)(T:ĉ h bB bm)(c:h.get? C=some (ë nm ql C N bs bm hdct sn sub ab col dd k0 k1 k2 k3 k5 nw))(j:h.Ns N mN)(hi:mN "__init__" = some (.ref fI))(k:h.get? fI=some oI)(q:oI.cls=.type "function")(g:us.length<=sizeLine)(hq:∀h' e,Qfg h h' e (.ref C) us->u_ (y_ prog w) A (call (.ref fI) (.ref e::us)) (fun r d=>r=.none/\Q (.done (.ret (.ref e))) d) E ⟨h',gs,dr,tk,os⟩):u_ (y_ prog w) A (ì.«type.__call__» ⟨.ref C::us,[]⟩) Q E ⟨h,gs,dr,tk,os⟩:=by
 repeat (first
  |with_reducible refine ŉ c ?_
  |with_reducible refine wpAny_madeBy_exc c ?_
  |wp_step)
 refine codeAny_call_builtin_code (QcM _ XF.quiet) (wpAny_check_new_subT XF T c (codeAny_exc_new_subT XF T c ?_ g));have a:∀b o,h.get? b=some o->((h.push { cls:=.type "tuple",data:=.seq us.toArray }).push (gX C h.objs.size none)).get? b=some o:=fun b o e=>c_ _ (c_ _ e);have f:((h.push { cls:=.type "tuple",data:=.seq us.toArray }).push (gX C h.objs.size none)).get? (h.objs.size+1)=some (gX C h.objs.size none):=by heap_get
 have p:((h.push { cls:=.type "tuple",data:=.seq us.toArray }).push (gX C h.objs.size none)).get? h.objs.size=some { cls:=.type "tuple",data:=.seq us.toArray }:=c_ _ (Qet rfl rfl);have U:=a _ _ c;have Y:=a _ _ k;have Z:=j.keeps a;have n:=T.keeps a;have m:(Value.ref C::bm).contains (.ref C)=true:=`s
 unfold ŋ
 repeat (first
  |with_reducible refine ŉ f ?_
  |(with_reducible refine Ĭ U ?_;rw[m])
  |wp_step)
 refine wpAny_typeLookup_tail U Z n XF.mroIs XF.init.lookup ?_;rw[hi];refine ø (b_ ?_);unfold bindSpecial;refine b_ (Ū (T := "function") ⟨_,Y,q⟩ ?_);refine f_ (b_ (V_ (hq _ (h.objs.size+1) ⟨a,Ŏ (ŝ _),h.objs.size,f,Ŏ (k_ _),p⟩) (fun r d i=>?_) fun _ _ z=>z));obtain⟨rfl,l⟩:=i
 wp_walk
 exact l
theorem Tw(XF:ExcBaseFacts B nw ini bB)(T:ĉ h bB bm)(Y:h.get? C=some (ë nm ql C N bs bm hdct sn sub ab col dd k0 k1 k2 k3 k5 nw))(b:h.Ns N mN)(hi:mN "__init__" = some (.ref fI))(d:h.get? fI=some oI)(U:oI.cls=.type "function")(a:us.length<=sizeLine)(hq:∀h' e,Qfg h h' e (.ref C) us->u_ (y_ prog w) (A.under (.builtin "type.__call__" ⟨.ref C::us,[]⟩)) (call (.ref fI) (.ref e::us)) (fun r Z=>r=.none/\Q (.ref e) Z) E ⟨h',gs,dr,tk,os⟩):u_ (y_ prog w) A (call (.ref C) us) Q E ⟨h,gs,dr,tk,os⟩:=by
 have f1:=tc_lookup;have f2:=tc_bind (.ref C);refine Ä (codeAny_of_tree ?_)
 repeat (any_goals (first
  |assumption
  |with_reducible refine ŉ Y ?_
  |wp_step))
 exact⟨rfl,codeAny_call_builtin_at (QcM _ `k) entry_typeCall (wpAny_check_type_call_sub Y (QV XF T Y b hi d U a fun h' e c=>hq h' e c))⟩
theorem Sa(h:bm.contains (.type "BaseException")=true)(c:A.handled=none)(b:u_ M A x (fun v Y=>∃e t Z,v=.ref e/\Y.heap.get? C=some (ë nm ql C N bs bm hdct sn sub ab col dd k0 k1 k2 k3 k5 nw)/\Y.heap.get? e=some (gX C t Z)/\E (.ref e) Y) E s):u_ M A (raiseStmt env (some x) none) Q E s:=by
 have U:(Value.ref C::bm).contains (.type "BaseException")=true:=by rw[Ŕ,h,ş]
 unfold raiseStmt;refine b_ (V_ b (fun v Y j=>?_) fun _ _ z=>z);obtain⟨e,t,Z,rfl,a,f,i⟩:=j;obtain⟨m,g,d,k,l⟩:=Y
 repeat (first
  |with_reducible refine ŉ f ?_
  |with_reducible refine ŉ a ?_
  |(with_reducible refine Ĭ a ?_;rw[U])
  |wp_step)
 exact wpAny_raiseNew_none c i
end
theorem VY(T:ĉ h gy Y):refuseLoop U "__setattr__" Y=pure ():=by induction T with
|base=>exact PySem.F.store_ValueError.passes U
|own _ _ _ _ Z=>rw[refuseLoop_ref];exact Z
section
variable{dr:Drawn}{tk:Nat}
variable{e t:Addr}{bs:List a_}{K:W.Frag}{name:Str}{v:a_}
theorem E9(c:K.In h)(g:h.get? C=some (ë nm ql C N bs bm true sn sub ab col dd k0 k1 k2 k3 k5 nw))(T:ĉ h gy bm)(a:h.get? e=some (gX C t none))(p:ö K (.ref C) "__setattr__" = some (some (.builtin "object.__setattr__")))(n:ö K (.ref C) name=some none)(hq:∀h' i f,h.get? i=none->h'.get? e=some (gX C t (some i))->h'.Ns1 i (fun y=>if y=name then some v else none)->(∀b o,b≠e->h.get? b=some o->h'.get? b=some o)->Q () ⟨h',gs,dr,f,os⟩):u_ (y_ prog w) A (setAttr (.ref e) name v) Q E ⟨h,gs,dr,tk,os⟩:=by
 have r:=PySem.F.store_ValueError.slot.bind (.ref e);have x:(Value.ref C::bm).contains (.type "object")=true:=by rw[Ŕ,CS T `r,ş]
 have z:Looks (y_ prog w) h (ŋ (.ref e) (.type "object")) true:=by intro A Q E s k q;refine b_ (Í (k _ _ a) ?_);exact Ĭ (k _ _ g) (by rw[x];exact q)
 refine b_ (wpAny_mkText ?_);refine b_ (b_ (b_ (Í a (Ņ c p _ _ _ _ (fun b o e=>e) ?_))));refine ø ?_;rw[r];refine b_ (f_ (b_ (Ä ?_)));have d:=PySem.F.store_object;refine Ň d.slot.plain d.entry (@check_slot _ _ _ _ "object.__setattr__" "object" "__setattr__" _ [.str name tk,v] [] _ d.kind d.split z (d.args _ _ v) ?_);show u_ _ _ (ì.«object.__setattr__» ⟨[.ref e,.str name tk,v],[]⟩) _ _ _;rw[osa_eq,refuse_eq];refine b_ (b_ (Í a (b_ (wpAny_mroOf_exc g ?_))));rw[refuseLoop_ref,VY T];refine f_ (b_ (Í a (b_ (Ņ c n _ _ _ _ (fun b o e=>e) ?_))));refine b_ ?_;refine f_ ?_;have Z:(h.push { cls:=.type "dict",data:=.dict #[] }).get? e=some _:=c_ _ a;have l:=H_ (n_ a);refine b_ (f_ (b_ (b_ (ı a (b_ ?_)))));refine b_ (QeZ g (f_ ?_));refine b_ (wpAny_alloc' (b_ (wpAny_update' Z (f_ ?_))));have I:((h.push { cls:=.type "dict",data:=.dict #[] }).update e fun o=>{ o with dict:=some h.objs.size }).get? h.objs.size=some { cls:=.type "dict",data:=.dict #[] }:=(É _ _ _ _ l.symm).trans (Qet rfl rfl);have B:((h.push { cls:=.type "dict",data:=.dict #[] }).update e fun o=>{ o with dict:=some h.objs.size }).Ns h.objs.size _:=⟨_,#[],_,I,rfl,fun e a=>Q_f a `s,fun _=>rfl⟩
 refine b_ (f_ (b_ (wpAny_nsSet1 (Qej B) fun h' U j=>?_)));obtain⟨oD,L,M,G,H,u⟩:=U.count (Within.cons name v Within.nil);refine b_ (wpAny_lookBehind G (by rw[H];exact pastItsLine_dict (U_ u `s)) ?_);have J:=(j.2 e l).trans (Ġ _ Z rfl);refine f_ (f_ (f_ (hq h' h.objs.size _ (Ŏ (k_ _)) J U fun b o m Y=>?_)));exact(j.2 b (H_ (n_ Y))).trans ((É _ _ _ _ m).trans (c_ _ Y))
theorem Pk(a:h.get? C=some (ë nm ql C N bs bm true sn sub ab col dd k0 k1 k2 k3 k5 "ValueError.__new__"))(T:ĉ h gy bm)(Y:h.get? e=some (gX C t none))(hq:∀h' t',h'.get? e=some (gX C t' none)->(∀b o,b≠e->h.get? b=some o->h'.get? b=some o)->Q .none ⟨h',gs,dr,tk,os⟩):u_ (y_ prog w) A (call (.builtin "ValueError.__init__") [.ref e,x]) Q E ⟨h,gs,dr,tk,os⟩:=by
 have XF:=PySem.F.excBase_ValueError;refine Ä (Ň XF.init.plain XF.initEntry (wpAny_check_init_subT XF T a Y rfl ?_))
 wp_walk
 refine hq _ h.objs.size ?_ fun b o Z U=>?_
 .rw[Ġ _ (c_ _ Y) rfl];rfl
 .rw[É _ _ _ _ Z];exact c_ _ U
end
def XR(e C:Addr)(od:Option Addr):Heap->Prop:=fun h=>∃t,h.get? e=some (gX C t od)
theorem XR.ok(x:h.get? e=some (gX C t U)):fJ P w H h e (.ext (XR e C U)):=⟨⟨t,x⟩,⟨_,x⟩,fun Z Y ⟨t,q⟩ k=>⟨t,k _ q⟩⟩
structure XI(K:W.Frag)(C:Addr)(bm:List a_)(f:Str):Prop where
 ob:∃N nm q bs sn sub ab col dd k0 k1 k2 k3 k5,K.lookup C=some (ë nm q C N bs bm true sn sub ab col dd k0 k1 k2 k3 k5 "ValueError.__new__")
 tl:∀h,K.In h->ĉ h gy bm
 g0:ö K (.ref C) "__setattr__" = some (some (.builtin "object.__setattr__"))
 g1:ö K (.ref C) f=some none
structure XT(K:W.Frag)(T:Addr):Prop where
 sp:specialIn K (.ref T) "__getattribute__" = some (some (.builtin "type.__getattribute__"))
 rd:readsIn K T (.type "type")=true
 fc:findCls K (.ref T) (.type "type") "__init__" = some (.val (.builtin "ValueError.__init__"))
variable{e:Expr}{X:Cx}{pos:Pos}
section
variable{ps:List Expr}{te:TE}{n k:Nat}{c:L2.St->Prop}{v₁ v₂:Expr}
def PJ(X:Cx)(ps:List Expr)(n:Nat)(c:L2.St->Prop):Prop:=∀(pz:List (Addr×Obj))(s:d_)(σ:L2.St)(H:Hp)(out:Str)(Q:a_->d_->Prop),Inv X pz σ H s->c σ->out.length+n<=1000000 ->(∀x t s',x.length<=sizeLine->Inv X pz σ H s'->Q (.str x t) s')->u_ (y_ X.prog X.w) X.A (joinParts out (ï ps X.env)) Q X.xe s
theorem BS:PJ X [] 0 c:=fun a s Z H U Q I _ b q=>by
 have Y:U.length<=sizeLine:=by rw[G_];omega
 exact joinParts_nil (q U _ _ Y (I.tok _)) Y
theorem Jc(i:PE X e te)(g:PJ X ps n c)(h:∀σ H Q,c σ->(∀x:Str,x.length<=k->Q (.str x) H)->te σ H Q)(f:!ï (e::ps) X.env=eval e X.env::ï ps X.env):PJ X (e::ps) (k+n) c:=fun Z s σ H U Q I a o q=>by
 rw[f];refine QdN (bJ (i Z s σ H (fun x b=>∃y:Str,y.length<=k/\x=.str y/\b=H) I (h σ H _ a fun x Y=>⟨x,Y,rfl,rfl⟩)) fun u d z=>?_);obtain⟨x,b,l,r,y,m,Y,j⟩:=z;subst Y j;obtain⟨t,rfl⟩:=(show ∃t,u=Value.str y t from r)
 have p:(U++y).length=U.length+y.length:=ñ _ _;refine⟨by rw[G_];omega,g Z d σ _ _ Q l a `o q⟩
theorem yG(Y:PJ X ps n c)(U:!ï (.Constant (.str a) j p::ps) X.env=eval (.Constant (.str a) j p) X.env::ï ps X.env):PJ X (.Constant (.str a) j p::ps) (a.length+n) c:=Jc Bz Y (fun Z H Q _ q=>q a (k_ _)) U
theorem Oj(b:PE X e Y):PE X (.FormattedValue e (-1) none pos) (fun σ H Q=>Y σ H fun x U=>∃i:Int,x=.int i/\i.natAbs.log2<64/\∀z:Str,z.length<=65->Q (.str z) U):=by
 intro Z s σ H Q I h;refine QdO (bJ (b Z s σ H _ I h) fun u f k=>?_);obtain⟨x,U,d,r,i,a,c,q⟩:=k;subst a;obtain⟨t,rfl⟩:=(r)
 refine QdA `o ⟨.str _,U,d.tok _,⟨_,rfl⟩,q _ ?_⟩;rw[PySem.ofString_length];exact int_text_length_le `d c
theorem BR{j:Nat}{p:Pos}(e:X.N[j]? = some x)(Y:gC X.env.scope x)(a:PJ X ps n c)(d:∀σ,c σ->∃i:Int,σ[j]? = some (some (.int i))/\i.natAbs.log2<64)(b:!!Nq x)(U:!!Nc x)(Z:!ï (.FormattedValue (.Name x p) (-1) none pos::ps) X.env=eval (.FormattedValue (.Name x p) (-1) none pos) X.env::ï ps X.env):PJ X (.FormattedValue (.Name x p) (-1) none pos::ps) (65+n) c:=Jc (Oj (eV e Y b U)) a (fun σ H Q h q=>by obtain⟨i,g,f⟩:=d σ h;exact⟨_,g,i,rfl,f,q⟩) Z
theorem Bn(h:PJ X (U::v₂::ps) n c)(f:n<=1000000)(e:!ï (U::v₂::ps) X.env=eval U X.env::eval v₂ X.env::ï ps X.env):PE X (.JoinedStr (U::v₂::ps) pos) (fun σ H Q=>c σ/\∀x:Str,x.length<=sizeLine->Q (.str x) H):=by
 intro Y s σ H Q I ⟨a,q⟩;refine JoinedStr_many ?_;have:=h Y s σ H ā (EP X Y σ Q) I a (by show 0+n<=_;omega) fun x t d Z b=>⟨.str x,H,b,⟨t,rfl⟩,q x Z⟩
 simp_all
end
variable{a:Expr}{t:TA}{p:Pos}
section
variable{as:List Expr}{x:Str}{T:Addr}{apos:Pos}{pl:Sem Bool}
theorem Cm(G:Gl X x)(F:X.mg x=some (.ref T))(d:XT X.K T)(J:PA X (a::as) t)(Y:!!Nq x)(B:!eval (.Call (.Attribute (.Name x p) "__init__" apos) (a::as) [] pos) X.env=k7 X (.Name x p) "__init__" (a::as) apos pos pl)(E:!Sx X a as)(U:!Bx X pos as):PE X (.Call (.Attribute (.Name x p) "__init__" apos) (a::as) [] pos) (fun σ H Q=>t σ H fun vs Z=>∃e C l f y,vs=[.ref e,y]/\Z e=some (.ext (XR e C none))/\XI X.K C l f/\Q .non Z):=by
 intro v s σ H Q I h;refine methodCall_KW (mG I G F ?_ Y) B;refine method_cls I.kIn d.sp (cls_value I.kIn d.rd d.fc rfl ?_);have P:=I.tok (s.toks+1);have j:=J pos v _ σ H _ P h;rw[E]at j ⊢;refine Qcf (by show(false || (backTo pos _).any (·.1))=false;rw[U] <;> rfl) (QdF ?_);refine bJ j fun R n a=>?_;obtain⟨vs,Z,c,r,e,C,l,f,y,A,i,g,q⟩:=a;subst A;obtain⟨u,z,rfl,o,r2⟩:=yC r;cases(o);obtain⟨⟨t,M⟩,_,_⟩:=c.hok e _ i;obtain⟨N,nm,ql,bs,W,m,ab,O,dd,k0,k1,k2,k3,k5,w⟩:=g.ob;refine Pk (c.kIn _ _ w) (g.tl _ c.kIn) M fun h' t' k L=>⟨.non,Z,?_,rfl,q⟩
 have:=c.write (t':=n.toks) (by rw[i];trivial) (.inl rfl) L ⟨_,k⟩ (XR.ok k);rw[show aO Z e _=Z from by funext b;unfold aO;split <;> simp_all]at this;exact this
theorem Cn{F E:TE}(L:PE X o F)(hv:PE X v E)(hs:!æ v (some (.Attribute o f J)) pos.line X.env=pure false):PS X (.Assign [.Attribute o f J] v pos) (fun D σ H=>E σ H fun y A=>F σ A fun x k=>∃e C M,x=.ref e/\k e=some (.ext (XR e C none))/\XI X.K C M f/\∀d,k d=none->d≠e->D.nx σ (aO (aO k d (.xd [(f,y)])) e (.ext (XR e C (some d))))):=by
 intro G s σ H D I h;refine Qcl (bJ (hv G s σ H _ I h) fun u R ⟨y,A,I1,T,q⟩=>bJ (L G R σ A _ I1 q) fun ov s2 K=>?_) hs;obtain⟨x,k,j,W,e,C,M,ex,he,l,q2⟩:=K;subst ex;obtain rfl:ov=Value.ref e:=W;obtain⟨⟨t,g1⟩,_,_⟩:=j.hok e _ he;obtain⟨N,nm,ql,bs,sn,Q,ab,col,dd,k0,k1,k2,k3,k5,ob⟩:=l.ob;refine E9 j.kIn (j.kIn _ _ ob) (l.tl _ j.kIn) g1 l.g0 l.g1 fun h' d P n1 n2 n3 p=>?_;have dl:k d=none:=by cases z:k d with
 |none=>rfl
 |some L=>obtain⟨o,n⟩:=yF (j.hok d _ z);simp_all
 have Y:d≠e:=fun z=>by simp_all
 have i:∀b u,k b=some u->b≠e->aO (aO k d (.xd [(f,y)])) e (.ext (XR e C (some d))) b=some u:=fun b u a U=>by rw[bL U,bL (fun z=>`g)];exact a
 refine⟨σ,_,?_,q2 d dl Y⟩;refine j.call' (ch:=[]) rfl ⟨fun b o a r _ _=>p b o (fun z=>`g) a,fun b o a r _ _=>⟨o.slots,p b o (fun z=>`g) a⟩,fun b o a r _=>?_,fun b o a _=>?_,fun b O a=>i b _ a (fun z=>`g),fun b o u a=>i b _ a (fun z=>`g),fun b ps a=>⟨#[],`g⟩⟩ (fun b u a=>?_) j.bare fun b a=>Q_f a `s
 .rw[bL (fun z=>`g),bL (fun z=>`g)];exact r
 .grind
 .by_cases z:b=e
  .subst z;rw[cX]at a;cases a;exact XR.ok n2
  .rw[bL z]at a;by_cases n:b=d
   .subst n;rw[cX]at a;cases a;refine⟨_,n3,fun g=>?_⟩;rw[Õ];by_cases w:g=f
    .subst w;simp;exact T
    .rw[show(g==f)=false from by simpa using w,Q_e w];exact True.intro
   .rw[bL n]at a;refine(j.hok b u a).stay (fun c v m Z=>p c v (fun B=>?_) Z) (fun c m=>i c _ m fun B=>`g) fun c O m=>i c _ m fun B=>by grind
    grind
end
def rZ(C:Addr)(f:Str):Sp:=fun vs H Q _=>∃e i,vs=[.ref e,.int i]/\i.natAbs.log2<64/\H e=some (.ext (XR e C none))/\∀dx,H dx=none->dx≠e->Q .non (aO (aO H dx (.xd [(f,.int i)])) e (.ext (XR e C (some dx))))
def cI(σ:L2.St):Prop:=∃i:Int,σ[1]? = some (some (.int i))/\i.natAbs.log2<64
def EZ(K:W.Frag)(f:Str):TS:=vW (Gv (fun σ H Q=>A9 (nN 0) (A9 (fun σ H Q=>cI σ/\∀x:Str,x.length<=sizeLine->Q (.str x) H) nO) σ H fun vs H1=>∃e C bm f y,vs=[.ref e,y]/\H1 e=some (.ext (XR e C none))/\XI K C bm f/\Q .non H1))
 (fun D σ H=>nN 1 σ H fun y H1=>nN 0 σ H1 fun x H2=>∃e C bm,x=.ref e/\H2 e=some (.ext (XR e C none))/\XI K C bm f/\∀dx,H2 dx=none->dx≠e->D.nx σ (aO (aO H2 dx (.xd [(f,y)])) e (.ext (XR e C (some dx)))))
theorem B5{K:W.Frag}{st:Stmt}{a C:Addr}{b:List a_}{k:Nat}(F:Fun K "__init__" Y st a j)(S:FnScope ["self",y] ["self",y] (aA st))(c:XI K C b f)(o:∀(Z:a_)(A:I_)(U:List Env)(s:d_)(H:Hp)(E:XK),d7 (dm eN P w K d base ["self",y] Y (aA st) a Z A U s H E).nox (aH st) (EZ K f)):FnOk P w K d base eN (k+1) a j ["self",y] (rZ C f):=by
 refine F.ok S (fun l H Q E k=>by obtain⟨e,i,h,_⟩:=k;rw[h];rfl) fun Z A U s H l Q E u z=>?_;obtain⟨e,i,m,n,g,q⟩:=z;refine ⟨_,o Z A U s H E,?_⟩
 subst m;exact⟨_,rfl,⟨i,rfl,n⟩,fun x _=>⟨e,C,b,f,_,rfl,g,c,_,rfl,_,rfl,e,C,b,rfl,g,c,fun t r p=>q t r p⟩⟩
structure XCI(P:o_)(w:F_)(K:W.Frag)(mg:Str->Option a_)(base:Heap)(x:Str)(C:Addr)(f:Str):Prop where
 bound:mg x=some (.ref C)
 keep:keepIn K (.ref C)=true
 ex:∃bm fI fd y oI N nm ql bs sn sub ab col dd k0 k1 k2 k3 k5,XI K C bm f/\K.lookup C=some (ë nm ql C N bs bm true sn sub ab col dd k0 k1 k2 k3 k5 "ValueError.__new__")/\nsOkIn K N=true/\nsIn K N "__init__" = some (some (.ref fI))/\K.lookup fI=some oI/\oI.cls=.type "function" /\gO K fd ["self",y] []/\FnOk P w K mg base eN 1 fI fd ["self",y] (rZ C f)
variable{pz:List (Addr×Obj)}{σ:L2.St}{H:Hp}
theorem Inv.exc{h':Heap}{e C:Addr}{vs:List a_}(I:Inv X pz σ H s)(m:s.heap.MadeExcOf h' e (.ref C) vs):H e=none/\Inv X pz σ (aO H e (.ext (XR e C none))) { s with heap:=h' }:=by
 obtain⟨t,f,k,j⟩:=m.there;have h:H e=none:=by cases z:H e with
 |none=>rfl
 |some u=>obtain⟨o,a⟩:=yF (I.hok e u z);rw[m.new]at a;cases a
 have Y:∀b u,H b=some u->aO H e (.ext (XR e C none)) b=some u:=fun b u U=>by rw[bL (fun z=>`a)];exact U
 refine⟨h,I.call' (ch:=[]) rfl ⟨fun b o U _ _ _=>m.keeps b o U,fun b o U _ _ _=>⟨o.slots,m.keeps b o U⟩,fun b o U g _=>?_,fun b o U _=>⟨o,m.keeps b o U⟩,fun b d U=>Y b _ U,fun b o u U=>Y b _ U,fun b i U=>⟨#[],`a⟩⟩ (fun b u U=>?_) I.bare fun b U=>Q_f U `s⟩
 .rw[bL (fun z=>by rw[z,m.new]at U;cases U)];exact g
 .by_cases z:b=e
  .subst z;rw[cX]at U;cases U;exact XR.ok f
  .rw[bL z]at U;exact(I.hok b u U).stay (fun c v _ Z=>m.keeps c v Z) (fun c Z=>Y c _ Z) fun c d Z=>Y c _ Z
theorem Fly.init{h:d_}{e C g:Addr}(I:Inv X pz σ H s)(m:s.heap.MadeExcOf h' e (.ref C) vs)(M:h.os=s.os)(q:Á h.gens)(i:Un (dU X.stack) [] (aO H e (.ext (XR e C none))) (aO (aO (aO H e (.ext (XR e C none))) g (.xd [(f,y)])) e (.ext (XR e C (some g)))) h' h.heap)(p:HOk X.prog X.w (aO (aO (aO H e (.ext (XR e C none))) g (.xd [(f,y)])) e (.ext (XR e C (some g)))) h.heap)(G:aO H e (.ext (XR e C none)) g=none)(Z:g≠e):H g=none/\Fly X.prog X.w X.stack H s (aO H g (.xd [(f,y)])) e (.ref C) (some g) h:=by
 obtain⟨P,I2⟩:=Inv.exc I m;have x:=by rw[bL Z]at G;exact G
 have N:∀b o,s.heap.get? b=some o->b≠e:=fun b o a z=>by rw[z,m.new]at a;cases a
 have r:∀b,b≠e->aO (aO (aO H e (.ext (XR e C none))) g _) e (.ext (XR e C (some g))) b=aO H g (.xd [(f,y)]) b:=fun b a=>by
  rw[bL a];by_cases z:b=g
  .subst z;rw[cX,cX]
  .rw[bL z,bL z,bL a]
 have Id:∀b,b≠e->aO H e (.ext (XR e C none)) b=H b:=fun b a=>bL a;have IO:aO H g (.xd [(f,y)]) e=none:=by rw[bL Z.symm];exact P
 have BT:∀b u,aO H g (.xd [(f,y)]) b=some u->b≠e:=fun b u a z=>by simp_all
 obtain⟨⟨t,Q⟩,_,_⟩:=p e _ cX;have U:Un (dU X.stack) [] H (aO H g (.xd [(f,y)])) s.heap h.heap:=by
  refine⟨fun b o a E n j=>i.keep b o (m.keeps b o a) `g n j,fun b o a E n j=>i.slot b o (m.keeps b o a) `g n j,fun b o a E j=>?_,fun b o a j=>i.there b o (m.keeps b o a) j,fun b B a=>?_,fun b o u a=>?_,fun b K a=>?_⟩
  .rw[<-r b (N b o a)];exact i.free b o (m.keeps b o a) `g j
  .have hbe:b≠e:=fun z=>by simp_all
   rw[<-r b hbe];exact i.tups b B `a
  .have hbe:b≠e:=fun z=>by simp_all
   rw[<-r b hbe];exact i.frzs b o u `a
  .have hbe:b≠e:=fun z=>by simp_all
   rw[<-r b hbe];exact i.tbls b K `a
 have Y:HOk X.prog X.w (aO H g (.xd [(f,y)])) h.heap:=fun b u a=>by
  refine(p b u `a).stay (fun c v _ k=>k) (fun c k=>?_) fun c B k=>?_
  .have:c≠e:=fun z=>by rw[z,cX]at k;cases k
   simp_all
  .have:c≠e:=fun z=>by rw[z,cX]at k;cases k
   simp_all
 refine⟨x,M,q,U,Y,ţ h.heap (e::dU X.stack),fun b o a=>Qfc _ a,Qer _ h_,?_,⟨_,_,Q,rfl,fun d x=>by cases x;rfl,rfl,.inl rfl⟩,fun b o a n=>?_,fun b u a=>?_⟩
 .have key:∀l,(∀b∈dU l,b∈dU X.stack)->s.heap.FunFrames X.base l->h.heap.FunFrames (ţ h.heap (e::dU X.stack)) l:=by
   intro l
   induction l with
  |nil=>intro _ _;trivial
  |cons env l O=>intro F n;obtain⟨f1,⟨L,o,f2,f3,W,T⟩,R⟩:=n;have A:=F L (by unfold dU;grind);obtain⟨sl,Cl⟩:=U.slot L o W (I.stkFree L A) A `s;refine⟨f1,⟨L,_,f2,Qer _ (i_ _ A),Cl,T⟩,O (fun b a=>F b ?_) R⟩;unfold dU;rw[Œ,f2];exact i_ _ a
  exact key X.stack (fun _ a=>a) I.stack
 .obtain⟨o',ho'⟩:=U.there b o a `s;exact⟨o',QdI _ ho' fun z=>by simp_all⟩
 .obtain⟨o,eo⟩:=yF (Y b u a);refine⟨o,QdI _ eo fun z=>?_⟩;rcases m_.mp z with z|z
  .exact BT b u a z
  .have h1:=I.stkFree b z;by_cases J:b=g
   .obtain⟨_,ob,hob,_⟩:=I.stack.mem z;have:=U.free b ob hob h1 `s
    simp_all
   .rw[bL J,h1]at a;cases a
variable{f:Str}{np:Pos}
section
variable{x:Str}{cpos:Pos}
theorem Uf{Q:Flow->d_->Prop}(I:Inv X pz σ H s)(hc:X.calm=true)(c:XCI X.prog X.w X.K X.mg X.base x C f)(hr:Room 2 X.A)(hg:Gl X x)(ha:PA X [a] t)(h:t σ H fun vs l=>∃i,vs=[.int i]/\i.natAbs.log2<64/\∀B e g p,Inv X pz σ l B->l g=none->Fly X.prog X.w X.stack l B (aO l g (.xd [(f,.int i)])) e (.ref C) (some g) p->X.xe (.ref e) p)(Cl:!!Nq x)(he:!Sx X a [])(E:!Bx X cpos []):u_ (y_ X.prog X.w) X.A (exec (.Raise (some (.Call (.Name x np) [a] [] cpos)) none pos) X.env) Q X.xe s:=by
 obtain⟨bm,fI,fd,y,oI,N,nm,ql,bs,sn,sub,ab,col,dd,k0,k1,k2,k3,k5,G,J,Y,U,Z,BT,dl,F⟩:=c.ex;refine b_ (ĳ (Sa (C:=C) (nm:=nm) (ql:=ql) (N:=N) (bs:=bs) (hdct:=true) (sn:=sn) (sub:=sub) (ab:=ab) (col:=col) (dd:=dd) (k0:=k0) (k1:=k1) (k2:=k2) (k3:=k3) (k5:=k5) (nw := "ValueError.__new__") (CS (G.tl _ I.kIn) `r) (I.ok.hd hc)
  (b_ (V_ (Ă (mG I hg c.bound ?_ Cl)) (fun v s3 h3=>b_ (ĳ (f_ h3))) fun _ _ z=>z))))
 refine callWith_K I.ok.mod.kin c.keep (bJ (ha cpos pz s σ H _ I h) fun us B ⟨vs,l,j,r,i,hv,hi,q⟩=>⟨j.kIn,?_⟩) he E;subst hv;obtain⟨u,rfl,R⟩:=r.one;refine Tw PySem.F.excBase_ValueError (G.tl _ j.kIn) (j.kIn _ _ J) (Qdu (Qfb j.kIn Y)) ?_ (j.kIn _ _ Z) BT (by rw[G_];simp_all) fun h' e m=>?_
 .exact by
    obtain⟨o,es,ep,ho,M,_,hf⟩:=(Qdu (Qfb j.kIn Y))
    unfold nsIn at U;split at U
    .rename_i c d es' n' sl q;have hx:=j.kIn _ _ q;rw[ho]at hx;split at U
     .rw[<-hf];unfold nsFind findBy
      simp_all
     simp_all
    .cases U
 obtain⟨hn,O⟩:=Inv.exc j m;have e0:=O.env0.make C [u] [];refine Ä (Ú (F.run _ X.stack _ _ _ [.ref e,u] [.ref e,.int i] (fun v P=>v=.non/\∃g,aO l e _ g=none/\g≠e/\P=aO (aO _ g _) e (.ext (XR e C (some g)))) (fun _ _ _=>False) (hr.make C [u] []) e0 (dl _ [.ref e,u] O.kIn rfl) (.cons rfl (.cons R .nil)) ⟨e,i,rfl,hi,cX,fun g h1 h2=>⟨rfl,g,h1,h2,rfl⟩⟩) fun r p n=>?_);cases r with
|error e=>exact Q_ n
|ok k=>cases k with
 |ret z=>obtain⟨v,P,o1,o2,W,L,T,rfl,g,d1,d2,rfl⟩:=n;obtain⟨M,k⟩:=Fly.init j m o1 o2 W L d1 d2;obtain⟨⟨t,g1⟩,_,_⟩:=L e _ cX;exact⟨T,e,t,some g,rfl,(j.call' k.os k.un k.hok k.bare (fun b z=>Q_f z `s)).kIn _ _ J,g1,q _ e g p j M k⟩
 |next=>exact Q_ n
 |brk=>exact Q_ n
 |cont=>exact Q_ n
end
def xM(m:List Md)(nm f:Str)(fl:aI->Res (List D)):FS:=fun r=>onE m r (fl r) fun ds=>match ds with
|[.int i]=>if i.natAbs.log2<64 then .exc (xD nm [(f,.int i)]) (forget m r)else .stuck
|_=>.stuck
variable{g:GE}{ro:Bool}{m mb:List Md}
section
variable{fl:aI->Res (List D)}{fe:FE}{x:Str}
theorem uQ(M:X.calm=true)(c:XCI X.prog X.w X.K X.mg X.base x C f)(t:XN X.K nm C)(E:Room 2 X.A)(F:Gl X x)(N:SA X g m [a] fl)(U:!!Nq x)(J:!Sx X a [])(b:!Bx X p []):SS X g ro mb m (.Raise (some (.Call (.Name x np) [a] [] p)) none pos) (xM m nm f fl) m:=by
 refine⟨rfl,fun j s o H D I ⟨r,G,Z,q⟩=>?_⟩;refine Uf I M c E F N ⟨r,G,Z,?_⟩ U J b;refine bW (iO Z rfl q) fun P q O n h Y y=>?_;split at q
 .rename_i i;split at q
  .rename_i hi;cases y with
  |cons z rest=>cases rest;have B:=z.int Y.ok;subst B;refine⟨i,rfl,hi,fun u e d v l L fl=>?_⟩;have k:Grow X.K n h (gset n d (.obj 1 [(f,.int i)])) (aO h d (.xd [(f,.int i)])):=Grow.newF Y.ok L (OB.fld cX (.cons ⟨rfl,.scl (.int i)⟩ .nil));exact q j _ v o _ _ (Y.trans k).ge (by have:=(Z.grow (Y.trans k)).forget;exact this) (fl.inv l) ⟨j,u,h,e,C,some d,nm,_,rfl,rfl,t,gV,l,fl⟩
  .exact q.elim
 .exact q.elim
noncomputable def lM(hit:Str->Bool)(f:Str):D->Option D
|.obj 0 ((_,.str nm)::ds)=>if hit nm=true then ds.lookup f else none
|_=>none
def oA(K:W.Frag)(f:Str)(hit:Str->Bool):Prop:=∀nm C,hit nm=true->XN K nm C->∃bm,XA K C bm/\XI K C bm f
theorem Oo(F:PE X e j)(G:X_ e f X.env (eval e X.env)=eval e X.env):PE X (.Attribute e f pos) (fun σ H Q=>j σ H fun x b=>∃a C g Z fs v,x=.ref a/\b a=some (.ext (kW a C (some Z)))/\XA X.K C g/\XI X.K C g f/\b Z=some (.xd fs)/\fs.lookup f=some v /\(∀u,aR v u->handedIn u=true)/\Q v b):=by intro r s σ H Q I h;refine HK G (bJ (F r s σ H _ I h) fun u T j=>?_);obtain⟨x,b,U,p,a,C,g,Z,fs,v,J,M,c,i,L,l,E,q⟩:=j;subst J;obtain rfl:u=Value.ref a:=p;obtain⟨⟨oe,P,n,m,w,t⟩,_,_⟩:=U.hok a _ M;obtain⟨N,nm,W,bs,R,o,ab,O,dd,k0,k1,k2,k3,k5,k⟩:=i.ob;obtain⟨B,A,y⟩:=U.hok Z _ L;have Y:=y f;rw[l]at Y;cases d:B f with
|none=>rw[d]at Y;exact Q_ Y
|some z=>rw[d]at Y;exact HJ U.kIn (U.kIn _ _ k) n m c.be c.ga c.gn (Yr U.kIn (U.kIn _ _ k) n m t (w Z rfl) A.ns i.g1 d (handedOut_of (E z Y)) ⟨v,b,U.tok _,Y,q⟩)
theorem jC.look{K:W.Frag}(h:jC K G fs ds)(l:ds.lookup f=some d):∃v,fs.lookup f=some v/\RG K G v d:=by induction h with
|nil=>cases l
|@cons p q fs ds r _ U=>grind
theorem Bj(I:oA X.K f Z)(J:SB X g m e fe)(M:!X_ e f X.env (eval e X.env)=eval e X.env):SE X g m (.Attribute e f pos) (f1 fe (lM Z f)):=by
 refine PE.imp (Oo J M) fun R H Q e=>?_;obtain⟨r,G,z,q⟩:=e;refine ⟨r,G,z,bW (cJ q) fun d E v t p b A=>?_⟩
 obtain⟨T,U,B⟩:=d9 E;unfold lM at U;split at U
 .rename_i k nm ds;split at U
  .rename_i hh;obtain⟨a,C,Y,rfl,N,w,hG⟩:∃a C Y,v=.ref a/\p a=some (.ext (kW a C (some Y)))/\XN X.K nm C/\t Y=some _:=by
    rcases A with h|⟨a,rfl,h⟩
    .cases h with
    |scl s=>cases s
    |ref O=>cases b.ok _ _ O with
     |@exc _ _ F _ r n o=>cases F with
      |none=>cases(o);cases U
      |some Y=>exact⟨_,_,Y,rfl,r,n,o⟩
    |kc k=>cases k
    .cases h.ob
   obtain⟨P,y,x⟩:=I nm C hh w;cases b.ok _ _ hG with
  |fld L rf=>obtain⟨i,l,j⟩:=rf.look U;refine⟨a,C,P,Y,_,i,rfl,N,y,x,L,l,fun u c=>?_,B i t p b j⟩;cases j with
   |scl s=>cases s <;> first|(obtain⟨_,rfl⟩:=c;rfl)|(rfl)
   |ref _=>cases(c);rfl
   |kc _=>cases(c);rfl
  .cases U
 .cases U
end
noncomputable def qu(K:W.Frag)(C:Addr):Option Addr:=match K.lookup C with
|some ⟨_,_,.cls cd,_⟩=>some cd.ns
|_=>none
def jg(K:W.Frag)(C N:Addr):Bool:=match K.lookup C with
|some ⟨.type "type",_,.cls cd,sl⟩=>(match cd.mro,sl.toList with
 |.ref C'::bm,[_,_,_,_,some (.builtin n),_]=>C'==C&&n == "ValueError.__new__" && not cd.hasDel&&cd.hasDict&&tailIn K gy bm&&nsOkIn K cd.ns&&cd.ns==N
 |_,_=>false)
|_=>false
theorem YA{K:W.Frag}(h:jg K C N=true):∃Z,(∃nm q bs sn sub ab col dd k0 k1 k2 k3 k5,K.lookup C=some (ë nm q C N bs Z true sn sub ab col dd k0 k1 k2 k3 k5 "ValueError.__new__"))/\tailIn K gy Z=true/\nsOkIn K N=true:=by
 unfold jg at h;split at h
 .rename_i dict cd sl hk;split at h
  .rename_i C' Z k0 k1 k2 k3 n k5 hm hs;simp only[L_,beq_iff_eq,Ş]at h;obtain⟨⟨⟨⟨⟨⟨rfl,rfl⟩,d⟩,c⟩,j⟩,k⟩,rfl⟩:=h;obtain⟨b,bs,a,i,q,Y,sn,sub,ab,col,U⟩:=cd;have g:a=Value.ref C'::Z:=hm;have f:U=false:=d;have e:Y=true:=c;subst g f e;have l:sl = #[k0,k1,k2,k3,some (Value.builtin "ValueError.__new__"),k5]:=`g
   simp_all
  .cases h
 .cases h
theorem Go{K:W.Frag}{a:List a_}(h:jg K C N=true)(o:kN K C=some (a,nm)):(∃nm q bs sn sub ab col dd k0 k1 k2 k3 k5,K.lookup C=some (ë nm q C N bs a true sn sub ab col dd k0 k1 k2 k3 k5 "ValueError.__new__"))/\tailIn K gy a=true/\nsOkIn K N=true:=by
 obtain⟨c,⟨b,q,bs,sn,sub,ab,col,dd,k0,k1,k2,k3,k5,i⟩,g,f⟩:=YA h;obtain⟨⟨r,u,e,s,w,v,U,Z,Y,t,p,n,m,l,k,j,d⟩,_⟩:=Bc o
 grind
theorem nK{K:W.Frag}(h:jg K C N=true)(o:kN K C=some (b,nm))(n:ö K (.ref C) "__setattr__" = some (some (.builtin "object.__setattr__")))(m:ö K (.ref C) f=some none):XI K C b f:=by obtain⟨⟨Y,q,r,c,U,s,a,p,j,i,g,e,d,l⟩,k,t⟩:=Go h o;exact⟨⟨N,Y,q,r,c,U,s,a,p,j,i,g,e,d,l⟩,fun h Z=>tail_of_in Z k,n,m⟩
theorem EO{K:W.Frag}{st:Stmt}{d:à}(KX:K.In h)(G:h.Ns M_ c)(a:nsIn K M_ x=some (some (.ref C)))(t:keepIn K (.ref C)=true)(z:jg K C N=true)(o:kN K C=some (k,nm))(l:XI K C k f)(i:nsIn K N "__init__" = some (some (.ref Y)))(F:Fun K "__init__" U st Y d)(M:typeIn K (.ref Y)=some (.type "function"))(H:k4 "__init__" U st ["self",y])(p:∀base,FnOk P w K c base eN 1 Y d ["self",y] (rZ C f))(base:Heap):XCI P w K c base x C f:=by obtain⟨⟨b,q,R,m,Z,X,g,O,E,B,A,v,u,L⟩,h2,J⟩:=Go z o;obtain⟨r,s,I⟩:=Ţ.mp (M);exact⟨mg_of KX G a,t,k,Y,d,y,r,N,b,q,R,m,Z,X,g,O,E,B,A,v,u,l,L,J,i,s,I,F.binds H,p base⟩
noncomputable def BG(s:Stmt):Stmt:=match s with
|.ClassDef _ _ _ (d::_) _ _ _ _ _ _ _=>d
|_=>s
theorem NF{K:W.Frag}(l:List (Str×Addr×List a_))(h:∀q∈l,CF K q.1 q.2.1 q.2.2/\XI K q.2.1 q.2.2 f)(d:∀nm,U nm=true->∃q∈l,q.1=nm):oA K f U:=by intro nm C b Y;obtain⟨q,a,rfl⟩:=d nm b;obtain⟨c,Z⟩:=h q a;have:=c.eq Y;subst this;exact⟨_,c.xa,Z⟩
section
variable{H':Hp}{s':d_}{a:Addr}{cls:a_}{od:Option Addr}
theorem Fly.looped(F:Fly X.prog X.w X.stack H s H' a cls od s')(I:L2.Inv X pz σ H s)(U:X.stack=X.env::X.outer)(j:X.env.frame=some X.env.locals)(q:∀b,Fly X.prog X.w X.stack H s H' a cls od b->E (.ref a) b):û M X.A X.env (cameBackBy M X.A X.env E) (.ref a) s':=by obtain⟨B,z,k,T,Z,f,e,x,Y,i,d⟩:=F.step;rw[U]at Z;refine zj rfl (by rw[I.ok.frames,U]) Z j f e i fun C v l=>?_;obtain⟨n,y,m,u,t,c,r,p,o⟩:=l.obj;refine b_ (Z_ c rfl (S_ Y) ?_);exact zI _ Y l fun h g=>q _ (d h _ (by rw[U];exact g))
end
abbrev _root_.L2.Cx.loop(X:Cx):Cx:=X.wish (û (y_ X.prog X.w) X.A X.env (cameBackBy (y_ X.prog X.w) X.A X.env X.xe))
section
variable{tg:Expr}
theorem Rs{w:List Stmt}{g:TG}(hc:X.calm=true)(hi:PI X tg j wi)(hg:PG X.loop tg g)(k:d7 X.loop w tb)(hs:!!!!Ix X j):PS X (.For tg j w [] P) (vX wi g tb):=by
 intro A s σ H D I h;refine wpAny_For (bJ (hi A s σ H _ I h) fun v s1 h1=>bJ h1 fun itv s2 h2=>?_) hs;obtain⟨it,K,tn,J,H2,e,I2,T,dl,f2,W,⟨m0,w0⟩,B⟩:=h2;subst e;have Y:∀{q:Hp},(∀b∈K,q b=none)->∀b∈K,gp X A q b:=fun hn b k=>⟨hn b k,(f2 b k).2⟩
 refine QdT (fun n s'=>∃i c q,L2.Inv X A c q s'/\tn i s'.heap/\(∀b∈K,q b=none)/\W i n c q) ?_ m0 ⟨0,σ,H2,I2,dl,fun b k=>(f2 b k).1,w0⟩
 rintro n s3 ⟨i,a,L,I3,F,G,w3⟩
 rcases B i n a L w3 with⟨C,qn⟩|⟨go,N,hN,E⟩
 .refine V_ (T.done X rfl rfl rfl hc i A s3 a L _ I3 (Y G) F C) (fun r s4 w=>?_) fun _ _ z=>Q_ z;obtain⟨Q,I4⟩:=w;subst Q;exact į ⟨a,L,I4,qn⟩
 .refine V_ (T.item X rfl rfl rfl hc i A s3 a L _ I3 (Y G) F go) (fun r s4 j=>?_) fun _ _ z=>Q_ z;obtain⟨u,Q,h4⟩:=j;subst Q;refine V_ h4 (fun _ s5 g=>?_) fun _ _ z=>Q_ z;obtain⟨x,H5,I5,r5,y5,y,R⟩:=g;have Z:=I5.pinned (Y R) (T.obj _ _ y);refine V_ (hg _ s5 a H5 x u _ (Z.wish _) r5 (E x H5 y5)) (fun _ s6 V=>?_) fun _ _ z=>z;obtain⟨M,H6,I6,q6⟩:=V;refine V_ (k _ s6 M H6 _ I6 q6) (fun f O t=>?_) fun _ _ z=>z;have l:∀{U:L2.St}{p:Hp},L2.Inv X _ U p O->N U p->∃m,m<n/\∃i c q,L2.Inv X A c q O/\tn i O.heap/\(∀b∈K,q b=none)/\W i m c q:=fun{U p} I7 n7=>by obtain⟨m',hm,w7⟩:=hN U p n7;refine⟨m',hm,i+1,U,p,I7.unpinned,T.keep _ _ _ y fun b k o e=>(I7.pin _ (R_ _ (R_ _ (rV k e)))).1,fun b k=>?_,w7⟩;obtain⟨o,e,d⟩:=T.obj _ _ y b k;exact(I7.pin _ (R_ _ (R_ _ (rV k e)))).2.1
  cases f with
 |next=>obtain⟨U,p,I7,n7⟩:=t;exact l I7.unwish n7
 |cont=>obtain⟨U,p,I7,n7⟩:=t;exact l I7.unwish n7
 |brk=>obtain⟨U,p,I7,t⟩:=t;exact⟨U,p,I7.unwish.unpinned,t⟩
 |ret v=>obtain⟨x7,U,p,I7,r7,t⟩:=t;exact⟨x7,U,p,I7.unwish.unpinned,r7,t⟩
end
section
variable{tg iter:Expr}{sts:List Stmt}{s1:FS}
theorem BH(hc:X.calm=true)(Id:X.stack=X.env::X.outer)(KK:X.env.frame=some X.env.locals)(hi:kg X g m tg iter fi)(hg:SG X.loop g m tg ft m)(hb:fU X.loop g ro m m sts s1 m)(hs:!!!!Ix X iter):SS X g ro mb m (.For tg iter sts [] pos) (jR m fi ft s1) m:=by
 refine⟨rfl,PS.imp (Rs hc hi hg.2 hb.2 hs) fun D B H ⟨r,G,Q,q⟩=>⟨r,G,Q,bW (iO Q rfl q) fun p q J M H0 w0 Y=>?_⟩⟩;refine⟨fun i n B H=>∃r G,SI X g m r G B H/\bU M G/\i<=p.length/\n=p.length-i/\dF X g ro m mb G D (bN ft s1 (p.drop i) r),⟨p.length,r,M,Q.grow w0,bU.refl M,é _,rfl,dF.gle q w0.ge⟩,?_⟩
 rintro i n O I ⟨r1,L,h,k,hi,rfl,b⟩
 by_cases o:i<p.length
 .have hd:=Ď o;rw[hd]at b;unfold bN at b;refine .inr ⟨Y.go L I i k h.gok o,fun A K=>∃r G,SI X g m r G A K/\bU M G/\dF X g ro m mb G D _,fun A K V=>by obtain⟨s,N,P,l,q'⟩:=V;exact ⟨_,`o,s,N,P,l,o,rfl,q'⟩,fun x K y=>?_⟩;obtain⟨N,v,rv⟩:=Y.yld L I i x K p[i] k h.gok y (q_ o);have l:=k.trans v.ge;cases BT:ft p[i] r1 with
 |none=>simp only[BT]at b;exact b.elim
 |some T=>
   simp only[BT]at b;have U:=h.grow v;refine⟨r1,N,p[i],⟨U.gok,U.old,U.ge,U.gf,U.lm,U.lr,U.sh,U.ow,U.bw,U.dis,U.lk⟩,rv,T,BT,fun σ2 LT=>⟨T,N,LT,?_⟩⟩;have c:∀{m:List Md}{r:aI}{G:GH}{B:L2.St}{H:Hp},SI X.loop g m r G B H->SI X g m r G B H:=fun z=>⟨z.gok,z.old,z.ge,z.gf,z.lm,z.lr,z.sh,z.ow,z.bw,z.dis,z.lk⟩
   cases w:s1 T with
  |nx s=>simp only[w]at b;exact fun f u F Z t=>⟨s,u,c t,l.trans Z,dF.gle b (bU.trans v.ge Z)⟩
  |ct s=>simp only[w]at b;exact fun f u F Z t=>⟨s,u,c t,l.trans Z,dF.gle b (bU.trans v.ge Z)⟩
  |bk s=>simp only[w]at b;exact fun f u F Z t=>b f u F (bU.trans v.ge Z) (c t)
  |rt d=>simp only[w]at b;exact b
  |exc x s=>simp only[w]at b;intro pz e s' f u F Z t I3 ex;obtain⟨j,IO,LE,a,C,od,nm,fs,rfl,rfl,xn,xf,I1,fl⟩:=ex;have W:=I1.unwish;exact Fly.looped fl W Id KK fun R E=>b j _ R f u F (bU.trans v.ge Z) (c t) (E.inv W) ⟨j,IO,LE,a,C,od,nm,fs,rfl,rfl,xn,xf,W,E⟩
  |stuck=>simp only[w]at b;exact b.elim
 .have e:i=p.length:=`o
  subst e;rw[ġ]at b;exact .inl ⟨Y.stop L I k h.gok,b O L I (bU.refl _) h⟩
end
def HOk(X:Cx)(g:GE)(ro:Bool)(m1 mb:List Md)(hs:List ExceptHandler)(fh:Str->FS):Prop:=∀{pz:List (Addr×Obj)}{σ:L2.St}{H H':Hp}{s s':d_}{a C:Addr}{od:Option Addr}{h':Heap}{oe ot:Obj}{vs ts:Array a_}{tb:Addr}{nm:Str}{r:aI}{G G1:GH}{D:Ends},Inv X pz σ H s->Inv X pz σ (aO H' a (.ext (kW a C od))) { s' with heap:=h' } ->h'.get? a=some oe->oe.cls=.ref C->oe.data=.fields vs->vs[1]? = some (.ref tb)->h'.get? tb=some ot->ot.data=.fields ts->ts[3]? = some Value.none->XN X.K nm C->SI X g (fD m1) r G1 σ (aO H' a (.ext (kW a C od)))->bU G G1->dF X g ro (fD m1) mb G D (fh nm r) ->u_ (y_ X.prog X.w) X.A (handleBy (.ref a) X.env hs) (SP X pz D) X.xe { s' with heap:=h' }
end DL
namespace L2
open PySem PySem.Spec PyProof.Rows
structure RoomH(k:Nat)(A:I_):Prop where
 dp:A.depth+3*k+5<Ũ
 un:A.units+16*k+200<á
theorem RoomH.deeper(r:RoomH (k+1) A)(env:Env):RoomH k (A.deeper env):=⟨by have:=r.dp;show A.depth+1+3*k+5<_;omega,by have:=r.un;show A.units+3+16*k+200<_;omega⟩
theorem RoomH.depth(r:RoomH k A):A.depth<Ũ:=by have:=r.dp;omega
theorem RoomH.units(r:RoomH k A):A.units+64<á:=by have:=r.un;omega
theorem Yu(U:RoomH k A):A.units+1<á:=Qd8 (Nat.add_le_add_left `d _) U.units
structure FnOkH(P:o_)(w:F_)(K:W.Frag)(mg:Str->Option a_)(base:Heap)(CX:je)(k:Nat)(f:Addr)(fd:à)(ps:List Str)(sp:Sp):Prop where
 len:∀vs H Q E,sp vs H Q E->vs.length=ps.length
 run:∀(A:I_)(outer:List Env)(s:d_)(H:Hp)(args:Args)(us:List a_)(vs:List V)(Q:VK)(E:XK),RoomH k A->Env0 P w K mg base A outer s H->ğ s fd args (ps.zip us)->aJ vs us->sp vs H Q E ->Ï (y_ P w) A (.call (.ref f) args) (CR CX outer P w H s Q E) s
def qI(CX:je)(P:o_)(w:F_)(K:W.Frag)(mg:Str->Option a_)(base:Heap)(N:List Str)(qual:Str)(scope:ã)(f:Addr)(cd:a_)(A:I_)(outer:List Env)(s:d_)(H:Hp)(E:XK):Cx:={ dm CX P w K mg base N qual scope f cd A outer s H E with calm:=false }
theorem Uo{K:W.Frag}{f:Addr}{t:a_}{A:I_}{a:List Env}{s C:d_}{H:Hp}{E:XK}{us:List a_}{vs:List V}(S:FnScope N j Z)(g:Env0 P w K B base A a s H)(Q:vs.length=j.length)(r:aJ vs us)(x:InCallC s s.heap.objs.size (ċ (â d Z s.heap.objs.size f t).kindOf (j.zip us) fun _=>none) (Ō (s.heap.objs.size+1) Z.names []) (Č (â d Z s.heap.objs.size f t).kindOf (j.zip us) fun _=>none) C):Inv (qI I P w K B base N d Z f t A a s H E) [] (aX N vs) H C:=by
 have L:j.length<=N.length:=by have:=Q_g Ö S.pre;grind
 obtain⟨o,O,rfl,G⟩:=x.done;have U:∀b,b∉(qI I P w K B base N d Z f t A a s H E).ex:=fun b z=>Q_f (show b∈([])from z) `s;refine⟨⟨g.mod,S.kind,rfl,rfl,k_ _,fun y z c o n=>?_,fun y l=>?_,fun y c _ h=>?_,(fun z=>nomatch z),QdE g.frames,.inr ⟨rfl,rfl⟩,fun b z=>Q_f z (U b),g.bs,g.bsz,fun b _ _=>U b,fun b z=>Q_f z (U b),g.funs,g.frf⟩,rfl,g.bare,Un.kept G,⟨_,x.toInCall.ns,fun i y v o n R=>?_⟩,fun y c h=>⟨_,x.cell y c h⟩,g.hok.fresh (k_ _),fun y c h=>?_,fun p m=>Q_f (show p∈([])from m) `s,g.hok.kept G,?_⟩
 .exact name_of_addr x.apart (PySem.mem_of_lookup o) (PySem.mem_of_lookup n)
 .rcases l with l|l
  .exact zA l
  .exact Q_f rfl (S.nofree _ (PySem.mem_of_lookup l))
 .exact Ŝ (x.above y c (PySem.mem_of_lookup h))
 .have hi:i<vs.length:=by
   unfold aX at n
   grind
  have M:vs[i]? = some v:=by
   unfold aX at n
   grind
  obtain⟨u,F,J⟩:=r.get M;have m:j[i]? = some y:=by rw[<-S.pre,Qc4 `o];exact o
  have Y:j.Nodup:=by rw[<-S.pre];exact S.nd.sublist (Qek _ _)
  refine⟨u,J,?_⟩;rcases S.par y (ő m)with k|k
  .exact .inl ⟨k,CW Y m F k⟩
  .obtain⟨c,e⟩:=zA k;refine .inr ⟨.inl k,c,e,?_⟩;have q:=x.cell y c e;rw[CV Y m F (by show Z.names.lookup y≠_;rw[k];decide)]at q;exact q
 .exact g.hok.fresh (Ŝ (x.above y c (PySem.mem_of_lookup h)))
 .unfold aX;show _=N.length
  simp_all
theorem Yo{K:W.Frag}{h:Arguments}{i:List Stmt}{a:ã}{dV kV B T g ct oc:a_}{an od:Option Addr}{O:Array (Option a_)}{N C:List Str}{L:Sp}(lk:K.lookup f=some ⟨oc,od,.func (W.fnOf name d h i a dV kV B T an g ct),O⟩)(BT:W.codeIn K g d=true)(S:FnScope N C a)(p:∀vs H Q E,L vs H Q E->vs.length=C.length)(Y:∀(A:I_)(c:List Env)(s:d_)(H:Hp)(vs:List V)(Q:VK)(E:XK),RoomH k (A.deeper (â d a s.heap.objs.size f g))->L vs H Q E ->∃t,d7 (qI G P w K F base N d a f g A c s H E) i t/\t { nx:=fun _ l=>Q .non l,rt:=Q } (aX N vs) H):FnOkH P w K F base G (k+1) f (W.fnOf name d h i a dV kV B T an g ct) C L:=by
 refine⟨p,fun A c s H args us vs Q E X z hb r Z=>?_⟩;have hl:=p _ _ _ _ Z;have KX:=z.mod.kin.keeps fun b o e=>(z.bs b o e).1;have dl:=z.mod.nolimit.keeps fun b o e=>(z.bs b o e).1;have U:∀y∈C.zip us,a.names.lookup y.1=some .local\/(a.names.lookup y.1=some .cell/\((Ō (s.heap.objs.size+1) a.names []).lookup y.1).isSome=true):=fun⟨n,v⟩ hy=>by
  rcases S.par n (Þ hy).1 with q|q
  .exact .inl q
  .exact .inr ⟨q,W.cellsFrom_some _ _ _ (.inl q)⟩
 refine Qdw X.depth (KX _ _ lk) rfl S.co S.gen rfl (W.codeRec_of KX BT) (hb _ _ _ _ ?_);refine QcI S.kind U fun env he R x=>?_;subst he;refine⟨dl.keeps x.toInCall.keep,codeAny_func ?_⟩;obtain⟨t,ht,hq⟩:=Y A c s H vs Q E (X.deeper _) Z;have I:Inv (qI G P w K F base N d a f g A c s H E) [] _ H R:=Uo S z hl r x;refine V_ (ht [] R _ H _ I hq) (fun fl M m=>?_) fun e M m=>m;have fin:∀{j:St}{l:Hp}{v:V}{u:a_},Inv (qI G P w K F base N d a f g A c s H E) [] j l M->aR v u->Q v l->CE c P w H s Q u M:=fun{j l v u} J rv q=>⟨v,l,J.os,J.bare,J.base,J.hok,rv,q⟩
 cases fl with
|ret u=>obtain⟨v,j,l,J,rv,q⟩:=m;exact fin J rv q
|next=>obtain⟨j,l,J,q⟩:=m;exact fin (v:=V.non) J rfl q
|brk=>obtain⟨_,_,_,q⟩:=m;exact Q_ q
|cont=>obtain⟨_,_,_,q⟩:=m;exact Q_ q
section
variable{P:o_}{w:F_}{K:W.Frag}{mg:Str->Option a_}{base:Heap}
theorem Fun.okH{st:Stmt}(F:Fun K x b st f i)(S:FnScope N e (aA st))(g:∀vs H Q E,d vs H Q E->vs.length=e.length)(U:∀(c:a_)(A:I_)(a:List Env)(s:d_)(H:Hp)(vs:List V)(Q:VK)(E:XK),RoomH k (A.deeper (â b (aA st) s.heap.objs.size f c))->d vs H Q E ->∃t,d7 (qI eN P w K mg base N b (aA st) f c A a s H E).nox (aH st) t/\t { nx:=fun _ o=>Q .non o,rt:=Q } (aX N vs) H):FnOkH P w K mg base eN (k+1) f i e d:=by obtain⟨u,r,kV,n,p,y,c,v,j,rfl,l,Y⟩:=F.ex;refine Yo l Y S g fun A a s H vs Q E m Z=>?_;obtain⟨t,h,q⟩:=U c A a s H vs Q E m Z;exact⟨t,h.nox,q⟩
end
section
variable{X:Cx}{CX:je}{k:Nat}{f C:Addr}{fd:à}{ps:List Str}{sp:Sp}{dvs:List V}{ds:List a_}{E:XK}{x m:Str}{p pos apos:Pos}{e o:Expr}{es:List Expr}{ta:TE}{t:TA}
theorem Q9{σ:St}(F:FnOkH X.prog X.w X.K X.mg X.base CX k f fd ps sp)(b:RoomH k X.A)(g:gO X.K fd ps ds)(d:aJ dvs ds)(a:mz CX X E)(I:Inv X pz σ H s)(r:aJ vs us)(h:sp (vs++dvs) H Q E):u_ (y_ X.prog X.w) X.A (call (.ref f) us) (EP X pz σ Q) X.xe s:=by
 have Y:=r.append d;have c:(us++ds).length=ps.length:=by rw[<-Y.length];exact F.len _ _ _ _ h
 refine Ä (Ú (F.run X.A X.stack s H _ _ _ Q E b I.env0 (g s us I.kIn c) Y h) fun r Z U=>?_);cases r with
|error e=>exact a pz σ H s e Z I U
|ok i=>cases i with
 |ret u=>exact I.after U
 |next=>exact Q_ U
 |brk=>exact Q_ U
 |cont=>exact Q_ U
theorem SU(F:FnOkH X.prog X.w X.K X.mg X.base CX k f fd ps sp)(d:RoomH k X.A)(j:Gl X x)(g:X.mg x=some (.ref f))(i:W.keepIn X.K (.ref f)=true)(n:gO X.K fd ps ds)(m:aJ dvs ds)(c:mz CX X E)(o:PA X (e::es) t)(U:!!Nq x)(l:!Sx X e es)(Y:!Bx X pos es):PE X (.Call (.Name x p) (e::es) [] pos) (Gu sp dvs E t):=by intro b s a H Q I h;refine Ă (mG I j g ?_ U);refine W.callWith_K I.ok.mod.kin i (bJ (o pos b s a H _ I h) fun v y ⟨u,z,Z,r,q⟩=>⟨Z.kIn,?_⟩) l Y;exact Q9 F d n m c Z r q
end
end L2
section
namespace L2
open PySem
theorem RoomH.held(r:Room k A):RoomH k (A.mark v):=⟨r.dp,r.un⟩
end L2
namespace DL
open PySem PySem.Spec PyProof.Rows L2 PySem.W PySem.Calls
structure CalleeH(P:o_)(w:F_)(K:W.Frag)(mg:Str->Option a_)(base:Heap)(x:Str)(ps:List Str)(k:Nat)(ms:List Md)(F:List D->Res D):Prop where
 ex:∃f fd,mg x=some (.ref f)/\W.keepIn K (.ref f)=true/\gO K fd ps []/\FnOkH P w K mg base eN k f fd ps (nQ K false ms F)
section
variable{P:o_}{w:F_}{K:W.Frag}{mg:Str->Option a_}{base:Heap}
theorem PV{st:Stmt}(A:DefAt K mg x st)(S:FnScope N b (aA st))(Y:ms.length=b.length)(n:k4 x x st b)(U:∀(f:Addr)(a:a_)(A:I_)(Z:List Env)(s:d_)(H:Hp)(g:GE)(E:XK),RoomH k (A.deeper (â x (aA st) s.heap.objs.size f a)) ->fU (qI eN P w K mg base N x (aA st) f a A Z s H E).nox g false [] (gQ N.length ms) (aH st) fs m'):CalleeH P w K mg base x b (k+1) ms fun ds=>bQ false (fs (cS N.length ds)):=by
 obtain⟨f,p,o,F⟩:=A.ex;refine⟨f,p,o,F.kp,F.binds n,F.okH S (fun i H Q E k=>by obtain⟨G,ds,e,c,q⟩:=k;exact c.len.1.trans Y) fun a A Z s H i Q E l h=>?_⟩;obtain⟨G,ds,e,c,q⟩:=h;have m:b.length<=N.length:=by have:=Q_g Ö S.pre;grind
 exact⟨_,(U f a A Z s H ⟨G,H,fun _=>none⟩ E l).2,cS N.length ds,G,rR e c `o,CK q⟩
end
section
variable{X:Cx}{g:GE}{m:List Md}{e:Expr}{es:List Expr}{fl:aI->Res (List D)}{k:Nat}{ps:List Str}{F:List D->Res D}{x:Str}{p pos:Pos}{ms:List Md}
theorem Pj(c:CalleeH X.prog X.w X.K X.mg X.base x ps k ms F)(j:RoomH k X.A)(o:iL X g m (e::es) ms fl)(l:!Gl X x)(U:!!Nq x)(n:!Sx X e es)(Y:!Bx X pos es):SE X g m (.Call (.Name x p) (e::es) [] pos) (cP fl [] F):=by
 obtain⟨L,J,u,t,s,B⟩:=c.ex;refine PE.imp (SU B j l u t s .nil mT o U n Y) fun C H Q w=>?_;obtain⟨r,G,f,q⟩:=w;refine ⟨r,G,f,?_⟩
 unfold cP at q;cases Z:fl r with
|ok E=>
  rw[Z]at q;intro I N M a i;have:=CY (ro:=false) a.ok i .nil (bW (zE q (By _)) fun d k v z y b h=>k v z y (a.trans b) h)
  simp_all
|exc x=>rw[Z]at q;exact q
|stuck=>rw[Z]at q;exact q
end
end DL
end
namespace DL
open PySem PySem.Spec PyProof.Rows L2 PySem.W PySem.Calls
noncomputable abbrev Gj(n:Str)(i:Int):PyData:=.tuple [.str n,.int i]
def wB(n:Str)(i:Int):Prop:=(Gj n i).showable=true/\(Gj n i).shown.length<=1000
instance (n:Str) (i:Int):Decidable (wB n i):=by unfold wB;infer_instance
end DL
namespace DL
open PySem PySem.Spec PyProof.Rows L2 PySem.W PySem.Calls PySem.Builtin PySem.Builtin.Str
theorem Im(U:Str):∀Y:List Str,Y.length*U.length<=(W_ U Y).length+U.length
|[]=>by simp
|[x]=>by simp only[Qcm,Nat.one_mul];omega
|x::y::r=>by
  have Z:=Im U (y::r);have e:(W_ U (x::y::r)).length=x.length+U.length+(W_ U (y::r)).length:=by show(x++U++W_ U (y::r)).length=_;rw[ñ,ñ]
  rw[e,Ë,Qeu];omega
theorem SR(x y:Str)(U:Nat)(Y:0<y.length):(partsBetween x (î x y 0 x.length U) y.length).length<=x.length+1:=by have h:=Im y (partsBetween x (î x y 0 x.length U) y.length);rw[<-Qcn,StrLaws.glued_between_self]at h;generalize(partsBetween x _ y.length).length=k at h;cases k with
|zero=>omega
|succ k=>rw[Qeu]at h;have:=Nat.mul_le_mul_left k Y;omega
section
variable{prog:o_}{w:F_}{A:I_}{E:a_->d_->Prop}{s:d_}{x y:Str}{t u:Tok}{Q:a_->d_->Prop}
theorem Ud(U:(y.length==0)=false)(Z:x.length<=sizeLine)(a:(partsBetween x (î x y 0 x.length (x.length+1)) y.length).length<=sizeLine)(q:∀l k,l.map (·.1)=Txt.split x y->Q (.ref s.heap.objs.size) { s with heap:=s.heap.push { cls:=.type "list",data:=.seq (Ű l).toArray },toks:=k }):u_ (y_ prog w) A (call (.builtin "str.split") [.str x t,.str y u]) Q E s:=by have T:s.TypeIs (.str x t) "str" := ū _ _ _;cases c:(decide (x.length<y.length) || decide (strKind x<strKind y))with
|true=>exact Å F.slot_str_split T F.entry_str_split (F.args_str_split_2 _ _) (meets_str_split_cannot_occur x y t u c) (q [(x,t)] s.toks (Q_d c).symm)
|false=>have Y:=ne_true_of_eq_false c;cases f:(î x y 0 x.length _).isEmpty with
 |true=>exact Å F.slot_str_split T F.entry_str_split (F.args_str_split_2 _ _) (meets_str_split_not_found x y t u c U f) (q [(x,t)] s.toks ((Q_e Y).trans (Q_d f)).symm)
 |false=>refine Å F.slot_str_split T F.entry_str_split (F.args_str_split_2 _ _) (meets_str_split_sep x y t u c U f Z a) ?_;have:=q (numbered s.toks _) (s.toks+(partsBetween x (î x y 0 x.length (x.length+1)) y.length).length) ((numbered_texts _ _).trans ((Q_e Y).trans (Q_e (ne_true_of_eq_false f))).symm);rw[<-strsFrom_eq]at this;exact this
end
theorem UH:∀{xs:List Str},aJ (xs.map V.str) U->∃l:List (Str×Tok),Ű l=U/\l.map (·.1)=xs:=by induction U with
|nil=>intro xs h;cases xs with
 |nil=>exact⟨[],rfl,rfl⟩
 |cons _ _=>cases h
|cons v U Y=>intro xs h;cases xs with
 |nil=>cases h
 |cons x xs=>cases h with
  |cons r t=>
    obtain⟨k,rfl⟩:=(r)
    obtain⟨l,Z,a⟩:=Y t;exact⟨(x,k)::l,by rw[<-Z];rfl,`z⟩
theorem Ks:∀l:List (Str×Tok),aJ ((l.map (·.1)).map V.str) (Ű l)
|[]=>.nil
|(x,t)::l=>.cons ⟨t,rfl⟩ (Ks l)
noncomputable def nr:List D->Option (List Str)
|[]=>some []
|.str x::ds=>(nr ds).map (x::·)
|_::_=>none
theorem QU{K:W.Frag}(Z:cK K G H)(r:dJ K G xs ds):∀{U:List Str},nr ds=some U->xs=U.map V.str:=by induction r with
|nil=>intro U h;cases h;rfl
|@cons v d xs ds r _ Y=>intro U h;cases d with
 |str x=>have h:(nr ds).map _=some U:=h;cases e:nr ds with
  |none=>rw[e]at h;cases h
  |some a=>rw[e]at h;cases h;rw[r.str Z,Y e];rfl
 |_=>cases h
theorem IU{K:W.Frag}:∀xs:List Str,dJ K G (xs.map V.str) (xs.map D.str)
|[]=>.nil
|x::xs=>.cons (.scl (.str x)) (IU xs)
def Gc:V->List V->Hp->VK->Prop:=fun x vs H Q=>∃a b,x=.str a/\vs=[.str b]/\Q (.bl (Txt.endswith a b)) H
def GA:V->List V->Hp->VK->Prop:=fun x vs H Q=>∃a b i r,x=.str a/\vs=[.str b]/\î a b 0 a.length 1=i::r/\Q (.int (i:Nat)) H
def Gd(K:W.Frag):V->List V->Hp->VK->Prop:=fun x vs H Q=>∃a p xs,x=.str a/\vs=[.ref p]/\dq K H p (xs.map V.str)/\Ċ a xs=true/\Q (.str (Txt.join a xs)) H
def GY:V->List V->Hp->VK->Prop:=fun x vs H Q=>∃a b,x=.str a/\vs=[.str b]/\0<b.length/\a.length<=10000/\∀p,H p=none->Q (.ref p) (aO H p (.lst ((Txt.split a b).map V.str)))
noncomputable def xF:D->List D->Option D
|.str a,[.str b]=>some (.bl (Txt.endswith a b))
|_,_=>none
noncomputable def sJ:D->List D->Option D
|.str a,[.str b]=>match î a b 0 a.length 1 with
 |i::_=>some (.int (i:Nat))
 |[]=>none
|_,_=>none
def oF:D->List D->Option D
|.str a,[.lst ds]=>match nr ds with
 |some xs=>if Ċ a xs=true then some (.str (Txt.join a xs))else none
 |none=>none
|_,_=>none
noncomputable def tm:D->List D->Option D
|.str a,[.str b]=>if 0<b.length/\a.length<=10000 then some (.lst ((Txt.split a b).map D.str))else none
|_,_=>none
variable{X:Cx}
theorem P4:ku X "str.endswith" Gc:=by
 intro i s e H x f v g Q I U Y ⟨a,b,d,c,q⟩;subst d c;obtain⟨t,rfl⟩:=(U)
 obtain⟨u,rfl,Z⟩:=ik Y;obtain⟨h,rfl⟩:=(Z)
 exact SC.endswith ⟨.bl _,H,I,rfl,q⟩
theorem B9:ku X "str.index" GA:=by
 intro k s f H x g v h Q I U Y ⟨a,b,i,r,e,d,c,q⟩;subst e d;obtain⟨t,rfl⟩:=(U)
 obtain⟨u,rfl,Z⟩:=ik Y;obtain⟨j,rfl⟩:=(Z)
 exact SC.index c ⟨.int _,H,I.tok _,⟨_,rfl⟩,q⟩
theorem P5:ku X "str.join" (Gd X.K):=by
 intro w s i H x m v n Q I Y Z ⟨a,p,j,h,g,U,d,q⟩;subst h g;obtain⟨t,rfl⟩:=(Y)
 obtain⟨u,rfl,b⟩:=ik Z;cases(b);obtain⟨e,r,c,_⟩:=I.list U;obtain⟨l,rfl,f⟩:=UH r;exact SC.join c.isList f d fun o k=>⟨.str _,H,I.tok _,⟨_,rfl⟩,q⟩
theorem Ct:ku X "str.split" GY:=by
 intro p s i H x j v m Q I U Y ⟨a,b,h,g,d,y,q⟩;subst h g;obtain⟨t,rfl⟩:=(U)
 obtain⟨u,rfl,Z⟩:=ik Y;obtain⟨n,rfl⟩:=(Z)
 have r:=SR a b (a.length+1) d;refine Ud `g (by rw[G_];omega) (by rw[G_];omega) fun l k f=>?_;have c:((Txt.split a b).map V.str).length<=sizeLine:=by
  rw[p_,G_];unfold Txt.split
  grind
 refine⟨.ref s.heap.objs.size,_,I.laid (fun b o e=>c_ _ e) (k_ _) (show fJ X.prog X.w _ _ _ (.lst _)from⟨c,Ű l,0,?_,?_⟩),rfl,q _ (I.hok.fresh (k_ _))⟩
 .rw[<-f];exact Ks l
 .exact l_ _ rfl
theorem QR{K:W.Frag}:qP K Gc xF:=by
 intro G H v d c f g Q U Y a e q;unfold xF at e;split at e
 .cases e;cases a with
 |cons b Z=>cases Z;exact⟨_,_,Y.str U,by rw[b.str U],q _ G H (Grow.refl U) (.scl (.bl _))⟩
 .cases e
theorem Ce{K:W.Frag}:qP K GA sJ:=by
 intro G H v d c f g Q U Y a e q;unfold sJ at e;split at e
 .split at e
  .rename_i ho;cases e;cases a with
  |cons b Z=>cases Z;exact⟨_,_,_,_,Y.str U,by rw[b.str U],ho,q _ G H (Grow.refl U) (.scl (.int _))⟩
  .cases e
 .cases e
theorem Qr{K:W.Frag}:qP K (Gd K) oF:=by
 intro G H v d h i j Q U a c e q;unfold oF at e;split at e
 .split at e
  .rename_i xs hx;split at e
   .rename_i hj;cases e;cases c with
   |cons f b=>cases b;obtain⟨p,g,rfl,Y,Z⟩:=f.lst U;have:=QU U Z hx;subst this;exact⟨_,p,xs,a.str U,rfl,Y,hj,q _ G H (Grow.refl U) (.scl (.str _))⟩
   .cases e
  .cases e
 .cases e
theorem CA{K:W.Frag}:qP K GY tm:=by
 intro G H v d f g i Q U Y a e q;unfold tm at e;split at e
 .split at e
  .rename_i h;cases e;cases a with
  |cons b Z=>cases Z;refine⟨_,_,Y.str U,by rw[b.str U],h.1,h.2,fun p c=>?_⟩;exact q _ _ _ (Grow.newF U c (OB.lst (.inl cX) (IU _))) (.ref gV)
  .cases e
 .cases e
variable{g:GE}{m:List Md}{fa:FE}{pos:Pos}
section
variable{a b:Expr}{fb:FE}
noncomputable def Bk(x:Str)(n:Int):Str:=if n<1 then ā else if (n==1 || x.length==0)=true then x else⟨(j_ n.toNat x.cps).foldl (·++·) #[]⟩
def sN:D->D->Option D
|.str x,.int n=>if x.length<=100/\0<=n/\n<=100 then some (.str (Bk x n))else none
|_,_=>none
theorem JC(c:Array Nat):∀(k:Nat)(U:Array Nat),((j_ k c).foldl (·++·) U).size=U.size+k*c.size
|0,U=>by simp
|k+1,U=>by rw[QdU,Ř,JC c k,Array.size_append,Qeu];omega
theorem Qg:eu X (ĝ .Mult) (fun a b H Q=>∃(x:Str)(n:Int),a=.str x/\b=.int n/\x.length<=100/\0<=n/\n<=100/\Q (.str (Bk x n)) H):=by
 intro k s i H x y v u Q I e d ⟨Y,n,g,h,f,o,m,q⟩;subst g h;obtain⟨t,rfl⟩:=(e)
 obtain⟨j,rfl⟩:=(d)
 have l:Y.length*n.toNat<=100*100:=Nat.mul_le_mul f `o;refine P.mul_str `g (fun z _=>?_) (fun _ _=>?_) ?_
 .have hn0:(0:Int)<n:=`o
  have U:(Y.length:Int)*n<=100*100:=`g
  have:=(Int.le_ediv_iff_mul_le (a:=(Y.length:Int)) (b:=2^63-1) hn0).mpr `o;omega
 .unfold tooLong;rw[Q_b (by rw[G_];omega)]
 .unfold Bk at q;by_cases c:n<1
  .rw[Q_d c]at q ⊢;exact⟨`d,.str _,H,I.tok _,⟨_,rfl⟩,q⟩
  .rw[Q_e c]at q ⊢;by_cases Z:(n==1 || Y.length==0)=true
   .rw[Q_d Z]at q ⊢;exact⟨.str _,H,I,⟨_,rfl⟩,q⟩
   .rw[Q_e Z]at q ⊢;refine⟨?_,.str _,H,I.tok _,⟨_,rfl⟩,q⟩;show((j_ n.toNat Y.cps).foldl (·++·) #[]).size<=sizeLine;rw[JC,G_];have:n.toNat*Y.cps.size=Y.length*n.toNat:=Qeo _ _
    grind
theorem BK(f:SB X g m a fa)(c:SB X g m b fb):SE X g m (.BinOp a .Mult b pos) (f2 fa fb sN):=by
 refine mV Qg (fun G H j i l k d Q U Z Y e q=>?_) f c;unfold sN at e;split at e
 .split at e
  .rename_i x n h;cases e;exact⟨x,n,Z.str U,Y.int U,h.1,h.2.1,h.2.2,q _ G H (Grow.refl U) (.scl (.str _))⟩
  .cases e
 .cases e
end
noncomputable def AK(d:D)(lo hi:Option Int):Option D:=match d with
|.str a=>if a.length<=10000 then some (.str (Txt.slice a lo hi))else none
|_=>none
def oi(fa:FE)(fl fh:FP):FE:=fun r=>(fa r).bind fun d=>(fl r).bind fun lo=>(fh r).bind fun hi=>gj (AK d lo hi)
section
variable{e:Expr}{f:FE}{p2:Pos}
theorem Pw:ma X (fun x lo hi H Q=>∃a,x=.str a/\a.length<=10000/\Q (.str (Txt.slice a lo hi)) H):=by
 intro p s h H x v n m lo hi o Q I e U f d ⟨a,g,r,q⟩;subst g;obtain⟨t,rfl⟩:=(e)
 refine⟨"str",_,F.slot_str_getitem.lookup,ū _ _ _,?_⟩;have Y:∀l u,(Txt.slice a l u).length<=sizeLine:=fun l u=>U_ (Txt.slice_le a l u) (by rw[G_];omega);cases f with
|none=>cases d with
 |none=>exact Ť (l:=none) (u:=none) (st:=none) U rfl (ŧ ⟨Y none none,fun b k=>⟨.str _,H,I.tok _,⟨_,rfl⟩,q⟩⟩)
 |int j Z=>exact Ť (l:=none) (u:=some (j,Z)) (st:=none) U rfl (ŧ ⟨Y none (some j),fun b k=>⟨.str _,H,I.tok _,⟨_,rfl⟩,q⟩⟩)
|int i c=>cases d with
 |none=>exact Ť (l:=some (i,c)) (u:=none) (st:=none) U rfl (ŧ ⟨Y (some i) none,fun b k=>⟨.str _,H,I.tok _,⟨_,rfl⟩,q⟩⟩)
 |int j Z=>exact Ť (l:=some (i,c)) (u:=some (j,Z)) (st:=none) U rfl (ŧ ⟨Y (some i) (some j),fun b k=>⟨.str _,H,I.tok _,⟨_,rfl⟩,q⟩⟩)
theorem Bi{lo hi:Option Expr}(l:SB X g m e f)(k:sk X g m lo b)(j:sk X g m hi c):SE X g m (.Subscript e (.Slice lo hi none p2) pos) (oi f b c):=by
 refine PE.imp (Jv Pw l k j) fun y H Q b=>?_;obtain⟨r,G,a,q⟩:=b;refine ⟨r,G,a,bW (cJ q) fun d s v x B U i=>⟨r,x,a.grow U,jr (cJ s) U fun lo p w A Y=>⟨r,w,(a.grow U).grow Y,?_⟩⟩⟩
 refine jr (cJ p) (U.trans Y) fun hi o u t Z=>?_;obtain⟨z,e,n⟩:=d9 o;have h:=(i.mono Y).mono Z;unfold AK at e;split at e
 .split at e
  .cases e;exact⟨_,h.str Z.ok,by assumption,n _ u t ((U.trans Y).trans Z) (.scl (.str _))⟩
  .cases e
 .cases e
end
theorem pU(a:Gl X x)(Z:∃t,X.mg x=some (.str v t))(b:!!Nq x):SE X g m (.Name x U) fun _=>.ok (.str v):=by obtain⟨t,Y⟩:=Z;exact Hd (v:=.str v) a Y ⟨t,rfl⟩ (.str v) b
theorem XH{K:W.Frag}(Y:K.In h)(G:h.Ns M_ U)(z:W.nsIn K M_ x=some (some (.str v t))):∃t,U x=some (.str v t):=⟨t,W.mg_of Y G z⟩
end DL
namespace DL
open PySem PySem.Spec PyProof.Rows L2 PySem.W PySem.Calls
noncomputable abbrev DW:=D×List D
structure DkR(K:W.Frag)(G:GH)(H:Hp)(C a dx pl:Addr)(w:DW):Prop where
 ob:∃kv,H a=some (.ins C dx [("kept",kv),("past",V.ref pl)])/\RG K G kv w.1
 od:H dx=some (.own a)
 ls:∃xs,H pl=some (.lst xs)/\dJ K G xs w.2
 un:∀b∈[a,dx,pl],G b=none
variable{K:W.Frag}{G G':GH}{H H':Hp}{C a dx pl:Addr}{w:DW}
theorem DkR.isS(h:DkR K G H C a dx pl w):∀b∈[a,dx,pl],H b≠none:=fun b Z=>by
 obtain⟨Y,e,_⟩:=h.ob;obtain⟨U,d,_⟩:=h.ls;have c:=h.od
 grind
theorem DkR.mono(h:DkR K G H C a dx pl w)(Y:bU G G')(U:∀b∈[a,dx,pl],H' b=H b)(c:∀b∈[a,dx,pl],G' b=none):DkR K G' H' C a dx pl w:=by obtain⟨f,i,e⟩:=h.ob;obtain⟨Z,g,d⟩:=h.ls;exact⟨⟨f,(U a `s).trans i,e.mono Y⟩,(U dx `s).trans h.od,⟨Z,(U pl `s).trans g,d.mono Y⟩,c⟩
theorem DkR.ne(h:DkR K G H C a dx pl w):a≠dx/\a≠pl/\dx≠pl:=by
 obtain⟨Y,c,_⟩:=h.ob;obtain⟨U,b,_⟩:=h.ls;have Z:=h.od
 grind
noncomputable def hG(g:GE)(G:GH)(H:Hp)(fp:List Addr)(i:Nat)(p:Addr):GE:=⟨G,fun b=>if b∈fp then H b else g.h0 b,fun j=>if j=i then some (some (V.ref p),none)else g.hd j⟩
def Nb(g:GE)(m:List Md)(i:Nat):Prop:=∀j,j≠i->m[j]? = some .bw->∃v,g.hd j=some (v,none)
theorem xW(h:∀j,j≠i->m[j]?≠some .bw):Nb g m i:=fun j Y U=>Q_f U (h j Y)
structure SD(X:Cx)(g:GE)(i:Nat)(C a dx pl:Addr)(m:List Md)(r:aI)(w:DW)(G:GH)(σ:L2.St)(H:Hp):Prop where
 ob:DkR X.K G H C a dx pl w
 h0:∀b∈[a,dx,pl],g.h0 b=none
 si:SI X (jj g H [a,dx,pl] i a) m r G σ H
 mi:m[i]? = some .bw
def jS(X:Cx)(g:GE)(i:Nat)(C:Addr)(kd:D):Prop:=∀m r G σ H,SI X g m r G σ H->m[i]? = some .bw->∃a dx kv fs,σ[i]? = some (some (V.ref a))/\H a=some (.ins C dx fs)/\fs.lookup ("kept" : Str)=some kv/\RG X.K G kv kd
variable{X:Cx}{g:GE}{i:Nat}{m m':List Md}{r r':aI}{w':DW}{σ σ':L2.St}
theorem SD.toH(s:SD X g i C a dx pl m r w G σ H):SI X (hG g G H [a,dx,pl] i a) m r G σ H:=⟨s.si.gok,s.si.old,fun _ _ e=>e,fun _ _=>rfl,s.si.lm,s.si.lr,s.si.sh,s.si.ow,s.si.bw,s.si.dis,s.si.lk⟩
theorem SD.me(s:SD X g i C a dx pl m r w G σ H):σ[i]? = some (some (V.ref a)):=(s.si.lk i _ (by show(if i=i then _ else _)=_;rw[Q_d rfl]) s.mi).1
theorem SD.kept(s:SD X g i C a dx pl m r w G σ H):jS X (hG g G H [a,dx,pl] i a) i C w.1:=by
 intro e d j b h Y c;obtain⟨Z,f,U⟩:=s.ob.ob;refine⟨a,dx,Z,[("kept",Z),("past",V.ref pl)],(Y.lk i _ (by show(if i=i then _ else _)=_;rw[Q_d rfl]) c).1,Y.old a _ ?_,by simp[Õ],U.mono Y.ge⟩;show(if a∈[a,dx,pl]then H a else g.h0 a)=_
 simp_all
theorem SD.held(s:SD X g i C a dx pl m r w G σ H)(Y:Grow X.K G (hG g G H [a,dx,pl] i a).h0 G' H'):DkR X.K G' H' C a dx pl w:=by
 have h:∀b∈[a,dx,pl],(hG g G H [a,dx,pl] i a).h0 b=H b:=fun b U=>by show(if b∈[a,dx,pl]then H b else g.h0 b)=_;rw[Q_d U]
 refine s.ob.mono Y.ge (fun b U=>?_) fun b U=>?_
 .cases e:H b with
 |none=>exact Q_f e (s.ob.isS b U)
 |some o=>exact Y.he b o (by rw[h b U];exact e)
 .rw[Y.gf b (by rw[h b U];exact s.ob.isS b U)];exact s.ob.un b U
theorem SD.after(s:SD X g i C a dx pl m r w G σ H)(U:SI X (hG g G H [a,dx,pl] i a) m' r' G' σ' H')(Z:m'[i]? = some .bw):SD X g i C a dx pl m' r' w G' σ' H':=by
 have d:=s.held U.grown;have c:∀b∈[a,dx,pl],H' b=H b:=fun b Y=>by cases e:H b with
 |none=>exact Q_f e (s.ob.isS b Y)
 |some o=>exact U.old b o (by show(if b∈[a,dx,pl]then H b else g.h0 b)=_;simp_all)
 refine⟨d,s.h0,?_,Z⟩;rw[Ta c];exact⟨U.gok,U.old,fun b d e=>U.ge b d (s.si.ge b d e),fun b Y=>(U.gf b Y).trans (s.si.gf b Y),U.lm,U.lr,U.sh,U.ow,U.bw,U.dis,U.lk⟩
theorem SD.chg(s:SD X g i C a dx pl m r w G σ H)(Y:Nb g m i)(p:∀b,b∉[a,dx,pl]->H' b=H b)(d:DkR X.K G H' C a dx pl w'):SD X g i C a dx pl m r w' G σ H':=by
 have q:∀b o,G b=some o->b∉[a,dx,pl]:=fun b o e z=>by rw[s.ob.un b z]at e;cases e
 have U:∀b∈[a,dx,pl],(jj g H [a,dx,pl] i a).h0 b≠none:=fun b Y=>by show(if b∈[a,dx,pl]then H b else g.h0 b)≠_;rw[Q_d Y];exact s.ob.isS b Y
 have n:∀b,b∉[a,dx,pl]->(jj g H' [a,dx,pl] i a).h0 b=g.h0 b:=fun b Y=>by show(if b∈[a,dx,pl]then H' b else g.h0 b)=_;rw[Q_e Y]
 have Z:∀b,b∉[a,dx,pl]->(jj g H [a,dx,pl] i a).h0 b=g.h0 b:=fun b Y=>by show(if b∈[a,dx,pl]then H b else g.h0 b)=_;rw[Q_e Y]
 refine⟨d,s.h0,⟨fun b o e=>(s.si.gok b o e).mono (fun _ _ z=>z) fun u k=>by grind,fun b o e=>?_,s.si.ge,fun b e=>?_,s.si.lm,s.si.lr,s.si.sh,fun j d h f=>?_,fun j d h f=>?_,s.si.dis,s.si.lk⟩,s.mi⟩
 .by_cases z:b∈[a,dx,pl]
  .have:(jj g H' [a,dx,pl] i a).h0 b=H' b:=by show(if b∈[a,dx,pl]then H' b else g.h0 b)=_;rw[Q_d z]
   simp_all
  .rw[n b z]at e;rw[p b z];exact s.si.old b o (by rw[Z b z];exact e)
 .by_cases z:b∈[a,dx,pl]
  .exact s.si.gf b (U b z)
  .rw[n b z]at e;exact s.si.gf b (by rw[Z b z];exact e)
 .obtain⟨c,q1,q2,q3⟩:=s.si.ow j d h f;have z:=fun z=>U c z q3;exact⟨c,q1,⟨q2.un,q2.ob.mono (fun _ _ z=>z) fun u k=>by rw[p c z];exact k⟩,`a⟩
 .by_cases hji:j=i
  .subst hji;have l:=(s.si.lk j _ (by show(if j=j then _ else _)=_;rw[Q_d rfl]) s.mi).2 d h;cases l
  .obtain⟨v,ev⟩:=Y j hji f;have l:=(s.si.lk j (v,none) (by show(if j=i then _ else _)=_;simp_all) f).2 d h;cases l
inductive OutD where
 |nx (r:aI) (w:DW)|rt (d:D) (w:DW)|stuck
abbrev dW:=aI->DW->OutD
noncomputable def pr(X:Cx)(g:GE)(i:Nat)(C a dx pl:Addr)(m':List Md)(G:GH)(D:Ends):OutD->Prop
|.nx r' w'=>∀σ' G' H',bU G G'->SD X g i C a dx pl m' r' w' G' σ' H'->D.nx σ' H'
|.rt d w'=>∀v G' H',bU G G'->Grow X.K g.gh g.h0 G' H'->DkR X.K G' H' C a dx pl w'->RG X.K G' v d->D.rt v H'
|.stuck=>False
def tD(X:Cx)(g:GE)(i:Nat)(C:Addr)(m m':List Md)(f:dW):TS:=fun D σ H=>∃a dx pl r w G,SD X g i C a dx pl m r w G σ H/\pr X g i C a dx pl m' G D (f r w)
def kt(X:Cx)(g:GE)(i:Nat)(C:Addr)(m:List Md)(st:Stmt)(f:dW)(m':List Md):Prop:=PS X st (tD X g i C m m' f)
def gD(X:Cx)(g:GE)(i:Nat)(C:Addr)(m:List Md)(st:List Stmt)(f:dW)(m':List Md):Prop:=d7 X st (tD X g i C m m' f)
variable{m1 mb:List Md}{sts:List Stmt}{e:Expr}{pos pos' p:Pos}
section
variable{st:Stmt}{sts':List Stmt}{c:Expr}{x:Str}{f1 f2:dW}
theorem pr.gle{D:Ends}(h:pr X g i C a dx pl m' G D o)(b:bU G G'):pr X g i C a dx pl m' G' D o:=by cases o with
|nx r w=>exact fun U Z Y l s=>h U Z Y (b.trans l) s
|rt d w=>exact fun v Z Y l=>h v Z Y (b.trans l)
|stuck=>exact h
theorem tf(k:jS X g i C b)(h:m[i]? = some .bw)(w:Cls X.K C)(e:jo X.K C "kept")(n:X.N[i]? = some x)(f:gC X.env.scope x)(j:!!Nq x)(U:!!Nc x)(l:!X_ (.Name x p) "kept" X.env (eval (.Name x p) X.env)=eval (.Name x p) X.env):SE X g m (.Attribute (.Name x p) "kept" pos) fun _=>.ok b:=PE.imp (pJ (eV n f j U) l) fun c H Q ⟨r,G,Y,q⟩=>by obtain⟨a,v,Z,o,u,t,s,d⟩:=k m r G c H Y h;exact⟨_,u,a,C,v,o,Z,rfl,t,w,e,s,q Z G H (Grow.refl Y.gok) d⟩
noncomputable def cZ(f:D->FS):dW:=fun r w=>match f w.1 r with
|.nx r'=>.nx r' w
|.rt d=>.rt d w
|_=>.stuck
theorem iM(h:∀g' Y,jS X g' i C Y->SS X g' false mb m st (f Y) m')(J:m'[i]? = some .bw):kt X g i C m st (cZ f) m':=by
 have K:PS X st (fun D c H=>∃g' Y,jS X g' i C Y/\tS X g' false m m' mb _ D c H):=fun E s c H D I V=>(by obtain⟨g',Y,k,q⟩:=V;exact (h g' Y k).2 E s c H D I q);refine PS.imp K fun D c H W=>?_;obtain⟨a,l,j,r,w,G,s,q⟩:=W;refine ⟨_,w.1,s.kept,r,G,s.toH,?_⟩
 unfold cZ at q;cases e:f w.1 r with
|nx t=>rw[e]at q;exact fun n x u F p=>q n x u F (s.after p J)
|rt d=>
  rw[e]at q;intro v x u U B;have L:=s.held U;refine q v x u U.ge ⟨U.ok,fun b o Z=>?_,fun b d Z=>U.ge b d (s.si.ge b d Z),fun b Z=>?_⟩ L B
  .have z:b∉[a,l,j]:=fun z=>by rw[s.h0 b z]at Z;cases Z
   exact U.he b o (by show(if b∈[a,l,j]then H b else g.h0 b)=_;simp_all)
  .have z:=fun z=>Z (s.h0 b z);have A:(hG g G H [a,l,j] i a).h0 b≠none:=by show(if b∈[a,l,j]then H b else g.h0 b)≠_;simp_all
   exact(U.gf b A).trans (s.si.gf b A)
|bk t=>rw[e]at q;exact q.elim
|ct t=>rw[e]at q;exact q.elim
|exc y t=>rw[e]at q;exact q.elim
|stuck=>rw[e]at q;exact q.elim
noncomputable def bM(f1 f2:dW):dW:=fun r w=>match f1 r w with
|.nx r' w'=>f2 r' w'
|o=>o
noncomputable def gU:dW:=fun r w=>.nx r w
theorem jh:gD X g i C m [] gU m:=d7.imp pT fun D U H k=>by obtain⟨a,Z,Y,r,w,G,s,q⟩:=k;exact q U G H (bU.refl G) s
theorem eF(k:kt X g i C m st f1 m1)(j:gD X g i C m1 sts f2 m'):gD X g i C m (st::sts) (bM f1 f2) m':=by
 refine d7.imp (mI k j) fun D n H z=>?_;obtain⟨a,Z,Y,r,w,G,s,q⟩:=z;refine ⟨a,Z,Y,r,w,G,s,?_⟩
 unfold bM at q;cases e:f1 r w with
|nx f U=>rw[e]at q;exact fun b l o h c=>⟨a,Z,Y,f,U,l,c,q.gle h⟩
|rt d U=>rw[e]at q;exact q
|stuck=>rw[e]at q;exact q
noncomputable def n0{α:Type}(x:Res α)(k:α->OutD):OutD:=match x with
|.ok a=>k a
|_=>.stuck
theorem oW{x:Res U}{D:Ends}(h:pr X g i C a dx pl m' G D (n0 x k)):fin x (fun y=>pr X g i C a dx pl m' G D (k y)) Z:=by cases x with
|ok a=>exact h
|exc e=>exact(h).elim
|stuck=>exact h
def l6(p:D->FQ)(f1 f2:dW):dW:=fun r w=>n0 (p w.1 r) fun c=>if c=true then f1 r w else f2 r w
theorem om(j:∀g' U,jS X g' i C U->SQ X g' m c (q U))(o:gD X g i C m sts f1 m')(n:gD X g i C m sts' f2 m'):kt X g i C m (.If c sts sts' pos) (l6 q f1 f2) m':=by
 have l:PT X c (fun Y H Q=>∃g' U,jS X g' i C U/\tQ X g' m _ Y H Q):=fun h s Y H Q I y=>(by obtain⟨g',U,k,z⟩:=y;exact j g' U k h s Y H Q I z);refine PS.imp (sS l o n) fun D Y H u=>?_;obtain⟨a,e,d,r,w,G,s,z⟩:=u;refine ⟨_,w.1,s.kept,r,G,s.toH,bW (oW z) fun c z f p Z=>?_⟩
 have b:=s.after (s.toH.grow Z) s.mi;cases c with
|true=>show(if true=true then _ else _);exact⟨a,e,d,r,w,f,b,z.gle Z.ge⟩
|false=>show(if false=true then _ else _);exact⟨a,e,d,r,w,f,b,z.gle Z.ge⟩
def wC(fe:D->FE):dW:=fun r w=>n0 (fe w.1 r) fun d=>.nx r (d,w.2)
theorem XY(j:Nb g m i)(P:Cls X.K C)(u:jo X.K C "kept")(F:X.N[i]? = some x)(y:gC X.env.scope x)(B:∀g' f,jS X g' i C f->SE X g' m e (fe f))(E:!!Nq x)(Y:!!Nc x)(A:!æ e (some (.Attribute (.Name x p) "kept" pos')) pos.line X.env=pure false):kt X g i C m (.Assign [.Attribute (.Name x p) "kept" pos'] e pos) (wC fe) m:=by
 have J:PE X e (fun h H Q=>∃g' f,jS X g' i C f/\tE X g' m _ h H Q):=fun t s h H Q I g=>(by obtain⟨g',f,k,z⟩:=g;exact B g' f k t s h H Q I z);refine PS.imp (tF (eV F y E Y) J A) fun D h H p=>?_;obtain⟨a,O,W,r,w,G,s,z⟩:=p;refine ⟨_,w.1,s.kept,r,G,s.toH,bW (oW z) fun d z v R H' l o=>?_⟩
 have c:=s.after (s.toH.grow l) s.mi;obtain⟨kv,M,T⟩:=c.ob.ob;obtain⟨U,Z,dl⟩:=c.ob.ne;refine⟨_,c.me,a,C,O,_,rfl,M,P,u,by show 2<1000;decide,z h R _ l.ge (c.chg j (fun b j=>bL fun z=>j (by simp[z])) ⟨⟨v,cX,o⟩,by rw[bL (ê U)];exact c.ob.od,?_,c.ob.un⟩)⟩;obtain⟨n,L,q⟩:=c.ob.ls;exact⟨n,by rw[bL (ê Z)];exact L,q⟩
end
theorem zf{U v:V}:Õ ("past" : Str) [(("kept" : Str),U),(("past" : Str),v)]=some v:=by rw[Õ,show(("past" : Str)==("kept"))=false by decide];simp[Õ]
theorem Iu{U v:V}:Õ ("kept" : Str) [(("kept" : Str),U),(("past" : Str),v)]=some U:=by simp[Õ]
noncomputable def lx(H:Hp)(fp:List Addr):Hp:=fun b=>if b∈fp then none else H b
variable{j:Nat}{ms:List Md}{es:List Expr}{p1 p2 p3 apos cpos:Pos}{y mt:Str}
section
variable{p4:Pos}{x:Str}
noncomputable def AV:dW:=fun r w=>if w.2.length<sizeLine then .nx r (w.1,w.2++[w.1])else .stuck
theorem XU(d:Nb g m i)(t:Cls X.K C)(E:jo X.K C "kept")(B:jo X.K C "past")(l:X.N[i]? = some x)(j:gC X.env.scope x)(k:!!Nq x)(u:!!Nc x)(L:!X_ (.Name x p1) "past" X.env (eval (.Name x p1) X.env)=eval (.Name x p1) X.env)(J:!X_ (.Name x p3) "kept" X.env (eval (.Name x p3) X.env)=eval (.Name x p3) X.env)(Z:!X_ (.Attribute (.Name x p1) "past" p2) "append" X.env (eval (.Attribute (.Name x p1) "past" p2) X.env)=eval (.Attribute (.Name x p1) "past" p2) X.env)(P:!k8 X [.Attribute (.Name x p3) "kept" p4] cpos=true)(Y:!(apos.endLine==cpos.line)=true)(p:!B_ [.Attribute (.Name x p3) "kept" p4] X.env=(false,eval (.Attribute (.Name x p3) "kept" p4) X.env)::B_ [] X.env)(U:!Bx X cpos [])(I:!æ (.Call (.Attribute (.Attribute (.Name x p1) "past" p2) "append" apos) [.Attribute (.Name x p3) "kept" p4] [] cpos) none pos.line X.env=pure false):kt X g i C m (.Expr (.Call (.Attribute (.Attribute (.Name x p1) "past" p2) "append" apos) [.Attribute (.Name x p3) "kept" p4] [] cpos) pos) AV m:=by
 refine PS.imp (oX (Bm PySem.F.plainAttrs_list PySem.F.slot_list_append PySem.F.type_list_append CU (pJ (eV l j k u) L) (gR (pJ (eV l j k u) J) jT p) Z P Y p U) I) fun D v H g=>?_;obtain⟨a,o,A,r,w,G,s,q⟩:=g;obtain⟨c,e,h⟩:=s.ob.ob;obtain⟨y,n,f⟩:=s.ob.ls;obtain⟨Q,O,M⟩:=s.ob.ne;unfold AV at q;split at q
 .have hx:=Paired.length f;refine⟨_,s.me,a,C,o,_,_,rfl,e,t,B,zf,.inl ⟨rfl,_,dq.of n⟩,_,s.me,a,C,o,_,c,rfl,e,t,E,Iu,A,y,c,rfl,rfl,n,`o,?_⟩;refine q v G _ (bU.refl G) (s.chg d (fun b d=>bL fun z=>d (by simp[z])) ⟨⟨c,by rw[bL O];exact e,h⟩,by rw[bL M];exact s.ob.od,⟨_,cX,Paired.snoc f h⟩,s.ob.un⟩)
 .exact q.elim
noncomputable def qX:dW:=fun r w=>if w.2.isEmpty=true then .stuck else .nx r w
theorem Yg{sts:List Stmt}(cl:Cls X.K C)(np:jo X.K C "past")(hN:X.N[i]? = some x)(hv:gC X.env.scope x)(hd:!!Nq x)(U:!!Nc x)(b1:!X_ (.Name x p1) "past" X.env (eval (.Name x p1) X.env)=eval (.Name x p1) X.env)(he:!!!!∀whole,isTrue (.Attribute (.Name x p1) "past" p2) X.env whole=(do let v <-whole;ð (Expr.Attribute (.Name x p1) "past" p2).pos;å [v] (ĸ v))):kt X g i C m (.If (.UnaryOp .Not (.Attribute (.Name x p1) "past" p2) p3) sts [] pos) qX m:=by
 have hF:d7 X sts (fun _ _ _=>False):=fun pz s σ H D I q=>q.elim;refine PS.imp (sS (yJ (zm (pJ (eV hN hv hd U) b1) he)) hF pT) fun D σ H k=>?_;obtain⟨a,dx,pl,r,w,G,s,q⟩:=k;obtain⟨kv,e1,r1⟩:=s.ob.ob;obtain⟨xs,e2,r2⟩:=s.ob.ls;unfold qX at q;split at q
 .exact q.elim
 .have hx:xs.isEmpty=false:=by
   have:=Paired.length r2
   grind
  refine⟨_,s.me,a,C,dx,_,_,rfl,e1,cl,np,zf,not xs.isEmpty,.inl ⟨xs,dq.of e2,rfl⟩,?_⟩;show(if (not (not xs.isEmpty))=true then _ else _);rw[hx,Q_e `d];exact q σ G H (bU.refl G) s
noncomputable def sR:dW:=fun r w=>match w.2.getLast? with
|some d=>.nx r (d,w.2.dropLast)
|none=>.stuck
theorem T0{l:List Y}{r:List U}(h:Paired F l r)(e:r.getLast? = some b):∃a,l[l.length-1]? = some a/\F a b:=by rw[List.getLast?_eq_getElem?]at e;obtain⟨a,Z,f1⟩:=DL.Paired.get h e;exact⟨a,by rw[Paired.length h];exact Z,f1⟩
theorem Yh(c:Nb g m i)(v:Cls X.K C)(J:jo X.K C "kept")(I:jo X.K C "past")(l:X.N[i]? = some x)(j:gC X.env.scope x)(k:!!Nq x)(Z:!!Nc x)(O:!X_ (.Name x p1) "past" X.env (eval (.Name x p1) X.env)=eval (.Name x p1) X.env)(Y:!X_ (.Attribute (.Name x p1) "past" p2) "pop" X.env (eval (.Attribute (.Name x p1) "past" p2) X.env)=eval (.Attribute (.Name x p1) "past" p2) X.env)(U:!(apos.endLine==cpos.line)=true)(L:!æ (.Call (.Attribute (.Attribute (.Name x p1) "past" p2) "pop" apos) [] [] cpos) (some (.Attribute (.Name x p) "kept" pos')) pos.line X.env=pure false):kt X g i C m (.Assign [.Attribute (.Name x p) "kept" pos'] (.Call (.Attribute (.Attribute (.Name x p1) "past" p2) "pop" apos) [] [] cpos) pos) sR m:=by
 refine PS.imp (tF (eV l j k Z) (Hs PySem.F.plainAttrs_list PySem.F.slot_list_pop PySem.F.type_list_pop OP (pJ (eV l j k Z) O) Y U) L) fun D A H g=>?_;obtain⟨a,t,E,r,w,G,s,q⟩:=g;obtain⟨T,o,R⟩:=s.ob.ob;obtain⟨h,n,e⟩:=s.ob.ls;obtain⟨P,u,Q⟩:=s.ob.ne;unfold sR at q;split at q
 .rename_i d hd';obtain⟨y,M,B⟩:=T0 e hd';refine⟨_,s.me,a,C,t,_,_,rfl,o,v,I,zf,.inl ⟨rfl,_,dq.of n⟩,E,h,y,rfl,rfl,n,M,?_⟩;refine⟨_,s.me,a,C,t,_,rfl,by rw[bL u];exact o,v,J,by show 2<1000;decide,?_⟩;have f:dJ X.K G h.dropLast w.2.dropLast:=by rw[QdB,QdB,Paired.length e];exact Paired.tk _ e
  refine q A G _ (bU.refl G) (s.chg c (fun b c=>?_) ⟨⟨y,cX,B⟩,by rw[bL (ê P),bL Q];exact s.ob.od,⟨_,by rw[bL (ê u),cX],f⟩,s.ob.un⟩);rw[bL fun z=>c (by simp[z]),bL fun z=>c (by simp[z])]
 .exact q.elim
abbrev kx:=DW->List D->Option (D×DW)
def E7(K:W.Frag)(C:Addr)(ms:List Md)(F:kx):Sp:=fun vs H Q _=>∃G a dx pl w us ds,vs=.ref a::us/\cK K G H/\DkR K G H C a dx pl w/\ArgsOk K G H ms us ds /\∃d w',F w ds=some (d,w')/\∀v G' H',Grow K G (lx H [a,dx,pl]) G' H'->DkR K G' H' C a dx pl w'->RG K G' v d->Q v H'
theorem SD.call(s:SD X g i C a dx pl m r w G σ H)(k:Nb g m i)(f:Grow X.K G (lx H [a,dx,pl]) G' H')(d:DkR X.K G' H' C a dx pl w'):SD X g i C a dx pl m r w' G' σ H':=by
 have q:∀b,b∉[a,dx,pl]->lx H [a,dx,pl] b=H b:=fun b z=>Q_e z;have U:∀b∈[a,dx,pl],(jj g H [a,dx,pl] i a).h0 b≠none:=fun b k=>by show(if b∈[a,dx,pl]then H b else g.h0 b)≠_;rw[Q_d k];exact s.ob.isS b k
 have t:∀b,b∉[a,dx,pl]->(jj g H' [a,dx,pl] i a).h0 b=g.h0 b:=fun b k=>by show(if b∈[a,dx,pl]then H' b else g.h0 b)=_;rw[Q_e k]
 have n:∀b,b∉[a,dx,pl]->(jj g H [a,dx,pl] i a).h0 b=g.h0 b:=fun b k=>by show(if b∈[a,dx,pl]then H b else g.h0 b)=_;rw[Q_e k]
 have Y:∀b,b∉[a,dx,pl]->g.h0 b≠none->lx H [a,dx,pl] b≠none:=fun b z h=>by rw[q b z];cases e:g.h0 b with
 |none=>exact Q_f e h
 |some o=>rw[s.si.old b o (by rw[n b z];exact e)];simp
 refine⟨d,s.h0,⟨f.ok,fun b o e=>?_,fun b d e=>f.ge b d (s.si.ge b d e),fun b e=>?_,s.si.lm,s.si.lr,fun j d Z p=>?_,fun j d Z p=>?_,fun j d Z p=>?_,s.si.dis,s.si.lk⟩,s.mi⟩
 .by_cases z:b∈[a,dx,pl]
  .have:(jj g H' [a,dx,pl] i a).h0 b=H' b:=by show(if b∈[a,dx,pl]then H' b else g.h0 b)=_;rw[Q_d z]
   grind
  .rw[t b z]at e;exact f.he b o (by rw[q b z];exact s.si.old b o (by rw[n b z];exact e))
 .by_cases z:b∈[a,dx,pl]
  .rw[d.un b z];have Z:=s.si.gf b (U b z);rw[s.ob.un b z]at Z;exact Z
  .rw[t b z]at e;exact(f.gf b (Y b z e)).trans (s.si.gf b (by rw[n b z];exact e))
 .obtain⟨v,q1,q2⟩:=s.si.sh j d Z p;exact⟨v,q1,q2.mono f.ge⟩
 .obtain⟨c,q1,q2,q3⟩:=s.si.ow j d Z p;have z:=fun z=>U c z q3;have y:lx H [a,dx,pl] c≠none:=by rw[q c z];exact q2.ob.isS
  exact⟨c,q1,⟨by rw[f.gf c y];exact q2.un,q2.ob.mono f.ge fun u x=>f.he c u (by rw[q c z];exact x)⟩,`g⟩
 .by_cases hji:j=i
  .subst hji;have l:=(s.si.lk j _ (by show(if j=j then _ else _)=_;rw[Q_d rfl]) s.mi).2 d Z;cases l
  .obtain⟨v,ev⟩:=k j hji p;have l:=(s.si.lk j (v,none) (by show(if j=i then _ else _)=_;grind) p).2 d Z;cases l
end
theorem SD.grown(s:SD X g i C a dx pl m r w G σ H):Grow X.K g.gh g.h0 G H:=by have U:∀b,g.h0 b≠none->b∉[a,dx,pl]:=fun b h z=>h (s.h0 b z);have Y:∀b,g.h0 b≠none->(jj g H [a,dx,pl] i a).h0 b=g.h0 b:=fun b h=>Q_e (U b h);exact⟨s.si.gok,fun b o e=>s.si.old b o `a,s.si.ge,fun b h=>s.si.gf b (by rw[Y b h];exact h)⟩
theorem JZ(s:cK X.K G H)(v:DkR X.K G H C a dx pl w)(l:ArgsOk X.K G H ms us ds)(n:ms.length+1<=N.length):SD X ⟨G,lx H [a,dx,pl],fun _=>none⟩ 0 C a dx pl (gQ N.length (.bw::ms)) (none::(ds.map some++j_ (N.length-(ds.length+1)) none)) w G (L2.aX N (.ref a::us)) H:=by
 have s0:=rR s (.bw (.inl (.scl .non)) l) (by simpa using n);have u:(L2.aX N (.ref a::us)).length=(L2.aX N (.non::us)).length:=by unfold L2.aX;simp
 have U:∀i,i≠0->(L2.aX N (.ref a::us))[i]? = (L2.aX N (.non::us))[i]?:=fun i f=>by
  obtain⟨j,rfl⟩:∃j,i=j+1:=⟨i-1,`o⟩
  unfold L2.aX;simp
 have Z:∀i d,(none::(ds.map some++j_ _ none))[i]? = some (some d)->i≠0/\(cS N.length (.non::ds))[i]? = some (some d):=fun i d h=>by cases i with
 |zero=>simp at h
 |succ j=>unfold cS;simpa using h
 have t:jj ⟨G,lx H [a,dx,pl],fun _=>none⟩ H [a,dx,pl] 0 a=⟨G,H,fun j=>if j=0 then some (some (V.ref a),none)else none⟩:=by
  unfold jj lx;congr 1
  simp_all
 refine⟨v,fun b r=>Q_d r,?_,by unfold gQ;simp⟩;rw[t];refine⟨s0.gok,s0.old,s0.ge,s0.gf,by exact s0.lm,?_,fun i d h Y=>?_,fun i d h Y=>?_,fun i d h Y=>?_,fun i j c d e g f p=>?_,fun i o h Y=>?_⟩
 .rw[u,<-s0.lr];unfold cS;simp
 .obtain⟨z,q⟩:=Z i d h;rw[U i z];exact s0.sh i d q Y
 .obtain⟨z,q⟩:=Z i d h;rw[U i z];exact s0.ow i d q Y
 .obtain⟨z,q⟩:=Z i d h;rw[U i z];exact s0.bw i d q Y
 .obtain⟨z,q⟩:=Z i d f;obtain⟨k,m⟩:=Z j e p;rw[U i z,U j k];exact s0.dis i j c d e g q m
 .have h:(if i=0 then some _ else none)=some o:=h;split at h
  .rename_i f;subst f;cases h;exact⟨by unfold L2.aX;simp,fun d h=>by simp at h⟩
  .cases h
noncomputable def iC:OutD->Option (D×DW)
|.nx _ w=>some (.non,w)
|.rt d w=>some (d,w)
|.stuck=>none
noncomputable def cL(n:Nat)(ds:List D):aI:=none::(ds.map some++j_ (n-(ds.length+1)) none)
variable{P:o_}{mg:Str->Option a_}{base:Heap}
section
variable{w:F_}
theorem HC{st:Stmt}{y:à}{N j:List Str}(F:Fun K x c st f y)(S:FnScope N j (aA st))(Y:ms.length+1=j.length)(U:∀(i:a_)(A:I_)(b:List Env)(s:d_)(H:Hp)(g:GE)(E:XK),Room k (A.deeper (â c (aA st) s.heap.objs.size f i)) ->gD (dm eN P w K mg base N c (aA st) f i A b s H E).nox g 0 C (gQ N.length (.bw::ms)) (aH st) fs m'):FnOk P w K mg base eN (k+1) f y j (E7 K C ms fun z ds=>iC (fs (cL N.length ds) z)):=by
 refine F.ok S (fun O H Q E k=>by obtain⟨G,a,o,m,z,R,ds,X,u,B,l,q⟩:=k;rw[X,Ë,l.len.1];exact Y) fun i A b s H O Q E hr h=>?_;obtain⟨G,a,o,m,z,R,ds,rfl,u,B,l,d,J,e,q⟩:=h;have hpl:j.length<=N.length:=by have:=Q_g Ö S.pre;rw[ŕ]at this;omega
 replace e:iC (fs (cL N.length ds) z)=some (d,J):=e;refine⟨_,U i A b s H ⟨G,lx H [a,o,m],fun _=>none⟩ E hr,a,o,m,cL N.length ds,z,G,JZ u B l `o,?_⟩;cases n:fs (cL N.length ds) z with
|nx r' M=>rw[n]at e;cases e;exact fun I r p W t=>q .non r p t.grown t.ob (.scl .non)
|rt d' M=>rw[n]at e;cases e;exact fun v r p W L Z T=>q v r p L Z T
|stuck=>rw[n]at e;cases e
structure CalleeT(P:o_)(w:F_)(K:W.Frag)(mg:Str->Option a_)(base:Heap)(mt:Str)(ps:List Str)(k:Nat)(C:Addr)(ms:List Md)(F:kx):Prop where
 ex:Cls K C/\∃f fd,Meth K C mt f/\gO K fd ps []/\FnOk P w K mg base eN k f fd ps (E7 K C ms F)
structure CalleeO(P:o_)(w:F_)(K:W.Frag)(mg:Str->Option a_)(base:Heap)(x:Str)(ps:List Str)(k:Nat)(C:Addr)(ms:List Md)(F:kx):Prop where
 ex:∃f fd,mg x=some (.ref f)/\W.keepIn K (.ref f)=true/\gO K fd ps []/\FnOk P w K mg base eN k f fd ps (E7 K C ms F)
theorem Jr{st:Stmt}(A:MethAt K nm d Z st)(h:XN K nm C)(S:FnScope N c (aA st))(Y:ms.length+1=c.length)(l:k4 d Z st c)(U:k6 k Z st eN P w K mg base N fun X g=>gD X.nox g 0 C (gQ N.length (.bw::ms)) (aH st) fs m'):CalleeT P w K mg base d c (k+1) C ms fun z ds=>iC (fs (cL N.length ds) z):=by obtain⟨r,f,n,m,p,j,F⟩:=A.ex;have:=m C h;subst this;exact⟨p,f,n,j,F.binds l,HC F S Y (U f)⟩
theorem PX{st:Stmt}(A:DefAt K mg x st)(S:FnScope N b (aA st))(Y:ms.length+1=b.length)(e:k4 x x st b)(U:k6 k x st eN P w K mg base N fun X g=>gD X.nox g 0 C (gQ N.length (.bw::ms)) (aH st) fs m'):CalleeO P w K mg base x b (k+1) C ms fun z ds=>iC (fs (cL N.length ds) z):=by obtain⟨f,i,h,F⟩:=A.ex;exact⟨f,i,h,F.kp,F.binds e,HC F S Y (U f)⟩
end
variable{fn:Str}{ps:List Str}{F:kx}
section
variable{k:Nat}{x:Str}
theorem sE{U v:V}(Z:(mt==("kept" : Str))=false)(Y:(mt==("past" : Str))=false):Õ mt [(("kept" : Str),U),(("past" : Str),v)]=none:=`g
theorem SD.setv(s:SD X g i C a dx pl m r w G σ H)(U:j≠i)(Y:RG X.K G v d):SD X g i C a dx pl (m.set j .sh) (r.set j (some d)) w G (σ.set j (some v)) H:=⟨s.ob,s.h0,s.si.set j Y,by rw[e_ U];exact s.mi⟩
noncomputable def yO(F:kx):dW:=fun r w=>match F w []with
|some (_,w')=>.nx r w'
|none=>.stuck
theorem QK{Y:Sem Bool}(c:CalleeT X.prog X.w X.K X.mg X.base mt ps k C [] F)(B:Room k X.A)(I:Nb g m i)(J:X.N[i]? = some x)(t:gC X.env.scope x)(E:!!Nq x)(U:!!Nc x)(n:!!(mt==("kept" : Str))=false)(l:!!(mt==("past" : Str))=false)(u:!eval (.Call (.Attribute (.Name x p) mt apos) [] [] cpos) X.env=k7 X (.Name x p) mt [] apos cpos Y)(y:!æ (.Call (.Attribute (.Name x p) mt apos) [] [] cpos) none pos.line X.env=pure false):kt X g i C m (.Expr (.Call (.Attribute (.Name x p) mt apos) [] [] cpos) pos) (yO F) m:=by obtain⟨P,f,fd,o,Q,L⟩:=c.ex;refine PS.imp (oX (S0 (eV J t E U) P o L B Q .nil mT u) y) fun D h H k=>?_;obtain⟨a,e,Y,r,w,G,s,q⟩:=k;obtain⟨kv,M,r1⟩:=s.ob.ob;unfold yO at q;cases Z:F w []with
|none=>rw[Z]at q;exact q.elim
|some z=>obtain⟨d,j⟩:=z;rw[Z]at q;refine⟨_,s.me,a,e,_,rfl,M,sE n l,G,a,e,Y,w,[],[],rfl,s.si.gok,s.ob,.nil,d,j,Z,fun v T R b O W=>q h T R b.ge (s.call I b O)⟩
def GN(j:Nat)(fl:D->aI->Res (List D))(F:kx):dW:=fun r w=>n0 (fl w.1 r) fun ds=>match F w ds with
|some (d,w')=>.nx (r.set j (some d)) w'
|none=>.stuck
theorem QM{n:Sem Bool}(j:Nat)(c:CalleeT X.prog X.w X.K X.mg X.base mt ps k C ms F)(hr:Room k X.A)(t:j≠i)(hb:Nb g m i)(hN:X.N[i]? = some x)(hv:gC X.env.scope x)(dl:X.N.Nodup)(Y:X.N[j]? = some y)(hy:lw X.env.scope y)(ha:∀g' b,jS X g' i C b->iL X g' m (e::es) ms (J b))(hd:!!Nq x)(Z:!!Nc x)(n1:!!(mt==("kept" : Str))=false)(n2:!!(mt==("past" : Str))=false)(U:!Sx X e es)(o:!Bx X cpos es)(ht:!eval (.Call (.Attribute (.Name x p) mt apos) (e::es) [] cpos) X.env=k7 X (.Name x p) mt (e::es) apos cpos n)(hs:!æ (.Call (.Attribute (.Name x p) mt apos) (e::es) [] cpos) (some (.Name y pos')) pos.line X.env=pure false)(hf:!!!Fx X y):kt X g i C m (.Assign [.Name y pos'] (.Call (.Attribute (.Name x p) mt apos) (e::es) [] cpos) pos) (GN j J F) (m.set j .sh):=by obtain⟨cl,f,fd,me,bd,fo⟩:=c.ex;have hA:PA X _ (fun h H Q=>∃g' b,jS X g' i C b/\AI X g' m ms _ h H Q):=fun pos W s h H Q I y=>(by obtain⟨g',b,k,z⟩:=y;exact ha g' b k pos W s h H Q I z);refine PS.imp (yI dl Y hy (Ie (eV hN hv hd Z) cl me fo hr bd .nil mT hA U o ht) hs hf) fun D h H j=>?_;obtain⟨a,L,n,r,w,G,s,q⟩:=j;obtain⟨kv,e1,r1⟩:=s.ob.ob;refine⟨_,s.me,a,L,_,rfl,e1,sE n1 n2,_,w.1,s.kept,r,G,s.toH,bW (oW q) fun M q P G1 H1 l T=>?_⟩;have E:=s.after (s.toH.grow l) s.mi;cases u:F w M with
|none=>rw[u]at q;exact q.elim
|some z=>obtain⟨d,O⟩:=z;rw[u]at q;refine⟨G1,a,L,n,w,P,M,`s,l.ok,E.ob,T,d,O,u,fun v G' H' B dk R=>q _ G' H' (bU.trans l.ge B.ge) ((E.call hb B dk).setv t R)⟩
def yR(fl:D->aI->Res (List D))(F:kx):dW:=fun r w=>n0 (fl w.1 r) fun ds=>match F w ds with
|some (.bl true,w')=>.nx r w'
|some (.bl false,w')=>.rt (.bl false) w'
|_=>.stuck
end
section
variable{k:Nat}{iter:Expr}{pn px rpos:Pos}{x:Str}{s1:dW}
theorem QN{kk:Nat}(c:CalleeO X.prog X.w X.K X.mg X.base fn ps k C ms F)(hr:Room k X.A)(hb:Nb g m i)(hN:X.N[i]? = some x)(hv:gC X.env.scope x)(ha:∀g' h,jS X g' i C h->iL X g' m (e::es) ms (B h))(hg:!Gl X fn)(hd:!!Nq x)(Z:!!Nc x)(Y:!!Nq fn)(U:!B_ (.Name x px::e::es) X.env=(false,eval (.Name x px) X.env)::B_ (e::es) X.env)(p:!Bx X cpos (e::es))(he:!!!!∀b,isTrue (.Call (.Name fn pn) (.Name x px::e::es) [] cpos) X.env b=(do let v <-b;ð (Expr.Call (.Name fn pn) (.Name x px::e::es) [] cpos).pos;å [v] (ĸ v))):kt X g i C m (.If (.UnaryOp .Not (.Call (.Name fn pn) (.Name x px::e::es) [] cpos) p3) [.Return (some (.Constant (.bool false) kk p2)) rpos] [] pos) (yR B F) m:=by obtain⟨f,fd,h1,W,bd,fo⟩:=c.ex;have hA:PA X _ (fun j H Q=>∃g' h,jS X g' i C h/\AI X g' m ms _ j H Q):=fun pos R s j H Q I b=>(by obtain⟨g',h,k,z⟩:=b;exact ha g' h k pos R s j H Q I z);refine PS.imp (sS (yJ (zm (Ca fo hr hg h1 W bd .nil mT (gR (eV hN hv hd Z) hA U) Y U p) he)) (mI (yH F5) pT) pT) fun D j H e=>?_;obtain⟨a,dx,T,r,w,G,s,q⟩:=e;refine⟨_,s.me,_,w.1,s.kept,r,G,s.toH,bW (oW q) fun E q O G1 H1 n P=>?_⟩;have u:=s.after (s.toH.grow n) s.mi;cases t:F w E with
|none=>rw[t]at q;exact q.elim
|some z=>
  obtain⟨d,M⟩:=z;rw[t]at q;refine⟨G1,a,dx,T,w,O,E,`s,n.ok,u.ob,P,d,M,t,fun v L J l dk y=>?_⟩;have o:=u.call hb l dk;split at q
  .rename_i e1;cases e1;have:=RG.bl l.ok y;subst this;refine⟨true,rfl,?_⟩;show(if (not true)=true then _ else _);exact q j L J (bU.trans n.ge l.ge) o
  .rename_i e1;cases e1;have:=RG.bl l.ok y;subst this;refine⟨false,rfl,?_⟩;show(if (not false)=true then _ else _);exact q _ L J (bU.trans n.ge l.ge) o.grown o.ob (.scl (.bl false))
  .exact q.elim
noncomputable def iW(j:Nat)(body:dW):List D->dW
|[],r,w=>.nx r w
|d::ds,r,w=>match body (r.set j (some d)) w with
 |.nx r' w'=>iW j body ds r' w'
 |o=>o
def sF(fi:FI)(j:Nat)(body:dW):dW:=fun r w=>n0 (fi r) fun ds=>iW j body ds r w
theorem N4(j:Nat)(hp:ą (y_ X.prog X.w) X.A X.env X.xe)(hc:X.calm=true)(hi:∀g',kg X g' m (.Name y p1) iter fi)(hm:m[j]? = some .sh)(hN:X.N.Nodup)(BT:X.N[j]? = some y)(hy:lw X.env.scope y)(W:j≠i)(hb:gD X g i C m sts s1 m)(hf:!!!Fx X y)(hs:!!!!Ix X iter):kt X g i C m (.For (.Name y p1) iter sts [] pos) (sF fi j s1) m:=by
 have dl:m.set j .sh=m:=by obtain⟨c,e⟩:=g_.mp hm;rw[<-e];exact List.set_getElem_self c
 have Id:PI X _ iter (fun K H R=>∃g',tI X g' m fi K H R):=fun pz s K H R I V=>(by obtain⟨g',q⟩:=V;exact hi g' pz s K H R I q);refine PS.imp (tH hp hc Id (Ig hN BT hy hf) hb hs) fun D K H N=>?_;obtain⟨a,F,E,r,w,G,s,q⟩:=N;refine ⟨_,r,G,s.toH,bW (oW q) fun u q J O H0 w0 Y=>?_⟩
 refine⟨fun n z l B=>∃p f h,SD X g i C a F E m p f h l B/\bU O h/\n<=u.length/\z=u.length-n/\pr X g i C a F E m h D (iW j s1 (u.drop n) p f),⟨u.length,r,w,O,s.after (s.toH.grow w0) s.mi,bU.refl O,é _,rfl,q.gle w0.ge⟩,?_⟩
 rintro n z P L ⟨r1,w1,M,b,o,hn,rfl,k⟩
 by_cases c:n<u.length
 .have hd:=Ď c;rw[hd]at k;unfold iW at k;refine .inr ⟨Y.go M L n o b.si.gok c,fun l B=>∃p f h,SD X g i C a F E m p f h l B/\bU O h/\pr X g i C a F E m h D _,fun l B A=>by obtain⟨p,f,h,Q,t,q'⟩:=A;exact ⟨_,`o,p,f,h,Q,t,c,rfl,q'⟩,fun x B y=>?_⟩;obtain⟨h,f,T⟩:=Y.yld M L n x B u[n] o b.si.gok y (q_ c);have t:=o.trans f.ge;have Z:=(b.after (b.toH.grow f) b.mi).setv W T;rw[dl]at Z;refine⟨a,F,E,_,w1,h,Z,?_⟩;cases eb:s1 _ w1 with
 |nx p w2=>simp only[eb]at k;exact fun σ3 G3 H3 U Cl=>⟨p,w2,G3,Cl,t.trans U,k.gle (bU.trans f.ge U)⟩
 |rt d w2=>simp only[eb]at k;exact fun v G3 H3 U wg dk T=>k v G3 H3 (bU.trans f.ge U) wg dk T
 |stuck=>simp only[eb]at k;exact k
 .have e:n=u.length:=`o
  subst e;rw[ġ]at k;exact .inl ⟨Y.stop M L o b.si.gok,k P M L (bU.refl _) b⟩
end
theorem cK.own(Y:cK K G H)(e:H b=some (.own x)):G b=none:=by cases h:G b with
|none=>rfl
|some d=>
  have Z:∀{u:HO},Rd H b u->u=.own x\/∃o U,(HO.own x)=.frz o U:=fun r=>by
   rcases r with r|⟨o,r⟩
   .simp_all
   simp_all
  cases Y b d h with
 |lst r _=>grind
 |tup r _=>grind
 |dic r _=>rw[e]at r;cases r
 |exc r _ _=>rw[e]at r;cases r
 |fld r _=>rw[e]at r;cases r
 |ins r _ _=>rw[e]at r;cases r
noncomputable def N5(X:Cx)(g:GE)(m:List Md)(C:Addr)(kd:D):TS:=fun D σ H=>∃r G x dx,NI X g m x C dx r [] G σ H/\∀G' H' pl,bU G G'->Grow X.K g.gh g.h0 G' H'->g.h0 pl=none->DkR X.K G' H' C x dx pl (kd,[])->D.nx σ H'
section
variable{fe:FE}{x0:Str}{p' p2' pos2 lpos:Pos}{kd:D}
theorem Yf(M:Cls X.K C)(nk:jo X.K C "kept")(np:jo X.K C "past")(J:X.N[0]? = some x0)(B:gC X.env.scope x0)(he:∀r,∃f:FE,SE X g m e f/\f r=.ok kd)(hl:SO X g m (.List [] lpos) fun _=>.ok (.lst []))(E:!!Nq x0)(R:!!Nc x0)(hs:!æ e (some (.Attribute (.Name x0 p) "kept" p')) pos.line X.env=pure false)(LT:!æ (.List [] lpos) (some (.Attribute (.Name x0 p2) "past" p2')) pos2.line X.env=pure false):d7 X [.Assign [.Attribute (.Name x0 p) "kept" p'] e pos,.Assign [.Attribute (.Name x0 p2) "past" p2'] (.List [] lpos) pos2] (N5 X g m C kd):=by
 have hA:PE X e (fun i H Q=>∃f:FE,SE X g m e f/\tE X g m f i H Q):=fun pz s i H Q I p=>(by obtain⟨f,h,q⟩:=p;exact h pz s i H Q I q);refine d7.imp (mI (tF (eV J B E R) hA hs) (mI (tF (eV J B E R) hl LT) pT)) fun D i H N=>?_;obtain⟨r,G,x,j,a,q⟩:=N;obtain⟨f,hf,ef⟩:=he r;refine⟨f,hf,r,G,a.si,?_⟩;rw[ef];intro v w H1 k r1;obtain⟨fs,A,rf⟩:=a.ob;cases rf;have P:=k.he _ _ A;have T:w x=none:=by rw[k.gf x (by rw[A];simp)];exact a.gx
 have KK:=k.he _ _ a.od;have Z:j≠x:=fun z=>by simp_all
 refine⟨_,a.me,x,C,j,[],rfl,P,M,nk,`d,?_⟩;have U:SI X g m r w i (aO H1 x (.ins C j (L2.putF ("kept") v []))):=(a.si.grow k).ins P a.hx T;refine⟨r,w,U,fun b n u d l y=>?_⟩;have L:u x=some (.ins C j [(("kept"),v)]):=d.he _ _ cX;refine⟨_,a.me,x,C,j,_,rfl,L,M,np,by show 1<1000;decide,?_⟩;have hb:b≠x:=fun z=>by rw[z,cX]at l;cases l
 have ep:L2.putF ("past") (V.ref b) [(("kept"),v)]=[(("kept" : Str),v),(("past"),V.ref b)]:=by show(if ("kept")=("past" : Str)then _ else _)=_;rfl
 have O:n x=none:=by rw[d.gf x (by rw[cX];simp)];exact T
 have LE:SI X g m r n i (aO u x (.ins C j (L2.putF ("past") (V.ref b) [(("kept"),v)]))):=(U.grow d).ins L a.hx O;have Y:=d.he _ _ (by rw[bL Z];exact KK);obtain⟨t,eb,W⟩:∃t,u b=some _/\dJ X.K n t []:=by cases y.ob with
 |lst r s=>exact⟨_,r,s⟩
 refine q n _ b (bU.trans k.ge d.ge) LE.grown ?_ ⟨⟨v,by rw[cX,ep],r1.mono d.ge⟩,by rw[bL Z];exact Y,⟨t,by rw[bL hb];exact eb,W⟩,fun c F=>?_⟩
 .cases e0:g.h0 b with
 |none=>rfl
 |some o=>rw[U.old b o e0]at l;cases l
 .simp  at F;rcases F with rfl|rfl|rfl
  .exact O
  .exact(U.grow d).gok.own Y
  .exact y.un
end
def E6(K:W.Frag)(C:Addr)(kd:D):Sp:=fun vs H Q _=>∃G H1 x dx,H=aO (aO H1 dx (.own x)) x (.ins C dx [])/\H1 x=none/\H1 dx=none/\dx≠x/\vs=[.ref x]/\cK K G H1 /\∀G' H' pl,Grow K G H1 G' H'->H1 pl=none->DkR K G' H' C x dx pl (kd,[])->Q .non H'
structure CalleeI(P:o_)(w:F_)(K:W.Frag)(mg:Str->Option a_)(base:Heap)(x:Str)(ps:List Str)(k:Nat)(C:Addr)(kd:D):Prop where
 ex:∃f fd,mg x=some (.ref C)/\Mk K C f/\gO K fd ps []/\FnOk P w K mg base eN k f fd ps (E6 K C kd)
section
variable{w:F_}
theorem PZ{st:Stmt}{N e:List Str}{m:D}(A:MakeAt K mg x nm c st)(M:∀i,XN K nm i->i=C)(S:FnScope N e (aA st))(Z:1=e.length)(L:k4 "__init__" c st e)(U:k6 k c st eN P w K mg base N fun X g=>d7 X.nox (aH st) (N5 X.nox g (gQ N.length [.sh]) C m)):CalleeI P w K mg base x e (k+1) C m:=by
 obtain⟨i,f,T,O,p,cl,y,F⟩:=A.ex;have:=M i p;subst this;refine⟨f,T,O,y,F.binds L,F.ok S (fun t H Q E k=>by obtain⟨G,o,a,n,_,_,_,_,z,_⟩:=k;rw[z];exact Z) fun d A b s H t Q E B h=>?_⟩;obtain⟨G,o,a,n,rfl,X,Y,j,rfl,R,q⟩:=h;have I:e.length<=N.length:=by have:=Q_g Ö S.pre;rw[ŕ]at this;omega
 refine⟨_,U f d A b s _ ⟨G,o,fun _=>none⟩ E B,_,G,a,n,JY (ms:=[]) (us:=[]) (ds:=[]) R .nil `g X Y j,?_⟩;exact fun G' H' v le r J dk=>q G' H' v r J dk
end
section
variable{k:Nat}{x:Str}{kd:D}
theorem SI.toD(s:SI X g m r G σ H)(t:Grow X.K G H G' H')(J:DkR X.K G' H' C a dx pl w)(I:∀b∈[a,dx,pl],H b=none)(hi:i<m.length):SD X g i C a dx pl (m.set i .bw) (r.set i none) w G' (σ.set i (some (V.ref a))) H':=by
 have u:=s.grow t;have Z:∀b,H b≠none->b∉[a,dx,pl]:=fun b h z=>h (I b z);have R:∀b∈[a,dx,pl],g.h0 b=none:=fun b q=>by cases e:g.h0 b with
 |none=>rfl
 |some o=>have:=s.old b o e;grind
 have P:∀b∈[a,dx,pl],g.gh b=none:=fun b q=>by cases e:g.gh b with
 |none=>rfl
 |some d=>have:=s.ge b d e;rw[s.gok.isN (I b q)]at this;cases this
 have A:∀b,b∉[a,dx,pl]->(jj g H' [a,dx,pl] i a).h0 b=g.h0 b:=fun b q=>Q_e q;have Cl:∀b,b∈[a,dx,pl]->(jj g H' [a,dx,pl] i a).h0 b=H' b:=fun b q=>Q_d q;have p:∀{j:Nat}{x:Md},i≠j->(m.set i .bw)[j]? = some x->m[j]? = some x:=fun h e=>by simp_all
 have W:i<σ.length:=by rw[<-s.lm];exact hi
 have U:∀{j:Nat}{d:D},(r.set i none)[j]? = some (some d)->i≠j/\r[j]? = some (some d):=fun{j d} h=>by grind
 refine⟨J,R,⟨t.ok,fun b o e=>?_,u.ge,fun b e=>?_,by simpa using s.lm,by simpa using s.lr,fun j d c f=>?_,fun j d c f=>?_,fun j d c f=>?_,fun j l b d e Q c f M L E B=>?_,fun j o n O=>?_⟩,`a⟩
 .by_cases z:b∈[a,dx,pl]
  .grind
  .rw[A b z]at e;exact u.old b o e
 .by_cases z:b∈[a,dx,pl]
  .rw[J.un b z];exact(P b z).symm
  .rw[A b z]at e;exact u.gf b e
 .obtain⟨hij,c⟩:=U c;rw[e_ hij];exact u.sh j d c (p hij f)
 .obtain⟨hij,c⟩:=U c;obtain⟨b,y,k,F⟩:=s.ow j d c (p hij f);have z:=Z b k.ob.isS;rw[e_ hij];exact⟨b,y,k.mono t,by rw[A b z];exact F⟩
 .obtain⟨hij,c⟩:=U c;obtain⟨v,y,k⟩:=s.bw j d c (p hij f);rw[e_ hij];refine⟨v,y,?_⟩;rcases k with k|⟨b,rfl,k,F⟩
  .exact .inl (k.mono t.ge)
  .exact .inr ⟨b,rfl,k.mono t,`g⟩
 .obtain⟨hij,c⟩:=U c;obtain⟨Y,f⟩:=U f;rw[e_ hij]at E;rw[e_ Y]at B;exact s.dis j l b d e Q c f (p hij M) (p Y L) E B
 .by_cases hij:i=j
  .subst hij;have n:(if i=i then some _ else g.hd i)=some o:=n;rw[Q_d rfl]at n;exact⟨`g,fun d h=>Q_f rfl (U h).1⟩
  .have n:(if j=i then some _ else g.hd j)=some o:=n;rw[Q_e (ê hij)]at n;obtain⟨T,N⟩:=s.lk j o n (p hij O);exact⟨`a,fun d h=>N d (U h).2⟩
end
inductive OutL where
 |nx (r:aI) (w w':DW)|rt (d:D)|stuck
abbrev FL:=aI->DW->DW->OutL
noncomputable def pD:List D->Option D
|[.int i]=>if i.natAbs<2^1000 then some (.str (toString i))else none
|_=>none
theorem mD{U p:Pos}(j:Gl X "str")(h:X.mg "str" = none)(l:jd X g m (e::Y) b)(k:!Sx X e Y)(Z:!Bx X U Y) :
  SE X g m (.Call (.Name "str" p) (e::Y) [] U) (fC b pD):=ju (by
     intro G H n o d Q a c e q;unfold pD at e;split at e
     .split at e
      .rename_i i hi;cases e;cases c with
      |cons f t=>
        cases t;refine⟨i,by rw[f.int a],?_,q _ G H (Grow.refl a) (.scl (.str _))⟩;by_cases z:i.natAbs=0
        .rw[z];decide
        .exact Qeq ((ŷ z).mpr hi) `d
      .cases e
     .cases e) (o9 Wb j h rfl l `d (rfl) k Z)
def l0(d:D):Option D:=(jY d).map fun b=>.bl (not b)
theorem BJ{a:Expr}(t:SB X g m a n):SE X g m (.UnaryOp .Not a f) (f1 n l0):=by intro l s j H Q I ⟨r,G,o,q⟩;refine UnaryOp_ (bJ (t l s j H _ I ⟨r,G,o,bW (cJ q) fun d Z v z i k U=>?_⟩) fun v p n=>by obtain⟨x,i,w,U,Z⟩:=n;exact not_of (bJ (Hf l p j i x v _ w U Z) fun c A a=>by obtain⟨y,u,Y⟩:=a;exact ⟨.bl (not c),y,u,rfl,Y⟩));obtain⟨B,e,Y⟩:=d9 Z;unfold l0 at e;cases h:jY d with
|none=>rw[h]at e;cases e
|some b=>rw[h]at e;cases e;exact⟨b,Jk k.ok U h,Y _ z i k (.scl (.bl _))⟩
structure QAt(P:o_)(w:F_)(K:W.Frag)(mg:Str->Option a_)(x:Str)(tab:List (Str×Str)):Prop where
 ex:∃a f,mg x=some (.ref a)/\(a==Û)=false/\(∀h:Heap,K.In h->h.MapOf (lp P w) a f) /\∀s,match tab.lookup s with
  |some n=>∃b,mg n=some (.ref b)/\f (.inr s)=some (.ref b)
  |none=>f (.inr s)=none
section
variable{a:Expr}{fa:FE}{fl:aI->Res (List D)}{k:Nat}{x:Str}{tab:List (Str×Str)}
def qw(tab:List (Str×Str))(f:FE):FQ:=fun r=>(f r).bind fun d=>match d with
|.str s=>.ok (tab.lookup s).isSome
|_=>.stuck
theorem xK(q:QAt X.prog X.w X.K X.mg x tab)(E:SE X g m a fa)(B:!Gl X x)(A:!Ù .In (.Name x p)=false)(C:!!Nq x):SQ X g m (.Compare a [.In] [.Name x p] pos) (qw tab fa):=by
 obtain⟨b,f,N,M,L,J⟩:=q.ex;have o:eu X (ç .In) (fun y z H Q=>∃s,y=.str s/\z=.ref b/\Q (.bl (tab.lookup s).isSome) H):=by intro R s Y H y z v u Q I j i h;obtain⟨t,rfl,rfl,q⟩:=h;obtain⟨Z,rfl⟩:=j;cases(i);refine wpAny_in_of (k:=.inr t) (zK t Z) M (L _ I.kIn) ⟨_,H,I.tok _,?_,q⟩;have:=J t;cases h:tab.lookup t with
 |none=>rw[h]at this;rw[this];rfl
 |some n=>rw[h]at this;obtain⟨c,_,F⟩:=this;rw[F];rfl
 refine PT.imp (IK o E (tY (v:=.ref b) B N rfl C) A) fun Y H Q w=>?_;obtain⟨r,G,e,z⟩:=w;refine ⟨r,G,e,?_⟩
 refine bW (cJ z) fun d z v P O U l=>?_;cases d with
|str s=>exact⟨s,l.str U.ok,rfl,_,rfl,z P O U⟩
|_=>exact(z).elim
end
end DL
namespace DL
open PySem PySem.Spec PyProof.Rows L2 PySem.W PySem.Calls
noncomputable abbrev QT:=Str×Tok×Str×Addr
noncomputable def lT(w:F_)(t:QT):ĵ:=⟨hashStr w t.1,.str t.1 t.2.1,.ref t.2.2.2⟩
theorem Rv(w:F_)(s:Str):∀U:List QT,(∃t∈U,(U.map fun t=>(t.1,t.2.2.1)).lookup s=some t.2.2.1/\((U.map (lT w)).find? fun e=>lf (.inr s) e.key).map (·.val)=some (.ref t.2.2.2))\/((U.map fun t=>(t.1,t.2.2.1)).lookup s=none/\((U.map (lT w)).find? fun e=>lf (.inr s) e.key).map (·.val)=none):=by
 intro U
 induction U with
|nil=>simp_all
|cons t U Y=>
  rw[í,Ģ,í,Y_];have e:lf (.inr s) (lT w t).key=(s==t.1):=by
   show(t.1==s)=(s==t.1)
   grind
  rw[e];cases h:s==t.1 with
 |true=>exact .inl ⟨t,h_,rfl,rfl⟩
 |false=>grind
theorem NE{K:W.Frag}(Y:List QT)(g:K.In h)(G:h.Ns M_ c)(z:W.nsIn K M_ x=some (some (.ref a)))(l:K.lookup a=some ⟨.type "dict",none,.dict Z n,#[]⟩)(k:Z.toList=Y.map (lT w))(i:(a==Û)=false)(j:ki (fun t:QT=>W.nsIn K M_ t.2.2.1=some (some (.ref t.2.2.2))) Y):QAt P w K c x (Y.map fun t=>(t.1,t.2.2.1)):=by
 refine⟨a,findBy lf Z,W.mg_of g G z,i,fun p U=>⟨_,Z,n,U _ _ l,⟨rfl,rfl,rfl⟩,rfl,fun e b=>?_,fun _=>rfl⟩,fun s=>?_⟩
 .have b:=Array.mem_toList_iff.mpr b;rw[k]at b;obtain⟨t,_,rfl⟩:=w_.mp b;exact⟨.inr t.1,zK t.1 t.2.1,rfl⟩
 .have q:=Rv w s Y;have o:findBy lf Z (.inr s)=((Y.map (lT w)).find? fun e=>lf (.inr s) e.key).map (·.val):=by
   unfold findBy
   grind
  rcases q with⟨t,m,f,d⟩|⟨f,d⟩
  .rw[f];exact⟨t.2.2.2,W.mg_of g G (j.mem t m),o.trans d⟩
  grind
noncomputable def qx:D->Option Str
|.int i=>if i.natAbs<2^1000 then some (toString i)else none
|.str x=>if x.length<=1000 then some x else none
|_=>none
abbrev FJ:=aI->Option Str
noncomputable def Ft:FJ:=fun _=>some ā
noncomputable def Fs(a:Str)(f:FJ):FJ:=fun r=>(f r).map (a++·)
noncomputable def wP(fe:FE)(f:FJ):FJ:=fun r=>match fe r with
|.ok (.str y)=>if y.length<=1001 then(f r).map (y++·)else none
|_=>none
noncomputable def Fz(f:FJ):FE:=fun r=>match f r with
|some z=>if z.length<=100000 then .ok (.str z)else .stuck
|none=>.stuck
def SJ(X:Cx)(g:GE)(m:List Md)(ps:List Expr)(f:FJ):Prop:=∀(pz:List (Addr×Obj))(s:d_)(σ:L2.St)(H:Hp)(out:Str)(Q:a_->d_->Prop)(r:aI)(G:GH),Inv X pz σ H s->SI X g m r G σ H ->(∃z,f r=some z/\out.length+z.length<=1000000/\∀t s' G' H',Grow X.K G H G' H'->Inv X pz σ H' s'->Q (.str (out++z) t) s')->u_ (y_ X.prog X.w) X.A (joinParts out (ï ps X.env)) Q X.xe s
section
variable{X:Cx}{g:GE}{m:List Md}{ps:List Expr}{f:FJ}{pos p:Pos}{v₁ v₂:Expr}{x:Str}
theorem Yc:SJ X g m [] Ft:=fun b s a H U Q r G I Y k=>by
 obtain⟨z,e,c,q⟩:=k
 cases e;have Z:U.length<=sizeLine:=by rw[G_];omega
 have:=q s.toks { s with toks:=s.toks+1 } G H (Grow.refl Y.gok) (I.tok _);exact joinParts_nil this Z
theorem Xe(l:SJ X g m ps f)(k:!ï (.Constant (.str a) j p::ps) X.env=eval (.Constant (.str a) j p) X.env::ï ps X.env):SJ X g m (.Constant (.str a) j p::ps) (Fs a f):=fun Y s U H i Q r G I b j=>by
 obtain⟨z,e,n,q⟩:=j
 obtain⟨y,B,rfl⟩:=Ţ.mp e;rw[ñ]at n;rw[k];refine QdN (bJ (Bz (X:=X) (x:=a) Y s U H (fun v Z=>v=.str a/\Z=H) I ⟨rfl,rfl⟩) fun u c f=>?_);obtain⟨v,Z,C,h,o,A⟩:=f;subst o A;obtain⟨t,rfl⟩:=(show ∃t,u=Value.str a t from h)
 refine⟨by rw[ñ,G_];omega,l Y c U _ _ Q r G C b ⟨y,B,by rw[ñ];omega,fun t d J F w E=>?_⟩⟩;rw[QeI];exact q t d J F w E
def FF(fe:FE):FE:=f1 fe fun d=>(qx d).map .str
theorem Bf(o:SB X g m e fe):SE X g m (.FormattedValue e (-1) none pos) (FF fe):=by
 intro n s i H Q I ⟨r,G,j,q⟩;refine QdO (bJ (o n s i H (fun v Y=>∃d y Z,qx d=some y/\Grow X.K G H Z Y/\RB X.K Z Y v d/\Q (.str y) Y) I ⟨r,G,j,bW (cJ q) fun d l v Z Y a b=>?_⟩) fun u x ⟨v,Y,h,f,d,y,Z,U,a,b,q⟩=>?_)
 .obtain⟨d',e,q2⟩:=d9 l;obtain⟨y,U,rfl⟩:=Ţ.mp e;exact⟨d,y,Z,U,a,b,q2 _ Z Y a (.scl (.str _))⟩
 .unfold qx at U;split at U
  .split at U
   .rename_i k hk;cases U;have c:=b.int a.ok;subst c;obtain⟨t,rfl⟩:=(f)
    refine QdA ?_ ⟨.str _,Y,h.tok _,⟨_,rfl⟩,q⟩;by_cases z:k.natAbs=0
    .rw[z];decide
    .exact Qeq ((ŷ z).mpr hk) `d
   .cases U
  .split at U
   .cases U;have c:=b.str a.ok;subst c;obtain⟨t,rfl⟩:=(f)
    exact formatField_str (fun w p=>⟨.str _,Y,h.tok _,⟨_,rfl⟩,q⟩) (by rw[G_];omega)
   .cases U
  .cases U
theorem Gf(B:SE X g m e fe)(x:SJ X g m ps f)(p:!ï (e::ps) X.env=eval e X.env::ï ps X.env):SJ X g m (e::ps) (wP fe f):=fun i s c H o Q r G I h e=>by obtain⟨z,U,A,q⟩:=e;unfold wP at U;cases Z:fe r with
|ok d=>cases d with
 |str y=>
   simp only[Z]at U;split at U
   .rename_i hy;obtain⟨j,E,rfl⟩:=Ţ.mp U;rw[ñ]at A;rw[p];refine QdN (bJ (B i s c H (fun v b=>∃a,Grow X.K G H a b/\v=.str y) I ⟨r,G,h,?_⟩) fun u N ⟨v,b,F,l,a,Y,C⟩=>?_)
    .rw[Z];exact fun v a b Y n=>⟨a,Y,n.str Y.ok⟩
    .subst C;obtain⟨t,rfl⟩:=(show ∃t,u=Value.str y t from l)
     refine⟨by rw[ñ,G_];omega,x i _ c b _ Q r a F (h.grow Y) ⟨j,E,by rw[ñ];omega,fun t k M L w J=>?_⟩⟩;rw[QeI];exact q t k M L (Y.trans w) J
   .cases U
 |_=>simp only[Z]at U;cases U
|exc _=>simp only[Z]at U;cases U
|stuck=>simp only[Z]at U;cases U
theorem Yp(h:fin (Fz f r) q y):∃z,f r=some z/\z.length<=100000/\q (.str z):=by unfold Fz at h;cases e:f r with
|none=>rw[e]at h;exact h.elim
|some z=>
  rw[e]at h;by_cases U:z.length<=100000
  .simp only[Q_d U]at h;exact⟨z,rfl,U,h⟩
  .simp only[Q_e U]at h;exact h.elim
theorem Fa(h:SJ X g m (U::v₂::ps) f)(j:!ï (U::v₂::ps) X.env=eval U X.env::eval v₂ X.env::ï ps X.env):SE X g m (.JoinedStr (U::v₂::ps) pos) (Fz f):=by intro b s Z H Q I ⟨r,G,a,q⟩;obtain⟨z,e,k,q⟩:=Yp q;exact h b s Z H ā _ r G I a ⟨z,e,by show 0+_<=_;omega,fun t i d Y w c=>⟨.str z,Y,c,⟨t,by rw[Str.empty_append]⟩,q _ d Y w (.scl (.str _))⟩⟩
theorem XD(Z:SE X g m e fe):SE X g m (.JoinedStr [e] pos) fe:=fun Y s U H Q I h=>JoinedStr_one (Z Y s U H Q I h)
end
section
variable{X:Cx}{g:GE}{i j k:Nat}{C a dx pl:Addr}{m ms m':List Md}{r:aI}{w:DW}{G G':GH}{σ:L2.St}{H H':Hp}{e iter tg:Expr}{es:List Expr}{p apos cpos pos pos' pc:Pos}{x y mt xc:Str}{ps:List Str}{F:kx}{sts:List Stmt}{s1:dW}
def sW(fl:D->aI->Res (List D))(F:kx):dW:=fun r w=>n0 (fl w.1 r) fun ds=>match F w ds with
|some (_,w')=>.nx r w'
|none=>.stuck
theorem Hx{j:Sem Bool}(c:CalleeT X.prog X.w X.K X.mg X.base mt ps k C ms F)(hr:Room k X.A)(hb:Nb g m i)(hN:X.N[i]? = some x)(T:gC X.env.scope x)(ha:∀g' Z,jS X g' i C Z->iL X g' m (e::es) ms (u Z))(hd:!!Nq x)(Y:!!Nc x)(P:!!(mt==("kept" : Str))=false)(O:!!(mt==("past" : Str))=false)(U:!Sx X e es)(l:!Bx X cpos es)(W:!eval (.Call (.Attribute (.Name x p) mt apos) (e::es) [] cpos) X.env=k7 X (.Name x p) mt (e::es) apos cpos j)(hs:!æ (.Call (.Attribute (.Name x p) mt apos) (e::es) [] cpos) none pos.line X.env=pure false):kt X g i C m (.Expr (.Call (.Attribute (.Name x p) mt apos) (e::es) [] cpos) pos) (sW u F) m:=by obtain⟨cl,f,fd,R,bd,fo⟩:=c.ex;have hA:PA X _ (fun b H Q=>∃g' Z,jS X g' i C Z/\AI X g' m ms _ b H Q):=fun pos M s b H Q I u=>(by obtain⟨g',Z,k,z⟩:=u;exact ha g' Z k pos M s b H Q I z);refine PS.imp (oX (Ie (eV hN T hd Y) cl R fo hr bd .nil mT hA U l W) hs) fun D b H e=>?_;obtain⟨a,y,j,r,w,G,s,q⟩:=e;obtain⟨kv,e1,r1⟩:=s.ob.ob;refine⟨_,s.me,a,y,_,rfl,e1,sE P O,_,w.1,s.kept,r,G,s.toH,bW (oW q) fun B q J G1 H1 h L=>?_⟩;have t:=s.after (s.toH.grow h) s.mi;cases n:F w B with
|none=>rw[n]at q;exact q.elim
|some z=>obtain⟨d,E⟩:=z;rw[n]at q;refine⟨G1,a,y,j,w,J,B,`s,h.ok,t.ob,L,d,E,n,fun v G' H' o dk rv=>q _ G' H' (bU.trans h.ge o.ge) (t.call hb o dk)⟩
noncomputable def xE(i:Nat)(kd:D)(f:dW):FS:=fun r=>match f (r.set i none) (kd,[])with
|.rt d _=>.rt d
|_=>.stuck
theorem QS(a:i<m.length)(J:m'.length=m.length)(c:CalleeI X.prog X.w X.K X.mg X.base xc ps k C l)(I:Room (k+1) X.A)(Z:X.N.Nodup)(O:X.N[i]? = some y)(B:lw X.env.scope y)(h:gD X g i C (m.set i .bw) sts f m')(L:!Gl X xc)(R:!!Nq xc)(F:!æ (.Call (.Name xc pc) [] [] cpos) (some (.Name y pos')) pos.line X.env=pure false)(M:!!!Fx X y):fU X g false [] m (.Assign [.Name y pos'] (.Call (.Name xc pc) [] [] cpos) pos::sts) (xE i l f) m':=by obtain⟨fa,fd,P,z,W,Q⟩:=c.ex;refine⟨J,d7.imp (mI (yI Z O B (SZ z Q I L P W .nil mT R) F M) h) fun D σ H k=>?_⟩;obtain⟨r,G,j,q⟩:=k;intro x n E Y U;refine⟨G,H,x,n,rfl,E,Y,U,rfl,j.gok,fun G1 H1 u p hp T=>⟨rfl,?_⟩⟩;have s:=j.toD p T (fun b hb=>`g) a;refine⟨x,n,u,_,_,G1,s,?_⟩;unfold xE at q;cases e:f _ _ with
|nx _ _=>rw[e]at q;exact q.elim
|rt d w2=>rw[e]at q;exact fun v G' H' le o BT t=>q v G' H' o t
|stuck=>rw[e]at q;exact q.elim
end
def jn(X:Cx)(g:GE)(i:Nat)(C:Addr)(w:DW):Prop:=∀m r G σ H,SI X g m r G σ H->m[i]? = some .bw->∃a dx pl,σ[i]? = some (some (V.ref a))/\DkR X.K G H C a dx pl w
variable{X:Cx}{g:GE}{i:Nat}{C:Addr}{m:List Md}{w:DW}
section
variable{a dx pl:Addr}{m' mb:List Md}{r:aI}{G:GH}{σ:L2.St}{H:Hp}
theorem jn.kept(h:jn X g i C w):jS X g i C w.1:=fun m r G U H Y c=>by obtain⟨a,j,k,e,d⟩:=h m r G U H Y c;obtain⟨b,f,Z⟩:=d.ob;exact⟨a,j,b,_,e,f,Iu,Z⟩
theorem DkR.heldAt(d:DkR X.K G H C a dx pl w):jn X (hG g G H [a,dx,pl] i a) i C w:=fun j f l Z k U c=>by
 have h:∀b∈[a,dx,pl],(hG g G H [a,dx,pl] i a).h0 b=H b:=fun b Y=>Q_d Y;refine⟨a,dx,pl,(U.lk i _ (Q_d rfl) c).1,d.mono U.ge (fun b Y=>?_) fun b Y=>?_⟩
 .cases e:H b with
 |none=>exact Q_f e (d.isS b Y)
 |some o=>exact U.old b o (by rw[h b Y];exact e)
 .rw[U.gf b (by rw[h b Y];exact d.isS b Y)];exact d.un b Y
theorem jn.tr(h:jn X g i C w):jn (X.tr Z E) g i C w:=fun m r G U H Y a=>h m r G U H (SI.cx Y rfl) a
def wR(p:DW->FQ)(f1 f2:dW):dW:=fun r w=>n0 (p w r) fun c=>if c=true then f1 r w else f2 r w
theorem NH{f1 f2:dW}(n:∀g' w,jn X g' i C w->SQ X g' m c (q w))(t:gD X g i C m Y f1 m')(p:gD X g i C m U f2 m'):kt X g i C m (.If c Y U d) (wR q f1 f2) m':=by
 have o:PT X c (fun Z H Q=>∃g' w,jn X g' i C w/\tQ X g' m _ Z H Q):=fun l s Z H Q I y=>(by obtain⟨g',w,k,z⟩:=y;exact n g' w k l s Z H Q I z);refine PS.imp (sS o t p) fun D Z H v=>?_;obtain⟨a,h,f,r,w,G,s,z⟩:=v;refine ⟨_,w,s.ob.heldAt,r,G,s.toH,bW (oW z) fun c z j u b=>?_⟩
 have e:=s.after (s.toH.grow b) s.mi;cases c with
|true=>show(if true=true then _ else _);exact⟨a,h,f,r,w,j,e,z.gle b.ge⟩
|false=>show(if false=true then _ else _);exact⟨a,h,f,r,w,j,e,z.gle b.ge⟩
end
abbrev oy:=DW->List D->Res D
def lQ(K:W.Frag)(C:Addr)(ms:List Md)(F:oy):Sp:=fun vs H Q E=>∃G a dx pl w us ds,vs=.ref a::us/\cK K G H/\DkR K G H C a dx pl w/\ArgsOk K G H ms us ds /\fin (F w ds) (fun d=>∀v G' H',Grow K G H G' H'->RG K G' v d->Q v H') fun x=>∀T od nm fs G' H',x=xD nm fs->XN K nm T->XF G' od fs->Grow K G H G' H'->E (.ref T) od H'
section
variable{P:o_}{w:F_}{K:W.Frag}{mg:Str->Option a_}{base:Heap}
theorem JQ{x i:Str}{st:Stmt}{fs:DW->FS}(F:Fun K x i st f R)(S:FnScope N p (aA st))(dl:ms.length+1=p.length)(U:∀(j:a_)(A:I_)(c:List Env)(s:d_)(H:Hp)(g:GE)(z:DW)(E:XK),Room k (A.deeper (â i (aA st) s.heap.objs.size f j))->jn (dm (jN P w) P w K mg base N i (aA st) f j A c s H E) g 0 C z ->fU (dm (jN P w) P w K mg base N i (aA st) f j A c s H E) g false [] (gQ N.length (.bw::ms)) (aH st) (fs z) m'):FnOk P w K mg base (jN P w) (k+1) f R p (lQ K C ms fun z ds=>bQ false (fs z (cL N.length ds))):=by
 obtain⟨oc,od,kV,doc,pm,an,j,ct,osl,rfl,lk,BT⟩:=F.ex;refine xG lk BT S (fun vs H Q E k=>by obtain⟨G,a,o,n,z,us,ds,hv,O,M,u,q⟩:=k;rw[hv,Ë,u.len.1];exact dl) fun A c s H vs Q E hr h=>?_;obtain⟨G,a,o,n,z,us,ds,rfl,O,M,u,q⟩:=h;have hpl:p.length<=N.length:=by have:=Q_g Ö S.pre;grind
 have sd:=JZ (X:=dm (jN P w) P w K mg base N i (aA st) f j A c s H E) (N:=N) O M u `o;have h0:(hG ⟨G,lx H [a,o,n],fun _=>none⟩ G H [a,o,n] 0 a).h0=H:=by
  funext b;show(if b∈[a,o,n]then H b else if b∈[a,o,n]then none else H b)=H b
  simp_all
 have J:∀{m l},Grow K (hG ⟨G,lx H [a,o,n],fun _=>none⟩ G H [a,o,n] 0 a).gh (hG _ G H [a,o,n] 0 a).h0 m l->Grow K G H m l:=fun{m l} h=>by rw[h0]at h;exact h
 refine⟨_,(U j A c s H _ z E hr (M.heldAt)).2,cL N.length ds,G,sd.toH,?_⟩;replace q:fin (bQ false _) _ _:=q;cases e:fs z _ with
|nx y=>rw[e]at q;exact fun r m l _ t=>q .non m l (J t.grown) (.scl .non)
|rt d=>rw[e]at q;exact fun v m l wg rv=>q v m l (J wg) rv
|bk y=>rw[e]at q;exact q.elim
|ct y=>rw[e]at q;exact q.elim
|exc x y=>rw[e]at q;intro pz ev s' r m l le t I ex;obtain⟨B,s1,H1,a1,T,Y,nm,Z,rfl,rfl,W,xf,I1,fl⟩:=ex;exact fl.leaves I1 rfl rfl rfl fun s'' L=>⟨a1,_,l,Y,rfl,L,q T Y nm Z m l rfl W xf (J t.grown)⟩
|stuck=>rw[e]at q;exact q
structure CalleeTX(P:o_)(w:F_)(K:W.Frag)(mg:Str->Option a_)(base:Heap)(mt:Str)(ps:List Str)(k:Nat)(C:Addr)(ms:List Md)(F:oy):Prop where
 ex:Cls K C/\∃f fd,Meth K C mt f/\gO K fd ps []/\FnOk P w K mg base (jN P w) k f fd ps (lQ K C ms F)
structure CalleeOX(P:o_)(w:F_)(K:W.Frag)(mg:Str->Option a_)(base:Heap)(x:Str)(ps:List Str)(k:Nat)(C:Addr)(ms:List Md)(F:oy):Prop where
 ex:∃f fd,mg x=some (.ref f)/\W.keepIn K (.ref f)=true/\gO K fd ps []/\FnOk P w K mg base (jN P w) k f fd ps (lQ K C ms F)
theorem KA{st:Stmt}{fs:DW->FS}(A:MethAt K nm d Z st)(h:XN K nm C)(S:FnScope N c (aA st))(Y:ms.length+1=c.length)(l:k4 d Z st c)(U:∀(f:Addr)(b:a_)(A:I_)(a:List Env)(s:d_)(H:Hp)(g:GE)(z:DW)(E:XK),Room k (A.deeper (â Z (aA st) s.heap.objs.size f b))->jn (dm (jN P w) P w K mg base N Z (aA st) f b A a s H E) g 0 C z ->fU (dm (jN P w) P w K mg base N Z (aA st) f b A a s H E) g false [] (gQ N.length (.bw::ms)) (aH st) (fs z) m'):CalleeTX P w K mg base d c (k+1) C ms fun z ds=>bQ false (fs z (cL N.length ds)):=by obtain⟨r,f,n,m,p,j,F⟩:=A.ex;have:=m C h;subst this;exact⟨p,f,n,j,F.binds l,JQ F S Y (U f)⟩
theorem Sy{st:Stmt}{fs:DW->FS}(A:DefAt K mg x st)(S:FnScope N b (aA st))(Y:ms.length+1=b.length)(e:k4 x x st b)(U:∀(f:Addr)(a:a_)(A:I_)(Z:List Env)(s:d_)(H:Hp)(g:GE)(z:DW)(E:XK),Room k (A.deeper (â x (aA st) s.heap.objs.size f a))->jn (dm (jN P w) P w K mg base N x (aA st) f a A Z s H E) g 0 C z ->fU (dm (jN P w) P w K mg base N x (aA st) f a A Z s H E) g false [] (gQ N.length (.bw::ms)) (aH st) (fs z) m'):CalleeOX P w K mg base x b (k+1) C ms fun z ds=>bQ false (fs z (cL N.length ds)):=by obtain⟨f,i,h,F⟩:=A.ex;exact⟨f,i,h,F.kp,F.binds e,JQ F S Y (U f)⟩
end
theorem CalleeX.up{w:F_}{K:W.Frag}{ms:List Md}{F:List D->Res D}(c:CalleeX P w K Y base x U [] j ro ms F)(h:j<=k):CalleeX P w K Y base x U [] k ro ms F:=by obtain⟨f,e,d,b,a,Z⟩:=c.ex;exact⟨f,e,d,b,a,Z.mono h⟩
def my(w:DW)(fl:aI->Res (List D))(F:oy):FE:=fun r=>(fl r).bind fun ds=>F w ds
variable{ms:List Md}{e:Expr}{es:List Expr}{p p2 pos:Pos}{ps:List Str}{fl:aI->Res (List D)}
section
variable{k:Nat}{px pn p1 apos cpos:Pos}{x mt fn:Str}{F:oy}
theorem Cg{G g:GH}{a m l:Addr}(q:fin (F w ds) (fun d=>∀v o n,Grow X.K G H o n->RG X.K o v d->Q v n) (XW X σ G H))(k:Grow X.K G H g Y)(d:DkR X.K g Y C a m l w)(r:ArgsOk X.K g Y ms us ds):∃E,lQ X.K C ms F (.ref a::us) Y Q E/\sB X σ Y E:=by
 refine⟨fun f h c=>∃T Z b U,f=.ref T/\F w ds=.exc (xD Z b)/\XN X.K Z T/\XF U h b/\Grow X.K g Y U c,⟨g,a,m,l,w,us,ds,rfl,k.ok,d,r,?_⟩,?_⟩
 .cases ef:F w ds with
 |ok d=>rw[ef]at q;exact fun v U c e p=>q v U c (k.trans e) p
 |exc y=>exact fun T h Z b U c t i j e=>⟨T,Z,b,U,rfl,by rw[t],i,j,e⟩
 |stuck=>rw[ef]at q;exact q
 .intro pz s a f h c s' I fl ⟨T,Z,b,U,hc,ef,i,j,e⟩;subst hc;rw[ef]at q;exact q pz _ s' U c (k.trans e) (fl.inv I) ⟨pz,s,Y,a,T,h,Z,b,rfl,rfl,i,j,I,fl⟩
theorem zu(c:CalleeOX X.prog X.w X.K X.mg X.base fn ps k C ms F)(v:Room k X.A)(o:jn X g i C w)(p:m[i]? = some .bw)(E:X.N[i]? = some x)(u:gC X.env.scope x)(B:iL X g m (e::es) ms fl)(y:!Gl X fn)(z:!!Nq x)(Y:!!Nc x)(Z:!!Nq fn)(U:!B_ (.Name x px::e::es) X.env=(false,eval (.Name x px) X.env)::B_ (e::es) X.env)(j:!Bx X cpos (e::es)):SE X g m (.Call (.Name fn pn) (.Name x px::e::es) [] cpos) (my w fl F):=by obtain⟨f,fd,I,t,O,J⟩:=c.ex;refine PE.imp (Ju J v y I t O .nil (gR (eV E u z Y) B U) Z U j) fun l H Q k=>?_;obtain⟨r,G,h,q⟩:=k;obtain⟨a,dx,W,es,d⟩:=o m r G l H h p;refine⟨_,es,r,G,h,bW (cJ q) fun ds q T R P n s=>?_⟩;obtain⟨a',L,dl,b,M⟩:=o m r R l P (h.grow n) p;rw[es]at b;cases b;simpa using Cg q n M s
theorem Cy{P:Sem Bool}(c:CalleeTX X.prog X.w X.K X.mg X.base mt ps k C ms F)(hr:Room k X.A)(u:jn X g i C w)(v:m[i]? = some .bw)(hN:X.N[i]? = some x)(hv:gC X.env.scope x)(ha:iL X g m (e::es) ms fl)(hd:!!Nq x)(Z:!!Nc x)(T:!!(mt==("kept" : Str))=false)(R:!!(mt==("past" : Str))=false)(U:!Sx X e es)(l:!Bx X cpos es)(ht:!eval (.Call (.Attribute (.Name x p) mt apos) (e::es) [] cpos) X.env=k7 X (.Name x p) mt (e::es) apos cpos P):SE X g m (.Call (.Attribute (.Name x p) mt apos) (e::es) [] cpos) (my w fl F):=by
 obtain⟨cl,f,fd,t,bd,fo⟩:=c.ex;intro M s h H Q I ⟨r,G,j,q⟩;obtain⟨a,dx,Y,b,d⟩:=u m r G h H j v;obtain⟨kv,e1,_⟩:=d.ob;refine Ls (eV hN hv hd Z) I ⟨_,b,a,C,dx,_,f,rfl,e1,cl,t,sE T R,fun B I1=>?_⟩ ht;refine W.callWith_K I.ok.mod.kin t.kp (bJ (ha cpos M B h H (fun vs n=>∃E,lQ X.K C ms F (.ref a::vs) n Q E/\sB X h n E) I1 ⟨r,G,j,bW (cJ q) fun ds q z G1 H1 o J=>?_⟩) fun z s2 ⟨vs,n,y,L,E,q2,O⟩=>⟨y.kIn,?_⟩) U l
 .obtain⟨a',dx',Y,es'',d'⟩:=u m r G1 h H1 (j.grow o) v;rw[b]at es'';cases es'';exact Cg q o d' J
 .exact y9 (vs:=.ref a::vs) fo hr bd .nil y O (.cons rfl L) `z
theorem T9{o:Sem Bool}(c:CalleeTX X.prog X.w X.K X.mg X.base mt ps k C [] F)(B:Room k X.A)(v:jn X g i C w)(J:m[i]? = some .bw)(M:X.N[i]? = some x)(y:gC X.env.scope x)(L:!!Nq x)(U:!!Nc x)(u:!!(mt==("kept" : Str))=false)(t:!!(mt==("past" : Str))=false)(z:!eval (.Call (.Attribute (.Name x p) mt apos) [] [] cpos) X.env=k7 X (.Name x p) mt [] apos cpos o):SE X g m (.Call (.Attribute (.Name x p) mt apos) [] [] cpos) (fun _=>F w []):=by obtain⟨T,f,fd,e,bd,O⟩:=c.ex;intro pz s j H Q I ⟨r,G,b,q⟩;obtain⟨a,R,Y,Z,d⟩:=v m r G j H b J;obtain⟨kv,P,_⟩:=d.ob;refine Ls (eV M y L U) I ⟨_,Z,a,C,R,_,f,rfl,P,T,e,sE u t,fun s1 h=>?_⟩ z;obtain⟨E,l,n⟩:=Cg q (Grow.refl b.gok) d .nil;exact W.callWith_K0 h.kIn e.kp (y9 (vs:=[.ref a]) O B bd .nil h n (.cons rfl .nil) l)
theorem Ox(k:jn X g i C w)(n:m[i]? = some .bw)(A:Cls X.K C)(f:jo X.K C "past")(s:X.N[i]? = some x)(l:gC X.env.scope x)(p:!!Nq x)(U:!!Nc x)(B:!X_ (.Name x p1) "past" X.env (eval (.Name x p1) X.env)=eval (.Name x p1) X.env)(o:!!!!∀Y,isTrue (.Attribute (.Name x p1) "past" p2) X.env Y=(do let v <-Y;ð (Expr.Attribute (.Name x p1) "past" p2).pos;å [v] (ĸ v))):SQ X g m (.UnaryOp .Not (.Attribute (.Name x p1) "past" p2) pos) (fun _=>.ok w.2.isEmpty):=by
 refine PT.imp (yJ (zm (pJ (eV s l p U) B) o)) fun c H Q v=>?_;obtain⟨r,G,b,q⟩:=v;obtain⟨a,z,F,t,d⟩:=k m r G c H b n;obtain⟨I,y,E⟩:=d.ob;obtain⟨Z,u,e⟩:=d.ls;refine⟨_,t,a,C,z,_,_,rfl,y,A,f,zf,not Z.isEmpty,.inl ⟨Z,dq.of u,rfl⟩,?_⟩;have j:Z.isEmpty=w.2.isEmpty:=by have:=Paired.length e;cases Z <;> cases h:w.2 <;> simp_all
 show Q _ H;rw[Qfr,j];exact q G H (Grow.refl b.gok)
end
section
variable{a:Expr}{fa:FE}{k:Nat}{x:Str}{p3:Pos}{tab:List (Str×Str)}
def sj(F:Str->Option (List D->Res D))(fa:FE)(fl:aI->Res (List D)):FE:=fun r=>(fa r).bind fun d=>match d with
|.str s=>(match F s with
 |some f=>(fl r).bind fun ds=>f ds
 |none=>.stuck)
|_=>.stuck
theorem Be(q:QAt X.prog X.w X.K X.mg x tab)(hc:∀s f,F s=some f->∃n,tab.lookup s=some n/\CalleeX X.prog X.w X.K X.mg X.base n ps [] k false ms f)(hr:Room k X.A)(ha:SE X g m a fa)(hA:iL X g m (e::es) ms fl)(hg:!Gl X x)(hs:zd a:=by intro _ _;rfl)(hd:!!Nq x)(he:!Sx X e es)(hpl:!Bx X pos es)(ht:!eval (.Call (.Subscript (.Name x p) a p2) (e::es) [] pos) X.env=(do Æ pos (<-eval (.Subscript (.Name x p) a p2) X.env) [] (backTo pos (B_ (e::es) X.env)) (ô pos (ò [] X.env)))):SE X g m (.Call (.Subscript (.Name x p) a p2) (e::es) [] pos) (sj F fa fl):=by
 obtain⟨b,f,e1,e2,e3,e4⟩:=q.ex;have hx:mq X (fun y z H Q=>∃s n c,y=.ref b/\z=.str s/\tab.lookup s=some n/\X.mg n=some (.ref c)/\Q (.ref c) H):=by intro value slice pz s P H y z v u Q I ry rz h hs;obtain⟨t,n,c,rfl,rfl,j,L,q⟩:=h;obtain⟨tk,rfl⟩:=rz;cases(ry);have hm:=e3 _ I.kIn;have:=e4 t;rw[j]at this;obtain⟨c',Y,h4⟩:=this;rw[L]at Y;cases Y;exact Ż hm.typeIs PySem.F.slot_dict_getitem.lookup (wpAny_getItem_of (zK t tk) hm h4 ⟨.ref c,H,I.tok _,rfl,q⟩) hs
 intro pz s P H Q I ⟨r,G,si,z⟩;unfold sj at z;refine b_ (bJ (F6 hx (tY (v:=.ref b) hg e1 rfl hd) ha hs pz s P H (fun v H1=>∃t n c O,Grow X.K G H O H1/\fa r=.ok (.str t)/\tab.lookup t=some n/\X.mg n=some (.ref c)/\v=.ref c) I ⟨r,G,si,?_⟩) fun u s1 ⟨v,H1,I1,rv,t,n,c,O,i,ef,hn,hmn,ev⟩=>?_)
 .cases ed:fa r with
 |ok d=>rw[ed]at z;intro v O H1 i r1;cases d with
  |str t=>cases U:F t with
   |none=>simp only[Res.bind,U]at z;exact z.elim
   |some l=>obtain⟨n,j,L⟩:=hc t l U;obtain⟨c,fd,Y,_⟩:=L.ex;exact⟨t,n,c,rfl,r1.str i.ok,j,Y,t,n,c,O,i,rfl,j,Y,rfl⟩
  |_=>exact(z).elim
 |exc y=>rw[ed]at z;exact z
 |stuck=>rw[ed]at z;exact z
 .subst ev;cases(rv);rw[ef]at z;cases U:F t with
 |none=>simp only[Res.bind,U]at z;exact z.elim
 |some l=>obtain⟨n',j,L⟩:=hc t l U;rw[hn]at j;cases j;obtain⟨c',fd,Y,h4,h5,h6⟩:=L.ex;rw[hmn]at Y;cases Y;refine W.callWith_K I1.ok.mod.kin h4 (bJ (hA pos pz s1 P H1 (fun vs B=>∃E,N6 X.K false ms l vs B Q E/\sB X P B E) I1 ⟨r,O,si.grow i,?_⟩) fun us s2 k=>by obtain⟨vs,B,N,rr,E,q2,px⟩:=k;exact ⟨N.kIn,y9 h6 hr h5 .nil N px rr `z⟩) he hpl;cases ez:fl r with
  |ok zs=>
    simp only[Res.bind,U,ez]at z;intro vs G2 B w2 rs;refine⟨fun M R o=>∃C T fs Z,M=.ref C/\l zs=.exc (xD T fs)/\XN X.K T C/\XF Z R fs/\Grow X.K G2 B Z o,⟨G2,zs,w2.ok,rs,?_⟩,?_⟩
    .cases ef':l zs with
    |ok d=>rw[ef']at z;exact fun v Z o J rv=>z v Z o ((i.trans w2).trans J) rv
    |exc y=>exact fun C R T fs Z o hy xn xf J=>⟨C,T,fs,Z,rfl,by rw[hy],xn,xf,J⟩
    |stuck=>rw[ef']at z;exact z
    .intro pins2 s2 a2 M R o s' N fl2 ⟨C',nm',fs',Z,hc',ef',xn',xf,J⟩;subst hc';rw[ef']at z;exact z pins2 _ s' Z o ((i.trans w2).trans J) (fl2.inv N) ⟨pins2,s2,B,a2,C',R,nm',fs',rfl,rfl,xn',xf,N,fl2⟩
  |exc x=>simp only[Res.bind,U,ez]at z;exact(z).grow i
  |stuck=>simp only[Res.bind,U,ez]at z;exact z.elim
end
end DL
namespace DL
open PySem PySem.Spec PyProof.Rows L2
end DL
section
namespace L2
open PySem PySem.Spec PyProof.Rows
theorem fE(h:(match U.names.lookup x with|some .local=>true|some .cell=>true|_=>false)=true):lw U x:=by
 revert h;unfold lw;split <;> intro h
 .exact .inl (by assumption)
 .exact .inr (by assumption)
 .cases h
theorem cY(h:(match U.names.lookup x with|some .local=>true|some .cell=>true|some .free=>true|_=>false)=true):gC U x:=by unfold gC;grind
theorem aY(h:(decide (U.kind=.function) && not U.isCoroutine && not U.isGenerator&&decide N.Nodup&&decide (N.take P.length=P)&&(P.all fun x=>match U.names.lookup x with|some .local=>true|some .cell=>true|_=>false)&&U.names.all fun y=>decide (y.2≠.free))=true:=by decide+kernel):FnScope N P U:=by simp only[L_,Q_i,Ş,P_]at h;obtain⟨⟨⟨⟨⟨⟨a,b⟩,c⟩,d⟩,e⟩,f⟩,k⟩:=h;exact⟨a,b,c,d,e,fun x Y=>fE (f x Y),k⟩
end L2
namespace DL
open PySem PySem.Spec PyProof.Rows L2
section
variable{X:Cx}{g:GE}{m mb ms:List Md}{e a b:Expr}{es:List Expr}{f fa fb:FE}{x:Str}{p pos pos':Pos}{ro:Bool}{fl:aI->Res (List D)}{k:Nat}{ps:List Str}{F:List D->Res D}
theorem bE(h:SE X g m e f):SB X g m e f:=SE.toB h
theorem iB:SB X g m (.Constant (.int i) j pos) fun _=>.ok (.int i):=bE jE
theorem xB(U:X.A.units+1<á)(c:SB X g m a fa)(Z:SB X g m b fb)(Y:zd b:=by intro _ _;rfl):SB X g m (.Subscript a b pos) (f2 fa fb di):=bE (fm U c Z Y)
theorem bT(i:Nat)(j:X.N.Nodup)(h:SE X g m e f)(hi:!X.N[i]? = some x)(a:lw X.env.scope x:=by exact fE rfl)(b:!æ e (some (.Name x pos')) pos.line X.env=pure false)(c:!!!Fx X x):SS X g ro mb m (.Assign [.Name x pos'] e pos) (aN m i f) (m.set i .sh):=by
     have Y:(m.set i .sh).length=m.length:=`s
     refine⟨Y,PS.imp (yI j hi a h b c) fun D n H ⟨r,G,U,q⟩=>⟨r,G,U,?_⟩⟩;exact bW (iO U Y q) fun d q v l k w Z=>q _ l k w.ge ((U.grow w).set i Z)
theorem dD(i:Nat)(b:X.N.Nodup)(hi:!X.N[i]? = some x)(Z:lw X.env.scope x:=by exact fE rfl)(a:!!!Fx X x):SG X g m (.Name x pos) (bX i) (m.set i .sh):=⟨`s,PG.imp (Ig b hi Z a) fun v c H Q z=>by obtain⟨r,G,d,U,Y,f,e,k⟩:=z;cases e;exact k _ (U.set i Y)⟩
theorem bR(c:Callee X.prog X.w X.K X.mg X.base x ps [] k false ms F)(d:iL X g m (e::es) ms fl)(Z:Room k X.A:=by exact Room.mono ‹_› `d)(a:!Gl X x)(U:!!Nq x)(b:!Sx X e es)(Y:!Bx X pos es):SE X g m (.Call (.Name x p) (e::es) [] pos) (cP fl [] F):=YI c Z d `s a .nil .nil U b Y
end
theorem dj{K:W.Frag}{st:Stmt}{ro:Bool}{ms:List Md}{fs:FS}{m':List Md}(A:DefAt K c x st)(S:FnScope N b (aA st))(U:∀{f:Addr}{Z:a_}{A:I_}{a:List Env}{s:d_}{H:Hp}{g:GE}{E:XK},Room k (A.deeper (â x (aA st) s.heap.objs.size f Z))->(A.deeper (â x (aA st) s.heap.objs.size f Z)).units+1<á ->fU (dm eN P w K c base N x (aA st) f Z A a s H E).nox g ro [] (gQ N.length ms) (aH st) fs m')(Y:!ms.length=b.length)(j:k4 x x st b:=by intro _ _ _ _ _ _ us i;rcases us with _|⟨_,_|⟨_,_|⟨_,_|⟨_,_|⟨_,_|⟨_,_|⟨_,_⟩⟩⟩⟩⟩⟩⟩ <;> first|(exfalso;revert i;simp;done)|kernel_rfl):Callee P w K c base x b [] (k+1) ro ms fun ds=>bQ ro (fs (cS N.length ds)):=OO A S Y j fun f Z A a s H g E e=>U e (lB e)
end DL
end
namespace DL
open PySem PySem.Spec PyProof.Rows L2
section
variable{X:Cx}{g:GE}{m mb:List Md}{elt iter tg:Expr}{ifs:List Expr}{fi:FI}{q:FQ}{fe:FE}{scope:ã}{pos pos' spos:Pos}{ro:Bool}{y:Str}
theorem AN(h:N'.Nodup):(gm X s0 a N' U Z C Y).N.Nodup:=h
theorem jK(N':List Str)(cap:List Nat)(e:X.N.Nodup)(hi:iI X g m tg iter fi)(f:∀{s0 a Z C Y g'},SE (gm X s0 a N' scope Z C Y) g' (cM 1 cap m) elt fe)(hq:∀{s0 a Z C Y g'},mO (gm X s0 a N' scope Z C Y) g' (cM 1 cap m) ifs q:=by exact yK)(U:!X.calm=true)(b:uE X.env.scope X.N scope N' 1 cap=true:=by kernel_rfl)(d:∀s0 a Z C Y g',SG (gm X s0 a N' scope Z C Y) g' (cM 1 cap m) tg (bX 0) (cM 1 cap m):=by exact fun _ _ _ _ _ _=>dD 0 (AN `k))(c:!!!!Ix X iter):SO X g m (.ListComp elt [⟨tg,iter,ifs,0⟩] scope pos) (gG 1 cap fi (bX 0) q fe):=Ho e U (zD rfl rfl b) hi d (rn `d) `o `o c
theorem Ob(N':List Str)(cap:List Nat)(e:X.N.Nodup)(hi:iI X g m tg iter fi)(f:∀{s0 a Z C Y g'},SE (gm X s0 a N' scope Z C Y) g' (cM 2 cap m) elt fe)(hq:∀{s0 a Z C Y g'},mO (gm X s0 a N' scope Z C Y) g' (cM 2 cap m) ifs q:=by exact yK)(U:!X.calm=true)(b:uE X.env.scope X.N scope N' 2 cap=true:=by kernel_rfl)(d:∀s0 a Z C Y g',SG (gm X s0 a N' scope Z C Y) g' (cM 2 cap m) tg (jb (eJ (bX 0) (eJ (bX 1) i7))) (cM 2 cap m):=by exact fun _ _ _ _ _ _=>kl rfl (fK (dD 0 (AN `k)) (fK (dD 1 (AN `k)) kj)))(c:!!!!Ix X iter):SO X g m (.ListComp elt [⟨tg,iter,ifs,0⟩] scope pos) (gG 2 cap fi (jb (eJ (bX 0) (eJ (bX 1) i7))) q fe):=Ho e U (zD rfl rfl b) hi d (GV (zJ (rn `d) (zJ (rn `d) JR))) `o `o c
theorem sc1(i:Nat)(N':List Str)(cap:List Nat)(j:X.N.Nodup)(hi:iI X g m tg iter fi)(k:∀{s0 c b C a g'},SE (gm X s0 c N' scope b C a) g' (cM 1 cap m) elt fe)(hq:∀{s0 c b C a g'},mO (gm X s0 c N' scope b C a) g' (cM 1 cap m) ifs q:=by exact yK)(U:!X.calm=true)(e:!X.N[i]? = some y)(Z:!X.env.scope.names.lookup y=some .local)(d:uE X.env.scope X.N scope N' 1 cap=true:=by kernel_rfl)(h:∀s0 c b C a g',SG (gm X s0 c N' scope b C a) g' (cM 1 cap m) tg (bX 0) (cM 1 cap m):=by exact fun _ _ _ _ _ _=>dD 0 (AN `k))(Y:!æ (.ListComp elt [⟨tg,iter,ifs,0⟩] scope pos) (some (.Name y pos')) spos.line X.env=pure true)(f:!!!!Ix X iter):SS X g ro mb m (.Assign [.Name y pos'] (.ListComp elt [⟨tg,iter,ifs,0⟩] scope pos) spos) (aN m i (gG 1 cap fi (bX 0) q fe)) (m.set i .ow):=Ua i j U e Z (zD rfl rfl d) hi h (rn `d) `o `o Y f
end
end DL
section
theorem _root_.Exists.q{p:PySem.Addr->List PySem.Value->Prop}(h:∃a b,p a b):p h.choose h.choose_spec.choose:=h.choose_spec.choose_spec
namespace DL
open PySem PySem.Spec PyProof.Rows L2
variable{X:Cx}{g:GE}{m:List Md}{e:Expr}{pos:Pos}
section
variable{ms:List Md}{es:List Expr}{k:Nat}{ps:List Str}{x:Str}{p:Pos}{F:List D->Res D}{fl:aI->Res (List D)}
theorem eM(c:CalleeX X.prog X.w X.K X.mg X.base x ps [] k false ms F)(d:iL X g m (e::es) ms fl)(Z:Room k X.A:=by exact Room.mono ‹_› `d)(a:!Gl X x)(U:!!Nq x)(b:!Sx X e es)(Y:!Bx X pos es):SE X g m (.Call (.Name x p) (e::es) [] pos) (gF fl [] F):=Re (by rw[show(j_ ([]).length Md.sh)=[]from rfl,Ô];exact c) Z .nil .nil d a U b Y
end
theorem fT{K:W.Frag}{st:Stmt}{ro:Bool}{ms:List Md}{fs:FS}{m':List Md}(A:DefAt K c x st)(S:FnScope N b (aA st))(U:∀{f:Addr}{Z:a_}{A:I_}{a:List Env}{s:d_}{H:Hp}{g:GE}{E:XK},Room k (A.deeper (â x (aA st) s.heap.objs.size f Z))->(A.deeper (â x (aA st) s.heap.objs.size f Z)).units+1<á ->fU (dm (jN P w) P w K c base N x (aA st) f Z A a s H E) g ro [] (gQ N.length ms) (aH st) fs m')(Y:!ms.length=b.length)(j:k4 x x st b:=by intro _ _ _ _ _ _ us i;rcases us with _|⟨_,_|⟨_,_|⟨_,_|⟨_,_|⟨_,_|⟨_,_|⟨_,_⟩⟩⟩⟩⟩⟩⟩ <;> first|(exfalso;revert i;simp;done)|kernel_rfl):CalleeX P w K c base x b [] (k+1) ro ms fun ds=>bQ ro (fs (cS N.length ds)):=PY A S Y j fun f Z A a s H g E e=>U e (lB e)
section
variable{i:Nat}{C:Addr}{m':List Md}{sts:List Stmt}
theorem QO:gD X g i C m sts (fun _ _=>.stuck) m':=d7.imp KI fun D U H k=>by obtain⟨a,Z,Y,r,w,G,s,q⟩:=k;exact q
def xN(fe:DW->FE):dW:=fun r w=>n0 (fe w r) fun d=>.rt d w
theorem QQ(c:∀g' w,jn X g' i C w->SE X g' m e (fe w)):kt X g i C m (.Return (some e) pos) (xN fe) m:=by
 have f:PE X e (fun U H Q=>∃g' w,jn X g' i C w/\tE X g' m _ U H Q):=fun b s U H Q I y=>(by obtain⟨g',w,k,z⟩:=y;exact c g' w k b s U H Q I z);refine PS.imp (yH f) fun D U H u=>?_;obtain⟨a,n,l,r,w,G,s,q⟩:=u;refine ⟨_,w,s.ob.heldAt,r,G,s.toH,bW (oW q) fun d q v j h Y Z=>?_⟩
 have s0:=s.after (s.toH.grow Y) s.mi;exact q v j h Y.ge s0.grown s0.ob Z
end
end DL
end
namespace DL
open PySem PySem.Spec PyProof.Rows L2 PySem.W PySem.Calls
structure CQ(K:W.Frag)(nm:Str)(c:Addr)(b:List a_):Prop where
 a:nsIn K M_ nm=some (some (.ref c))
 o:kN K c=some (b,nm)
 be:b.contains (Value.type "BaseException")=true
 bo:b.contains (Value.type "object")=true
 ga:ö K (.ref c) "__getattribute__" = some (some (.builtin "BaseException.__getattribute__"))
 gn:ö K (.ref c) "__getattr__" = some none
 gc:ö K (.ref c) "__class__" = some (some (.builtin "object.__class__"))
 un:lN K nm c=true
theorem CQ.cf{K:W.Frag}{nm:Str}{c:Addr}{b:List a_}(q:CQ K nm c b)(Y:specialIn K (.builtin "object.__class__") "__get__" = some (some (.builtin "getset_descriptor.__get__")))(U:takesIn K (.builtin "object.__class__")=some true):CF K nm c b:=⟨⟨(Bc q.o).1,q.be,q.bo,q.ga,q.gn,q.gc,Y,U⟩,(Bc q.o).2,q.un⟩
end DL
section
namespace Rg
theorem p7{Y:Type}[DecidableEq Y]:∀{l m:List Y},l.Nodup->(∀x∈l,x∈m)->l.length<=m.length
|[],_,_,_=>é _
|a::l,m,Z,c=>by
  have U:=ģ.mp Z;have d:=p7 (m:=m.erase a) U.2 fun x b=>by grind
  grind
theorem Aa{U:Type}(p:U->Bool)(l:List U):(l.filter p).length+(l.filter fun x=>not (p x)).length=l.length:=by induction l with
|nil=>rfl
|cons a l Y=>grind
theorem Ek{U:Type}{p:U->Bool}{l:List U}(h:l.Nodup):(l.filter p).Nodup:=List.Pairwise.filter p h
structure S where
 line:List Nat
 things:List Nat
section
variable(W:Nat->List Nat)(O:Nat->Option Nat)
noncomputable def fO(row things:List Nat):Nat:=(row.find? fun x=>decide (x∈things)).getD 0
def js(s:S)(h:Nat):Nat:=fO (W h) s.things
noncomputable def pt(s:S)(x:Nat):Nat:=(s.line.find? fun h=>decide (O h=some x)).getD (s.line.headD 0)
def eZ(s:S)(h:Nat):Nat:=pt O s (js W s h)
def minus(s:S)(C:List Nat):S:=⟨s.line.filter fun h=>decide (h∉C),s.things.filter fun x=>decide (x∉C.map (js W s))⟩
noncomputable def it{α:Type}(f:α->α):Nat->α->α
|0,x=>x
|n+1,x=>it f n (f x)
theorem lD(f:U->U):∀(a b:Nat)(x:U),it f (a+b) x=it f b (it f a x)
|0,b,x=>by rw[Nat.zero_add];rfl
|a+1,b,x=>by rw[Nat.add_right_comm];exact lD f a b _
theorem lJ(f:U->U)(n:Nat)(x:U):it f (n+1) x=f (it f n x):=lD f n 1 x
theorem BA(f:U->U)(h:it f p x=x):∀k,it f (p*k) x=x
|0=>rfl
|k+1=>by rw[Nat.mul_succ,lD,BA f h k,h]
structure Ok(s:S):Prop where
 nl:s.line.Nodup
 nt:s.things.Nodup
 le:s.line.length<=s.things.length
 row:∀h∈s.line,∀x∈s.things,x∈W h
 inj:∀h k x,O h=some x->O k=some x->h=k
 own:∀h∈s.line,∀x,O h=some x->x∈s.things
structure Cyc(s:S)(C:List Nat):Prop where
 sub:∀h∈C,h∈s.line
 cl:∀h∈C,eZ W O s h∈C
 per:∀h∈C,∃k,it (eZ W O s) (k+1) h=h
variable{W O}
theorem Rw(h:∃x∈Y,x∈U):fO Y U∈U:=by unfold fO;cases e:Y.find? fun x=>decide (x∈U)with
|none=>grind
|some x=>grind
theorem Ry(a:∀x∈t',x∈U)(c:fO Y U∈t')(b:fO Y U∈Y):fO Y t'=fO Y U:=by unfold fO at *;cases e:Y.find? fun x=>decide (x∈U)with
|none=>grind
|some x=>
  obtain⟨Z,g,f,rfl,d⟩:=List.find?_eq_some_iff_append.mp e
  grind
theorem Rx(h:∃x∈Y,x∈U):fO Y U∈Y:=by unfold fO;cases e:Y.find? fun x=>decide (x∈U)with
|none=>grind
|some x=>grind
variable{s:S}
theorem Ok.some_thing(k:Ok W O s)(Y:h∈s.line):∃x∈W h,x∈s.things:=by have a:=ŏ Y;have Z:=A_ a k.le;obtain⟨x,U⟩:=List.exists_mem_of_length_pos Z;exact⟨x,k.row h Y x U,U⟩
theorem Ok.tgt_mem(k:Ok W O s)(U:h∈s.line):js W s h∈s.things:=Rw (k.some_thing U)
theorem Ou(h:s.line≠[]):pt O s x∈s.line:=by unfold pt;cases e:s.line.find? fun h=>decide (O h=some x)with
|none=>cases q:s.line with
 |nil=>exact Q_f q h
 |cons a l=>simp[List.headD]
|some y=>grind
theorem Ov(k:Ok W O s)(Y:h∈s.line)(U:O h=some x):pt O s x=h:=by unfold pt;cases e:s.line.find? fun h=>decide (O h=some x)with
|none=>simp_all
|some y=>have:=Ŷ e;simp  at this;exact k.inj y h x this U
theorem pF(U:s.line≠[]):eZ W O s h∈s.line:=Ou U
theorem Cyc.it_mem(c:Cyc W O s C)(U:h∈C):∀n,it (eZ W O s) n h∈C:=by
 intro n
 induction n generalizing h with
|zero=>exact U
|succ n Y=>exact Y (c.cl h U)
theorem Rp{x y:U}(d:it f (a+1) x=x)(c:it f (b+1) y=y)(e:f x=f y):x=y:=by
 have Z:=BA f d (b+1);have Y:=BA f c (a+1);rw[Qeo]at Y;have g:(a+1)*(b+1)=1+(a*b+a+b):=by rw[Nat.add_mul,Nat.mul_add];omega
 rw[g,lD]at Z Y;have h:it f 1 x=it f 1 y:=e;rw[h]at Z;rw[<-Z,Y]
theorem Cyc.out(c:Cyc W O s C)(e:Cyc W O s E)(Z:h∈C)(Y:h∉E):eZ W O s h∉E:=by intro z;obtain⟨k,U⟩:=c.per h Z;exact Y (by rw[<-U];exact e.it_mem z k)
theorem Jh(c:Cyc W O s C)(e:Cyc W O s E)(Y:h∈C)(U:k∈E)(q:js W s h=js W s k):h=k:=by obtain⟨a,d⟩:=c.per h Y;obtain⟨b,Z⟩:=e.per k U;exact Rp d Z (by unfold eZ;rw[q])
theorem uR(k:Ok W O s)(c:Cyc W O s C)(e:Cyc W O s E)(Y:h∈E)(f:h∉C):js W (minus W s C) h=js W s h:=by
 have U:=e.sub h Y;refine Ry (fun x Z=>(C_.mp Z).1) ?_ ((fun a=>Rx (k.some_thing a)) U);refine C_.mpr ⟨k.tgt_mem U,?_⟩;simp only[Q_i];intro z;obtain⟨g,d,b⟩:=w_.mp z;have:=Jh c e d Y b
 simp_all
theorem Va:∀{l:List Nat}{a:Nat},l.headD 0=a->l≠[]->p a=true->(l.filter p).headD 0=a
|[],_,_,h,_=>Q_f rfl h
|b::l,a,e,_,U=>by simp_all
theorem J0(k:Ok W O s)(c:Cyc W O s C)(e:Cyc W O s E)(Z:h∈E)(d:h∉C):eZ W O (minus W s C) h=eZ W O s h:=by unfold eZ;rw[uR k c e Z d];have g:=e.sub h Z;have U:=Ò g;have b:pt O s _∉C:=e.out c Z d;unfold pt at *;show((s.line.filter fun h=>decide _).find? _).getD _=_;cases q:s.line.find? fun k=>decide (O k=some _)with
|none=>rw[q]at b;have:(s.line.filter fun h=>decide (h∉C)).find? _=none:=List.find?_eq_none.mpr fun y Y=>List.find?_eq_none.mp q y (C_.mp Y).1;rw[this];exact Va rfl U (by simpa using b)
|some y=>have Y:=Ŷ q;simp  at Y;cases f:(s.line.filter fun h=>decide (h∉C)).find? _ with
 |none=>grind
 |some z=>have a:=Ŷ f;simp  at a;exact k.inj z y _ a Y
theorem tT(k:Ok W O s)(c:Cyc W O s C):Ok W O (minus W s C) where
 nl:=Ek k.nl
 nt:=Ek k.nt
 le:=by
  have Y:=Aa (fun h=>decide (h∉C)) s.line;have Z:=Aa (fun x=>decide (x∉C.map (js W s))) s.things;have d:(s.things.filter fun x=>not (decide (x∉C.map (js W s)))).length<=((s.line.filter fun h=>not (decide (h∉C))).map (js W s)).length:=by refine p7 (Ek k.nt) fun x U=>?_;obtain⟨_,U⟩:=C_.mp U;simp only[decide_not,Qfr,Q_i]at U;obtain⟨h,Y,Z⟩:=w_.mp U;exact w_.mpr ⟨h,C_.mpr ⟨c.sub h Y,by simpa using Y⟩,Z⟩
  rw[p_]at d;have:=k.le;show(s.line.filter _).length<=(s.things.filter _).length;omega
 row:=fun h a x U=>k.row h (C_.mp a).1 x (C_.mp U).1
 inj:=k.inj
 own:=fun h a x U=>by obtain⟨Y,Z⟩:=C_.mp a;simp  at Z;refine C_.mpr ⟨k.own h Y x U,?_⟩;simp only[Q_i];intro z;obtain⟨b,f,e⟩:=w_.mp z;have:=c.cl b f;unfold eZ at this;rw[e,Ov k Y U]at this;exact Z this
noncomputable def less(E C:List Nat):List Nat:=E.filter fun h=>decide (h∉C)
theorem lK:h∈less E C↔h∈E/\h∉C:=by simp[less,List.mem_filter]
theorem Jn(k:Ok W O s)(c:Cyc W O s C)(e:Cyc W O s E):Cyc W O (minus W s C) (less E C):=by
 have a:∀n h,h∈less E C->it (eZ W O (minus W s C)) n h=it (eZ W O s) n h:=by
  intro n
  induction n with
 |zero=>intro h _;rfl
 |succ n b=>intro h Z;obtain⟨U,Y⟩:=lK.mp Z;show it _ n _=it _ n _;rw[J0 k c e U Y];exact b _ (lK.mpr ⟨e.cl h U,e.out c U Y⟩)
 refine⟨fun h Z=>?_,fun h Z=>?_,fun h Z=>?_⟩
 .obtain⟨U,Y⟩:=lK.mp Z;exact C_.mpr ⟨e.sub h U,by simpa using Y⟩
 .obtain⟨U,Y⟩:=lK.mp Z;rw[J0 k c e U Y];exact lK.mpr ⟨e.cl h U,e.out c U Y⟩
 .obtain⟨U,Y⟩:=lK.mp Z;obtain⟨n,d⟩:=e.per h U
  grind
theorem KP{l:List Nat}(h:∀x∈l,p x=q x):l.filter p=l.filter q:=by induction l with
|nil=>rfl
|cons a l U=>grind
theorem Lu(k:Ok W O s)(c:Cyc W O s C)(e:Cyc W O s E):minus W (minus W s C) (less E C)=minus W s (C++E):=by
 have f:(minus W (minus W s C) (less E C)).line=(minus W s (C++E)).line:=by show((s.line.filter _).filter _)=s.line.filter _;rw[QcT];refine KP fun x _=>?_;by_cases Z:x∈C <;> by_cases Y:x∈E <;> simp[lK,Z,Y]
 have d:(minus W (minus W s C) (less E C)).things=(minus W s (C++E)).things:=by
  show((s.things.filter _).filter _)=s.things.filter _;rw[QcT];refine KP fun x _=>?_;have U:x∈(less E C).map (js W (minus W s C))↔∃h,h∈E/\h∉C/\js W s h=x:=by
   rw[w_];constructor
   .rintro⟨h,hh,q⟩
    obtain⟨a,b⟩:=lK.mp hh;exact⟨h,a,b,by rw[<-q,uR k c e a b]⟩
   .rintro⟨h,a,b,q⟩
    exact⟨h,lK.mpr ⟨a,b⟩,by rw[uR k c e a b];exact q⟩
  grind
 cases i:minus W _ _;cases g:minus W s _
 simp_all
theorem Uu(k:Ok W O s)(c:Cyc W O s C)(e:Cyc W O s E):minus W (minus W s C) (less E C)=minus W (minus W s E) (less C E):=by
 rw[Lu k c e,Lu k e c];unfold minus
 grind
inductive TTC(W:Nat->List Nat)(O:Nat->Option Nat)(a:Nat->Nat):S->Prop where
 |nil {s:S}:s.line=[]->TTC W O a s
 |step {s:S} (C:List Nat):Cyc W O s C->(∀h∈C,a h=js W s h)->TTC W O a (minus W s C)->TTC W O a s
theorem NQ(t:TTC W O a s):∀(k:Ok W O s){E:List Nat},Cyc W O s E->TTC W O a (minus W s E)/\∀h∈E,a h=js W s h:=by induction t with
|nil f=>
  intro k E e;refine⟨.nil (by unfold minus;rw[f];rfl),fun h U=>?_⟩;have:=e.sub h U
  simp_all
|step C c Y t Z=>
  intro k E e;obtain⟨d,b⟩:=Z (tT k c) (Jn k c e);refine⟨.step _ (Jn k e c) (fun h U=>?_) (by rw[<-Uu k c e];exact d),fun h U=>?_⟩
  .obtain⟨z1,z2⟩:=lK.mp U;rw[uR k e c z1 z2];exact Y h z1
  .by_cases hc:h∈C
   .exact Y h hc
   .rw[b h (lK.mpr ⟨U,hc⟩),uR k c e U hc]
end
end Rg
end
section
namespace Rg
section
variable{W:Nat->List Nat}{O:Nat->Option Nat}{s:S}{a:Nat->Nat}
theorem Ba(t:TTC W O a s)(k:Ok W O s):∀h∈s.line,a h∈s.things:=by induction t with
|nil d=>simp_all
|step C c b t Z=>
  intro h U;by_cases Y:h∈C
  .rw[b h Y];exact k.tgt_mem U
  .exact(C_.mp (Z (tT k c) h (C_.mpr ⟨U,by simpa using Y⟩))).1
theorem Yz(t:TTC W O a s)(k:Ok W O s):∀h∈s.line,∀l∈s.line,a h=a l->h=l:=by induction t with
|nil i=>grind
|@step s C c b t f=>
  intro h Z l g e;have d:=tT k c;have rest:∀h∈s.line,h∉C->h∈(minus W s C).line:=fun h Z Y=>C_.mpr ⟨Z,by simpa using Y⟩;have U:=fun h Z Y=>by have:=(C_.mp (Ba t d h (rest h Z Y))).2;simpa using this
  by_cases Y:h∈C
  .by_cases lc:l∈C
   .rw[b h Y,b l lc]at e;exact Jh c c Y lc e
   simp_all
  grind
theorem Ht{l:List Nat}(Y:∀h∈l,f h∈l)(c:x∈l):∃i j,i<j/\j<=l.length/\it f i x=it f j x:=by
 have a:∀i,it f i x∈l:=by
  intro i
  induction i with
 |zero=>exact c
 |succ i b=>rw[lJ];exact Y _ b
 by_cases Z:((x_ (l.length+1)).map fun i=>it f i x).Nodup
 .have:=p7 Z (m:=l) fun y d=>by grind
  grind
 .apply QbU;intro h;apply Z;rw[QcU]at *;rw[Qev];refine Qc6 (fun k g U e=>?_) List.pairwise_lt_range;exact h ⟨_,_,U,`g,e⟩
theorem least{P:Nat->Prop}:(∃n,P n)->∃n,P n/\∀k,k<n->¬ P k:=by
 rintro⟨n,Y⟩
 induction n using Nat.strongRecOn with
|_ n U=>grind
theorem B7(f:U->U)(a b:Nat)(x:U):it f a (it f b x)=it f b (it f a x):=by rw[<-lD,<-lD,Nat.add_comm]
theorem Uq{l:List Nat}(a:∀h∈l,f h∈l)(Y:l≠[]):∃z p,z∈l/\0<p/\p<=l.length/\it f p z=z/\∀i,0<i->i<p->z<it f i z:=by
 have b:∀x∈l,∀i,it f i x∈l:=by
  intro x d i
  induction i with
 |zero=>exact d
 |succ i s=>rw[lJ];exact a _ s
 obtain⟨x,d⟩:=ű l Y;obtain⟨i,j,n,_,e⟩:=Ht a d;obtain⟨z,⟨g,k,t⟩,U⟩:=least (P:=fun z=>z∈l/\∃k,it f (k+1) z=z) ⟨it f i x,b x d i,j-i-1,by rw[<-lD,show i+(j-i-1+1)=j by omega];exact e.symm⟩;obtain⟨p,m,Z⟩:=least (P:=fun p=>it f (p+1) z=z) ⟨k,t⟩;have u:∀i,z<=it f i z:=fun i=>by have:=U (it f i z);apply QbU;intro h;exact this `o ⟨b z g i,p,by rw[B7,m]⟩
 have o:∀i,0<i->i<p+1->it f i z≠z:=fun i c r q=>Z (i-1) `o (by rw[show i-1+1=i by omega];exact q);refine⟨z,p+1,g,Nat.succ_pos _,?_,m,fun i c r=>by have:=u i;have:=o i c r;omega⟩;obtain⟨i,j,n,v,e⟩:=Ht a g;apply QbU;intro h;have:it f (p+1-j+i) z=z:=by
  have c:it f (p+1-j) (it f j z)=z:=by rw[<-lD,show j+(p+1-j)=p+1 by omega];exact m
  rw[<-e,<-lD]at c;rw[Nat.add_comm];exact c
 exact o _ `o `o this
noncomputable def mw(f:Nat->Nat)(n first:Nat):Nat->List Nat->Nat->Option (List Nat)
|0,_,_=>none
|k+1,ring,hand=>if first<hand/\ring.length<n then mw f n first k (ring++[hand]) (f hand)else if hand=first then some ring else none
def pv(f:Nat->Nat)(n first:Nat):Option (List Nat):=mw f n first (n+1) [first] (f first)
def eY(f:Nat->Nat)(x n:Nat):List Nat:=(x_ n).map fun i=>it f i x
theorem zk(f:Nat->Nat)(x n:Nat):eY f x (n+1)=eY f x n++[it f n x]:=by unfold eY;rw[QeT,Ŀ];rfl
theorem tW(f:Nat->Nat)(x n:Nat):(eY f x n).length=n:=by simp[eY]
theorem UE:∀{k i:Nat}{r:List Nat},mw f n first k (eY f first i) (it f i first)=some r->∃j,i<=j/\r=eY f first j/\it f j first=first:=by
 intro k
 induction k with
|zero=>intro i r h;cases h
|succ k U=>
  intro i r h;unfold mw at h;split at h
  .rw[<-zk,<-lJ f]at h
   grind
  grind
theorem Lw(h:pv f n first=some r):∃j,0<j/\r=eY f first j/\it f j first=first:=by
 have U:mw f n first _ (eY f first 1) _=some r:=h
 obtain⟨j,Z,Y⟩:=UE U
 grind
theorem VO(e:p<=n)(U:it f p z=z)(b:∀i,0<i->i<p->z<it f i z):∀{k i:Nat},0<i->i<=p->p<k+i->mw f n z k (eY f z i) (it f i z)=some (eY f z p):=by
 intro k
 induction k with
|zero=>intro i Y d c;omega
|succ k Z=>
  intro i Y d c;unfold mw;by_cases a:i=p
  .subst a;rw[Q_e (by rw[U];omega),Q_d U]
  .rw[Q_d ⟨b i Y `o,by rw[tW];omega⟩,<-zk,<-lJ f];exact Z `o `o `o
def kZ(W:Nat->List Nat)(O:Nat->Option Nat)(s:S):List (List Nat):=s.line.filterMap fun h=>pv (eZ W O s) s.line.length h
theorem IW(g:∀h,h∈C->∃r∈kZ W O s,h∈r)(U:∀r∈kZ W O s,∀h∈r,h∈C):Cyc W O s C:=by
 have Z:∀r∈kZ W O s,∃x j,x∈s.line/\0<j/\r=eY (eZ W O s) x j/\it (eZ W O s) j x=x:=fun r Y=>by obtain⟨x,a,o⟩:=Đ.mp Y;obtain⟨j,n,m,l⟩:=Lw o;exact⟨x,j,a,n,m,l⟩
 have k:∀x∈s.line,∀i,it (eZ W O s) i x∈s.line:=by
  intro x b i
  induction i with
 |zero=>exact b
 |succ i p=>rw[lJ];exact pF (Ò b)
 refine⟨fun h c=>?_,fun h c=>?_,fun h c=>?_⟩
 .obtain⟨r,Y,a⟩:=g h c;obtain⟨x,j,b,e,rfl,d⟩:=Z r Y;obtain⟨i,_,rfl⟩:=w_.mp a;exact k x b i
 .obtain⟨r,Y,a⟩:=g h c;obtain⟨x,j,b,e,rfl,d⟩:=Z r Y;obtain⟨i,f,rfl⟩:=w_.mp a;have f:=D_.mp f;refine U _ Y _ ?_;rw[<-lJ (eZ W O s)];by_cases q:i+1=j
  .rw[q,d];exact w_.mpr ⟨0,D_.mpr e,rfl⟩
  .exact w_.mpr ⟨i+1,D_.mpr `o,rfl⟩
 .obtain⟨r,Y,a⟩:=g h c;obtain⟨x,j,b,e,rfl,d⟩:=Z r Y;obtain⟨i,f,rfl⟩:=w_.mp a;exact⟨j-1,by rw[show j-1+1=j by omega,B7,d]⟩
def gone(W:Nat->List Nat)(O:Nat->Option Nat)(s:S):List Nat:=(kZ W O s).flatten
theorem JS:Cyc W O s (gone W O s):=IW (fun h U=>ľ.mp U) (fun r Y h U=>ľ.mpr ⟨r,Y,U⟩)
theorem IV(h:pv f n x=some r):r≠[]:=by
 obtain⟨j,U,rfl,_⟩:=Lw h;have:=tW f x j
 grind
theorem Iz(U:s.line≠[]):gone W O s≠[]:=by
 have h:kZ W O s≠[]:=by obtain⟨z,p,d,Y,c,b,a⟩:=Uq (fun h e=>pF U) U;exact Ò (Đ.mpr ⟨z,d,(by exact VO c b a `d Y `o)⟩)
 cases q:kZ W O s with
|nil=>exact Q_f q h
|cons r t=>
  have Z:r∈kZ W O s:=by rw[q];exact h_
  obtain⟨x,_,Y⟩:=Đ.mp Z;unfold gone;rw[q,List.flatten_cons];intro z;exact IV Y (List.append_eq_nil_iff.mp z).1
theorem Tq(Y:s.line≠[]):(minus W s (gone W O s)).line.length<s.line.length:=by have h:=Iz (W:=W) (O:=O) Y;obtain⟨x,Z⟩:=ű _ h;have U:=(JS).sub x Z;have:=Aa (fun h=>decide (h∉gone W O s)) s.line;have a:0<(s.line.filter fun h=>not (decide (h∉gone W O s))).length:=ŏ (C_.mpr ⟨U,by simpa using Z⟩);show(s.line.filter _).length<_;omega
def deal(W:Nat->List Nat)(O:Nat->Option Nat):Nat->S->Nat->Nat
|0,_,_=>0
|n+1,s,h=>if h∈gone W O s then js W s h else deal W O n (minus W s (gone W O s)) h
theorem UV(t:TTC W O a s):(∀h∈s.line,b h=a h)->TTC W O b s:=by induction t with
|nil d=>exact fun _=>.nil d
|@step s C c Z t Y=>exact fun e=>.step C c (fun h U=>by rw[e h (c.sub h U)];exact Z h U) (Y fun h U=>e h (C_.mp U).1)
theorem YD:∀(n:Nat)(s:S),s.line.length<n->TTC W O (deal W O n s) s:=by
 intro n
 induction n with
|zero=>omega
|succ n Z=>
  intro s h;by_cases Y:s.line=[]
  .exact .nil Y
  .have hlt:=Tq (W:=W) (O:=O) Y;refine .step _ JS (fun h U=>?_) (UV (Z _ `o) fun h U=>?_)
   .show(if h∈gone W O s then _ else _)=_;rw[Q_d U]
   .have:=(C_.mp U).2;simp  at this;show(if h∈gone W O s then _ else _)=_;rw[Q_e this]
end
end Rg
end
section
namespace Rg
section
variable{W W':Nat->List Nat}{O:Nat->Option Nat}{s:S}{a b:Nat->Nat}
theorem Qh(Y:x∈s.line)(c:0<j)(a:it (eZ W O s) j x=x):Cyc W O s (eY (eZ W O s) x j):=by
 have b:∀i,it (eZ W O s) i x∈s.line:=by
  intro i
  induction i with
 |zero=>exact Y
 |succ i d=>rw[lJ];exact pF (Ò Y)
 refine⟨fun h U=>?_,fun h U=>?_,fun h U=>?_⟩ <;> obtain⟨i,Z,rfl⟩:=w_.mp U
 .exact b i
 .have Z:=D_.mp Z;rw[<-lJ (eZ W O s)];by_cases q:i+1=j
  .rw[q,a];exact w_.mpr ⟨0,D_.mpr c,rfl⟩
  .exact w_.mpr ⟨i+1,D_.mpr `o,rfl⟩
 .exact⟨j-1,by rw[show j-1+1=j by omega,B7,a]⟩
theorem RS{l:List Nat}(Y:l.Nodup):l.erase h=l.filter fun x=>decide (x≠h):=by induction l with
|nil=>rfl
|cons b l U=>
  by_cases q:b=h
  .subst q;rw[List.erase_cons_head,Qde,Q_e `s];symm;rw[QdW]
   grind
  simp_all
theorem B4:∀{C l:List Nat},l.Nodup->C.foldl (fun l h=>l.erase h) l=l.filter fun x=>decide (x∉C)
|[],l,_=>by symm;simp[QdW]
|h::C,l,U=>by
  rw[Ř,B4 `g,RS U,QcT]
  grind
noncomputable def mQ(f:Nat->Nat):Nat->List Nat->Nat->List Nat×Nat
|0,path,here=>(path,here)
|n+1,path,here=>if here∈path then(path,here)else mQ f n (path++[here]) (f here)
theorem Pb{l:List Nat}(Z:∀h∈l,f h∈l)(c:x∈l):∀(n i:Nat),(eY f x i).Nodup->l.length<n+i->∃k,(eY f x k).Nodup/\it f k x∈eY f x k/\mQ f n (eY f x i) (it f i x)=(eY f x k,it f k x):=by
 have U:∀i,it f i x∈l:=by
  intro i
  induction i with
 |zero=>exact c
 |succ i Y=>rw[lJ];exact Z _ Y
 intro n
 induction n with
|zero=>
  intro i a d;have:=p7 a fun y b=>by obtain⟨j,_,rfl⟩:=w_.mp b;exact U j
  rw[tW]at this;omega
|succ n Y=>
  intro i a d;unfold mQ;by_cases q:it f i x∈eY f x i
  .grind
  .rw[Q_e q,<-zk,<-lJ f];refine Y _ ?_ `o;rw[zk]
   grind
theorem SM(f:Nat->Nat)(x:Nat):∀(k i:Nat),i<=k->(eY f x k).drop i=eY f (it f i x) (k-i):=by
 intro k i h;refine ų fun j=>?_;unfold eY;rw[List.getElem?_drop,K_,K_];by_cases U:i+j<k
 .rw[Ų U,Ų `o];simp;rw[lD]
 grind
theorem Oh(Y:x∈s.line)(f:(eY (eZ W O s) x k).Nodup)(Z:it (eZ W O s) k x∈eY (eZ W O s) x k):Cyc W O s ((eY (eZ W O s) x k).drop ((eY (eZ W O s) x k).idxOf (it (eZ W O s) k x)))/\(eY (eZ W O s) x k).drop ((eY (eZ W O s) x k).idxOf (it (eZ W O s) k x))≠[]:=by
 have c:=QbI Z;generalize b:(eY _ x k).idxOf _=i at *;rw[tW]at c;have e:=by have a:=List.getElem_idxOf (QbI Z);simp only[b]at a;simpa[eY]using a
 rw[SM _ _ _ _ `o];have U:∀i,it (eZ W O s) i x∈s.line:=by
  intro i
  induction i with
 |zero=>exact Y
 |succ i d=>rw[lJ];exact pF (Ò Y)
 refine⟨Qh (U i) `o (by rw[<-lD,show i+(k-i)=k by omega,e]),fun z=>?_⟩;have:=tW (eZ W O s) (it (eZ W O s) i x) (k-i)
 grind
end
end Rg
end
namespace Law
open PySem PySem.Spec PyProof.Rows L2 DL
abbrev gv(i:Nat):DL.FE:=fun r=>DL.eh r i
noncomputable abbrev ci(i:Int):DL.FE:=fun _=>.ok (.int i)
noncomputable abbrev bP:List DL.Md:=[.bw,.bw]
noncomputable abbrev dB:List DL.Md:=[.bw,.sh]
noncomputable abbrev eO:List DL.Md:=[.bw,.ow]
noncomputable abbrev gb:List DL.Md:=[.bw,.sh,.sh]
noncomputable abbrev f8:List DL.Md:=[.sh,.sh,.sh,.sh,.sh,.sh,.sh,.sh,.sh,.sh,.sh,.sh]
noncomputable abbrev gB:List DL.Md:=[.sh,.sh]
noncomputable abbrev gJ:List DL.Md:=[.bw,.bw,.bw,.ow,.ow,.ow,.sh,.ow,.sh,.sh]
noncomputable abbrev g6:List DL.Md:=[.sh,.bw]
noncomputable abbrev gZ:List DL.Md:=[.bw,.bw,.sh,.sh]
noncomputable abbrev iA:List DL.Md:=[.bw,.sh,.sh,.sh,.sh,.sh,.sh,.sh,.sh,.sh,.sh,.sh]
noncomputable abbrev jz:List DL.Md:=[.sh,.sh,.sh]
noncomputable abbrev jy:List DL.Md:=[.sh,.bw,.bw,.ow,.sh,.sh]
noncomputable abbrev j6:List DL.Md:=[.bw,.bw,.bw]
noncomputable abbrev kS:List DL.Md:=[.bw,.bw,.sh]
noncomputable abbrev lZ:List DL.Md:=[.sh,.sh,.ow,.sh,.sh]
noncomputable abbrev lY:List DL.Md:=[.bw,.bw,.bw,.sh]
noncomputable abbrev lX:List DL.Md:=[.bw,.bw,.bw,.sh,.sh,.ow,.sh,.sh,.sh]
noncomputable abbrev lW:List DL.Md:=[.sh,.ow,.sh]
noncomputable abbrev lV:List DL.Md:=[.bw,.ow,.sh,.sh,.sh,.sh,.sh]
noncomputable abbrev lU:List DL.Md:=[.sh,.bw,.ow,.sh]
noncomputable abbrev nZ:List DL.Md:=[.bw,.bw,.ow,.sh,.sh]
noncomputable abbrev nY:List DL.Md:=[.sh,.bw,.bw,.ow,.sh]
noncomputable abbrev nX:List DL.Md:=[.bw,.bw,.sh,.sh,.sh,.sh,.sh]
noncomputable abbrev nW:List DL.Md:=[.bw,.bw,.bw,.ow,.ow,.ow,.sh,.sh,.sh,.sh]
noncomputable abbrev nV:List DL.Md:=[.sh,.sh,.ow,.sh,.sh,.ow,.sh]
noncomputable abbrev nU:List DL.Md:=[.sh,.sh,.sh,.sh,.sh,.sh,.sh,.sh,.sh,.sh,.ow,.sh]
noncomputable abbrev qp:List DL.Md:=[.sh,.sh,.sh,.sh,.sh]
noncomputable abbrev qo:List DL.Md:=[.bw,.ow,.sh,.ow,.sh,.sh,.sh]
noncomputable abbrev qm:List DL.Md:=[.sh,.sh,.sh,.ow,.sh]
noncomputable abbrev wK:List DL.Md:=[.bw,.bw,.bw,.bw,.ow,.ow,.sh,.sh]
noncomputable abbrev wJ:List DL.Md:=[.bw,.bw,.bw,.ow,.ow,.ow,.sh,.sh,.sh]
noncomputable abbrev wI:List DL.Md:=[.bw,.bw,.bw,.bw,.bw,.bw,.sh,.bw,.sh,.sh]
theorem fw{X:Cx}{g:GE}{m:List Md}{a:Expr}{i:Str}{j}{p q r:Pos}{f:FE}(h:SB X g m a f)(e:B_ [a] X.env=[(false,eval a X.env)])(z:(q.endLine==r.line)=true):SE X g m (.Call (.Attribute (.Constant (.str i) j p) "join" q) [a] [] r) (fM "str" (fun _=>.ok (.str i)) (aG f aE) oF):=gI PySem.F.plainAttrs_str PySem.F.slot_str_join PySem.F.type_str_join P5 Qr (bE aU) (rm h NZ e) `r (by unfold k8;rw[e];rfl) z e `r
theorem eG{m mb:List Md}{ro:Bool}{p q r t:Pos}(i:Nat)(Y:m[i]? = some .ow)(U:gC X.env.scope x)(h:SE X g m e f)(Z:!X.N[i]? = some x)(a:!!Nq x)(b:!!Nc x)(c:!X_ (.Name x p) "append" X.env (eval (.Name x p) X.env)=eval (.Name x p) X.env)(d:!B_ [e] X.env=[(false,eval e X.env)])(z:!(q.endLine==r.line)=true):SS X g ro mb m (.Expr (.Call (.Attribute (.Name x p) "append" q) [e] [] r) t) (dC "list" m i (aG f aE) appD) m:=sL i Y PySem.F.plainAttrs_list PySem.F.slot_list_append PySem.F.type_list_append CU YF Z U (aQ h dh d) a b c (by unfold k8;rw[d];rfl) z d `r
theorem xR{U:Type}(us:List U)(h:us.length=1):∃Y,us=[Y]:=by match us,h with
|[_],_=>exact⟨_,rfl⟩
theorem oH{U:Type}(us:List U)(h:us.length=2):∃Z Y,us=[Z,Y]:=by match us,h with
|[_,_],_=>exact⟨_,_,rfl⟩
theorem A7{U:Type}(us:List U)(h:us.length=3):∃a Z Y,us=[a,Z,Y]:=by match us,h with
|[_,_,_],_=>exact⟨_,_,_,rfl⟩
theorem Xi{U:Type}(us:List U)(h:us.length=4):∃b a Z Y,us=[b,a,Z,Y]:=by match us,h with
|[_,_,_,_],_=>exact⟨_,_,_,_,rfl⟩
noncomputable def top(i:Nat):Stmt:=PySem.Challenge.pw_ringtrade_k46_lines_refused.main.body.getD i (.Pass ⟨0,0,0,0⟩)
abbrev lI(i:Nat):=aG (gv i) aE
abbrev YW:List Str:=["TradeError","TooMany","NotSquare","NoDeed","NoLine","NoRow","NoOwn","NoText"]
noncomputable def p9:Str->Bool:=fun nm=>YW.contains nm
noncomputable def vt(Y:List Str):Str->Option Bool:=fun nm=>if Y.contains nm=true then some true else if YW.contains nm=true then some false else none
noncomputable def jG:Str->Bool:=fun nm=>(["Kept"]:List Str).contains nm
noncomputable def A2:Str->Bool:=fun nm=>(["Desk"]:List Str).contains nm
noncomputable def xZ:Str->Bool:=fun nm=>(["NoText"]:List Str).contains nm
noncomputable def uJ:Str->Bool:=fun nm=>(["NoRow","NoOwn"]:List Str).contains nm
abbrev AC:Stmt:=top 84
abbrev pG:Stmt:=ze (top 108) 0
abbrev et(K:W.Frag)(mg:Str->Option a_)(x:Str)(n:Nat):Prop:=DefAt K mg x (top n)
abbrev g5(K:W.Frag)(g:Str->Option a_)(x:Str):Prop:=∃(c:Addr)(_:List a_),XC K g x c/\XN K x c/\g x=some (.ref c)/\IsxOk K (.ref c) (vt [x])
abbrev g8(P:o_)(w:F_)(K:W.Frag)(g:Str->Option a_)(x f:Str):Prop:=∃(c:Addr)(_:List a_),(∀base,XCI P w K g base x c f)/\XN K x c/\g x=some (.ref c)/\IsxOk K (.ref c) (vt [x])
structure ia(P:o_)(w:F_)(K:W.Frag)(mg:Str->Option a_):Prop where
 h:g5 K mg "TooMany"
 q:g8 P w K mg "NoRow" "hand"
 k:g8 P w K mg "NoOwn" "hand"
 l:g8 P w K mg "NoText" "at"
 r:g5 K mg "NotSquare"
 s:g5 K mg "NoLine"
 v:g5 K mg "NoDeed"
 c6:oA K "at" xZ
 y:oA K "hand" uJ
 c7:IsxOk K (.type "ValueError") (vt YW)
 dd:∃(c:Addr)(b:List a_),XA K c b/\mg "TradeError" = some (.ref c)/\su K c p9
structure ib(K:W.Frag)(mg:Str->Option a_):Prop where
 m:jf K "kept" A2
 o:jf K "order" jG
 j:jf K "owns" jG
 p:jf K "past" A2
 b:jf K "wishes" jG
 ch:MakeAt K mg "Kept" "Kept" "Kept.__init__" pG
structure Txt(P:o_)(w:F_)(K:W.Frag)(mg:Str->Option a_):Prop extends ia P w K mg,ib K mg where
 e:mg "isinstance" = none
 z:mg "bool" = none
 x:mg "int" = none
 n:mg "enumerate" = none
 a:mg "len" = none
 c:mg "tuple" = none
 g:mg "list" = none
 d:mg "range" = none
 t:mg "zip" = none
 aa:mg "all" = none
 f:mg "str" = none
 ab:mg "sorted" = none
 ac:mg "abs" = none
 ad:mg "set" = none
 ae:mg "ValueError" = none
 af:mg "min" = none
 ag:mg "max" = none
 ah:∃t,mg "MOST_HANDS" = some (.int 7 t)
 ai:∃t,mg "MOST_THINGS" = some (.int 8 t)
 i:∃t,mg "LETTERS" = some (.str "ABCDEFGH" t)
 aj:∃t,mg "FIGURES" = some (.str "0123456" t)
 ak:∃t,mg "MOST_HANDS_IN_LOTS" = some (.int 5 t)
 u:∃a,mg "NOUGHT" = some (.ref a)/\KC K a (.tup [.int 0,.int 1])
 al:∃a,mg "ONE" = some (.ref a)/\KC K a (.tup [.int 1,.int 1])
 am:et K mg "is_whole" 14
 an:et K mg "is_below" 15
 ao:et K mg "first_wrong" 16
 ap:et K mg "are_unlike" 17
 aq:et K mg "has_each_once" 18
 ar:et K mg "refuse_too_many_rows" 19
 as:et K mg "wishes_of" 20
 au:et K mg "things_in" 21
 av:et K mg "owns_of" 24
 aw:DefAtD K mg "order_of" (top 25) [Value.none]
 ax:et K mg "word_text" 28
 ay:et K mg "row_text" 29
 az:et K mg "rows_text" 30
 a0:et K mg "is_starred" 31
 a1:et K mg "letter_in" 32
 a2:et K mg "is_word" 33
 a3:et K mg "is_part" 34
 a4:et K mg "row_in" 35
 a5:et K mg "own_in" 36
 a6:et K mg "rows_read" 37
 a7:et K mg "things_text" 39
 a8:et K mg "share_text" 47
 a9:et K mg "shares_text" 48
 ba:et K mg "best_left" 50
 bb:et K mg "owner_left" 51
 bc:et K mg "got_in" 53
 bd:et K mg "dealing_of" 54
 be:et K mg "hand_pointed_at" 96
 bf:et K mg "ring_from" 97
 bg:et K mg "rings_of_round" 98
 bh:DefAtD K mg "rounds" (top 99) [Value.none]
 bi:DefAtD K mg "by_rings" (top 100) [Value.none]
 bj:DefAtD K mg "by_order" (top 93) [Value.none]
 bk:et K mg "order_behind" 94
 bl:et K mg "order_text" 46
 bm:et K mg "greatest_divisor" 63
 bn:et K mg "fraction" 64
 bo:et K mg "plus" 65
 bp:et K mg "minus" 66
 bq:et K mg "times" 67
 br:et K mg "less" 68
 bs:et K mg "least" 69
 bt:et K mg "time_until_one_is_gone" 71
 bu:et K mg "left_after" 72
 bv:et K mg "not_gone" 73
 bw:et K mg "meals_of" 74
 bx:et K mg "shares_of" 75
 bz:et K mg "log_of" 76
 b0:et K mg "is_square" 22
 b1:et K mg "refuse_unless_square" 23
 b2:et K mg "eaten" 77
 b3:et K mg "refuse_too_many_for_lots" 103
 b4:et K mg "lot" 106
 b5:et K mg "refuse_unless" 80
 b6:et K mg "words_in" 81
 b7:et K mg "text_in" 82
 b8:et K mg "number_in" 83
 b9:DefAt K mg "numbers_in" AC
 ca:et K mg "unlike_in" 85
 cb:et K mg "figures_of" 86
 cc:et K mg "letters_of" 87
 cd:et K mg "hand_in" 88
 ce:et K mg "hand_and_thing_in" 89
 cf:et K mg "order_in" 90
 cg:et K mg "dealing_in" 91
 ci:et K mg "kept_of_text" 109
 cj:et K mg "after_rows" 110
 ck:et K mg "with_own" 111
 cl:et K mg "after_own" 112
 cm:et K mg "after_none" 113
 cn:et K mg "after_order" 114
 co:et K mg "answer_rings" 115
 cp:et K mg "answer_asks" 116
 cq:et K mg "answer_deal" 117
 cr:et K mg "answer_by" 118
 cs:et K mg "answer_of" 119
 ct:et K mg "answer_lot" 120
 cu:et K mg "answer_eat" 121
 cv:et K mg "_law_cell" 126
 cw:et K mg "_law_wide" 127
 cx:et K mg "_law_row" 128
 cy:et K mg "_law_owns" 129
 cz:et K mg "_law_best" 130
 c0:et K mg "_law_rings_dealt" 131
 c1:et K mg "_law_text" 132
 c2:et K mg "_law_small" 133
 c3:et K mg "_law_change" 134
 c4:et K mg "_law_order" 135
 c5:et K mg "_law_letters" 137
 c8:et K mg "_law_kinds" 138
 c9:et K mg "_law_plain" 140
 da:et K mg "_law_bad" 141
 db:et K mg "_law_heard" 136
 dc:et K mg "_law_said" 139
abbrev pR:Stmt:=BG (top 7)
theorem YC:k4 "__init__" "NoRow.__init__" pR ["self","hand"]:=fun _ _ _ _ _ _ us a=>by obtain⟨e,d,rfl⟩:=oH us a;kernel_rfl
theorem OZ{K:W.Frag}(F:Fun K "__init__" "NoRow.__init__" pR a Z)(b:XI K C g "hand")(d:Y "TradeError" = some (.ref T))(e:XT K T)(base:Heap):FnOk P w K Y base eN 1 a Z ["self","hand"] (rZ C "hand"):=B5 (k:=0) F aY b fun f A U s H E=>mI (oX (Cm `r d e (gR (eV (i:=0) rfl (by first|exact Or.inl rfl|grind|grind)) (gR (Bn (c:=cI) (yG (BR (j:=1) rfl (by first|exact Or.inl rfl|grind|grind) (yG BS) (fun _ h=>h))) `d) jT)))) (Co (Cn (eV (i:=0) rfl (by first|exact Or.inl rfl|grind|grind)) (eV (i:=1) rfl (by first|exact Or.inl rfl|grind|grind))))
abbrev pQ:Stmt:=BG (top 8)
theorem YB:k4 "__init__" "NoOwn.__init__" pQ ["self","hand"]:=fun _ _ _ _ _ _ us a=>by obtain⟨e,d,rfl⟩:=oH us a;kernel_rfl
theorem OY{K:W.Frag}(F:Fun K "__init__" "NoOwn.__init__" pQ a Z)(b:XI K C f "hand")(c:Y "TradeError" = some (.ref T))(d:XT K T)(base:Heap):FnOk P w K Y base eN 1 a Z ["self","hand"] (rZ C "hand"):=B5 F aY b fun e A U s H E=>mI (oX (Cm (rfl) c d (gR (eV rfl (by first|exact Or.inl rfl|grind|grind)) (gR (Bn (yG (BR rfl (by first|exact Or.inl rfl|grind|grind) BS (fun _ h=>h))) `d) jT)))) (Co (Cn (eV rfl (by first|exact Or.inl rfl|grind|grind)) (eV rfl (by first|exact Or.inl rfl|grind|grind))))
abbrev pS:Stmt:=BG (top 10)
theorem YH:k4 "__init__" "NoText.__init__" pS ["self","at"]:=fun _ _ _ _ _ _ us a=>by obtain⟨e,d,rfl⟩:=oH us a;kernel_rfl
theorem Pa{K:W.Frag}(F:Fun K "__init__" "NoText.__init__" pS a Z)(b:XI K C f "at")(c:Y "TradeError" = some (.ref T))(d:XT K T)(base:Heap):FnOk P w K Y base eN 1 a Z ["self","at"] (rZ C "at"):=B5 F aY b fun e A U s H E=>mI (oX (Cm (rfl) c d (gR (eV rfl (by first|exact Or.inl rfl|grind|grind)) (gR (Bn (yG (BR rfl (by first|exact Or.inl rfl|grind|grind) BS (fun _ h=>h))) `d) jT)))) (Co (Cn (eV rfl (by first|exact Or.inl rfl|grind|grind)) (eV rfl (by first|exact Or.inl rfl|grind|grind))))
noncomputable abbrev Lb:List Str:=["value"]
def aS(b:Bool)(N:List Str)(B:FS):List D->Res D:=fun ds=>bQ b (B (cS N.length ds))
theorem io(h:B (cS n ds)=.rt d)(U:!n=N.length):aS b N B ds=.ok d:=by subst U;show bQ b (B (cS N.length ds))=_;rw[h];cases b <;> rfl
def Dg:{B // ∀{P w K U base} (T:Txt P w K U),Callee P w K U base "is_whole" Lb [] 1 false [Md.bw] (aS false Lb B)}:=⟨_,fun T=>dj (m':=[Md.bw]) T.am aY fun Z Y=>(ew (oB (sK "int" "int" rfl (Qu _) `r T.e `r T.x (aB 0)) (oE (YN (sK "bool" "bool" rfl (Tf _) `r T.e `r T.z (aB 0))))))⟩ 
noncomputable abbrev Dx:List Str:=["value","bound"]
def zV:{B // ∀{P w K U base} (T:Txt P w K U),Callee P w K U base "is_below" Dx [] 2 false bP (aS false Dx B)}:=⟨_,fun T=>dj (m':=bP) T.an aY fun Z Y=>(ew (oB (bR (Dg.2 T) (aK (aB 0))) (oE (Sm Xq AX Xo Xp iB (aB 0) (aB 1)))))⟩ 
def Ln:=zV.1
def zS:=aS false Dx Ln
noncomputable abbrev Mv:List Str:=["numbers","bound","ahead","place","number"]
noncomputable abbrev qg:List Str:=["numbers","bound"]
theorem An:FnScope Mv qg (aA (top 16)):=aY
abbrev MI:FS:=(seqF (fA nZ (kb (iY (dY (cP (aG (gv 4) (lI 1)) [] zS))) (cN (f2 (gv 4) (gv 2) iV))) (seqF (retF nZ (gv 3)) aW) aW) (seqF (putF nZ 2 (gv 4) (fun _=>Res.ok (D.bl true))) aW))
def Wf:{B // ∀{P w K Y base} (T:Txt P w K Y),Callee P w K Y base "first_wrong" qg [] 3 false bP (aS false Mv B)}:=⟨_,fun T=>dj (m':=nZ) T.ao An fun Z U=>(aL (gH 2 An.nd `r (fE rfl) nj) (aL (sY z_ rfl (Qn `r T.n (vT 0)) (kl rfl (fK (dD 3 An.nd) (fK (dD 4 An.nd) kj))) (aL (bS (SW.toQ (gY (ly (gN (bE (bR (zV.2 T) (aV (aB 4) (aK (aB 1))))))) (mU (lS U (aB 4) (aB 2))))) (ew (v_ 3)) dI) (aF (kA 2 U rfl `r (cY rfl) (aB 4) lR)))) (ew (d8 `r T.a (bK (aB 0))))))⟩
def VG:{B // ∀{P w K Y base} (T:Txt P w K Y),Callee P w K Y base "are_unlike" qg [] 4 false bP (aS false qg B)}:=⟨_,fun T=>dj (m':=bP) T.ap aY fun b Z=>have U:=b.units;(ew (gA U (bE (bR (Wf.2 T) (aV (aB 0) (aK (aB 1))))) (bE (d8 `r T.a (bK (aB 0))))))⟩ 
def AB:{B // ∀{P w K Y base} (T:Txt P w K Y),Callee P w K Y base "has_each_once" qg [] 5 false bP (aS false qg B)}:=⟨_,fun T=>dj (m':=bP) T.aq aY fun b Z=>have U:=b.units;(ew (oB (gA U (bE (d8 `r T.a (bK (aB 0)))) (aB 1)) (oE (bR (VG.2 T) (aV (aB 0) (aK (aB 1)))))))⟩ 
def MG:=AB.1
def MH:=aS false qg MG
noncomputable abbrev vQ:List Str:=["rows"]
def EL:{B // ∀{P w K U base} (T:Txt P w K U),CalleeX P w K U base "refuse_too_many_rows" vQ [] 1 false [Md.sh] (aS false vQ B)}:=⟨_,fun T=>fT (m':=[Md.sh]) T.ar aY fun Z Y=>(aF (bS (SW.toQ (gY (kR (bE (d8 `r T.a (bK (aB 0)))) iB) (mU (jx (bE (d8 `r T.a (bK (aB 0)))) (bE (Cc `r T.ah)))))) (aF (rH rfl T.h.q.1 T.h.q.2.1 `r (dg aU))) dI))⟩
def AD:=EL.1
def Xb:=aS false vQ AD
noncomputable abbrev Ee:List Str:=["rows","things","hand","row"]
theorem vP:FnScope Ee vQ (aA (top 20)):=aY
abbrev WV:FS:=(seqF (fA [.sh,.sh,.sh,.sh] (iY (dY (cP (aG (gv 3) (lI 1)) [] MH))) (seqF (xM [.sh,.sh,.sh,.sh] "NoRow" "hand" (lI 2)) aW) aW) aW)
def Mx:{B // ∀{P w K U base} (T:Txt P w K U),CalleeX P w K U base "wishes_of" vQ [] 6 false [Md.sh] (aS false Ee B)}:=⟨_,fun{P w K U base} T=>fT (m':=[.sh,.sh,.sh,.sh]) T.as vP fun Z Y=>(aL (jU (eM (EL.2 T) (bV (v_ 0)))) (aL (bT 1 vP.nd (d8 `r T.a (bK (xB Y (aB 0) iB)))) (aL (bS (SW.toQ (gY (kR (aB 1) (bE (d8 `r T.a (bK (aB 0))))) (mU (jx (aB 1) (bE (Cc `r T.ai)))))) (aF (rH rfl T.h.q.1 T.h.q.2.1 `r (dg aU))) dI) (aL (BH rfl rfl rfl (BF `r T.n (v_ 0)) (kl rfl (fK (dD 2 vP.nd) (fK (dD 3 vP.nd) kj))) (aF (bS (ly (gN (bE (bR (AB.2 T) (aV (aB 3) (aK (aB 1))))))) (aF (uQ rfl (T.q.q.1 base) T.q.q.2.1 (Z.mono `d) `r (dg (v_ 2)))) dI))) (ew (jH `r T.c (bK (SO.toB (jK ["row"] [] vP.nd (gu (aB 0)) (jH `r T.c (bK (aB 0))))))))))))⟩
def Wm:=Mx.1
def Wo:=aS false Ee Wm
noncomputable abbrev iu:List Str:=["wishes"]
def qe:{B // ∀{P w K Y base} (T:Txt P w K Y),Callee P w K Y base "things_in" iu [] 1 false [Md.bw] (aS false iu B)}:=⟨_,fun T=>dj (m':=[Md.bw]) T.au aY fun Z U=>(ew (d8 `r T.a (bK (xB U (aB 0) iB))))⟩ 
def Vo:=qe.1
def uX:=aS false iu Vo
noncomputable abbrev LK:List Str:=["wishes","things","ahead","hand","thing"]
noncomputable abbrev Mq:List Str:=["wishes","things"]
theorem Ad:FnScope LK Mq (aA (top 24)):=aY
abbrev Ws:FS:=(seqF (fA lZ (cN (f2 (gv 4) (fun _=>Res.ok D.non) n9)) (seqF (fA lZ (kb (iY (dY (cP (aG (gv 4) (aG (cP (lI 0) [] uX) aE)) [] zS))) (cN (f2 (gv 4) (gv 2) iV))) (seqF (xM lZ "NoOwn" "hand" (lI 3)) aW) aW) (seqF (putF lZ 2 (gv 4) (fun _=>Res.ok (D.bl true))) aW)) aW) aW)
def DO:{B // ∀{P w K Z base} (T:Txt P w K Z),CalleeX P w K Z base "owns_of" Mq [] 3 false gB (aS false LK B)}:=⟨_,fun{P w K Z base} T=>fT (m':=lZ) T.av Ad fun b Y=>have U:=b.units;(aL (bS (j5 U (bE (d8 `r T.a (bK (aB 1)))) (bE (d8 `r T.a (bK (aB 0))))) (aF (uQ rfl (T.k.q.1 base) T.k.q.2.1 (b.mono `d) `r (dg (d8 `r T.a (bK (aB 0)))))) dI) (aL (gH 2 Ad.nd `r (fE rfl) nj) (aL (BH rfl rfl rfl (BF `r T.n (v_ 1)) (kl rfl (fK (dD 3 Ad.nd) (fK (dD 4 Ad.nd) kj))) (aF (bS (F9 (aB 4) (bE fQ)) (aL (bS (SW.toQ (gY (ly (gN (bE (bR (zV.2 T) (aV (aB 4) (aK (bE (bR (qe.2 T) (aK (aB 0)))))))))) (mU (lS Y (aB 4) (aB 2))))) (aF (uQ rfl (T.k.q.1 base) T.k.q.2.1 (b.mono `d) `r (dg (v_ 3)))) dI) (aF (kA 2 Y rfl `r (cY rfl) (aB 4) lR))) dI))) (ew (jH `r T.c (bK (aB 1)))))))⟩
def Vk:=DO.1
noncomputable abbrev p6:List Str:=["wishes","order"]
theorem VQ:FnScope p6 p6 (aA (top 25)):=aY
def zW:{B // ∀{P w K Y base} (T:Txt P w K Y),Callee P w K Y base "order_of" p6 [] 6 false bP (aS false p6 B)}:=⟨_,fun T=>
 y7 (ds:=[]) (k:=5) (m':=bP) T.aw VQ rfl 2 rfl (fun _ _ _ _ _ _ _ us e=>by obtain⟨j,i,rfl⟩:=oH us e;exact⟨_,rfl,rfl⟩) fun f h A U s H g E b=>
 have c:=lB b;have Z:=b.units
 (aL (bS (qk (aB 1) (bE fQ)) (ew (SO.toE (y8 rfl `r T.g `r T.d (bK (bE (d8 `r T.a (bK (aB 0))))))))
   dI)
   (aL (bS (ly (gN (bE (bR (AB.2 T) (aV (aB 1) (aK (bE (d8 `r T.a (bK (aB 0)))))))))) (aF IE)
   dI)
   (ew (SO.toE (yE `r T.g (bK (aB 1)))))))⟩
def Dq:=zW.1
def K3:=aS false p6 Dq
noncomputable abbrev DI:List Str:=["thing","own","letter"]
noncomputable abbrev Mt:List Str:=["thing","own"]
theorem L6:FnScope DI Mt (aA (top 28)):=aY
def LD:{B // ∀{P w K Z base} (T:Txt P w K Z),Callee P w K Z base "word_text" Mt [] 1 false bP (aS false DI B)}:=⟨_,fun T=>dj (m':=kS) T.ax L6 fun a Y=>have U:=a.units;(aL (bT 2 L6.nd (fm Y (bE (pU `r T.i)) (aB 0))) (ew (pB (dM U (aB 0) (aB 1)) (du (aB 2) (bE aU)) (v_ 2))))⟩
def Vp:=LD.1
def LH:=aS false DI Vp
noncomputable abbrev vD:List Str:=["row","own"]
theorem Lx:FnScope vD vD (aA (top 29)):=aY
def Lg:{B // ∀{P w K U base} (T:Txt P w K U),Callee P w K U base "row_text" vD [] 2 false bP (aS false vD B)}:=⟨_,fun T=>dj (m':=bP) T.ay Lx fun Z Y=>(ew (@fw _ _ _ _ _ _ _ _ _ _ (SO.toB (jK ["thing","own"] [1] Lx.nd (gu (aB 0)) (bR (LD.2 T) (aV (aB 0) (aK (aB 1)))))) rfl rfl))⟩ 
def UL:=Lg.1
def K4:=aS false vD UL
noncomputable abbrev uZ:List Str:=["wishes","owns"]
theorem L5:FnScope uZ uZ (aA (top 30)):=aY
def DP:{B // ∀{P w K U base} (T:Txt P w K U),Callee P w K U base "rows_text" uZ [] 3 false gB (aS false uZ B)}:=⟨_,fun T=>dj (m':=gB) T.az L5 fun Z Y=>(ew (@fw _ _ _ _ _ _ _ _ _ _ (SO.toB (Ob ["row","own"] [] L5.nd (kg.toC (A4 `r T.t (v_ 0) (v_ 1))) (bR (Lg.2 T) (aV (aB 0) (aK (aB 1)))))) rfl rfl))⟩ 
def K1:=DP.1
def DB:=aS false uZ K1
noncomputable abbrev pb:List Str:=["word"]
def vK:{B // ∀{P w K U base} (T:Txt P w K U),Callee P w K U base "is_starred" pb [] 1 false [Md.bw] (aS false pb B)}:=⟨_,fun T=>dj (m':=[Md.bw]) T.a0 aY fun Z Y=>(ew (gI PySem.F.plainAttrs_str PySem.F.slot_str_endswith PySem.F.type_str_endswith P4 QR (aB 0) (bK (bE aU))))⟩ 
def Ma:=vK.1
def Ai:=aS false pb Ma
def z8:{B // ∀{P w K U base} (T:Txt P w K U),Callee P w K U base "letter_in" pb [] 2 false [Md.sh] (aS false pb B)}:=⟨_,fun T=>dj (m':=[Md.sh]) T.a1 aY fun Z Y=>(ew (pB (gN (bE (bR (vK.2 T) (aK (aB 0))))) (Bi (aB 0) oQ (oR (bE (Bg iB)))) (v_ 0)))⟩ 
def Vj:=z8.1
def LG:=aS false pb Vj
noncomputable abbrev C6:List Str:=["word","letter"]
theorem KR:FnScope C6 pb (aA (top 33)):=aY
def Ki:{B // ∀{P w K Z base} (T:Txt P w K Z),Callee P w K Z base "is_word" pb [] 3 false [Md.sh] (aS false C6 B)}:=⟨_,fun T=>dj (m':=gB) T.a2 KR fun b Y=>have U:=b.units;(aL (bT 1 KR.nd (bR (z8.2 T) (bV (v_ 0)))) (ew (oB (gA U (bE (d8 `r T.a (bK (aB 1)))) iB) (oE (wE Y (aB 1) (bE (pU `r T.i)))))))⟩
def Tt:=Ki.1
def Tu:=aS false C6 Tt
noncomputable abbrev C5:List Str:=["words","starred"]
noncomputable abbrev lu:List Str:=["words"]
theorem Do:FnScope C5 lu (aA (top 34)):=aY
def Kh:{B // ∀{P w K U base} (T:Txt P w K U),Callee P w K U base "is_part" lu [] 4 false [Md.bw] (aS false C5 B)}:=⟨_,fun T=>dj (m':=eO) T.a3 Do fun Z Y=>(aL (sc1 1 ["word"] [] Do.nd (gu (aB 0)) (v_ 0) (hq:=(rB (gN (bE (bR (vK.2 T) (aK (aB 0)))))))) (ew (oB (wD (bE (d8 `r T.a (bK (aB 1)))) iB) (oE (XB rfl `r T.aa (bK (SO.toB (jK ["word"] [] Do.nd (gu (aB 0)) (bR (Ki.2 T) (bV (v_ 0)))))))))))⟩
def Ts:=Kh.1
def Kd:=aS false C5 Ts
theorem Kq:FnScope lu lu (aA (top 35)):=aY
def JK:{B // ∀{P w K U base} (T:Txt P w K U),Callee P w K U base "row_in" lu [] 3 false [Md.bw] (aS false lu B)}:=⟨_,fun T=>dj (m':=[Md.bw]) T.a4 Kq fun Z Y=>(ew (SO.toE (jK ["word"] [] Kq.nd (gu (aB 0)) (gI PySem.F.plainAttrs_str PySem.F.slot_str_index PySem.F.type_str_index B9 Ce (bE (pU `r T.i)) (bK (bE (bR (z8.2 T) (bV (v_ 0)))))))))⟩ 
def RY:=JK.1
def R4:=aS false lu RY
noncomputable abbrev CD:List Str:=["words","word"]
theorem Kp:FnScope CD lu (aA (top 36)):=aY
abbrev zT:FS:=(seqF (fA dB (dY (cP (lI 1) [] Ai)) (seqF (retF dB (fM "str" (fun _=>Res.ok (D.str "ABCDEFGH")) (aG (cP (lI 1) [] LG) aE) sJ)) aW) aW) aW)
def JJ:{B // ∀{P w K U base} (T:Txt P w K U),Callee P w K U base "own_in" lu [] 3 false [Md.bw] (aS false CD B)}:=⟨_,fun T=>dj (m':=dB) T.a5 Kp fun Z Y=>(aL (sZ z_ rfl (gu (aB 0)) (fun _=>(dD 1 Kp.nd)) (fun _=>(aF (bS (gN (bE (bR (vK.2 T) (aK (aB 1))))) (ew (gI PySem.F.plainAttrs_str PySem.F.slot_str_index PySem.F.type_str_index B9 Ce (bE (pU `r T.i)) (bK (bE (bR (z8.2 T) (bV (v_ 1))))))) dI)))) (ew fQ))⟩
def RX:=JJ.1
def JE:=aS false CD RX
noncomputable abbrev Ed:List Str:=["text","parts","at","words","wishes"]
noncomputable abbrev As:List Str:=["text"]
theorem qd:FnScope Ed As (aA (top 37)):=aY
abbrev WU:FS:=(seqF (fA qp (iY (dY (cP (lI 3) [] Kd))) (seqF (xM qp "NoText" "at" (lI 2)) aW) aW) aW)
def Eg:{B // ∀{P w K U base} (T:Txt P w K U),CalleeX P w K U base "rows_read" As [] 7 false [Md.sh] (aS false Ed B)}:=⟨_,fun{P w K U base} T=>fT (m':=qp) T.a6 qd fun Y Z=>(aL (bS (ly (gN (bE (sK "str" "str" rfl (B8 _) `r T.e `r T.f (aB 0))))) (aF (uQ rfl (T.l.q.1 base) T.l.q.2.1 (Y.mono `d) `r (dg (Bg iB)))) dI) (aL (sc1 1 ["part"] [] qd.nd (gu (bE (gI PySem.F.plainAttrs_str PySem.F.slot_str_split PySem.F.type_str_split Ct CA (aB 0) (bK (bE aU))))) (gI PySem.F.plainAttrs_str PySem.F.slot_str_split PySem.F.type_str_split Ct CA (aB 0) (bK (bE aU)))) (aL (mW 1 rfl (BH rfl rfl rfl (BF `r T.n (v_ 1)) (kl rfl (fK (dD 2 qd.nd) (fK (dD 3 qd.nd) kj))) (aF (bS (ly (gN (bE (bR (Kh.2 T) (aK (aB 3)))))) (aF (uQ rfl (T.l.q.1 base) T.l.q.2.1 (Y.mono `d) `r (dg (v_ 2)))) dI)))) (aL (bT 4 qd.nd (eM (Mx.2 T) (bV (SO.toE (jK ["words"] [] qd.nd (gu (aB 1)) (bR (JK.2 T) (aK (aB 0)))))))) (ew (dw (aQ (v_ 4) (dg (eM (DO.2 T) (bZ (v_ 4) (bV (SO.toE (jK ["words"] [] qd.nd (gu (aB 1)) (bR (JJ.2 T) (aK (aB 0))))))))))))))))⟩
def Mg:=Eg.1
def Wn:=aS false Ed Mg
noncomputable abbrev vH:List Str:=["things"]
theorem M0:FnScope vH vH (aA (top 39)):=aY
def Ei:{B // ∀{P w K Y base} (T:Txt P w K Y),Callee P w K Y base "things_text" vH [] 1 false [Md.bw] (aS false vH B)}:=⟨_,fun T=>dj (m':=[Md.bw]) T.a7 M0 fun Z U=>(ew (@fw _ _ _ _ _ _ _ _ _ _ (SO.toB (jK ["thing"] [] M0.nd (gu (aB 0)) (fm U (bE (pU `r T.i)) (aB 0)))) rfl rfl))⟩ 
def Wk:=Ei.1
def Ml:=aS false vH Wk
noncomputable abbrev Aj:List Str:=["top","bottom"]
def VI:{B // ∀{P w K Y base} (T:Txt P w K Y),Callee P w K Y base "share_text" Aj [] 1 false bP (aS false Aj B)}:=⟨_,fun T=>dj (m':=bP) T.a8 aY fun a Z=>have U:=a.units;(ew (pB (dM U (aB 1) iB) (XD (Bf (aB 0))) (Fa (Gf (Bf (aB 0)) (Xe (Gf (Bf (aB 1)) Yc))))))⟩ 
noncomputable abbrev qb:List Str:=["shares"]
theorem MZ:FnScope qb qb (aA (top 48)):=aY
def Eh:{B // ∀{P w K U base} (T:Txt P w K U),Callee P w K U base "shares_text" qb [] 2 false [Md.bw] (aS false qb B)}:=⟨_,fun T=>dj (m':=[Md.bw]) T.a9 MZ fun Z Y=>(ew (@fw _ _ _ _ _ _ _ _ _ _ (SO.toB (Ob ["top","bottom"] [] MZ.nd (gu (aB 0)) (bR (VI.2 T) (aV (aB 0) (aK (aB 1)))))) rfl rfl))⟩ 
def V8:=Eh.1
def Mj:=aS false qb V8
noncomputable abbrev uY:List Str:=["row","things"]
theorem L4:FnScope uY uY (aA (top 50)):=aY
def DN:{B // ∀{P w K Y base} (T:Txt P w K Y),Callee P w K Y base "best_left" uY [] 1 false bP (aS false uY B)}:=⟨_,fun T=>dj (m':=bP) T.ba L4 fun Z U=>(ew (fm U (SO.toB (jK ["thing","things"] [1] L4.nd (gu (aB 0)) (v_ 0) (hq:=(rB (lS U (aB 0) (aB 1)))))) iB))⟩ 
def Vg:=DN.1
def z7:=aS false uY Vg
noncomputable abbrev DV:List Str:=["owns","line","thing","hand"]
noncomputable abbrev Al:List Str:=["owns","line","thing"]
theorem MC:FnScope DV Al (aA (top 51)):=aY
abbrev Ak:FS:=(seqF (fA lY (cN (f2 (f2 (gv 0) (gv 3) di) (gv 2) eqD)) (seqF (retF lY (gv 3)) aW) aW) aW)
def LZ:{B // ∀{P w K Z base} (T:Txt P w K Z),Callee P w K Z base "owner_left" Al [] 1 false j6 (aS false DV B)}:=⟨_,fun T=>dj (m':=lY) T.bb MC fun a Y=>have U:=a.units;(aL (sZ z_ rfl (gu (aB 1)) (fun _=>(dD 3 MC.nd)) (fun _=>(aF (bS (dM U (xB Y (aB 0) (aB 3)) (aB 2)) (ew (v_ 3)) dI)))) (ew fQ))⟩
def Vy:=LZ.1
def VC:=aS false DV Vy
noncomputable abbrev CB:List Str:=["rings","got","ring","hand","thing"]
noncomputable abbrev K7:List Str:=["rings"]
theorem uV:FnScope CB K7 (aA (top 53)):=aY
abbrev K6:FS:=(seqF (putF [.bw,.ow,.sh,.sh,.sh] 1 (gv 3) (gv 4)) aW)
abbrev UO:FS:=(seqF (jR [.bw,.ow,.sh,.sh,.sh] (df fV (gv 2)) (jb (eJ (bX 3) (eJ (bX 4) i7))) K6) aW)
def CI:{B // ∀{P w K Y base} (T:Txt P w K Y),Callee P w K Y base "got_in" K7 [] 1 false [Md.bw] (aS false CB B)}:=⟨_,fun T=>dj (m':=[.bw,.sh,.sh,.sh,.sh]) T.bc uV fun Z U=>(aL (gH 1 uV.nd `r (fE rfl) nj) (aL (sY z_ rfl (yS (vT 0)) (dD 2 uV.nd) (aF (lA z_ rfl (sH (v_ 2)) (kl rfl (fK (dD 3 uV.nd) (fK (dD 4 uV.nd) kj))) (aF (kA 1 U rfl `r (cY rfl) (aB 3) (v_ 4)))))) (aF (mW 1 rfl (aZ (v_ 1))))))⟩
def RU:=CI.1
def CO:=aS false CB RU
noncomputable abbrev vJ:List Str:=["got"]
theorem MB:FnScope vJ vJ (aA (top 54)):=aY
def Ep:{B // ∀{P w K Y base} (T:Txt P w K Y),Callee P w K Y base "dealing_of" vJ [] 1 false [Md.bw] (aS false vJ B)}:=⟨_,fun T=>dj (m':=[Md.bw]) T.bd MB fun Z U=>(ew (jH `r T.c (bK (SO.toB (jK ["hand","got"] [0] MB.nd (kg.toC (o8 `r T.d (bK (bE (d8 `r T.a (bK (aB 0))))))) (fm U (aB 1) (aB 0)))))))⟩ 
def L9:=Ep.1
def VA:=aS false vJ L9
noncomputable abbrev ED:List Str:=["owns","line","thing","owner"]
theorem Nf:FnScope ED Al (aA (top 96)):=aY
def Nl:{B // ∀{P w K Y base} (T:Txt P w K Y),Callee P w K Y base "hand_pointed_at" Al [] 2 false j6 (aS false ED B)}:=⟨_,fun T=>dj (m':=lY) T.be Nf fun Z U=>(aL (bT 3 Nf.nd (bR (LZ.2 T) (aV (aB 0) (aV (aB 1) (aK (aB 2)))))) (ew (pB (qk (aB 3) (bE fQ)) (fm U (aB 1) iB) (v_ 3))))⟩
def W6:=Nl.1
def EC:=aS false ED W6
noncomputable abbrev DG:List Str:=["first","targets","behind","ring","hand"]
noncomputable abbrev Mr:List Str:=["first","targets","behind"]
theorem Ae:FnScope DG Mr (aA (top 97)):=aY
abbrev We:FQ:=(gM (cN (f2 (gv 4) (gv 0) pq)) (cN (f2 (fC (lI 3) lenD) (fC (lI 1) lenD) mL)))
abbrev Wt:FS:=(seqF (dC "list" nY 3 (aG (gq (aG (gv 4) (aG (f2 (gv 1) (gv 4) di) aE))) aE) appD) (seqF (aN nY 4 (f2 (gv 2) (gv 4) di)) aW))
def LA:{B // ∀{P w K Z base} (T:Txt P w K Z),Callee P w K Z base "ring_from" Mr [] 1 false [.sh,.bw,.bw] (aS false DG B)}:=⟨_,fun T=>dj (m':=nY) T.bf Ae fun b U=>have Y:=b.units;(aL (gH 3 Ae.nd `r (fE rfl) (dL (dg (dw (aQ (v_ 0) (dg (fm U (aB 1) (aB 0)))))))) (aL (bT 4 Ae.nd (fm U (aB 2) (aB 0))) (aL (rJ 64 z_ (SW.toQ (sP (jx (aB 4) (aB 0)) (tJ (kR (bE (d8 `r T.a (bK (aB 3)))) (bE (d8 `r T.a (bK (aB 1)))))))) (aL (eG 3 rfl (cY rfl) (dw (aQ (v_ 4) (dg (fm U (aB 1) (aB 4)))))) (aF (bT 4 Ae.nd (fm U (aB 2) (aB 4)))))) (ew (pB (dM Y (aB 4) (aB 0)) (jH `r T.c (bK (aB 3))) fQ)))))⟩
def Vl:=LA.1
def Vs:=aS false DG Vl
noncomputable abbrev EI:List Str:=["wishes","owns","line","things","targets","behind","hand","walks"]
noncomputable abbrev Ni:List Str:=["wishes","owns","line","things"]
theorem rY:FnScope EI Ni (aA (top 98)):=aY
abbrev W3:FS:=(seqF (putF wK 4 (gv 6) (cP (aG (f2 (gv 0) (gv 6) di) (lI 3)) [] z7)) (seqF (putF wK 5 (gv 6) (cP (aG (gv 1) (aG (gv 2) (aG (f2 (gv 4) (gv 6) di) aE))) [] EC)) aW))
def EK:{B // ∀{P w K Y base} (T:Txt P w K Y),Callee P w K Y base "rings_of_round" Ni [] 3 false [.bw,.bw,.bw,.bw] (aS false EI B)}:=⟨_,fun T=>dj (m':=[.bw,.bw,.bw,.bw,.ow,.ow,.sh,.ow]) T.bg rY fun Z U=>(aL (gH 4 rY.nd `r (fE rfl) nj) (aL (gH 5 rY.nd `r (fE rfl) nj) (aL (sY z_ rfl (yS (vT 2)) (dD 6 rY.nd) (aL (kA 4 U rfl `r (cY rfl) (aB 6) (bR (DN.2 T) (aV (xB U (aB 0) (aB 6)) (aK (aB 3))))) (aF (kA 5 U rfl `r (cY rfl) (aB 6) (bR (Nl.2 T) (aV (aB 1) (aV (aB 2) (aK (xB U (aB 4) (aB 6)))))))))) (aL (sc1 7 ["hand","targets","behind"] [4,5] rY.nd (gu (aB 2)) (bR (LA.2 T) (bZ (v_ 0) (aV (aB 1) (aK (aB 2)))))) (ew (SO.toE (SK Z `r T.ab (bK (SO.toB (jK ["ring"] [] rY.nd (gu (aB 7)) (v_ 0) (hq:=(rB (F9 (aB 0) (bE fQ))))))))))))))⟩
def M8:=EK.1
def M9:=aS false EI M8
noncomputable abbrev CG:List Str:=["wishes","owns","order","line","things","told","rings","got","taken"]
noncomputable abbrev zU:List Str:=["wishes","owns","order"]
theorem nI:FnScope CG zU (aA (top 99)):=aY
abbrev UQ:FQ:=(dY (gv 3))
abbrev UP:FS:=(seqF (aN lX 6 (cP (aG (gv 0) (aG (gv 1) (aG (gv 3) (lI 4)))) [] M9)) (seqF (aN lX 7 (cP (lI 6) [] CO)) (seqF (aN lX 8 (f1 (gv 7) Bb)) (seqF (aN lX 3 (gG 1 [7] (df fV (gv 3)) (bX 0) (cN (f2 (gv 0) (gv 1) hV)) (gv 0))) (seqF (aN [.bw,.bw,.bw,.ow,.sh,.ow,.sh,.sh,.sh] 4 (gG 1 [8] (df fV (gv 4)) (bX 0) (cN (f2 (gv 0) (gv 1) hV)) (gv 0))) (seqF (dC "list" wJ 5 (lI 6) appD) aW))))))
def CJ:{B // ∀{P w K Z base} (T:Txt P w K Z),Callee P w K Z base "rounds" zU [] 7 false j6 (aS false CG B)}:=⟨_,fun T=>
 y7 (ds:=[]) (k:=6) (m':=[.bw,.bw,.bw,.sh,.sh,.sh,.sh,.sh,.sh]) T.bh nI rfl 3 rfl (fun _ _ _ _ _ _ _ us c=>by obtain⟨j,i,h,rfl⟩:=A7 us c;exact⟨_,rfl,rfl⟩) fun f e A Y s H g E b=>
 have U:=lB b;have a:=b.units
 (aL (bT 3 nI.nd (bR (zW.2 T) (aV (aB 0) (aK (aB 2)))))
   (aL (bT 4 nI.nd (SO.toE (y8 rfl `r T.g `r T.d (bK (bE (bR (qe.2 T) (aK (aB 0))))))))
   (aL (gH 5 nI.nd `r (fE rfl) (dL dh))
   (aL (rJ 64 z_ (gN (aB 3)) (zM (m':=[.bw,.bw,.bw,.sh,.ow,.ow,.sh,.sh,.sh]) 4 (zM (m':=wJ) 3 (aL (bT 6 nI.nd (bR (EK.2 T) (aV (aB 0) (aV (aB 1) (aV (aB 3) (aK (aB 4)))))))
   (aL (bT 7 nI.nd (bR (CI.2 T) (aK (aB 6))))
   (aL (bT 8 nI.nd (SO.toE (OU rfl `r T.g (aB 7))))
   (aL (sc1 3 ["hand","got"] [7] nI.nd (gu (aB 3)) (v_ 0) (hq:=(rB (xL U (aB 0) (aB 1)))))
   (aL (sc1 4 ["thing","taken"] [8] nI.nd (gu (aB 4)) (v_ 0) (hq:=(rB (xL U (aB 0) (aB 1)))))
   (aF (eG 5 rfl (cY rfl) (v_ 6)))))))) rfl) rfl))
   (aF (mW 5 rfl (aZ (v_ 5))))))))⟩
def JW:=CJ.1
def R3:=aS false CG JW
noncomputable abbrev Dw:List Str:=["wishes","owns","order","got","rings"]
theorem D5:FnScope Dw zU (aA (top 100)):=aY
abbrev VD:FS:=(seqF (dC "dict" [.bw,.bw,.bw,.ow,.sh] 3 (aG (cP (lI 4) [] CO) aE) updD) aW)
def Df:{B // ∀{P w K Y base} (T:Txt P w K Y),Callee P w K Y base "by_rings" zU [] 8 false j6 (aS false Dw B)}:=⟨_,fun T=>
 y7 (ds:=[]) (k:=7) (m':=[.bw,.bw,.bw,.ow,.sh]) T.bi D5 rfl 3 rfl (fun _ _ _ _ _ _ _ us c=>by obtain⟨i,h,e,rfl⟩:=A7 us c;exact⟨_,rfl,rfl⟩) fun f d A U s H g E a=>
 have b:=lB a;have Z:=a.units
 (aL (gH 3 D5.nd `r (fE rfl) nj)
   (aL (lA z_ rfl (sH (bR (CJ.2 T) (aV (aB 0) (aV (aB 1) (aK (aB 2)))))) (dD 4 D5.nd) (aF (sL 3 rfl PySem.F.plainAttrs_dict PySem.F.slot_dict_update PySem.F.type_dict_update T5 O8 `r (cY rfl) (dg (bR (CI.2 T) (aK (aB 4)))))))
   (ew (bR (Ep.2 T) (aK (aB 3))))))⟩
def Lm:=Df.1
def Dr:=aS false Dw Lm
noncomputable abbrev Dv:List Str:=["wishes","order","things","got","hand"]
theorem VP:FnScope Dv p6 (aA (top 93)):=aY
noncomputable def Lf:{B // ∀{P w K Y base} (T:Txt P w K Y),Callee P w K Y base "by_order" p6 [] 1 false bP (aS false Dv B)}:=⟨_,fun T=>
 y7 (ds:=[]) (k:=0) (m':=[.bw,.bw,.sh,.sh,.sh]) T.bj VP rfl 2 rfl (fun _ _ _ _ _ _ _ us c=>by obtain⟨h,e,rfl⟩:=oH us c;exact⟨_,rfl,rfl⟩) fun f d A U s H g E a=>
 have b:=lB a;have Z:=a.units
 nz⟩
noncomputable def UK:=Lf.1
def UN:=aS false Dv UK
noncomputable abbrev WB:List Str:=["wishes","dealing","hands","things","order","served"]
noncomputable abbrev WX:List Str:=["wishes","dealing"]
noncomputable def WC:{B // ∀{P w K U base} (T:Txt P w K U),Callee P w K U base "order_behind" WX [] 1 false bP (aS false WB B)}:=⟨_,fun T=>dj (m':=[.bw,.bw,.sh,.sh,.sh,.sh]) T.bk aY fun Z Y=>nz⟩ 
noncomputable abbrev LV:List Str:=["order"]
noncomputable def VH:{B // ∀{P w K U base} (T:Txt P w K U),Callee P w K U base "order_text" LV [] 1 false [Md.bw] (aS false LV B)}:=⟨_,fun T=>dj (m':=[Md.bw]) T.bl aY fun Z Y=>nz⟩ 
noncomputable abbrev Nj:List Str:=["one","other","rest"]
noncomputable abbrev Nt:List Str:=["one","other"]
theorem Az:FnScope Nj Nt (aA (top 63)):=aY
def W7:{B // ∀{P w K Y base} (T:Txt P w K Y),Callee P w K Y base "greatest_divisor" Nt [] 1 false gB (aS false Nj B)}:=⟨_,fun T=>dj (m':=jz) T.bm Az fun a Z=>have U:=a.units;(aL (rJ 1000 z_ (j5 U (aB 1) iB) (aL (bT 2 Az.nd (fW (aB 0) (aB 1))) (aL (bT 0 Az.nd (v_ 1)) (aF (bT 1 Az.nd (v_ 2)))))) (ew (Xz `r T.ac (bK (aB 0)))))⟩
noncomputable abbrev La:List Str:=["top","bottom","divisor"]
theorem D6:FnScope La Aj (aA (top 64)):=aY
def vE:{B // ∀{P w K Y base} (T:Txt P w K Y),Callee P w K Y base "fraction" Aj [] 2 false gB (aS false La B)}:=⟨_,fun T=>dj (m':=jz) T.bn D6 fun a Z=>have U:=a.units;(aL (bS (SW.toQ (gY (ly (gN (bE (bR (Dg.2 T) (aK (aB 0)))))) (gY (ly (gN (bE (bR (Dg.2 T) (aK (aB 1)))))) (mU (dM U (aB 1) iB))))) (aF IE) dI) (aL (bT 2 D6.nd (bR (W7.2 T) (bZ (v_ 0) (bV (v_ 1))))) (aL (bS (kR (aB 1) iB) (aF (bT 2 D6.nd (Bg (aB 2)))) dI) (ew (dw (aQ (ID (aB 0) (aB 2)) (dg (ID (aB 1) (aB 2)))))))))⟩
noncomputable abbrev oM:List Str:=["a","b"]
def GM:{B // ∀{P w K Y base} (T:Txt P w K Y),Callee P w K Y base "plus" oM [] 3 false bP (aS false oM B)}:=⟨_,fun T=>dj (m':=bP) T.bo aY fun Z U=>(ew (bR (vE.2 T) (bZ (du (bE (mC (xB U (aB 0) iB) (xB U (aB 1) iB))) (bE (mC (xB U (aB 1) iB) (xB U (aB 0) iB)))) (bV (mC (xB U (aB 0) iB) (xB U (aB 1) iB))))))⟩ 
def Ph:{B // ∀{P w K Y base} (T:Txt P w K Y),Callee P w K Y base "minus" oM [] 3 false bP (aS false oM B)}:=⟨_,fun T=>dj (m':=bP) T.bp aY fun Z U=>(ew (bR (vE.2 T) (bZ (xQ (bE (mC (xB U (aB 0) iB) (xB U (aB 1) iB))) (bE (mC (xB U (aB 1) iB) (xB U (aB 0) iB)))) (bV (mC (xB U (aB 0) iB) (xB U (aB 1) iB))))))⟩ 
def HM:{B // ∀{P w K Y base} (T:Txt P w K Y),Callee P w K Y base "times" oM [] 3 false bP (aS false oM B)}:=⟨_,fun T=>dj (m':=bP) T.bq aY fun Z U=>(ew (bR (vE.2 T) (bZ (mC (xB U (aB 0) iB) (xB U (aB 1) iB)) (bV (mC (xB U (aB 0) iB) (xB U (aB 1) iB))))))⟩ 
def YG:{B // ∀{P w K Y base} (T:Txt P w K Y),Callee P w K Y base "less" oM [] 1 false bP (aS false oM B)}:=⟨_,fun T=>dj (m':=bP) T.br aY fun Z U=>(ew (wD (bE (mC (xB U (aB 0) iB) (xB U (aB 1) iB))) (bE (mC (xB U (aB 1) iB) (xB U (aB 0) iB)))))⟩ 
noncomputable abbrev HE:List Str:=["shares","told","share"]
theorem zv:FnScope HE qb (aA (top 69)):=aY
def Pg:{B // ∀{P w K Y base} (T:Txt P w K Y),Callee P w K Y base "least" qb [] 2 false [Md.bw] (aS false HE B)}:=⟨_,fun T=>dj (m':=gb) T.bs zv fun Z U=>(aL (bT 1 zv.nd (fm U (aB 0) iB)) (aL (sZ z_ rfl (gu (aB 0)) (fun _=>(dD 2 zv.nd)) (fun _=>(aF (bS (gN (bE (bR (YG.2 T) (aV (aB 2) (aK (aB 1)))))) (aF (bT 1 zv.nd (v_ 2))) dI)))) (ew (v_ 1))))⟩
noncomputable abbrev vR:List Str:=["left","targets"]
theorem Nz:FnScope vR vR (aA (top 71)):=aY
def Ny:{B // ∀{P w K Y base} (T:Txt P w K Y),Callee P w K Y base "time_until_one_is_gone" vR [] 4 false bP (aS false vR B)}:=⟨_,fun T=>dj (m':=bP) T.bt Nz fun Z U=>(ew (bR (Pg.2 T) (aK (SO.toB (jK ["thing","left","targets"] [0,1] Nz.nd (gu (aB 1)) (bR (HM.2 T) (aV (xB U (aB 1) (aB 0)) (aK (bE (bR (vE.2 T) (bZ jE (bV (gI PySem.F.plainAttrs_list PySem.F.slot_list_count PySem.F.type_list_count KB KM (aB 2) (bK (aB 0)))))))))))))))⟩ 
def Xa:=Ny.1
def Xc:=aS false vR Xa
noncomputable abbrev DU:List Str:=["left","targets","span","after","thing","bites"]
noncomputable abbrev MR:List Str:=["left","targets","span"]
theorem Au:FnScope DU MR (aA (top 72)):=aY
def LY:{B // ∀{P w K Y base} (T:Txt P w K Y),Callee P w K Y base "left_after" MR [] 4 false [.sh,.bw,.bw] (aS false DU B)}:=⟨_,fun T=>dj (m':=[.sh,.bw,.bw,.sh,.sh,.sh]) T.bu Au fun Z U=>(aL (gH 3 Au.nd `r (fE rfl) nj) (aL (Hc z_ rfl (v_ 0) (fun _=>(dD 4 Au.nd)) (fun _=>(aL (bT 5 Au.nd (bR (vE.2 T) (bZ (gI PySem.F.plainAttrs_list PySem.F.slot_list_count PySem.F.type_list_count KB KM (aB 1) (bK (aB 4))) (bV jE)))) (aF (kA 3 U rfl `r (cY rfl) (aB 4) (bR (Ph.2 T) (aV (xB U (aB 0) (aB 4)) (aK (bE (bR (HM.2 T) (aV (aB 5) (aK (aB 2))))))))))))) (aF (mW 3 rfl (aZ (v_ 3))))))⟩
def Vv:=LY.1
def VB:=aS false DU Vv
noncomputable abbrev Ld:List Str:=["left","told","thing"]
noncomputable abbrev LR:List Str:=["left"]
theorem D7:FnScope Ld LR (aA (top 73)):=aY
abbrev LP:FS:=(seqF (fA lW (cN (f2 (f2 (gv 0) (gv 2) di) (fun _=>Res.ok (D.tup [D.int 0,D.int 1])) neD)) (seqF (putF lW 1 (gv 2) (f2 (gv 0) (gv 2) di)) aW) aW) aW)
def Lp:FS:=(seqF (aN jz 1 (fun _=>Res.ok (D.dic []))) (seqF (jR lW (df sV (gv 0)) (bX 2) LP) (seqF (retF lW (gv 1)) aW)))
def Dt:List D->Res D:=fun ds=>bQ true (Lp (cS Ld.length ds))
variable{P:o_}{w:F_}{K:W.Frag}{mg:Str->Option a_}{base:Heap}
theorem Vd(T:Txt P w K mg):Callee P w K mg base "not_gone" LR [] 1 true [Md.sh] Dt:=
 dj (m':=lW) T.bv D7 fun Z U=>have Y:=Z.units;(aL (gH 1 D7.nd `r (fE rfl) nj)
   (aL (Hc z_ rfl (v_ 0) (fun _=>(dD 2 D7.nd)) (fun _=>(aF (bS (j5 Y (xB U (aB 0) (aB 2)) (bE (za `r T.u))) (aF (kA 1 U rfl `r (cY rfl) (aB 2) (fm U (aB 0) (aB 2))))
   dI))))
   (aF (Ps 1 rfl `r (cY rfl)))))
noncomputable abbrev Lc:List Str:=["wishes","left","thing","told","targets","span","after"]
theorem nB:FnScope Lc iu (aA (top 74)):=aY
abbrev VF:FQ:=(dY (gv 1))
abbrev VE:FS:=(seqF (putF lV 1 (gv 2) (fun _=>Res.ok (D.tup [D.int 1,D.int 1]))) aW)
abbrev LO:FS:=(seqF (aN qo 4 (gG 1 [1] (df fV (gv 0)) (bX 0) (fun _=>Res.ok true) (cP (aG (gv 0) (lI 1)) [] z7))) (seqF (aN [.bw,.ow,.sh,.ow,.ow,.sh,.sh] 5 (cP (aG (gv 1) (lI 4)) [] Xc)) (seqF (aN [.bw,.sh,.sh,.ow,.ow,.sh,.sh] 6 (cP (aG (gv 1) (aG (gv 4) (lI 5))) [] VB)) (seqF (aN [.bw,.sh,.sh,.ow,.ow,.sh,.sh] 1 (wL (cP (lI 6) [] Dt))) (seqF (dC "list" qo 3 (aG (gq (aG (gv 4) (aG (gv 5) (aG (fC (aG (gG 1 [1] (df sV (gv 6)) (bX 0) (cN (f2 (gv 0) (gv 1) hV)) (gv 0)) aE) tupD) aE)))) aE) appD) aW)))))
def Lo:FS:=(seqF (aN [.bw,.sh,.sh,.sh,.sh,.sh,.sh] 1 (fun _=>Res.ok (D.dic []))) (seqF (jR lV (iX j0 (aG (cP (lI 0) [] uX) aE)) (bX 2) VE) (seqF (aN lV 3 (ja aE)) (seqF (jV qo VF LO 64) (seqF (retF lV (gv 3)) aW)))))
def Ds:List D->Res D:=fun ds=>bQ false (Lo (cS Lc.length ds))
theorem Vc(T:Txt P w K mg):Callee P w K mg base "meals_of" iu [] 5 false [Md.bw] Ds:=
 dj (m':=lV) T.bw nB fun Y U=>(aL (gH 1 nB.nd `r (fE rfl) nj)
   (aL (lA z_ rfl (o8 `r T.d (bK (bE (bR (qe.2 T) (aK (aB 0)))))) (dD 2 nB.nd) (aF (kA 1 U rfl `r (cY rfl) (aB 2) (za `r T.al))))
   (aL (gH 3 nB.nd `r (fE rfl) (dL dh))
   (aL (rJ 64 z_ (gN (aB 1)) (aL (sc1 4 ["row","left"] [1] nB.nd (gu (aB 0)) (bR (DN.2 T) (aV (aB 0) (aK (aB 1)))))
   (aL (bT 5 nB.nd (bR (Ny.2 T) (aV (aB 1) (aK (aB 4)))))
   (aL (mW 1 rfl (bT 6 nB.nd (bR (LY.2 T) (bZ (v_ 1) (aV (aB 4) (aK (aB 5)))))))
   (aL (gH 1 nB.nd `r (fE rfl) (QJ (dds:=[]) (Vd T) (Y.mono `d) (bV (v_ 6))))
   (aF (mW 4 rfl (eG 3 rfl (cY rfl) (dw (aQ (v_ 4) (aQ (v_ 5) (dg (jH `r T.c (bK (SO.toB (jK ["thing","left"] [1] nB.nd (Qo (v_ 6)) (v_ 0) (hq:=(rB (xL U (aB 0) (aB 1))))))))))))))))))))
   (aF (mW 3 rfl (aZ (v_ 3))))))))
noncomputable abbrev DH:List Str:=["wishes","hand","meals","shares","targets","span","gone","thing"]
noncomputable abbrev Ms:List Str:=["wishes","hand","meals"]
theorem rX:FnScope DH Ms (aA (top 75)):=aY
def LB:{B // ∀{P w K Y base} (T:Txt P w K Y),Callee P w K Y base "shares_of" Ms [] 4 false j6 (aS false DH B)}:=⟨_,fun T=>dj (m':=[.bw,.bw,.bw,.ow,.sh,.sh,.sh,.sh]) T.bx rX fun Z U=>(aL (gH 3 rX.nd `r (fE rfl) (mR (dL (dg (za `r T.u))) (bE (bR (qe.2 T) (aK (aB 0)))))) (aL (sY z_ rfl (yS (vT 2)) (kl rfl (fK (dD 4 rX.nd) (fK (dD 5 rX.nd) (fK (dD 6 rX.nd) kj)))) (aL (bT 7 rX.nd (fm U (aB 4) (aB 1))) (aF (kA 3 U rfl `r (cY rfl) (aB 7) (bR (GM.2 T) (aV (xB U (aB 3) (aB 7)) (aK (aB 5)))))))) (ew (jH `r T.c (bK (aB 3))))))⟩
def Vm:=LB.1
def Vt:=aS false DH Vm
noncomputable abbrev CC:List Str:=["meals","log","now","targets","span","gone"]
noncomputable abbrev K8:List Str:=["meals"]
theorem p0:FnScope CC K8 (aA (top 76)):=aY
def JI:{B // ∀{P w K U base} (T:Txt P w K U),Callee P w K U base "log_of" K8 [] 4 false [Md.bw] (aS false CC B)}:=⟨_,fun T=>dj (m':=[.bw,.sh,.sh,.sh,.sh,.sh]) T.bz p0 fun Z Y=>(aL (gH 1 p0.nd `r (fE rfl) (dL dh)) (aL (bT 2 p0.nd (za `r T.u)) (aL (sY z_ rfl (yS (vT 0)) (kl rfl (fK (dD 3 p0.nd) (fK (dD 4 p0.nd) (fK (dD 5 p0.nd) kj)))) (aL (bT 2 p0.nd (bR (GM.2 T) (aV (aB 2) (aK (aB 4))))) (aF (eG 1 rfl (cY rfl) (dw (aQ (v_ 2) (dg (v_ 5)))))))) (aF (mW 1 rfl (aZ (v_ 1)))))))⟩
def RW:=JI.1
def RZ:=aS false CC RW
def Lz:{B // ∀{P w K Y base} (T:Txt P w K Y),Callee P w K Y base "is_square" iu [] 2 false [Md.bw] (aS false iu B)}:=⟨_,fun T=>dj (m':=[Md.bw]) T.b0 aY fun b Z=>have U:=b.units;(ew (gA U (bE (bR (qe.2 T) (aK (aB 0)))) (bE (d8 `r T.a (bK (aB 0))))))⟩ 
def Vi:=Lz.1
def Vr:=aS false iu Vi
def Nx:{B // ∀{P w K U base} (T:Txt P w K U),CalleeX P w K U base "refuse_unless_square" iu [] 3 false [Md.bw] (aS false iu B)}:=⟨_,fun T=>fT (m':=[Md.bw]) T.b1 aY fun Z Y=>(aF (bS (ly (gN (bE (bR (Lz.2 T) (aK (aB 0)))))) (aF (rH rfl T.r.q.1 T.r.q.2.1 `r (dg aU))) dI))⟩
def W9:=Nx.1
def NA:=aS false iu W9
noncomputable abbrev Ke:List Str:=["wishes","meals","table"]
theorem zX:FnScope Ke iu (aA (top 77)):=aY
def Kl:FS:=(seqF (jP gb (gF (lI 0) [] NA)) (seqF (aN gb 1 (cP (lI 0) [] Ds)) (seqF (aN gb 2 (fC (aG (gG 1 [0,1] (iX j0 (aG (fC (lI 0) lenD) aE)) (bX 0) (fun _=>Res.ok true) (cP (aG (gv 1) (aG (gv 0) (lI 2))) [] Vt)) aE) tupD)) (seqF (retF gb (gq (aG (gv 2) (aG (cP (lI 1) [] RZ) aE)))) aW))))
def zB:List D->Res D:=fun ds=>bQ false (Kl (cS Ke.length ds))
theorem Uv(T:Txt P w K mg):CalleeX P w K mg base "eaten" iu [] 6 false [Md.bw] zB:=
 fT (m':=gb) T.b2 zX fun Y U=>(aL (jU (eM (Nx.2 T) (aK (aB 0))))
   (aL (bT 1 zX.nd (bR (Vc T) (aK (aB 0))))
   (aL (bT 2 zX.nd (jH `r T.c (bK (SO.toB (jK ["hand","wishes","meals"] [0,1] zX.nd (kg.toC (o8 `r T.d (bK (bE (d8 `r T.a (bK (aB 0))))))) (bR (LB.2 T) (aV (aB 1) (aV (aB 0) (aK (aB 2))))))))))
   (ew (dw (aQ (v_ 2) (dg (bR (JI.2 T) (aK (aB 1))))))))))
def Xd:{B // ∀{P w K U base} (T:Txt P w K U),CalleeX P w K U base "refuse_too_many_for_lots" iu [] 1 false [Md.bw] (aS false iu B)}:=⟨_,fun T=>fT (m':=[Md.bw]) T.b3 aY fun Z Y=>(aF (bS (jx (bE (d8 `r T.a (bK (aB 0)))) (bE (Cc `r T.ak))) (aF (rH rfl T.h.q.1 T.h.q.2.1 `r (dg aU))) dI))⟩
noncomputable abbrev HF:List Str:=["wishes","dealings"]
def HL:{B // ∀{P w K U base} (T:Txt P w K U),CalleeX P w K U base "lot" iu [] 2 false [Md.bw] (aS false HF B)}:=⟨_,fun T=>fT (m':=dB) T.b4 aY fun Z Y=>(aL (jU (eM (Xd.2 T) (aK (aB 0)))) nz)⟩
def Pc:=HL.1
def Pd:=aS false HF Pc
noncomputable abbrev EE:List Str:=["fits"]
def lL:{B // ∀{P w K U base} (T:Txt P w K U),CalleeX P w K U base "refuse_unless" EE [] 1 false [Md.bw] (aS false EE B)}:=⟨_,fun T=>fT (m':=[Md.bw]) T.b5 aY fun Z Y=>(aF (bS (ly (gN (aB 0))) (aF (rH rfl T.s.q.1 T.s.q.2.1 `r (dg aU))) dI))⟩
def EB:=lL.1
def pf:=aS false EE EB
noncomputable abbrev DX:List Str:=["line"]
def vL:{B // ∀{P w K U base} (T:Txt P w K U),CalleeX P w K U base "words_in" DX [] 2 false [Md.bw] (aS false DX B)}:=⟨_,fun T=>fT (m':=[Md.bw]) T.b6 aY fun Z Y=>(aL (jU (eM (lL.2 T) (aK (bE (sK "str" "str" rfl (B8 _) `r T.e `r T.f (aB 0)))))) (ew (gI PySem.F.plainAttrs_str PySem.F.slot_str_split PySem.F.type_str_split Ct CA (aB 0) (bK (bE aU)))))⟩
def Ag:=vL.1
def ko:=aS false DX Ag
def LC:{B // ∀{P w K U base} (T:Txt P w K U),CalleeX P w K U base "text_in" lu [] 2 false [Md.bw] (aS false lu B)}:=⟨_,fun T=>fT (m':=[Md.bw]) T.b7 aY fun Z Y=>(aL (jU (eM (lL.2 T) (aK (aB 0)))) (ew (@fw _ _ _ _ _ _ _ _ _ _ (aB 0) rfl rfl)))⟩
def Vn:=LC.1
def Vu:=aS false lu Vn
noncomputable abbrev Ec:List Str:=["word","signs"]
def ME:{B // ∀{P w K Z base} (T:Txt P w K Z),CalleeX P w K Z base "number_in" Ec [] 2 false bP (aS false Ec B)}:=⟨_,fun T=>fT (m':=bP) T.b8 aY fun b Y=>have U:=b.units;(aL (jU (eM (lL.2 T) (aK (bE (oB (gA U (bE (d8 `r T.a (bK (aB 0)))) iB) (oE (wE Y (aB 0) (aB 1)))))))) (ew (gI PySem.F.plainAttrs_str PySem.F.slot_str_index PySem.F.type_str_index B9 Ce (aB 1) (bK (aB 0)))))⟩
def V7:=ME.1
def vG:=aS false Ec V7
noncomputable abbrev ph:List Str:=["words","signs"]
theorem M6:FnScope ph ph (aA AC):=aY
def Wx:FS:=(seqF (jP gB (gF (aG (f2 (fC (lI 0) lenD) (fC (lI 1) lenD) eqD) aE) [] pf)) (seqF (retF gB (yQ 2 [] (l7 (gv 0) (gv 1)) (jb (eJ (bX 0) (eJ (bX 1) i7))) (fun _=>Res.ok true) (gF (aG (gv 0) (lI 1)) [] vG))) aW))
def nJ:List D->Res D:=fun ds=>bQ false (Wx (cS ph.length ds))
theorem Et(T:Txt P w K mg):CalleeX P w K mg base "numbers_in" ph [] 3 false gB nJ:=
 fT (m':=gB) T.b9 M6 @fun f Z A U s H g E c b=>have Y:=c.units;(aL (jU (eM (lL.2 T) (aK (bE (gA Y (bE (d8 `r T.a (bK (aB 0)))) (bE (d8 `r T.a (bK (aB 1)))))))))
   (ew (SO.toE (P6 (X:=(dm (jN P w) P w K mg base ph "numbers_in" (aA AC) f Z A U s H E)) rfl rfl (N':=["word","told"]) (nl:=2) (cap:=[]) M6.nd rfl (zD (osc:=(aA AC)) (ON:=ph) rfl rfl `r) (kg.toC (A4 `r T.t (v_ 0) (v_ 1))) (fun _ _ _ _ _ _=>(kl rfl (fK (dD 0 (show List.Nodup (["word","told"]:List Str)by decide+kernel)) (fK (dD 1 (show List.Nodup (["word","told"]:List Str)by decide+kernel)) kj)))) (GV (zJ (rn `d) (zJ (rn `d) JR))) (fun _ _ _ _ _ _=>yK) (fun _ _=>nofun) (fun _ _ _ _ _ _ _=>(eM (ME.2 T) (aV (aB 0) (aK (aB 1)))))))))
noncomputable abbrev Mw:List Str:=["words","signs","numbers"]
theorem M1:FnScope Mw ph (aA (top 85)):=aY
def Wl:FS:=(seqF (aN jz 2 (gF (aG (gv 0) (lI 1)) [] nJ)) (seqF (jP jz (gF (aG (f2 (f1 (gv 2) Gq) (fC (lI 2) lenD) eqD) aE) [] pf)) (seqF (retF jz (gv 2)) aW)))
def qa:List D->Res D:=fun ds=>bQ false (Wl (cS Mw.length ds))
theorem MW(T:Txt P w K mg):CalleeX P w K mg base "unlike_in" ph [] 4 false gB qa:=
 fT (m':=jz) T.ca M1 fun Z Y=>have U:=Z.units;(aL (bT 2 M1.nd (eM (Et T) (bZ (v_ 0) (bV (v_ 1)))))
   (aL (jU (eM (lL.2 T) (aK (bE (gA U (bE (Sn rfl `r T.a `r T.ad (aB 2))) (bE (d8 `r T.a (bK (aB 2)))))))))
   (ew (v_ 2))))
def VW:FS:=(seqF (retF [Md.bw] (oi (fun _=>Res.ok (D.str "0123456")) (fun _=>Res.ok none) (oK (fC (lI 0) lenD)))) aW)
def vI:List D->Res D:=fun ds=>bQ false (VW (cS iu.length ds))
theorem Ej(T:Txt P w K mg):Callee P w K mg base "figures_of" iu [] 1 false [Md.bw] vI:=dj (m':=[Md.bw]) T.cb aY fun Y U=>(ew (Bi (bE (pU `r T.aj)) oQ (oR (bE (d8 `r T.a (bK (aB 0)))))))
def Er:{B // ∀{P w K U base} (T:Txt P w K U),Callee P w K U base "letters_of" iu [] 2 false [Md.bw] (aS false iu B)}:=⟨_,fun T=>dj (m':=[Md.bw]) T.cc aY fun Z Y=>(ew (Bi (bE (pU `r T.i)) oQ (oR (bE (bR (qe.2 T) (aK (aB 0)))))))⟩ 
def Vw:=Er.1
def LL:=aS false iu Vw
noncomputable abbrev mJ:List Str:=["words","wishes"]
def Vh:FS:=(seqF (retF g6 (f2 (gF (aG (gv 0) (aG (ja (aG (cP (lI 1) [] vI) aE)) aE)) [] nJ) (ci 0) di)) aW)
def pe:List D->Res D:=fun ds=>bQ false (Vh (cS mJ.length ds))
theorem En(T:Txt P w K mg):CalleeX P w K mg base "hand_in" mJ [] 4 false g6 pe:=fT (m':=g6) T.cd aY fun Y U=>(ew (fm U (bE (eM (Et T) (bZ (v_ 0) (bV (SO.toE (dL (dg (bR (Ej T) (aK (aB 1)))))))))) iB))
def EN:{B // ∀{P w K U base} (T:Txt P w K U),CalleeX P w K U base "hand_and_thing_in" mJ [] 4 false g6 (aS false mJ B)}:=⟨_,fun T=>fT (m':=g6) T.ce aY fun Z Y=>(ew (eM (Et T) (bZ (v_ 0) (bV (SO.toE (dL (aQ (bR (Ej T) (aK (aB 1))) (dg (bR (Er.2 T) (aK (aB 1)))))))))))⟩ 
def Nv:=EN.1
def Nw:=aS false mJ Nv
def Vx:FS:=(seqF (retF g6 (gF (aG (gv 0) (aG (f2 (ja (aG (cP (lI 1) [] vI) aE)) (fC (lI 1) lenD) j4) aE)) [] qa)) aW)
def qf:List D->Res D:=fun ds=>bQ false (Vx (cS mJ.length ds))
theorem Mz(T:Txt P w K mg):CalleeX P w K mg base "order_in" mJ [] 5 false g6 qf:=fT (m':=g6) T.cf aY fun Y U=>(ew (eM (MW T) (bZ (v_ 0) (bV (SO.toE (mR (dL (dg (bR (Ej T) (aK (aB 1))))) (bE (d8 `r T.a (bK (aB 1))))))))))
def MU:{B // ∀{P w K U base} (T:Txt P w K U),CalleeX P w K U base "dealing_in" mJ [] 5 false g6 (aS false mJ B)}:=⟨_,fun T=>fT (m':=g6) T.cg aY fun Z Y=>(ew (jH `r T.c (bK (bE (eM (MW T) (bZ (v_ 0) (bV (SO.toE (mR (dL (dg (bR (Er.2 T) (aK (aB 1))))) (bE (d8 `r T.a (bK (aB 1)))))))))))))⟩ 
def Ww:=MU.1
def Wy:=aS false mJ Ww
noncomputable abbrev zC:List Str:=["self","wishes","owns","order"]
theorem UF:FnScope zC zC (aA pG):=aY
def Kc:FN:=(oh "wishes" (gv 1) (oh "owns" (gv 2) (oh "order" (gv 3) (fun _ ds=>Res.ok ds))))
def C4:xA:=fun ds=>Kc (none::(ds.map some++j_ (zC.length-(ds.length+1)) none)) []
theorem Dl(T:Txt P w K mg):CalleeN P w K mg base "Kept" "Kept" zC [] 1 jz C4:=by refine P0 (k:=0) (fn:=Kc) T.ch UF rfl (fun _ _ _ _ _ _ c e=>by obtain⟨n,m,l,i,rfl⟩:=Xi c e;kernel_rfl) fun C U f h A Y s H g E a=>?_;have d:=lB a;have Z:=a.units;exact(Bv (T.b "Kept" C rfl U).1 (T.b "Kept" C rfl U).2 rfl (cY rfl) (v_ 1) (Bv (T.j "Kept" C rfl U).1 (T.j "Kept" C rfl U).2 rfl (cY rfl) (v_ 2) (Bv (T.o "Kept" C rfl U).1 (T.o "Kept" C rfl U).2 rfl (cY rfl) (v_ 3) Xk)))
noncomputable abbrev EH:List Str:=["text","read"]
theorem Ng:FnScope EH As (aA (top 109)):=aY
def EJ:{B // ∀{P w K Y base} (T:Txt P w K Y),CalleeX P w K Y base "kept_of_text" As [] 8 false [Md.sh] (aS false EH B)}:=⟨_,fun T=>fT (m':=gB) T.ci Ng fun Z U=>(aL (bT 1 Ng.nd (eM (Eg.2 T) (bV (v_ 0)))) (ew (BI (dds:=[]) (Dl T) (Z.mono `d) (bZ (fm U (aB 1) iB) (bZ (fm U (aB 1) iB) (bV fQ))))))⟩
def WW:=EJ.1
def AA:=aS false EH WW
noncomputable abbrev fR:List Str:=["kept","words"]
def Ez:{B // ∀{P w K U base} (T:Txt P w K U),CalleeX P w K U base "after_rows" fR [] 9 false bP (aS false fR B)}:=⟨_,fun T=>fT (m':=bP) T.cj aY fun Z Y=>(ew (eM (EJ.2 T) (bV (eM (LC.2 T) (aK (aB 1))))))⟩ 
def MM:=Ez.1
def Ev:=aS false fR MM
noncomputable abbrev Db:List Str:=["kept","hand","own","owns"]
noncomputable abbrev LS:List Str:=["kept","hand","own"]
theorem Me:FnScope Db LS (aA (top 111)):=aY
def Dh:{B // ∀{P w K Z base} (T:Txt P w K Z),Callee P w K Z base "with_own" LS [] 3 false kS (aS false Db B)}:=⟨_,fun T=>dj (m':=[.bw,.bw,.sh,.ow]) T.ck Me fun a Y=>have U:=a.units;(aL (sc1 3 ["other","own"] [2] Me.nd (gu (bE (ip T.j (aB 0)))) (pB (dM U (aB 0) (aB 1)) fQ (v_ 0))) (aL (kA 3 Y rfl `r (cY rfl) (aB 1) (v_ 2)) (ew (BI (dds:=[]) (Dl T) (a.mono `d) (bZ (ip T.b (aB 0)) (bZ (jH `r T.c (bK (aB 3))) (bV (ip T.o (aB 0)))))))))⟩
def UM:=Dh.1
def K5:=aS false Db UM
noncomputable abbrev Eb:List Str:=["kept","words","numbers"]
theorem MY:FnScope Eb fR (aA (top 112)):=aY
def Ef:{B // ∀{P w K Y base} (T:Txt P w K Y),CalleeX P w K Y base "after_own" fR [] 5 false dB (aS false Eb B)}:=⟨_,fun T=>fT (m':=gb) T.cl MY fun Z U=>(aL (bT 2 MY.nd (eM (EN.2 T) (bZ (v_ 1) (aK (bE (ip T.b (aB 0))))))) (ew (bR (Dh.2 T) (aV (aB 0) (aV (xB U (aB 2) iB) (bV (fm U (aB 2) iB)))))))⟩
def Mf:=Ef.1
def Mh:=aS false Eb Mf
def Ey:{B // ∀{P w K U base} (T:Txt P w K U),CalleeX P w K U base "after_none" fR [] 5 false dB (aS false fR B)}:=⟨_,fun T=>fT (m':=dB) T.cm aY fun Z Y=>(ew (bR (Dh.2 T) (aV (aB 0) (aV (bE (eM (En T) (bZ (v_ 1) (aK (bE (ip T.b (aB 0))))))) (bV fQ)))))⟩ 
def ML:=Ey.1
def MO:=aS false fR ML
def Ao:FS:=(seqF (retF dB (qW "Kept" (aG (f1 (gv 0) (dQ jG "wishes")) (aG (f1 (gv 0) (dQ jG "owns")) (aG (gF (aG (gv 1) (aG (f1 (gv 0) (dQ jG "wishes")) aE)) [] qf) aE))) [] C4)) aW)
def Aq:List D->Res D:=fun ds=>bQ false (Ao (cS fR.length ds))
theorem WZ(T:Txt P w K mg):CalleeX P w K mg base "after_order" fR [] 6 false dB Aq:=fT (m':=dB) T.cn aY fun Y U=>(ew (BI (dds:=[]) (Dl T) (Y.mono `d) (bZ (ip T.b (aB 0)) (bZ (ip T.j (aB 0)) (bV (eM (Mz T) (bZ (v_ 1) (aK (bE (ip T.b (aB 0)))))))))))
def M7:FS:=(seqF (jP bP (gF (aG (f1 (gv 1) l0) aE) [] pf)) (fun _=>Out.stuck))
def EG:List D->Res D:=fun ds=>bQ false (M7 (cS fR.length ds))
theorem W5(T:Txt P w K mg):CalleeX P w K mg base "answer_rings" fR [] 2 false bP EG:=
 fT (m':=bP) T.co aY fun Y U=>(aL (jU (eM (lL.2 T) (aK (bE (BJ (aB 1))))))
   nz)
def MF:FS:=(seqF (jP bP (gF (aG (f1 (gv 1) l0) aE) [] pf)) (fun _=>Out.stuck))
def Es:List D->Res D:=fun ds=>bQ false (MF (cS fR.length ds))
theorem W0(T:Txt P w K mg):CalleeX P w K mg base "answer_asks" fR [] 2 false bP Es:=
 fT (m':=bP) T.cp aY fun Y U=>(aL (jU (eM (lL.2 T) (aK (bE (BJ (aB 1))))))
   nz)
def Ap:FS:=(seqF (jP bP (gF (aG (f1 (gv 1) l0) aE) [] pf)) (seqF (retF bP (cP (aG (cP (aG (f1 (gv 0) (dQ jG "wishes")) (aG (f1 (gv 0) (dQ jG "owns")) (aG (f1 (gv 0) (dQ jG "order")) aE))) [] Dr) aE) [] Ml)) aW))
def Ar:List D->Res D:=fun ds=>bQ false (Ap (cS fR.length ds))
theorem W1(T:Txt P w K mg):CalleeX P w K mg base "answer_deal" fR [] 9 false bP Ar:=
 fT (m':=bP) T.cq aY fun Y U=>(aL (jU (eM (lL.2 T) (aK (bE (BJ (aB 1))))))
   (ew (bR (Ei.2 T) (aK (bE (bR (Df.2 T) (aV (bE (ip T.b (aB 0))) (aV (bE (ip T.j (aB 0))) (aK (bE (ip T.o (aB 0))))))))))))
def V5:FS:=(seqF (retF dB (cP (aG (cP (aG (f1 (gv 0) (dQ jG "wishes")) (aG (gF (aG (gv 1) (aG (f1 (gv 0) (dQ jG "wishes")) aE)) [] qf) aE)) [] UN) aE) [] Ml)) aW)
def D9:List D->Res D:=fun ds=>bQ false (V5 (cS fR.length ds))
theorem WJ(T:Txt P w K mg):CalleeX P w K mg base "answer_by" fR [] 6 false dB D9:=fT (m':=dB) T.cr aY fun Y U=>(ew (bR (Ei.2 T) (aK (bE (bR (Lf.2 T) (aV (bE (ip T.b (aB 0))) (aK (bE (eM (Mz T) (bZ (v_ 1) (aK (bE (ip T.b (aB 0))))))))))))))
def MD:{B // ∀{P w K U base} (T:Txt P w K U),CalleeX P w K U base "answer_of" fR [] 6 false dB (aS false fR B)}:=⟨_,fun T=>fT (m':=dB) T.cs aY fun Z Y=>(ew (bR (VH.2 T) (aK (bE (bR (WC.2 T) (aV (bE (ip T.b (aB 0))) (aK (bE (eM (MU.2 T) (bZ (v_ 1) (aK (bE (ip T.b (aB 0))))))))))))))⟩ 
def V6:=MD.1
def Mi:=aS false fR V6
noncomputable abbrev Am:List Str:=["kept","words","hand"]
theorem M5:FnScope Am fR (aA (top 120)):=aY
def Wv:FS:=(seqF (aN gb 2 (gF (aG (gv 1) (aG (f1 (gv 0) (dQ jG "wishes")) aE)) [] pe)) (seqF (retF gb (cP (aG (f2 (gF (aG (f1 (gv 0) (dQ jG "wishes")) aE) [] Pd) (gv 2) di) aE) [] Mj)) aW))
def Ew:List D->Res D:=fun ds=>bQ false (Wv (cS Am.length ds))
theorem WQ(T:Txt P w K mg):CalleeX P w K mg base "answer_lot" fR [] 5 false dB Ew:=
 fT (m':=gb) T.ct M5 fun Y U=>(aL (bT 2 M5.nd (eM (En T) (bZ (v_ 1) (aK (bE (ip T.b (aB 0)))))))
   (ew (bR (Eh.2 T) (aK (xB U (bE (eM (HL.2 T) (aK (bE (ip T.b (aB 0)))))) (aB 2))))))
theorem M4:FnScope Am fR (aA (top 121)):=aY
def MN:FS:=(seqF (aN gb 2 (gF (aG (gv 1) (aG (f1 (gv 0) (dQ jG "wishes")) aE)) [] pe)) (seqF (retF gb (cP (aG (f2 (f2 (gF (aG (f1 (gv 0) (dQ jG "wishes")) aE) [] zB) (ci 0) di) (gv 2) di) aE) [] Mj)) aW))
def vN:List D->Res D:=fun ds=>bQ false (MN (cS Am.length ds))
theorem WP(T:Txt P w K mg):CalleeX P w K mg base "answer_eat" fR [] 7 false dB vN:=
 fT (m':=gb) T.cu M4 fun Y U=>(aL (bT 2 M4.nd (eM (En T) (bZ (v_ 1) (aK (bE (ip T.b (aB 0)))))))
   (ew (bR (Eh.2 T) (aK (xB U (xB U (bE (eM (Uv T) (aK (bE (ip T.b (aB 0)))))) iB) (aB 2))))))
noncomputable abbrev LI:List Str:=["_law_script","_law_k","_law_cell_here","_law_stirred"]
noncomputable abbrev Ax:List Str:=["_law_script","_law_k"]
theorem Ab:FnScope LI Ax (aA (top 126)):=aY
def KY:FS:=(seqF (aN gZ 2 (ci 0)) (seqF (fA gZ (cN (f2 (gv 1) (fC (lI 0) lenD) mL)) (seqF (aN gZ 2 (f2 (f2 (gv 0) (gv 1) di) (f2 (ci 10) (ci 60) j7) cQ)) aW) aW) (seqF (fA gZ (gM (cN (f2 (fC (lI 0) lenD) (ci 0) pq)) (cN (f2 (f2 (f2 (gv 0) (ci 0) di) (ci 2) cQ) (ci 0) eqD))) (seqF (retF gZ (gv 2)) aW) aW) (seqF (aN gZ 3 (f2 (f2 (f2 (f2 (f2 (f2 (f2 (gv 2) (f2 (f2 (ci 7) (gv 1) cV) (gv 1) cV) addA) (f2 (ci 13) (gv 1) cV) addA) (ci 5) addA) (ci 48271) cV) (ci 2147483647) cQ) (ci 69621) cV) (ci 1000000007) cQ)) (seqF (retF gZ (f2 (f2 (f2 (f2 (f2 (gv 3) (ci 1) addA) (ci 40692) cV) (ci 2147483629) cQ) (ci 39373) cV) (ci 999999937) cQ)) aW)))))
def zZ:List D->Res D:=fun ds=>bQ false (KY (cS LI.length ds))
theorem Em(T:Txt P w K mg):Callee P w K mg base "_law_cell" Ax [] 1 false bP zZ:=
 dj (m':=gZ) T.cv Ab fun Z Y=>have U:=Z.units;(aL (bT 2 Ab.nd jE)
   (aL (bS (kR (aB 1) (bE (d8 `r T.a (bK (aB 0))))) (aF (bT 2 Ab.nd (fW (xB Y (aB 0) (aB 1)) (bE (Gp iB iB)))))
   dI)
   (aL (bS (SW.toQ (sP (jx (bE (d8 `r T.a (bK (aB 0)))) iB) (tJ (dM U (bE (fW (xB Y (aB 0) iB) iB)) iB)))) (ew (v_ 2))
   dI)
   (aL (bT 3 Ab.nd (fW (bE (jF (bE (fW (bE (jF (bE (du (bE (du (bE (du (aB 2) (bE (jF (bE (jF iB (aB 1))) (aB 1))))) (bE (jF iB (aB 1))))) iB)) iB)) iB)) iB)) iB))
   (ew (fW (bE (jF (bE (fW (bE (jF (bE (du (aB 3) iB)) iB)) iB)) iB)) iB))))))
noncomputable abbrev DF:List Str:=["_law_script","_law_k","_law_cell_here","_law_wide_here","_law_turn","_law_place","_law_stirred"]
theorem p8:FnScope DF Ax (aA (top 127)):=aY
abbrev Wq:FS:=(seqF (aN nX 5 (f2 (f2 (f2 (f2 (ci 7919) (gv 4) cV) (gv 4) cV) (f2 (ci 13) (gv 1) cV) addA) (ci 5) addA)) (seqF (aN nX 6 (f2 (f2 (f2 (f2 (f2 (gv 2) (gv 5) addA) (ci 48271) cV) (ci 2147483647) cQ) (ci 69621) cV) (ci 1000000007) cQ)) (seqF (aN nX 3 (f2 (f2 (gv 3) (ci 999999937) cV) (f2 (f2 (f2 (f2 (f2 (gv 6) (ci 1) addA) (ci 40692) cV) (ci 2147483629) cQ) (ci 39373) cV) (ci 999999937) cQ) addA)) aW)))
def Ly:{B // ∀{P w K Z base} (T:Txt P w K Z),Callee P w K Z base "_law_wide" Ax [] 2 false bP (aS false DF B)}:=⟨_,fun T=>dj (m':=nX) T.cw p8 fun a Y=>have U:=a.units;(aL (bS (dM U (bE (fW (xB Y (aB 0) iB) iB)) iB) (ew (bR (Em T) (aV (aB 0) (aK (aB 1))))) dI) (aL (bT 2 p8.nd (fW (xB Y (aB 0) (aB 1)) (bE (Gp iB iB)))) (aL (bT 3 p8.nd jE) (aL (lA z_ rfl (o8 `r T.d (bK iB)) (dD 4 p8.nd) (aL (bT 5 p8.nd (du (bE (du (bE (jF (bE (jF iB (aB 4))) (aB 4))) (bE (jF iB (aB 1))))) iB)) (aL (bT 6 p8.nd (fW (bE (jF (bE (fW (bE (jF (bE (du (aB 2) (aB 5))) iB)) iB)) iB)) iB)) (aF (bT 3 p8.nd (du (bE (jF (aB 3) iB)) (bE (fW (bE (jF (bE (fW (bE (jF (bE (du (aB 6) iB)) iB)) iB)) iB)) iB)))))))) (ew (v_ 3))))))⟩
def K0:=Ly.1
def DA:=aS false DF K0
noncomputable abbrev K9:List Str:=["_law_cell_here","_law_m","_law_row_here","_law_thing"]
noncomputable abbrev LQ:List Str:=["_law_cell_here","_law_m"]
theorem z9:FnScope K9 LQ (aA (top 128)):=aY
abbrev LM:FS:=(seqF (dC "list" lU 2 (aG (f2 (gv 0) (f2 (gv 3) (ci 1) addA) cQ) (lI 3)) insD) (seqF (aN lU 0 (f2 (gv 0) (f2 (gv 3) (ci 1) addA) i0)) aW))
def UJ:FS:=(seqF (aN [.sh,.bw,.sh,.sh] 2 (ja aE)) (seqF (jR lU (iX j0 (lI 1)) (bX 3) LM) (seqF (retF lU (fC (lI 2) tupD)) aW)))
def zR:List D->Res D:=fun ds=>bQ false (UJ (cS K9.length ds))
theorem Lv(T:Txt P w K mg):Callee P w K mg base "_law_row" LQ [] 1 false g6 zR:=
 dj (m':=lU) T.cx z9 fun Y U=>(aL (gH 2 z9.nd `r (fE rfl) (dL dh))
   (aL (lA z_ rfl (o8 `r T.d (bK (aB 1))) (dD 3 z9.nd) (aL (sL 2 rfl PySem.F.plainAttrs_list PySem.F.slot_list_insert PySem.F.type_list_insert T4 O1 `r (cY rfl) (aQ (fW (aB 0) (bE (du (aB 3) iB))) (dg (v_ 3))))
   (aF (bT 0 z9.nd (kK (aB 0) (bE (du (aB 3) iB)))))))
   (ew (jH `r T.c (bK (aB 2))))))
noncomputable abbrev DD:List Str:=["_law_cell_here","_law_n","_law_m","_law_owns_here","_law_hand","_law_thing"]
noncomputable abbrev Ay:List Str:=["_law_cell_here","_law_n","_law_m"]
theorem vF:FnScope DD Ay (aA (top 129)):=aY
abbrev Mm:FS:=(seqF (aN jy 5 (f2 (gv 0) (f2 (gv 2) (ci 1) addA) cQ)) (seqF (aN jy 0 (f2 (gv 0) (f2 (gv 2) (ci 1) addA) i0)) (seqF (fA jy (kb (cN (f2 (gv 5) (gv 2) eqD)) (cN (f2 (gv 5) (gv 3) iV))) (seqF (dC "list" jy 3 (aG (fun _=>Res.ok D.non) aE) appD) aW) (seqF (dC "list" jy 3 (lI 5) appD) aW)) aW)))
def DK:{B // ∀{P w K Z base} (T:Txt P w K Z),Callee P w K Z base "_law_owns" Ay [] 1 false [.sh,.bw,.bw] (aS false DD B)}:=⟨_,fun T=>dj (m':=jy) T.cy vF fun a Y=>have U:=a.units;(aL (gH 3 vF.nd `r (fE rfl) (dL dh)) (aL (lA z_ rfl (o8 `r T.d (bK (aB 1))) (dD 4 vF.nd) (aL (bT 5 vF.nd (fW (aB 0) (bE (du (aB 2) iB)))) (aL (bT 0 vF.nd (kK (aB 0) (bE (du (aB 2) iB)))) (aF (bS (SW.toQ (gY (dM U (aB 5) (aB 2)) (mU (lS Y (aB 5) (aB 3))))) (aF (eG 3 rfl (cY rfl) fQ)) (aF (eG 3 rfl (cY rfl) (v_ 5)))))))) (ew (jH `r T.c (bK (aB 3))))))⟩
def KZ:=DK.1
def Vq:=aS false DD KZ
noncomputable abbrev DC:List Str:=["_law_row_here","_law_left","_law_thing"]
noncomputable abbrev Mo:List Str:=["_law_row_here","_law_left"]
theorem L3:FnScope DC Mo (aA (top 130)):=aY
abbrev Aw:FS:=(seqF (fA kS (cN (f2 (gv 2) (gv 1) iV)) (seqF (retF kS (gv 2)) aW) aW) aW)
def DJ:{B // ∀{P w K Y base} (T:Txt P w K Y),Callee P w K Y base "_law_best" Mo [] 1 false bP (aS false DC B)}:=⟨_,fun T=>dj (m':=kS) T.cz L3 fun Z U=>(aL (sZ z_ rfl (gu (aB 0)) (fun _=>(dD 2 L3.nd)) (fun _=>(aF (bS (lS U (aB 2) (aB 1)) (ew (v_ 2)) dI)))) (ew fQ))⟩
def Ve:=DJ.1
def Dy:=aS false DC Ve
noncomputable abbrev EF:List Str:=["_law_wishes","_law_owns_here","_law_order_here","_law_things","_law_line","_law_got","_law_here","_law_path","_law_thing","_law_hand"]
noncomputable abbrev Nr:List Str:=["_law_wishes","_law_owns_here","_law_order_here"]
theorem lq:FnScope EF Nr (aA (top 131)):=aY
abbrev EM:FQ:=(cN (f2 (gv 6) (gv 7) hV))
abbrev Nu:FQ:=(cN (f2 (fC (lI 4) lenD) (ci 0) pq))
abbrev Nm:FS:=(seqF (fA wI (cN (f2 (f2 (gv 1) (gv 9) di) (gv 8) eqD)) (seqF (aN wI 6 (gv 9)) aW) aW) aW)
abbrev Nn:FS:=(seqF (dC "list" gJ 7 (lI 6) appD) (seqF (aN gJ 8 (cP (aG (f2 (gv 0) (gv 6) di) (lI 3)) [] Dy)) (seqF (aN gJ 6 (f2 (gv 4) (ci 0) di)) (seqF (jR gJ (df fV (gv 4)) (bX 9) Nm) aW))))
abbrev No:FS:=(seqF (putF gJ 5 (gv 9) (cP (aG (f2 (gv 0) (gv 9) di) (lI 3)) [] Dy)) aW)
abbrev Np:FS:=(seqF (dC "list" gJ 4 (lI 9) remD) (seqF (dC "list" gJ 3 (aG (f2 (gv 5) (gv 9) di) aE) remD) aW))
abbrev W8:FS:=(seqF (aN nW 6 (f2 (gv 4) (ci 0) di)) (seqF (aN nW 7 (ja aE)) (seqF (jV gJ EM Nn 64) (seqF (jR gJ (df fV (ka (gv 7) (oK (fM "list" (gv 7) (lI 6) uF)) (fun _=>Res.ok none))) (bX 9) No) (seqF (jR gJ (df fV (ka (gv 7) (oK (fM "list" (gv 7) (lI 6) uF)) (fun _=>Res.ok none))) (bX 9) Np) aW)))))
def Nk:{B // ∀{P w K Z base} (T:Txt P w K Z),Callee P w K Z base "_law_rings_dealt" Nr [] 2 false j6 (aS false EF B)}:=⟨_,fun T=>dj (m':=nW) T.c0 lq fun b U=>have Y:=b.units;(aL (gH 3 lq.nd `r (fE rfl) (y8 rfl `r T.g `r T.d (bK (bE (d8 `r T.a (bK (xB U (aB 0) iB))))))) (aL (gH 4 lq.nd `r (fE rfl) (yE `r T.g (bK (aB 2)))) (aL (sc1 5 ["_law_hand"] [] lq.nd (gu (aB 4)) fQ) (aL (rJ 64 z_ (jx (bE (d8 `r T.a (bK (aB 4)))) iB) (zM (m':=gJ) 7 (aL (bT 6 lq.nd (fm U (aB 4) iB)) (aL (gH 7 lq.nd `r (fE rfl) (dL dh)) (aL (rJ 64 z_ (xL U (aB 6) (aB 7)) (aL (eG 7 rfl (cY rfl) (v_ 6)) (aL (bT 8 lq.nd (bR (DJ.2 T) (aV (xB U (aB 0) (aB 6)) (aK (aB 3))))) (aL (bT 6 lq.nd (fm U (aB 4) iB)) (aF (sZ z_ rfl (gu (aB 4)) (fun _=>(dD 9 lq.nd)) (fun _=>(aF (bS (dM Y (xB U (aB 1) (aB 9)) (aB 8)) (aF (bT 6 lq.nd (v_ 9))) dI))))))))) (aL (lA z_ rfl (sH (sM (aB 7) (oR (bE (gI PySem.F.plainAttrs_list PySem.F.slot_list_index PySem.F.type_list_index KF Kw (aB 7) (bK (aB 6))))) oQ)) (dD 9 lq.nd) (aF (kA 5 U rfl `r (cY rfl) (aB 9) (bR (DJ.2 T) (aV (xB U (aB 0) (aB 9)) (aK (aB 3))))))) (aF (lA z_ rfl (sH (sM (aB 7) (oR (bE (gI PySem.F.plainAttrs_list PySem.F.slot_list_index PySem.F.type_list_index KF Kw (aB 7) (bK (aB 6))))) oQ)) (dD 9 lq.nd) (aL (sL 4 rfl PySem.F.plainAttrs_list PySem.F.slot_list_remove PySem.F.type_list_remove KG G6 `r (cY rfl) (dg (v_ 9))) (aF (sL 3 rfl PySem.F.plainAttrs_list PySem.F.slot_list_remove PySem.F.type_list_remove KG G6 `r (cY rfl) (dg (fm U (aB 5) (aB 9)))))))))))) rfl)) (ew (jH `r T.c (bK (aB 5))))))))⟩
def W2:=Nk.1
def Nh:=aS false EF W2
noncomputable abbrev DE:List Str:=["_law_wishes","_law_owns_here","_law_parts","_law_row_here","_law_own","_law_words","_law_thing"]
noncomputable abbrev Mp:List Str:=["_law_wishes","_law_owns_here"]
theorem rW:FnScope DE Mp (aA (top 132)):=aY
abbrev Mn:FS:=(seqF (dC "list" nV 5 (aG (f2 (f2 (fun _=>Res.ok (D.str "ABCDEFGH")) (gv 6) di) (f2 (fun _=>Res.ok (D.str "*")) (fC (aG (f2 (gv 6) (gv 4) eqD) aE) xY) sN) addA) aE) appD) aW)
abbrev Wp:FS:=(seqF (aN [.sh,.sh,.ow,.sh,.sh,.sh,.sh] 5 (ja aE)) (seqF (jR nV (df fV (gv 3)) (bX 6) Mn) (seqF (dC "list" nV 2 (aG (fM "str" (fun _=>Res.ok (D.str " ")) (lI 5) oF) aE) appD) aW)))
def DM:{B // ∀{P w K Z base} (T:Txt P w K Z),Callee P w K Z base "_law_text" Mp [] 1 false gB (aS false DE B)}:=⟨_,fun T=>dj (m':=[.sh,.sh,.ow,.sh,.sh,.sh,.sh]) T.c1 rW fun a Y=>have U:=a.units;(aL (gH 2 rW.nd `r (fE rfl) (dL dh)) (aL (lA z_ rfl (A4 `r T.t (v_ 0) (v_ 1)) (kl rfl (fK (dD 3 rW.nd) (fK (dD 4 rW.nd) kj))) (zM (m':=nV) 5 (aL (gH 5 rW.nd `r (fE rfl) (dL dh)) (aL (lA z_ rfl (sH (v_ 3)) (dD 6 rW.nd) (aF (eG 5 rfl (cY rfl) (du (xB Y (bE aU) (aB 6)) (bE (BK (bE aU) (bE (PQ `r T.x (bK (bE (gA U (aB 6) (aB 4)))))))))))) (aF (eG 2 rfl (cY rfl) (@fw _ _ _ _ _ _ _ _ _ _ (aB 5) rfl rfl))))) rfl)) (ew (@fw _ _ _ _ _ _ _ _ _ _ (aB 2) rfl rfl))))⟩
def Vf:=DM.1
def Dz:=aS false DE Vf
noncomputable abbrev DT:List Str:=["_law_cell_here","_law_n","_law_m","_law_rows","_law_hand"]
noncomputable abbrev MQ:List Str:=["_law_cell_here"]
theorem qc:FnScope DT MQ (aA (top 133)):=aY
abbrev Wz:FS:=(seqF (dC "list" qm 3 (aG (cP (aG (f2 (gv 0) (ci 40320) cQ) (lI 2)) [] zR) aE) appD) (seqF (aN qm 0 (f2 (gv 0) (ci 40320) i0)) aW))
def LX:{B // ∀{P w K U base} (T:Txt P w K U),Callee P w K U base "_law_small" MQ [] 2 false [Md.bw] (aS false DT B)}:=⟨_,fun T=>dj (m':=qm) T.c2 qc fun Z Y=>(aL (bT 1 qc.nd (du iB (bE (fW (aB 0) iB)))) (aL (bT 2 qc.nd (du (aB 1) (bE (fW (bE (kK (aB 0) iB)) (bE (xQ iB (aB 1))))))) (aL (bT 0 qc.nd (kK (aB 0) iB)) (aL (gH 3 qc.nd `r (fE rfl) (dL dh)) (aL (lA z_ rfl (o8 `r T.d (bK (aB 1))) (dD 4 qc.nd) (aL (eG 3 rfl (cY rfl) (bR (Lv T) (bZ (fW (aB 0) iB) (aK (aB 2))))) (aF (bT 0 qc.nd (kK (aB 0) iB))))) (ew (dw (aQ (jH `r T.c (bK (aB 3))) (dg (bR (DK.2 T) (bZ (v_ 0) (aV (aB 1) (aK (aB 2))))))))))))))⟩
def VV:=LX.1
def Mc:=aS false DT VV
noncomputable abbrev Mu:List Str:=["_law_cell_here","_law_state","_law_wishes","_law_owns_here","_law_order_here","_law_n","_law_m","_law_way","_law_hand","_law_thing","_law_made","_law_row_here"]
noncomputable abbrev MJ:List Str:=["_law_cell_here","_law_state"]
theorem jI:FnScope Mu MJ (aA (top 134)):=aY
def D8:FS:=(seqF (jB iA (gv 1) (jb (eJ (bX 2) (eJ (bX 3) (eJ (bX 4) i7))))) (seqF (aN iA 5 (fC (lI 2) lenD)) (seqF (aN iA 6 (fC (aG (f2 (gv 2) (ci 0) di) aE) lenD)) (seqF (aN iA 7 (f2 (gv 0) (ci 5) cQ)) (seqF (aN iA 0 (f2 (gv 0) (ci 5) i0)) (seqF (fA f8 (kb (cN (f2 (gv 7) (ci 0) eqD)) (gM (cN (f2 (gv 7) (ci 4) eqD)) (cN (f2 (gv 5) (ci 1) eqD)))) (seqF (jB f8 (cP (lI 0) [] Mc) (jb (eJ (bX 2) (eJ (bX 3) i7)))) (seqF (retF f8 (gq (aG (f2 (fun _=>Res.ok (D.str "rows ")) (cP (aG (gv 2) (lI 3)) [] Dz) addA) (aG (gq (aG (gv 2) (aG (gv 3) (aG (fun _=>Res.ok D.non) aE)))) aE)))) aW)) aW) (seqF (aN f8 8 (f2 (gv 0) (gv 5) cQ)) (seqF (fA f8 (kb (cN (f2 (gv 7) (ci 1) eqD)) (cN (f2 (gv 7) (ci 4) eqD))) (seqF (aN f8 9 (f2 (f2 (gv 0) (gv 5) i0) (gv 6) cQ)) (seqF (aN f8 10 (gG 1 [9] (df fV (gv 3)) (bX 0) (fun _=>Res.ok true) (qy (cN (f2 (gv 0) (gv 1) eqD)) (fun _=>Res.ok D.non) (gv 0)))) (seqF (putF nU 10 (gv 8) (gv 9)) (seqF (retF nU (gq (aG (f2 (f2 (f2 (fun _=>Res.ok (D.str "own ")) (fC (lI 8) pD) addA) (fun _=>Res.ok (D.str " ")) addA) (f2 (fun _=>Res.ok (D.str "ABCDEFGH")) (gv 9) di) addA) (aG (gq (aG (gv 2) (aG (fC (lI 10) tupD) (lI 4)))) aE)))) aW)))) aW) (seqF (fA f8 (cN (f2 (gv 7) (ci 2) eqD)) (seqF (aN f8 10 (fC (lI 3) xS)) (seqF (putF nU 10 (gv 8) (fun _=>Res.ok D.non)) (seqF (retF nU (gq (aG (f2 (fun _=>Res.ok (D.str "none ")) (fC (lI 8) pD) addA) (aG (gq (aG (gv 2) (aG (fC (lI 10) tupD) (lI 4)))) aE)))) aW))) aW) (seqF (aN f8 11 (cP (aG (gv 0) (lI 5)) [] zR)) (seqF (retF f8 (gq (aG (fM "str" (fun _=>Res.ok (D.str " ")) (aG (f2 (ja (aG (fun _=>Res.ok (D.str "order")) aE)) (gG 1 [] (df fV (gv 11)) (bX 0) (fun _=>Res.ok true) (fC (lI 0) pD)) addA) aE) oF) (aG (gq (aG (gv 2) (aG (gv 3) (lI 11)))) aE)))) aW)))))))))))
def Av:List D->Res D:=fun ds=>bQ false (D8 (cS Mu.length ds))
theorem WI(T:Txt P w K mg):Callee P w K mg base "_law_change" MJ [] 3 false dB Av:=
 dj (m':=f8) T.c3 jI fun Z Y=>have U:=Z.units;(aL (xP (v_ 1) (kl rfl (fK (dD 2 jI.nd) (fK (dD 3 jI.nd) (fK (dD 4 jI.nd) kj)))))
   (aL (bT 5 jI.nd (d8 `r T.a (bK (aB 2))))
   (aL (bT 6 jI.nd (d8 `r T.a (bK (xB Y (aB 2) iB))))
   (aL (bT 7 jI.nd (fW (aB 0) iB))
   (aL (bT 0 jI.nd (kK (aB 0) iB))
   (aL (bS (SW.toQ (gY (dM U (aB 7) iB) (mU (SW.toQ (sP (dM U (aB 7) iB) (tJ (dM U (aB 5) iB))))))) (aL (xP (bR (LX.2 T) (aK (aB 0))) (kl rfl (fK (dD 2 jI.nd) (fK (dD 3 jI.nd) kj))))
   (ew (dw (aQ (du (bE aU) (bE (bR (DM.2 T) (bZ (v_ 2) (bV (v_ 3)))))) (dg (dw (aQ (v_ 2) (aQ (v_ 3) (dg fQ)))))))))
   dI)
   (aL (bT 8 jI.nd (fW (aB 0) (aB 5)))
   (aL (bS (SW.toQ (gY (dM U (aB 7) iB) (mU (dM U (aB 7) iB)))) (IH (m2:=f8) (aL (bT 9 jI.nd (fW (bE (kK (aB 0) (aB 5))) (aB 6)))
   (aL (sc1 10 ["_law_one","_law_thing"] [9] jI.nd (gu (aB 3)) (pB (dM U (aB 0) (aB 1)) fQ (v_ 0)))
   (aL (kA 10 Y rfl `r (cY rfl) (aB 8) (v_ 9))
   (ew (dw (aQ (du (bE (du (bE (du (bE aU) (bE (mD `r T.f (bK (aB 8)))))) (bE aU))) (xB Y (bE aU) (aB 9))) (dg (dw (aQ (v_ 2) (aQ (jH `r T.c (bK (aB 10))) (dg (v_ 4)))))))))))) (uP (uP (uP (Js HR)))) rfl)
   dI)
   (aL (bS (dM U (aB 7) iB) (IH (m2:=f8) (aL (gH 10 jI.nd `r (fE rfl) (yE `r T.g (bK (aB 3))))
   (aL (kA 10 Y rfl `r (cY rfl) (aB 8) fQ)
   (ew (dw (aQ (du (bE aU) (bE (mD `r T.f (bK (aB 8))))) (dg (dw (aQ (v_ 2) (aQ (jH `r T.c (bK (aB 10))) (dg (v_ 4))))))))))) (uP (uP (Js HR))) rfl)
   dI)
   (aL (bT 11 jI.nd (bR (Lv T) (bZ (v_ 0) (aK (aB 5)))))
   (ew (dw (aQ (@fw _ _ _ _ _ _ _ _ _ _ (bE (du (SO.toB (dL (dg aU))) (SO.toB (jK ["_law_one"] [] jI.nd (gu (aB 11)) (mD `r T.f (bK (aB 0))))))) rfl rfl) (dg (dw (aQ (v_ 2) (aQ (v_ 3) (dg (v_ 11)))))))))))))))))))
noncomputable abbrev DR:List Str:=["_law_state"]
def Eo:{B // ∀{P w K Y base} (T:Txt P w K Y),Callee P w K Y base "_law_order" DR [] 1 false [Md.bw] (aS false DR B)}:=⟨_,fun T=>dj (m':=[Md.bw]) T.c4 aY fun Z U=>(aL (bS (qk (xB U (aB 0) iB) (bE fQ)) (ew (SO.toE (y8 rfl `r T.g `r T.d (bK (bE (d8 `r T.a (bK (xB U (aB 0) iB)))))))) dI) (ew (SO.toE (yE `r T.g (bK (xB U (aB 0) iB))))))⟩
def L8:=Eo.1
def Mb:=aS false DR L8
noncomputable abbrev vO:List Str:=["_law_things"]
theorem M3:FnScope vO vO (aA (top 137)):=aY
def MT:{B // ∀{P w K Y base} (T:Txt P w K Y),Callee P w K Y base "_law_letters" vO [] 1 false [Md.bw] (aS false vO B)}:=⟨_,fun T=>dj (m':=[Md.bw]) T.c5 M3 fun Z U=>(ew (@fw _ _ _ _ _ _ _ _ _ _ (SO.toB (jK ["_law_thing"] [] M3.nd (gu (aB 0)) (fm U (bE aU) (aB 0)))) rfl rfl))⟩ 
def Wu:=MT.1
def Eu:=aS false vO Wu
noncomputable abbrev MS:List Str:=["_law_e","_law_kinds_here"]
noncomputable abbrev Na:List Str:=["_law_e"]
theorem M2:FnScope MS Na (aA (top 138)):=aY
abbrev ic(c:FQ)(s:Str)(v:FE)(k:FS):FS:=seqF (fA eO c (seqF (dC "list" eO 1 (aG (gq (aG (fun _=>.ok (.str s)) (aG v aE))) aE) appD) aW) aW) k
def MK:FS:=(seqF (aN dB 1 (ja aE)) (ic (dY (f1 (gv 0) (gL (vt ["NoLine"])))) "line" (fun _=>.ok .non) (ic (dY (f1 (gv 0) (gL (vt ["NoDeed"])))) "deed" (fun _=>.ok .non) (ic (dY (f1 (gv 0) (gL (vt ["NoText"])))) "text" (f1 (gv 0) (lM xZ "at")) (ic (dY (f1 (gv 0) (gL (vt ["NoRow"])))) "row" (f1 (gv 0) (lM uJ "hand")) (ic (dY (f1 (gv 0) (gL (vt ["NoOwn"])))) "own" (f1 (gv 0) (lM uJ "hand")) (ic (dY (f1 (gv 0) (gL (vt ["TooMany"])))) "many" (fun _=>.ok .non) (ic (dY (f1 (gv 0) (gL (vt ["NotSquare"])))) "square" (fun _=>.ok .non) (ic (iY (dY (f1 (gv 0) (gL (vt YW))))) "other" (fun _=>.ok .non) (seqF (retF dB (gv 1)) aW))))))))))
def vM:List D->Res D:=fun ds=>bQ false (MK (cS MS.length ds))
theorem WO(T:Txt P w K mg):CalleeH P w K mg base "_law_kinds" Na 1 [Md.bw] vM:=by
 refine PV (k:=0) (fs:=MK) (m':=dB) T.c8 M2 rfl (fun _ _ _ _ _ _ a c=>by obtain⟨i,rfl⟩:=xR a c;kernel_rfl) fun f d A U s H g E Z=>?_;have b:=Yu Z;have Y:=Z.units;exact(aL (gH 1 M2.nd `r (fE rfl) (dL dh))
   (aL (bS (gN (bE (pC T.s.q.2.2.1 T.s.q.2.2.2 `r `r T.e (aB 0)))) (aF (eG 1 rfl (cY rfl) (dw (aQ aU (dg fQ)))))
   dI)
   (aL (bS (gN (bE (pC T.v.q.2.2.1 T.v.q.2.2.2 `r `r T.e (aB 0)))) (aF (eG 1 rfl (cY rfl) (dw (aQ aU (dg fQ)))))
   dI)
   (aL (bS (gN (bE (pC T.l.q.2.2.1 T.l.q.2.2.2 `r `r T.e (aB 0)))) (aF (eG 1 rfl (cY rfl) (dw (aQ aU (dg (Bj T.c6 (aB 0)))))))
   dI)
   (aL (bS (gN (bE (pC T.q.q.2.2.1 T.q.q.2.2.2 `r `r T.e (aB 0)))) (aF (eG 1 rfl (cY rfl) (dw (aQ aU (dg (Bj T.y (aB 0)))))))
   dI)
   (aL (bS (gN (bE (pC T.k.q.2.2.1 T.k.q.2.2.2 `r `r T.e (aB 0)))) (aF (eG 1 rfl (cY rfl) (dw (aQ aU (dg (Bj T.y (aB 0)))))))
   dI)
   (aL (bS (gN (bE (pC T.h.q.2.2.1 T.h.q.2.2.2 `r `r T.e (aB 0)))) (aF (eG 1 rfl (cY rfl) (dw (aQ aU (dg fQ)))))
   dI)
   (aL (bS (gN (bE (pC T.r.q.2.2.1 T.r.q.2.2.2 `r `r T.e (aB 0)))) (aF (eG 1 rfl (cY rfl) (dw (aQ aU (dg fQ)))))
   dI)
   (aL (bS (ly (gN (bE (Pr (x := "ValueError") rfl T.ae T.c7 `r `r T.e (aB 0))))) (aF (eG 1 rfl (cY rfl) (dw (aQ aU (dg fQ)))))
   dI)
   (aF (mW 1 rfl (aZ (v_ 1)))))))))))))
noncomputable abbrev DS:List Str:=["_law_n","_law_m","_law_some"]
noncomputable abbrev MP:List Str:=["_law_n","_law_m"]
structure I0(X:Cx)(g:GE)(m:List Md)(e:Expr)(f:FE):Prop where
 e:SE X g m e f
structure L0(X:Cx)(g:GE)(m:List Md)(e:Expr)(f:FE):Prop where
 b:SB X g m e f
structure N3(X:Cx)(g:GE)(m:List Md)(e:List Expr)(f:aI->Res (List D)):Prop where
 q:SA X g m e f
theorem C0(h:I0 X g m a f):L0 X g m a f:=⟨bE h.e⟩
theorem q0:N3 X g m [] aE:=⟨dh⟩
theorem q4(i:I0 X g m e fa)(h:N3 X g m es fl)(f:!Sx X e es):N3 X g m (e::es) (aG fa fl):=⟨aQ i.e h.q f⟩
theorem qs{j}(h:N3 X g m es fl)(f:!Sx X (.Constant (.str i) j pos) es):N3 X g m (.Constant (.str i) j pos::es) (aG (fun _=>.ok (.str i)) fl):=q4 ⟨aU⟩ h f
theorem q5{j}(h:N3 X g m es fl):I0 X g m (.Tuple es j pos) (gq fl):=⟨dw h.q⟩
theorem q7{j}(u:N3 X g m us k)(h:N3 X g m es fl)(f:!Sx X (.Tuple us j pos) es):N3 X g m (.Tuple us j pos::es) (aG (gq k) fl):=q4 (q5 u) h f
theorem lh(h:N3 X g m es fl):I0 X g m (.List es pos) (ja fl):=⟨(dL h.q).toE⟩
theorem mu(a:L0 X g m e f)(b:L0 X g m i fl):I0 X g m (.BinOp e .Add i pos) (f2 f fl addA):=⟨du a.b b.b⟩
theorem m3(a:N3 X g m e f)(b:L0 X g m i fl):L0 X g m (.BinOp (.List e p) .Mult i pos) (f2 (ja f) fl j4):=⟨(mR (dL a.q) b.b).toB⟩
theorem m4{j}(h:L0 X g m a f)(e:B_ [a] X.env=[(false,eval a X.env)])(z:(q.endLine==r.line)=true):I0 X g m (.Call (.Attribute (.Constant (.str i) j p) "join" q) [a] [] r) (fM "str" (fun _=>.ok (.str i)) (aG f aE) oF):=⟨fw h.b e z⟩
theorem mK:FnScope DS MP (aA (top 140)):=aY
def LW:{B // ∀{P w K Y base} (T:Txt P w K Y),Callee P w K Y base "_law_plain" MP [] 1 false bP (aS false DS B)}:=⟨_,fun T=>dj (m':=kS) T.c9 mK fun Z U=>(aL (bT 2 mK.nd (@I0.e _ _ _ _ _ (lh (qs (qs (qs (qs (qs (qs (qs (qs (qs (qs (qs (qs q0))))))))))))))) (aL (bT 2 mK.nd (@I0.e _ _ _ _ _ (mu ⟨aB 2⟩ ((C0 (lh (qs (qs (qs (qs (qs (qs (q4 (mu ((C0 (mu ⟨bE aU⟩ ⟨bE (mD `r T.f (bK (aB 0)))⟩))) ⟨bE aU⟩) (qs q0)))))))))))))) (aL (bT 2 mK.nd (@I0.e _ _ _ _ _ (mu ⟨aB 2⟩ ((C0 (lh (qs (q4 (mu ⟨bE aU⟩ ⟨xB U (bE aU) (aB 1)⟩) (qs (qs (q4 (mu ⟨bE aU⟩ ⟨bE (mD `r T.f (bK (aB 0)))⟩) (qs (qs q0))))))))))))) (aL (bT 2 mK.nd (@I0.e _ _ _ _ _ (mu ⟨aB 2⟩ ((C0 (lh (qs (q4 (mu ⟨bE aU⟩ ⟨bE (mD `r T.f (bK (aB 0)))⟩) q0)))))))) (aL (bT 2 mK.nd (@I0.e _ _ _ _ _ (mu ⟨aB 2⟩ ((C0 (lh (qs (qs (q4 (mu ⟨bE aU⟩ ⟨bE (mD `r T.f (bK (aB 0)))⟩) (qs (qs (qs (q4 (mu ⟨bE aU⟩ ((C0 (m4 (m3 (qs q0) ((C0 (mu ⟨aB 0⟩ ⟨iB⟩)))) rfl rfl)))) q0))))))))))))) (aL (bT 2 mK.nd (@I0.e _ _ _ _ _ (mu ⟨aB 2⟩ ((C0 (lh (q4 (mu ⟨bE aU⟩ ((C0 (m4 ⟨SO.toB (jK ["_law_k"] [] mK.nd (kg.toC (o8 `r T.d (bK (bE (@du _ _ _ _ _ _ _ _ (aB 0) iB))))) (mD `r T.f (bK (aB 0))))⟩ rfl rfl)))) (q4 (mu ⟨bE aU⟩ ((C0 (m4 (m3 (qs q0) ((C0 (mu ⟨aB 0⟩ ⟨iB⟩)))) rfl rfl)))) q0)))))))) (aL (bT 2 mK.nd (@I0.e _ _ _ _ _ (mu ⟨aB 2⟩ ((C0 (lh (q4 (mu ((C0 (mu ⟨bE aU⟩ ⟨bE (mD `r T.f (bK (aB 0)))⟩))) ⟨bE (BK (bE aU) (bE (xQ (aB 0) iB)))⟩) (q4 (mu ((C0 (mu ⟨bE aU⟩ ⟨xB U (bE aU) (aB 1)⟩))) ⟨bE (BK (bE aU) (bE (xQ (aB 0) iB)))⟩) (qs (qs q0)))))))))) (aL (bS (jx (aB 0) iB) (aF (bT 2 mK.nd (@I0.e _ _ _ _ _ (mu ⟨aB 2⟩ ((C0 (lh (q4 (mu ⟨bE aU⟩ ((C0 (m4 (m3 (qs q0) ⟨aB 0⟩) rfl rfl)))) (q4 (mu ⟨bE aU⟩ ((C0 (m4 (m3 (qs q0) ⟨aB 0⟩) rfl rfl)))) (q4 (mu ⟨bE aU⟩ ((C0 (m4 (m3 (qs q0) ⟨aB 0⟩) rfl rfl)))) q0)))))))))) dI) (ew (v_ 2))))))))))⟩
def VU:=LW.1
def Vz:=aS false DS VU
noncomputable abbrev Du:List Str:=["_law_cell_here","_law_n","_law_m","_law_some"]
theorem rT:FnScope Du Ay (aA (top 141)):=aY
def De:{B // ∀{P w K Z base} (T:Txt P w K Z),Callee P w K Z base "_law_bad" Ay [] 2 false j6 (aS false Du B)}:=⟨_,fun T=>dj (m':=lY) T.da rT fun b Y=>have U:=b.units;(aL (bS (dM U (bE (fW (aB 0) iB)) iB) (aL (bT 3 rT.nd (@I0.e _ _ _ _ _ (lh (q7 (qs (q7 (qs (q4 ⟨jE⟩ q0)) q0)) (q7 (qs (q7 (qs (q4 ⟨jE⟩ q0)) q0)) (q7 (qs (q7 (qs (q4 ⟨jE⟩ q0)) q0)) q0)))))) (aL (bT 3 rT.nd (@I0.e _ _ _ _ _ (mu ⟨aB 3⟩ ((C0 (lh (q7 (qs (q7 (qs (q4 ⟨jE⟩ q0)) q0)) q0))))))) (aL (bT 3 rT.nd (@I0.e _ _ _ _ _ (mu ⟨aB 3⟩ ((C0 (lh (q7 (qs (q7 (qs (q4 ⟨fQ⟩ q0)) q0)) (q7 (qs (q7 (qs (q4 ⟨jE⟩ q0)) q0)) (q7 (qs (q7 (qs (q4 ⟨jE⟩ q0)) q0)) q0))))))))) (aL (bT 3 rT.nd (@I0.e _ _ _ _ _ (mu ⟨aB 3⟩ ((C0 (lh (q7 (qs (q7 (qs (q4 ⟨jE⟩ q0)) q0)) (q7 (qs (q7 (qs (q4 ⟨jE⟩ q0)) q0)) q0)))))))) (ew (@fm _ _ _ _ _ _ _ _ Y (aB 3) (bE (fW (bE (kK (aB 0) iB)) iB)) (by intro _ _;rfl))))))) dI) (aL (bS (SW.toQ (sP (dM U (bE (fW (aB 0) iB)) iB) (tJ (jx (aB 2) (aB 1))))) (ew (@I0.e _ _ _ _ _ (q5 (q4 (mu ⟨bE aU⟩ ⟨bE (mD `r T.f (bK (bE (fW (bE (kK (aB 0) iB)) (aB 1)))))⟩) (q7 (qs (q4 ⟨fQ⟩ q0)) q0))))) dI) (aL (bS (SW.toQ (sP (dM U (bE (fW (aB 0) iB)) iB) (tJ (dM U (bE (fW (bE (kK (aB 0) iB)) iB)) iB)))) (ew (@I0.e _ _ _ _ _ (q5 (q4 ⟨fm Y (@SO.toB _ _ _ _ _ (@dL _ _ _ _ _ _ (@aQ _ _ _ _ _ _ _ fQ (@aQ _ _ _ _ _ _ _ jE (@aQ _ _ _ _ _ _ _ lR (@aQ _ _ _ _ _ _ _ (@SO.toE _ _ _ _ _ (@dL _ _ _ _ _ _ (@aQ _ _ _ _ _ _ _ aU dh rfl))) (@aQ _ _ _ _ _ _ _ (@dw _ _ _ _ _ _ _ (@aQ _ _ _ _ _ _ _ aU dh rfl)) dh rfl) rfl) rfl) rfl) rfl))) (bE (fW (bE (kK (aB 0) iB)) iB)) (by intro _ _;rfl)⟩ (q7 (qs (q4 ⟨fQ⟩ q0)) q0))))) dI) (aL (bT 3 rT.nd (bR (LW.2 T) (aV (aB 1) (aK (aB 2))))) (ew (@I0.e _ _ _ _ _ (q5 (q4 ⟨fm Y (aB 3) (bE (fW (bE (kK (aB 0) iB)) (bE (d8 `r T.a (bK (aB 3)))))) (by intro _ _;rfl)⟩ (q7 (qs (q4 ⟨fQ⟩ q0)) q0)))))))))⟩
def Dp:=De.1
def K2:=aS false Du Dp
theorem _root_.DL.CalleeX.lent2{x:Str}{U:List Str}{k:Nat}{ro:Bool}{F:List D->Res D}(c:CalleeX P w K mg base x U [] k ro [.bw,.bw] F):CalleeX P w K mg base x U [] k ro [.bw,.sh] F:=by obtain⟨f,i,g,e,d,b⟩:=c.ex;refine⟨f,i,g,e,d,b.imp fun l H Q E ⟨G,j,h,Y,q⟩=>⟨G,j,h,?_,q⟩⟩;cases Y with
|bw a t=>cases t with
 |sh Z t=>cases t;exact .bw a (.bw Z.rb .nil)
abbrev nc:Stmt:=ze (top 124) 2
noncomputable abbrev li:List Str:=["self"]
theorem IF:FnScope li li (aA nc):=aY
noncomputable def GJ:dW:=bM qX (bM sR gU)
noncomputable def yL:kx:=fun z ds=>iC (GJ (cL li.length ds) z)
variable{C:Addr}
theorem Qb(T:Txt P w K mg)(U:XN K "Desk" C)(A:MethAt K "Desk" "undo" "Desk.undo" nc):CalleeT P w K mg base "undo" li 1 C [] yL:=by
 refine Jr (k:=0) (fs:=GJ) (m':=[Md.bw]) A U IF rfl (fun _ _ _ _ _ _ b d=>by obtain⟨i,rfl⟩:=xR b d;kernel_rfl) fun f h A Y s H g E l=>?_;have Z:=T.m "Desk" C rfl U;have a:=T.p "Desk" C rfl U;have c:Nb g [Md.bw] 0:=xW fun j e=>by rcases j with _|j <;> simp at e ⊢
 exact eF (Yg Z.1 a.2 rfl (cY rfl)) (eF (Yh c Z.1 Z.2 a.2 rfl (cY rfl)) jh)
def yY(w:DW):FS:=seqF (fA [Md.bw] (fun _=>.ok w.2.isEmpty) (seqF (nS [Md.bw] "NoDeed" (aG (fun _=>Res.ok (D.str "there is nothing left to undo")) aE)) aW) aW) (fun _=>Out.stuck)
def Cb:oy:=fun z ds=>bQ false (yY z (cL li.length ds))
theorem TU(T:Txt P w K mg)(c:XN K "Desk" C)(A:MethAt K "Desk" "undo" "Desk.undo" nc):CalleeTX P w K mg base "undo" li 1 C [] Cb:=by obtain⟨b,a,Y,U,Z,r⟩:=T.v;refine KA (k:=0) (fs:=yY) (m':=[Md.bw]) A c IF rfl (fun _ _ _ _ _ _ e j=>by obtain⟨o,rfl⟩:=xR e j;kernel_rfl) fun f n A d s H g z E q h=>?_;have l:=T.m "Desk" C rfl c;have i:=T.p "Desk" C rfl c;exact aL (bS (Ox h rfl l.1 i.2 rfl (cY rfl)) (aF (rH rfl Y U `r (dg aU))) dI) nz
abbrev mY:Stmt:=ze (top 124) 1
noncomputable abbrev Bt:List Str:=["self","line","words","first","changed"]
noncomputable abbrev pX:List Str:=["self","line"]
theorem oY:FnScope Bt pX (aA mY):=aY
noncomputable abbrev fY:List (Str×Str):=[("rings","answer_rings"),("asks","answer_asks"),("deal","answer_deal"),("by","answer_by"),("of","answer_of"),("lot","answer_lot"),("eat","answer_eat")]
noncomputable abbrev gz:List (Str×Str):=[("rows","after_rows"),("own","after_own"),("none","after_none"),("order","after_order")]
def rL:Str->Option (List D->Res D):=fun s=>if s = "rings" then some EG else if s = "asks" then some Es else if s = "deal" then some Ar else if s = "by" then some D9 else if s = "of" then some Mi else if s = "lot" then some Ew else if s = "eat" then some vN else none
def pW:Str->Option (List D->Res D):=fun s=>if s = "rows" then some Ev else if s = "own" then some Mh else if s = "none" then some MO else if s = "order" then some Aq else none
theorem P9(T:Txt P w K mg):∀s f,rL s=some f->∃n,fY.lookup s=some n/\CalleeX P w K mg base n fR [] 9 false dB f:=fun s f h=>by
 unfold rL at h;split at h
 .rename_i e;subst e;cases h;exact⟨_,rfl,(W5 T).lent2.up `d⟩
 split at h
 .rename_i e;subst e;cases h;exact⟨_,rfl,(W0 T).lent2.up `d⟩
 split at h
 .rename_i e;subst e;cases h;exact⟨_,rfl,(W1 T).lent2⟩
 split at h
 .rename_i e;subst e;cases h;exact⟨_,rfl,((WJ T)).up `d⟩
 split at h
 .rename_i e;subst e;cases h;exact⟨_,rfl,((MD.2 T)).up `d⟩
 split at h
 .rename_i e;subst e;cases h;exact⟨_,rfl,((WQ T)).up `d⟩
 split at h
 .rename_i e;subst e;cases h;exact⟨_,rfl,((WP T)).up `d⟩
 .cases h
theorem HW(T:Txt P w K mg):∀s f,pW s=some f->∃n,gz.lookup s=some n/\CalleeX P w K mg base n fR [] 9 false dB f:=fun s f h=>by
 unfold pW at h;split at h
 .rename_i e;subst e;cases h;exact⟨_,rfl,((Ez.2 T).lent2).up `d⟩
 split at h
 .rename_i e;subst e;cases h;exact⟨_,rfl,((Ef.2 T)).up `d⟩
 split at h
 .rename_i e;subst e;cases h;exact⟨_,rfl,((Ey.2 T)).up `d⟩
 split at h
 .rename_i e;subst e;cases h;exact⟨_,rfl,((WZ T)).up `d⟩
 .cases h
noncomputable abbrev iQ:List Md:=[.bw,.sh,.sh,.sh,.sh]
def t8:FS:=aN iQ 2 (gF (lI 1) [] ko)
def uA:FS:=aN iQ 3 (f2 (gv 2) (ci 0) di)
def A_tell(kd:D):aI->Res (List D):=aG (fun _=>.ok kd) (aG (ka (gv 2) (oK (ci 1)) (fun _=>Res.ok none)) aE)
def HG(kd:D):FS:=aN iQ 4 (sj pW (gv 3) (A_tell kd))
def HI:FS:=jP iQ (gF (aG (f2 (gv 2) (ja (aG (fun _=>Res.ok (D.str "undo")) aE)) eqD) aE) [] pf)
def yU:dW:=bM (cZ fun _=>t8)
 (bM (cZ fun _=>uA)
 (bM (l6 (fun _=>qw fY (gv 3)) (fun _ _=>.stuck) gU)
 (bM (l6 (fun _=>qw gz (gv 3))
  (bM (cZ HG) (bM AV (bM (wC fun _=>(gv 4)) gU)))
  (bM (cZ fun _=>HI) (bM (yO yL) gU)))
 (bM (cZ fun kd=>retF iQ (cP (aG (f1 (fun _=>.ok kd) (dQ jG "wishes")) (aG (f1 (fun _=>.ok kd) (dQ jG "owns")) aE)) [] DB)) gU))))
def kL:kx:=fun z ds=>iC (yU (cL Bt.length ds) z)
theorem Qa(T:Txt P w K mg)(e:XN K "Desk" C)(A:MethAt K "Desk" "tell" "Desk.tell" mY)(r:QAt P w K mg "QUESTIONS" fY)(o:QAt P w K mg "CHANGES" gz)(U:CalleeT P w K mg base "undo" li 1 C [] yL)(x:∀s f,pW s=some f->∃n,gz.lookup s=some n/\CalleeX P w K mg base n fR [] 9 false dB f):CalleeT P w K mg base "tell" pX 10 C [.sh] kL:=by
 refine Jr (k:=9) (fs:=yU) (m':=iQ) A e oY rfl (fun _ _ _ _ _ _ q u=>by obtain⟨B,z,rfl⟩:=oH q u;kernel_rfl) fun f y A h s H g E d=>?_;have l:=lB d;have c:=d.units;have Y:=T.m "Desk" C rfl e;have t:=T.p "Desk" C rfl e;have i:Nb g iQ 0:=xW fun j v=>by rcases j with _|_|_|_|_|j <;> simp[iQ]at v ⊢
 refine eF (iM (mb:=[]) (fun a Z k=>bT 2 oY.nd (eM (vL.2 T) (aK (aB 1)))) rfl) ?_;refine eF (iM (mb:=[]) (fun a Z k=>bT 3 oY.nd (fm l (aB 2) iB)) rfl) ?_;refine eF (om (fun a Z k=>xK r (v_ 3)) QO jh) ?_;refine eF (om (fun a Z k=>xK o (v_ 3)) (eF (iM (mb:=[]) (fun a Z k=>bT 4 oY.nd (Be o x d (v_ 3) (aV (bE (tf k rfl Y.1 Y.2 rfl (cY rfl))) (bV (sM (aB 2) (oR iB) oQ))))) rfl) (eF (XU i Y.1 Y.2 t.2 rfl (cY rfl)) (eF (XY i Y.1 Y.2 rfl (cY rfl) fun a Z k=>v_ 4) jh)))
  (eF (iM (mb:=[]) (fun a Z k=>jU (eM (lL.2 T) (aK (bE (gA c (aB 2) (SO.toB (dL (dg aU)))))))) rfl) (eF (QK U (d.mono `d) i rfl (cY rfl)) jh))) ?_
 exact eF (iM (mb:=[]) (fun a Z k=>aZ (bR (DP.2 T) (bZ (ip T.b (bE (tf k rfl Y.1 Y.2 rfl (cY rfl)))) (bV (ip T.j (bE (tf k rfl Y.1 Y.2 rfl (cY rfl)))))))) rfl) jh
def pO(w:DW):FS:=seqF t8
 (seqF uA
 (seqF (fA iQ (qw fY (gv 3)) (seqF (retF iQ (sj rL (gv 3) (A_tell w.1))) aW) aW)
 (seqF (fA iQ (qw gz (gv 3))
  (seqF (HG w.1) (fun _=>Out.stuck))
  (seqF HI (seqF (jP iQ (fun _=>Cb w [])) aW)))
 (fun _=>Out.stuck))))
def gW:oy:=fun z ds=>bQ false (pO z (cL Bt.length ds))
theorem TR(T:Txt P w K mg)(e:XN K "Desk" C)(A:MethAt K "Desk" "tell" "Desk.tell" mY)(i:QAt P w K mg "QUESTIONS" fY)(h:QAt P w K mg "CHANGES" gz)(U:CalleeTX P w K mg base "undo" li 1 C [] Cb)(p:∀s f,rL s=some f->∃n,fY.lookup s=some n/\CalleeX P w K mg base n fR [] 9 false dB f)(o:∀s f,pW s=some f->∃n,gz.lookup s=some n/\CalleeX P w K mg base n fR [] 9 false dB f):CalleeTX P w K mg base "tell" pX 10 C [.sh] gW:=by
 refine KA (k:=9) (fs:=pO) (m':=iQ) A e oY rfl (fun _ _ _ _ _ _ j l=>by obtain⟨t,r,rfl⟩:=oH j l;kernel_rfl) fun f q A b s H g z E Z c=>?_;have d:=lB Z;have Y:=Z.units;have a:=T.m "Desk" C rfl e;refine aL (bT 2 oY.nd (eM (vL.2 T) (aK (aB 1)))) ?_;refine aL (bT 3 oY.nd (fm d (aB 2) iB)) ?_;refine aL (bS (xK i (v_ 3)) (ew (Be i p Z (v_ 3) (aV (bE (tf c.kept rfl a.1 a.2 rfl (cY rfl))) (bV (sM (aB 2) (oR iB) oQ))))) dI) ?_;exact aL (bS (xK h (v_ 3)) (aL (bT 4 oY.nd (Be h o Z (v_ 3) (aV (bE (tf c.kept rfl a.1 a.2 rfl (cY rfl))) (bV (sM (aB 2) (oR iB) oQ))))) nz)
  (aL (jU (eM (lL.2 T) (aK (bE (gA Y (aB 2) (SO.toB (dL (dg aU)))))))) (aF (jU (T9 U (Z.mono `d) c rfl rfl (cY rfl)))))) nz
noncomputable abbrev LU:List Str:=["_law_desk","_law_line","_law_due","_law_heard_here"]
noncomputable abbrev Ex:List Str:=["_law_desk","_law_line","_law_due"]
theorem MA:FnScope LU Ex (aA (top 136)):=aY
noncomputable abbrev nv:List Md:=[.bw,.sh,.sh,.sh]
def Af:dW:=bM (GN 3 (fun _=>aG (gv 1) aE) kL) (bM (cZ fun _=>retF nv (jX (f1 (gv 3) (qv "str")) (f2 (gv 3) (gv 2) eqD))) gU)
def Ah:kx:=fun z ds=>iC (Af (cL LU.length ds) z)
theorem Wc(T:Txt P w K mg)(U:CalleeT P w K mg base "tell" pX 10 C [.sh] kL):CalleeO P w K mg base "_law_heard" Ex 11 C [.sh,.sh] Ah:=by
 refine PX (k:=10) (fs:=Af) (m':=nv) T.db MA rfl (fun _ _ _ _ _ _ b i=>by obtain⟨q,p,o,rfl⟩:=A7 b i;kernel_rfl) fun f n A Z s H g E a=>?_;have h:=lB a;have Y:=a.units;have c:Nb g nv 0:=xW fun j l=>by rcases j with _|_|_|_|j <;> simp[nv]at l ⊢
 refine eF (QM 3 U a `d c rfl (cY rfl) MA.nd rfl (fE rfl) fun m d k=>bZ (v_ 1) sG) ?_;exact eF (iM (mb:=[]) (fun m d k=>aZ (oB (sK "str" "str" rfl (B8 _) `r T.e `r T.f (aB 3)) (oE (gA Y (aB 3) (aB 2))))) rfl) jh
abbrev oS:Stmt:=ze (top 124) 0
theorem Ub:FnScope li li (aA oS):=aY
theorem TQ(T:Txt P w K mg)(Y:XN K "Desk" C)(i:∀b,XN K "Desk" b->b=C)(A:MakeAt K mg "Desk" "Desk" "Desk.__init__" oS)(h:AA [.str "A*"]=.ok Z):CalleeI P w K mg base "Desk" li 9 C Z:=by refine PZ (k:=8) A i Ub rfl (fun _ _ _ _ _ _ c e=>by obtain⟨l,rfl⟩:=xR c e;kernel_rfl) fun f j A U s H g E n=>?_;have a:=T.m "Desk" C rfl Y;have d:=T.p "Desk" C rfl Y;refine Yf a.1 a.2 d.2 rfl (cY rfl) (fun r=>⟨_,eM (EJ.2 T) (bV aU),?_⟩) (dL dh);show AA [.str "A*"]=_;exact h
noncomputable abbrev LJ:List Str:=["_law_desk","_law_line","_law_kinds_here","_law_e"]
noncomputable abbrev Ea:List Str:=["_law_desk","_law_line"]
theorem Ac:FnScope LJ Ea (aA (top 139)):=aY
def zY(w:DW):FS:=seqF (aN nv 2 (ja aE))
 (seqF (lP nv 3 p9 (seqF (jP nv (my w (lI 1) gW)) aW) (seqF (aN [.sh,.sh,.sh,.sh] 2 (cP (lI 3) [] vM)) aW))
 (seqF (retF [.sh,.sh,.sh,.sh] (gv 2)) aW))
def uW:oy:=fun z ds=>bQ false (zY z (cL LJ.length ds))
theorem Wa(T:Txt P w K mg)(j:CalleeTX P w K mg base "tell" pX 10 C [.sh] gW):CalleeOX P w K mg base "_law_said" Ea 11 C [.sh] uW:=by
 obtain⟨b,a,U,Z,Y⟩:=T.dd;refine Sy (k:=10) (fs:=zY) (m':=[.sh,.sh,.sh,.sh]) T.dc Ac rfl (fun _ _ _ _ _ _ e i=>by obtain⟨n,m,rfl⟩:=oH e i;kernel_rfl) fun f l A c s H g z E d h=>?_;exact aL (bT 2 Ac.nd (SO.toE (dL dh))) (aL (YO (bmT:=a) (m1:=nv) 3 rfl rfl rfl Z U.ob U.be Y `r Ac.nd `r `r `r (fun _ _=>aL (jU (Cy j d h.tr rfl rfl (cY rfl) (bV (v_ 1)))) dI)
  (fun _=>aL (bT 2 Ac.nd (Pj (WO T) (RoomH.held (d.mono `d)) (aK (aB 3)))) dI))
  (ew (v_ 2)))
abbrev yD:Stmt:=top 142
noncomputable abbrev NV:List Str:=["_law_script","_law_desk","_law_state","_law_ahead","_law_k","_law_cell_here","_law_line","_law_n","_law_m","_law_dealt","_law_due"]
noncomputable abbrev BW:List Str:=["_law_script"]
theorem jk:FnScope NV BW (aA yD):=aY
noncomputable abbrev i8:List Md:=[.sh,.bw,.sh,.sh,.sh,.sh,.sh,.sh,.sh,.sh,.sh]
def NX(i:Nat):FE:=cP (aG (f2 (fun r=>eh r i) (ci 0) di) (aG (f2 (fun r=>eh r i) (ci 1) di) aE)) [] Dz
def qZ(w:DW)(fe:FE):FE:=my w (aG fe aE) uW
def sA(s:Str):FE:=ja (aG (gq (aG (fun _=>Res.ok (D.str s)) (aG (fun _=>Res.ok D.non) aE))) aE)
def GL:dW:=bM (cZ fun _=>aN i8 3 (gv 2))
 (bM (cZ fun _=>aN i8 5 (cP (aG (gv 0) (lI 4)) [] zZ))
 (bM (l6 (fun _=>cN (f2 (gv 4) (fC (lI 0) lenD) mL)) (bM (cZ fun _=>aN i8 5 (cP (aG (gv 0) (lI 4)) [] DA)) gU) gU)
 (bM (l6 (fun _=>cN (f2 (gv 4) (ci 1) eqD)) (bM (cZ fun _=>aN i8 5 (f2 (f2 (gv 5) (ci 5) i0) (ci 5) cV)) gU) gU)
 (bM (cZ fun _=>jB i8 (cP (aG (gv 5) (lI 2)) [] Av) (jb (eJ (bX 6) (eJ (bX 2) i7))))
 (bM (sW (fun _=>aG (gv 6) aE) kL) gU)))))
def NW(w:DW):FQ:=kb (cN (f2 (qZ w (gv 6)) (ja (lI 10)) neD)) (kb (cN (f2 (qZ w (gv 6)) (ja (lI 10)) neD)) (cN (f2 (my w (aG (fun _=>Res.ok (D.str "deal")) aE) gW) (gv 9) neD)))
def yM:dW:=bM (cZ fun _=>jB i8 (cP (aG (cP (aG (gv 0) (lI 4)) [] zZ) (aG (gv 7) (lI 8))) [] K2) (jb (eJ (bX 6) (eJ (bX 10) i7))))
 (bM (wR NW (bM (cZ fun _=>retF i8 (fun _=>Res.ok (D.bl false))) gU) gU) gU)
def yT(kd:D):FS:=xE 1 kd
 (bM (wR (fun w=>cN (f2 (qZ w (fun _=>Res.ok (D.str "undo"))) (sA "deed") neD)) (bM (cZ fun _=>retF i8 (fun _=>Res.ok (D.bl false))) gU) gU)
 (bM (cZ fun _=>aN i8 2 (gq (aG (gq (aG (gq (aG (ci 0) aE)) aE)) (aG (gq (aG (ci 0) aE)) (aG (fun _=>Res.ok D.non) aE)))))
 (bM (cZ fun _=>aN i8 3 (gv 2))
 (bM (sF (iX kP (aG (ci 1) (aG (ci 5) aE))) 4 GL)
 (bM (cZ fun _=>aN i8 7 (fC (aG (f2 (gv 2) (ci 0) di) aE) lenD))
 (bM (cZ fun _=>aN i8 8 (fC (aG (f2 (f2 (gv 2) (ci 0) di) (ci 0) di) aE) lenD))
 (bM (cZ fun _=>aN i8 9 (cP (aG (cP (aG (f2 (gv 2) (ci 0) di) (aG (f2 (gv 2) (ci 1) di) (aG (cP (lI 2) [] Mb) aE))) [] Nh) aE) [] Eu))
 (bM (sF (iX kP (aG (ci 5) (aG (fC (aG (ci 6) (aG (fC (aG (fC (lI 0) lenD) (aG (ci 63) aE)) minD) aE)) maxD) aE))) 4 yM)
 (bM (yR (fun _=>aG (fun _=>Res.ok (D.str "undo")) (aG (NX 3) aE)) Ah)
 (bM (sW (fun _=>aG (f2 (fun _=>Res.ok (D.str "rows ")) (fM "str" (fun _=>Res.ok (D.str "; ")) (aG (f2 (ja (aG (fun _=>Res.ok (D.str "A B C D E F")) aE)) (ci 6) j4) aE) oF) addA) aE) kL)
 (bM (xN fun w=>jX (f2 (qZ w (fun _=>Res.ok (D.str "lot 3"))) (sA "many") eqD) (f2 (my w (aG (fun _=>Res.ok (D.str "eat 3")) aE) gW) (fun _=>Res.ok (D.str "1/6 1/6 1/6 1/6 1/6 1/6")) eqD)) gU)))))))))))
def GK(kd:D):List D->Res D:=fun ds=>bQ false (yT kd (cS NV.length ds))
theorem P8(T:Txt P w K mg)(A:Fun K "law" "law" yD n m)(Z:CalleeT P w K mg base "tell" pX 10 C [.sh] kL)(Y:CalleeTX P w K mg base "tell" pX 10 C [.sh] gW)(p:CalleeO P w K mg base "_law_heard" Ex 11 C [.sh,.sh] Ah)(U:CalleeOX P w K mg base "_law_said" Ea 11 C [.sh] uW)(r:CalleeI P w K mg base "Desk" li 9 C e):FnOk P w K mg base eN 12 n m BW (nQ K false [Md.sh] (GK e)):=by
 refine GT (k:=11) (fs:=yT e) (m':=i8) A jk rfl fun q A i s H g E h=>?_;have f:=lB h;have b:=h.units;have l:∀{g:GE},Nb g i8 1:=xW fun j o=>by rcases j with _|_|_|_|_|_|_|_|_|_|_|j <;> simp[i8]at o ⊢
 refine QS `d rfl r (h.mono `d) jk.nd rfl (fE rfl) ?_;refine eF (NH (fun c w k=>j5 b (bE (zu U h k rfl rfl (cY rfl) (bV aU))) (SO.toB (dL (dg (dw (aQ aU (dg fQ))))))) (eF (iM (mb:=[]) (fun c e k=>aZ lR) rfl) jh) jh) ?_;refine eF (iM (mb:=[]) (fun c e k=>bT 2 jk.nd (dw (aQ (dw (dg (dw (dg jE)))) (aQ (dw (dg jE)) (dg fQ))))) rfl) ?_;refine eF (iM (mb:=[]) (fun c e k=>bT 3 jk.nd (v_ 2)) rfl) ?_;refine eF (N4 4 z_ rfl (fun c=>JT `r T.d (rm iB (bK iB))) rfl jk.nd rfl (fE rfl) `d ?_) ?_
 .refine eF (iM (mb:=[]) (fun c e k=>bT 3 jk.nd (v_ 2)) rfl) ?_;refine eF (iM (mb:=[]) (fun c e k=>bT 5 jk.nd (bR (Em T) (aV (aB 0) (aK (aB 4))))) rfl) ?_;refine eF (om (fun c e k=>kR (aB 4) (bE (d8 `r T.a (bK (aB 0))))) (eF (iM (mb:=[]) (fun c e k=>bT 5 jk.nd (bR (Ly.2 T) (aV (aB 0) (aK (aB 4))))) rfl) jh) jh) ?_;refine eF (om (fun c e k=>dM b (aB 4) iB) (eF (iM (mb:=[]) (fun c e k=>bT 5 jk.nd (jF (bE (kK (aB 5) iB)) iB)) rfl) jh) jh) ?_;refine eF (iM (mb:=[]) (fun c e k=>xP (bR (WI T) (aV (aB 5) (bV (v_ 2)))) (kl rfl (fK (dD 6 jk.nd) (fK (dD 2 jk.nd) kj)))) rfl) ?_;exact eF (Hx Z (h.mono `d) l rfl (cY rfl) fun c e k=>bZ (v_ 6) sG) jh
 refine eF (iM (mb:=[]) (fun c e k=>bT 7 jk.nd (d8 `r T.a (bK (bE (fm f (aB 2) iB))))) rfl) ?_;refine eF (iM (mb:=[]) (fun c e k=>bT 8 jk.nd (d8 `r T.a (bK (bE (fm f (bE (fm f (aB 2) iB)) iB))))) rfl) ?_;refine eF (iM (mb:=[]) (fun c e k=>bT 9 jk.nd (bR (MT.2 T) (aK (bE (bR (Nk.2 T) (aV (bE (fm f (aB 2) iB)) (aV (bE (fm f (aB 2) iB)) (aK (bE (bR (Eo.2 T) (aK (aB 2)))))))))))) rfl) ?_;refine eF (N4 4 z_ rfl (fun c=>JT `r T.d (rm iB (bK (bE (YL rfl `r T.ag (rm iB (bK (bE (YM rfl `r T.af (rm (bE (d8 `r T.a (bK (aB 0)))) (bK iB))))))))))) rfl jk.nd rfl (fE rfl) `d ?_) ?_
 .refine eF (iM (mb:=[]) (fun c e k=>xP (bR (De.2 T) (aV (bE (bR (Em T) (aV (aB 0) (aK (aB 4))))) (aV (aB 7) (aK (aB 8))))) (kl rfl (fK (dD 6 jk.nd) (fK (dD 10 jk.nd) kj)))) rfl) ?_;refine eF (NH (fun c w k=>SW.toQ (gY (j5 b (bE (zu U h k rfl rfl (cY rfl) (bV (v_ 6)))) (SO.toB (dL (dg (v_ 10))))) (gY (j5 b (bE (zu U h k rfl rfl (cY rfl) (bV (v_ 6)))) (SO.toB (dL (dg (v_ 10))))) (mU (j5 b (bE (Cy Y (h.mono `d) k rfl rfl (cY rfl) (bV aU))) (aB 9)))))) (eF (iM (mb:=[]) (fun c e k=>aZ lR) rfl) jh) jh) jh
 refine eF (QN p h l rfl (cY rfl) fun c e k=>bZ aU (bV (bR (DM.2 T) (bZ (fm f (aB 3) iB) (bV (fm f (aB 3) iB)))))) ?_;refine eF (Hx Z (h.mono `d) l rfl (cY rfl) fun c e k=>bZ (du (bE aU) (bE (@fw _ _ _ _ _ _ _ _ _ _ (SO.toB (mR (dL (dg aU)) iB)) rfl rfl))) sG) ?_;exact eF (QQ fun c w k=>oB (gA b (bE (zu U h k rfl rfl (cY rfl) (bV aU))) (SO.toB (dL (dg (dw (aQ aU (dg fQ))))))) (oE (gA b (bE (Cy Y (h.mono `d) k rfl rfl (cY rfl) (bV aU))) (bE aU)))) jh
end Law
namespace Law
open PySem L2 DL
noncomputable abbrev nD(k:Nat):D:=.int (k:Int)
abbrev LN(l:List Nat):D:=.lst (l.map nD)
abbrev TN(l:List Nat):D:=.tup (l.map nD)
def oD:Option Nat->D
|none=>.non
|some k=>nD k
abbrev WD(rows:List (List Nat)):D:=.tup (rows.map TN)
abbrev OD(owns:List (Option Nat)):D:=.tup (owns.map oD)
theorem nP(h:ds.length<=1000):sz ds=some ds:=Q_d (U_ h `d)
@[simp] theorem addA_int(a b:Int):addA (.int a) (.int b)=some (.int (a+b)):=rfl
theorem HQ(h:kY a b):cV (.int a) (.int b)=some (.int (a*b)):=by rw[cV,intsC_int,Q_d h]
theorem P3(h:0<b):cQ (.int a) (.int b)=some (.int (a%b)):=by rw[cQ,intsC_int,Q_d h]
theorem JO(h:oz a b):i0 (.int a) (.int b)=some (.int (a/b)):=by rw[i0,intsC_int,Q_d h]
theorem bI(h:Y r=.nx r'):seqF Y U r=U r':=by unfold seqF;rw[h]
theorem gP(h:U r=.rt d):seqF U Y r=.rt d:=by unfold seqF;rw[h]
theorem jm(h:f r=.ok d):aN m i f r=.nx (r.set i (some d)):=by unfold aN;rw[h];rfl
theorem nq(h:f r=.ok d):retF m f r=.rt d:=by unfold retF;rw[h];rfl
theorem cR(h:f r=.ok d):seqF (retF m f) s r=.rt d:=gP (nq h)
theorem dA(h:f r=.ok d):seqF (aN m i f) s r=s (r.set i (some d)):=bI (jm h)
theorem sI(h:p r=.ok b):fA m p Y U r=if b=true then Y r else U r:=by unfold fA;rw[h];rfl
theorem dO(h:p r=.ok true):fA m p U Y r=U r:=by rw[sI h,Q_d rfl]
theorem de(h:p r=.ok false):fA m p Y U r=U r:=by rw[sI h,Q_e t_]
theorem re(h:p r=.ok true):qy p f f' r=f r:=by unfold qy;rw[h];rfl
theorem rc(h:p r=.ok false):qy p f f' r=f' r:=by unfold qy;rw[h];rfl
theorem im(h:U r=.ok ds)(Y:ds.length<=1000):gq U r=.ok (.tup ds):=by unfold gq;rw[h,bind_ok,nP Y];rfl
theorem i9(h:U r=.ok ds)(Y:ds.length<=1000):ja U r=.ok (.lst ds):=by unfold ja;rw[h,bind_ok,nP Y];rfl
theorem oZ(h:ds.length<=1000):appD (.lst ds) [d]=some (.lst (ds++[d])):=by show(if ds.length<sizeLine then some _ else none)=_;rw[Q_d (by rw[G_];omega)]
theorem cW(a:Y r=.ok U)(Z:F (U++dds)=.ok d):cP Y dds F r=.ok d:=by unfold cP;rw[a,bind_ok,Z];rfl
theorem fg(Y:f r=.ok a)(U:k a=some d):f1 f k r=.ok d:=by unfold f1;rw[Y,bind_ok,U];rfl
theorem aP(Z:f r=.ok a)(Y:f' r=.ok b)(U:k a b=some d):f2 f f' k r=.ok d:=by unfold f2;rw[Z,bind_ok,Y,bind_ok,U];rfl
theorem cU(Z:U r=.ok ds)(Y:k ds=some d):fC U k r=.ok d:=by unfold fC;rw[Z,bind_ok,Y];rfl
theorem aT(Z:f r=.ok d)(Y:U r=.ok ds):aG f U r=.ok (d::ds):=by unfold aG;rw[Z,bind_ok,Y];rfl
theorem gE:aE r=.ok []:=rfl
theorem aD(h:f r=.ok d):aG f aE r=.ok [d]:=aT h gE
theorem dX(h:f r=.ok (.bl b)):cN f r=.ok b:=by unfold cN;rw[h];rfl
theorem kM(h:f r=.ok d)(U:jY d=some b):dY f r=.ok b:=by unfold dY;rw[h,bind_ok,U];rfl
theorem nh(h:p r=.ok b):iY p r=.ok (not b):=by unfold iY;rw[h];rfl
theorem mZ(h:p r=.ok true):gM p q r=q r:=by unfold gM;rw[h];rfl
theorem sC(h:p r=.ok false):gM p q r=.ok false:=by unfold gM;rw[h];rfl
theorem qr(h:p r=.ok true):kb p q r=.ok true:=by unfold kb;rw[h];rfl
theorem gK(h:p r=.ok false):kb p q r=q r:=by unfold kb;rw[h];rfl
theorem pN(h:f r=.ok (.bl true)):jX f f' r=f' r:=by unfold jX;rw[h];rfl
theorem il(h:fi r=.ok ds):jR m fi ft b r=bN ft b ds r:=by unfold jR;rw[h];rfl
theorem iR(h:f r=.ok d)(U:fV d=some ds):df fV f r=.ok ds:=by unfold df;rw[h,bind_ok,U];rfl
theorem iJ:bN ft b [] r=.nx r:=`r
theorem ir(Y:ft d r=some r1)(U:b r1=.nx r'):bN ft b (d::ds) r=bN ft b ds r':=by
 conv=>lhs;unfold bN
 simp only[Y,U]
theorem Bs(Y:ft d r=some r1)(U:b r1=.rt v):bN ft b (d::ds) r=.rt v:=by
 conv=>lhs;unfold bN
 simp only[Y,U]
theorem Ci(h:p r=.ok false):jV m p b (n+1) r=.nx r:=by unfold jV;rw[h];rfl
theorem zg(h:p r=.ok true)(U:b r=.nx r'):jV m p b (n+1) r=jV m p b n r':=by
 conv=>lhs;unfold jV
 rw[h,onE_ok,Q_d rfl,U]
theorem lg(c:r[i]? = some (some d))(b:ES T d=true)(a:Y r=.ok ds)(Z:U d ds=some d'):dC T m i Y U r=.nx (r.set i (some d')):=by unfold dC;rw[c];simp only[b,Q_k,a,onE_ok,Z]
theorem mB(c:r[i]? = some (some d))(b:U r=.ok v)(a:Y r=.ok k)(Z:iw d k v=some d'):DL.putF m i Y U r=.nx (r.set i (some d')):=by unfold DL.putF;rw[b,onE_ok];simp only[c,a,onE_ok,Z]
theorem Pp(g:a r=.ok x)(f:Z r=.ok y)(e:k x y=some (.bl true))(c:Y r=.ok w)(b:U y w=some d):Br a Z Y k U r=.ok d:=by unfold Br;rw[g,bind_ok,f,bind_ok,e,opt_some,bind_ok];rw[c,bind_ok,b];rfl
theorem Tj:jO ft q fe U []=.ok []:=`r
theorem CZ{Y:Type}(e:Y->D)(U:Y->Bool)(g:Y->D):∀(l:List Y),(∀a∈l,∃r1,ft (e a) Z=some r1/\q r1=.ok (U a)/\(U a=true->fe r1=.ok (g a)))->jO ft q fe Z (l.map e)=.ok ((l.filter U).map g)
|[],_=>Tj
|a::l,h=>by
  obtain⟨r1,j,i,f⟩:=h a h_;have c:=CZ e U g l fun b d=>h b (i_ _ d);rw[í]
  conv=>lhs;unfold jO
  rw[j,opt_some,bind_ok,i,bind_ok];cases k:U a with
 |true=>rw[Q_d rfl,f k,bind_ok,c,bind_ok,Qde,Q_d k];rfl
 |false=>simp_all
theorem iq{Y:Type}{l:List Y}(e:Y->D)(U:Y->Bool)(g:Y->D)(b:fi r=.ok (l.map e))(Z:l.length<=1000)(h:∀a∈l,∃r1,ft (e a) (fB nl cap r)=some r1/\q r1=.ok (U a)/\(U a=true->fe r1=.ok (g a))):gG nl cap fi ft q fe r=.ok (.lst ((l.filter U).map g)):=by unfold gG;rw[b,bind_ok,nP (by simpa using Z),opt_some,bind_ok,CZ e U g l h,noXL_ok,bind_ok]
theorem Xh(k:Nat):Oc (.int 0) (nD k)=some (.bl true):=by show some (D.bl _)=_;rw[Q_c (š k)]
theorem pA(a b:Nat):mL (nD a) (nD b)=some (.bl (decide (a<b))):=by show some _=_;simp
theorem qS(a b:Nat):pq (nD a) (nD b)=some (.bl (decide (b<a))):=by show some _=_;simp
theorem ky(a b:Nat):eqD (nD a) (nD b)=some (.bl (decide (a=b))):=by
 unfold eqD;rw[eqB_int];show some _=_;have:((a)==(b:Int))=decide (a=b):=by rw[À,beq_iff_eq,Q_h];exact Qfl
 rw[this]
theorem d5{B:FS}(h:B (cS n ds)=.rt d):bQ false (B (cS n ds))=.ok d:=by rw[h];rfl
noncomputable abbrev kI(k:Nat):bO:=Sum.inl (k:Int)
theorem BE(U:List (Nat×D))(k:Nat):h9 (U.map fun p=>(kI p.1,p.2)) (kI k)=decide (k∈U.map (·.1)):=by
 unfold h9;rw[Ś,À,Ŵ,Q_h,w_]
 grind
theorem Jx(U:List (Nat×D))(k:Nat)(d:D)(h:k∉U.map (·.1)):g9 (U.map fun p=>(kI p.1,p.2)) (kI k) d=(U++[(k,d)]).map fun p=>(kI p.1,p.2):=by unfold g9;have e:((U.map fun p=>(kI p.1,p.2)).any fun Y=>decide _)=decide _:=BE U k;rw[e,Q_b h,Q_e t_,Ŀ];rfl
@[simp] theorem e_skip(r:aI):aW r=.nx r:=rfl
@[simp] theorem e_tupL(ds:List D):tupD [.lst ds]=some (.tup ds):=rfl
@[simp] theorem e_valsD(U:List (bO×D)):Bb (.dic U)=some (.lst (U.map (·.2))):=rfl
theorem km(h:ds[i]? = some d):di (.tup ds) (nD i)=some d:=by have U:=(g_.mp h).1;show jM ds _=some d;unfold jM j9;rw[Q_d (š i),Q_d `o];simpa using h
theorem m9(h:ds[i]? = some d):di (.lst ds) (nD i)=some d:=by have U:=(g_.mp h).1;show jM ds _=some d;unfold jM j9;rw[Q_d (š i),Q_d `o];simpa using h
@[simp] theorem ixA_L0(d:D)(ds:List D):di (.lst (d::ds)) (.int 0)=some d:=m9 rfl
@[simp] theorem ixA_T0(d:D)(ds:List D):di (.tup (d::ds)) (.int 0)=some d:=km rfl
theorem Gm(h:dP U (kI k)=some d):di (.dic U) (nD k)=some d:=h
theorem wV(l:List Nat)(k:Nat):(l.map nD).any (fun y=>jc y (nD k))=decide (k∈l):=by
 rw[Ś,À,Ŵ,Q_h];constructor
 .rintro⟨x,h1,h2⟩
  have:(((x))==(k:Int))=true:=h2
  grind
 .intro h;exact⟨k,h,by show(((k):Int)==(k))=true;simp⟩
theorem A0(l:List Nat):(l.map nD).all eI=true:=by rw[P_];intro x U;obtain⟨k,_,rfl⟩:=w_.mp U;rfl
theorem NO(l:List Nat)(k:Nat):iV (nD k) (LN l)=some (.bl (decide (k∈l))):=by show(if eI _=true/\(l.map nD).all eI=true then some _ else none).map D.bl=_;rw[Q_d ⟨rfl,A0 l⟩,wV];rfl
theorem Hn(l:List Nat)(k:Nat):hV (nD k) (LN l)=some (.bl (not (decide (k∈l)))):=by show(if eI _=true/\(l.map nD).all eI=true then some _ else none).map _=_;rw[Q_d ⟨rfl,A0 l⟩,wV];rfl
theorem L1(k b:Nat):zS [nD k,nD b]=.ok (.bl (decide (k<b))):=by
 refine io (n:=2) ?_
 dsimp only[Ln,zV]
 refine cR ?_;exact(pN (cW (aD (d:=nD k) rfl) ((fun k=>rfl) k))).trans (Pp rfl rfl (Xh k) rfl (pA k b))
theorem jW{U:Type}(f:U->D)(l:List U):lenD [.tup (l.map f)]=some (nD l.length):=by show some _=_;rw[p_]
theorem jq{U:Type}(f:U->D)(l:List U):lenD [.lst (l.map f)]=some (nD l.length):=by show some _=_;rw[p_]
theorem Jm{U:Type}(f:U->bO×D)(l:List U):lenD [.dic (l.map f)]=some (nD l.length):=by show some _=_;rw[p_]
theorem rO(n:Nat):eqD (nD n) (nD n)=some (.bl true):=by
 have e:=ky n n
 simp_all
theorem Hb(n:Nat):fZ 0 n=(x_ n).map nD:=by unfold fZ;simp_all
theorem Sv(j:Int):xU [.int j]=if-(2^62)<=j/\j<2^62/\j.toNat<=sizeLine then some (.lst (fZ 0 j.toNat))else none:=rfl
theorem yZ(h:n<=1000):xU [nD n]=some (LN (x_ n)):=by
 have U:(n:Int).toNat<=sizeLine:=by rw[ė,G_];omega
 rw[Sv,Q_d ⟨`o,`o,U⟩,ė,Hb]
theorem Q4(j:Int):j0 [.int j]=if-(2^62)<=j/\j<2^62 then some (fZ 0 j.toNat)else none:=rfl
theorem sX(h:n<=1000):j0 [nD n]=some ((x_ n).map nD):=by rw[Q4,Q_d ⟨`o,`o⟩,ė,Hb]
theorem pP(a:U r=.ok ds)(Z:k ds=some Y):iX k U r=.ok Y:=by unfold iX;rw[a,bind_ok,Z];rfl
theorem U8:∀(l:List Nat),l.find? p=(l.filter p).head?
|[]=>rfl
|a::l=>by simp_all
theorem AY(o:Option Nat)(x:Nat):eqD (oD o) (nD x)=some (.bl (decide (o=some x))):=by cases o with
|none=>unfold eqD oD;simp
|some k=>show eqD (nD k) _=_;rw[ky];simp
noncomputable def own(owns:List (Option Nat))(h:Nat):Option Nat:=(owns[h]?).join
theorem Hr(U:h<owns.length):(owns.map oD)[h]? = some (oD (own owns h)):=by
 unfold own
 simp_all
theorem Ll{rest:List (List Nat)}:uX [WD (U::rest)]=.ok (nD U.length):=by refine d5 ?_;exact cR (cU (aD (aP rfl rfl (ixA_T0 _ _))) (jW _ _))
theorem Sf(h:∃x∈Y,x∈U)(c:Y.length<=1000):z7 [TN Y,LN U]=.ok (nD (Rg.fO Y U)):=by
 refine d5 ?_;have Z:(gG 1 [1] (df fV (gv 0)) (bX 0) (cN (f2 (gv 0) (gv 1) iV)) (gv 0)) [some (TN Y),some (LN U)]=.ok (LN (Y.filter fun x=>decide (x∈U))):=by
  refine iq nD _ nD rfl c fun a _=>⟨_,rfl,?_,fun _=>rfl⟩
  exact dX (aP rfl rfl (NO _ _))
 have d:∃t,(Y.filter fun x=>decide (x∈U))=Rg.fO Y U::t:=by unfold Rg.fO;rw[U8];cases e:Y.filter fun x=>decide (x∈U)with
 |nil=>
   obtain⟨x,g,f⟩:=h;have:x∈Y.filter fun x=>decide _:=C_.mpr ⟨g,by simpa using f⟩
   simp_all
 |cons a t=>exact⟨t,rfl⟩
 obtain⟨t,b⟩:=d;rw[b]at Z;exact cR (aP Z rfl (ixA_L0 _ _))
abbrev iN(pre:List Nat):D:=.dic ((pre.map fun k=>(k,D.bl true)).map fun p=>(kI p.1,p.2))
theorem HD(b:Nat)(Y:D):∀(U c:List Nat)(x y:Option D),(c++U).Nodup->(∀k∈U,k<b)->(c++U).length<=1000 ->∃f e,bN (jb (eJ (bX 3) (eJ (bX 4) i7))) MI (fN c.length (U.map nD)) [some Y,some (nD b),some (iN c),x,y]=.nx [some Y,some (nD b),some (iN (c++U)),f,e]
|[],c,x,y,_,_,_=>⟨x,y,by rw[Ô];exact iJ⟩
|k::U,c,x,y,m,i,h=>by
  obtain⟨f,e,g⟩:=HD b Y U (c++[k]) (some (nD c.length)) (some (nD k)) (by simpa using m) (fun j n=>i j (i_ _ n)) (by simpa using h);refine⟨f,e,?_⟩;rw[show(c++[k]).length=c.length+1 by simp]at g;rw[show c++k::U=(c++[k])++U by simp,<-g];refine ir rfl ?_;have p:iV (nD k) (iN c)=some (.bl false):=by
   show(some (h9 _ (kI k))).map D.bl=_;rw[BE,N_]
   grind
  have o:iw (iN c) (nD k) (.bl true)=some (iN (c++[k])):=by show(if _ then some (D.dic (g9 _ (kI k) (.bl true)))else none)=_;rw[Q_d (by rw[p_,p_,G_];simp at h;omega),Jx _ _ _ `g];simp
  have q:decide (k<b)=true:=Q_c (i k h_);unfold MI;have Z:(kb (iY (dY (cP (aG (gv 4) (lI 1)) [] zS))) (cN (f2 (gv 4) (gv 2) iV))) [some Y,some (nD b),some (iN c),some (nD c.length),some (nD k)]=.ok false:=by have l:=L1 k b;rw[q]at l;rw[gK (nh (kM (b:=true) (cW (aT (d:=nD k) rfl (aD (d:=nD b) rfl)) l) rfl))];exact dX (aP (a:=nD k) (b:=iN c) rfl rfl p)
  refine(bI (sI Z)).trans ?_;exact bI (mB (d:=iN c) (k:=nD k) rfl rfl rfl o)
theorem IZ(U:l.Nodup)(Y:∀k∈l,k<n)(Z:l.length=n)(c:n<=1000):MH [LN l,nD n]=.ok (.bl true):=by
 refine io (n:=2) ?_
 dsimp only[MG,AB]
 subst Z;refine cR ?_;rw[pN (aP (a:=nD l.length) (b:=nD l.length) (cU (aD (d:=LN l) rfl) (jq _ _)) rfl (rO _))];exact cW (aT (d:=LN l) rfl (aD (d:=nD l.length) rfl)) ((fun U Y c=>by refine d5 ?_;exact cR (aP (cW (aT rfl (aD rfl)) ((fun U Y Z=>by obtain⟨f,e,h⟩:=HD _ _ _ [] none none U Y Z;refine d5 ?_;refine(bI ((il rfl).trans h)).trans ?_;exact cR (cU (aD rfl) (jq _ _))) U Y c)) (cU (aD rfl) (jq _ _)) (rO _))) U Y c)
theorem IA(owns:List (Option Nat))(U:List Nat)(x:Nat):∀(l:List Nat)(y:Option D),(∀h∈l,h<owns.length) ->(match l.find? (fun h=>decide (own owns h=some x))with
  |some h=>bN (bX 3) Ak (l.map nD) [some (OD owns),some (LN U),some (nD x),y]=.rt (nD h)
  |none=>∃Z,bN (bX 3) Ak (l.map nD) [some (OD owns),some (LN U),some (nD x),y]=.nx [some (OD owns),some (LN U),some (nD x),Z])
|[],y,_=>⟨y,iJ⟩
|h::l,y,Y=>by have c:(cN (f2 (f2 (gv 0) (gv 3) di) (gv 2) eqD)) [some _,some (LN U),some (nD x),some _]=.ok _:=dX (aP (aP rfl rfl (km (Hr (Y h h_)))) rfl (AY _ _));rw[Y_];cases e:decide (own owns h=some x)with
 |true=>rw[e]at c;refine Bs rfl ?_;exact gP ((dO c).trans (cR rfl))
 |false=>
   rw[e]at c;have d:=IA owns U x l (some (nD h)) fun k a=>Y k (i_ _ a);have b:bN (bX 3) Ak _ [some _,some _,some _,y]=bN _ Ak (l.map nD) [some _,some _,some _,some _]:=ir rfl ((bI (de c)).trans rfl)
   simp_all
theorem Ug(Y:∀h∈U,h<owns.length):VC [OD owns,LN U,nD x]=.ok (oD (U.find? fun h=>decide (own owns h=some x))):=by refine d5 ?_;have h:=IA owns U x U none Y;cases e:U.find? fun h=>decide (own owns h=some x)with
|some k=>rw[e]at h;exact gP ((il rfl).trans h)
|none=>rw[e]at h;obtain⟨Z,h⟩:=h;exact(bI ((il rfl).trans h)).trans (cR rfl)
theorem Ya(o:Option Nat):Fu (oD o) .non=some (.bl (decide (o=none))):=by cases o <;> rfl
theorem UD(Z:∀h∈Y,h<owns.length)(U:Y≠[]):EC [OD owns,LN Y,nD x]=.ok (nD ((Y.find? fun h=>decide (own owns h=some x)).getD (Y.headD 0))):=by refine d5 ?_;refine(dA (cW (aT rfl (aT rfl (aD rfl))) (Ug Z))).trans ?_;refine cR ?_;have c:=dX (aP (f:=gv 3) (f':=fun _=>Res.ok D.non) (r:=[some (OD owns),some (LN Y),some (nD x),some _]) rfl rfl (Ya (Y.find? fun h=>decide (own owns h=some x))));cases e:Y.find? fun h=>decide (own owns h=some x)with
|some k=>rw[e,Q_b `s]at c;exact(rc c).trans rfl
|none=>rw[e,Q_c rfl]at c;refine(re c).trans ?_;cases Y with
 |nil=>exact Q_f rfl U
 |cons a l=>exact aP rfl rfl (ixA_L0 _ _)
abbrev KD(kvs:List (Nat×Nat)):D:=.dic (kvs.map fun p=>(kI p.1,nD p.2))
noncomputable abbrev FD(l:List Nat)(f:Nat->Nat):List (Nat×Nat):=l.map fun h=>(h,f h)
theorem C1:∀{U:List (Nat×Nat)}{h:Nat}{f:Nat->Nat},(∀p∈U,p.2=f p.1)->h∈U.map (·.1)->dP (U.map fun p=>(kI p.1,nD p.2)) (kI h)=some (nD (f h))
|[],_,_,_,Y=>by cases Y
|p::U,h,f,Z,Y=>by
  by_cases e:p.1=h
  .have:=Z p h_;subst e;simp[dP,Y_,this]
  .have hh':h∈U.map (·.1):=`g
   have a:=C1 (fun q b=>Z q (i_ _ b)) hh';have c:dP ((p::U).map fun p=>(kI p.1,nD p.2)) (kI h)=dP (U.map fun p=>(kI p.1,nD p.2)) (kI h):=by
    simp only[dP,í]
    grind
   rw[c];exact a
theorem tR(Y:h∈l):di (KD (FD l f)) (nD h)=some (nD (f h)):=Gm (C1 (fun p U=>`g) `z)
noncomputable def putN(kvs:List (Nat×Nat))(k v:Nat):List (Nat×Nat):=if k∈kvs.map (·.1)then kvs.map fun p=>if p.1=k then(p.1,v)else p else kvs++[(k,v)]
theorem wS(U:List (Nat×Nat))(k:Nat):((U.map fun p=>(kI p.1,nD p.2)).any fun Y=>decide (Y.1=kI k))=decide (k∈U.map (·.1)):=by
 rw[Ś,À,Ŵ,Q_h,w_]
 grind
theorem GX(U:List (Nat×Nat))(k v:Nat):g9 (U.map fun p=>(kI p.1,nD p.2)) (kI k) (nD v)=(putN U k v).map fun p=>(kI p.1,nD p.2):=by
 unfold g9 putN;rw[wS];by_cases h:k∈U.map (·.1)
 .rw[Q_c h,Q_d rfl,Q_d h,N_,N_];refine œ fun p _=>?_
  grind
 simp_all
theorem Ue(U:List (Nat×Nat))(k v j:Nat):j∈(putN U k v).map (·.1)↔j∈U.map (·.1)\/j=k:=by
 unfold putN
 grind
theorem R9{f:Nat->Nat}(h:∀p∈U,p.2=f p.1)(Z:v=f k):∀p∈putN U k v,p.2=f p.1:=by
 intro p Y;unfold putN at Y
 grind
theorem BM(Y:U.length<=1000):iw (KD U) (nD k) (nD v)=some (KD (putN U k v)):=by show(if (U.map fun p=>(kI p.1,nD p.2)).length<sizeLine then some _ else none)=_;rw[Q_d (by rw[p_,G_];omega),GX]
structure GI(t:Nat->Nat)(kvs:List (Nat×Nat))(L:List Nat):Prop where
 nd:(kvs.map (·.1)).Nodup
 val:∀p∈kvs,p.2=t p.1
 key:∀h,h∈kvs.map (·.1)↔h∈L
theorem Rt(h:(U.map (·.1)).Nodup):((putN U k v).map (·.1)).Nodup:=by
 unfold putN
 grind
theorem GI.put(g:GI t U L)(k:Nat):GI t (putN U k (t k)) (L++[k]):=⟨Rt g.nd,R9 g.val rfl,fun h=>by rw[Ue,g.key];simp⟩
theorem GI.len{L U:List Nat}(g:GI t Y L)(Z:∀h∈L,h∈U):Y.length<=U.length:=by have:=Rg.p7 g.nd fun h a=>Z h ((g.key h).mp a);simpa using this
theorem GI.congr(g:GI t U L)(h:∀x∈L,t' x=t x):GI t' U L:=⟨g.nd,fun p Y=>by rw[g.val p Y,h p.1 ((g.key _).mp (w_.mpr ⟨p,Y,rfl⟩))],g.key⟩
theorem GI.mem(g:GI t U L)(h:∀x,x∈L↔x∈M):GI t U M:=⟨g.nd,g.val,fun x=>(g.key x).trans (h x)⟩
theorem jJ{U:Type}(l:List U):l.filter (fun _=>true)=l:=List.filter_eq_self.mpr fun _ _=>rfl
noncomputable def Wr(rows:List (List Nat))(h:Nat):List Nat:=(rows[h]?).getD []
theorem BN(U:h<rows.length):(rows.map TN)[h]? = some (TN (Wr rows h)):=by rw[K_];unfold Wr;rw[q_ U];rfl
theorem Jy(h:k∉U.map (·.1)):putN U k v=U++[(k,v)]:=by unfold putN;rw[Q_e h]
theorem WL(g:GI a U L)(h:∀x,x∈L↔x<n)(f:n<=60):VA [KD U]=.ok (TN ((x_ n).map a)):=by
 have Z:U.length=n:=by have e:=g.len fun x Y=>D_.mpr ((h x).mp Y);have c:=Rg.p7 ŗ fun x Y=>(g.key x).mpr ((h x).mpr (D_.mp Y));simp at e c;omega
 refine io (n:=1) ?_
 dsimp only[L9,Ep]
 refine cR (cU (aD (iq (l:=x_ n) nD (fun _=>true) (fun h=>nD (a h)) (pP (ds:=[nD n]) (aD (cU (aD (d:=KD U) rfl) (by rw[Jm,Z]))) (sX `o)) `z fun x Y=>⟨[some (nD x),some (KD U)],rfl,rfl,fun _=>aP (a:=KD U) (b:=nD x) rfl rfl (Gm (C1 g.val ((g.key x).mpr ((h x).mpr (D_.mp Y)))))⟩)) ?_);rw[jJ,e_tupL];show some (D.tup _)=some (D.tup _);rw[N_];rfl
abbrev mS(t:Nat->Nat)(h:Nat):D:=.tup [nD h,nD (t h)]
abbrev lz(t:Nat->Nat)(ring:List Nat):D:=.tup (ring.map (mS t))
def ng(t:Nat->Nat):Option (List Nat)->D
|some ring=>lz t ring
|none=>.non
section
variable{t f:Nat->Nat}{line:List Nat}{first:Nat}(hcl:∀h∈line,f h∈line)(hn:line.length<=60)
include hcl hn
theorem Q2:∀(j:Nat)(Z:List Nat)(a:Nat),a∈line->Z.length<=line.length->line.length<j+Z.length ->∃U Y,jV nY We Wt j [some (nD first),some (KD (FD line t)),some (KD (FD line f)),some (.lst (Z.map (mS t))),some (nD a)]=.nx [some (nD first),some (KD (FD line t)),some (KD (FD line f)),some (.lst (U.map (mS t))),some (nD Y)] /\∀k,line.length<k+Z.length->Rg.mw f line.length first k Z a=if Y=first then some U else none:=by
 intro j
 induction j with
|zero=>omega
|succ j g=>
  intro Z a e n m;have b:(cN (f2 (gv 4) (gv 0) pq)) [some (nD first),some (KD (FD line t)),some (KD (FD line f)),some (.lst (Z.map (mS t))),some (nD a)]=.ok _:=dX (aP rfl rfl (qS _ _));have d:(cN (f2 (fC (lI 3) lenD) (fC (lI 1) lenD) mL)) [some (nD first),some (KD (FD line t)),some (KD (FD line f)),some (.lst (Z.map (mS t))),some (nD a)]=.ok (decide (Z.length<line.length)):=by refine dX (aP (cU (aD rfl) (jq _ _)) (cU (aD rfl) ?_) (pA _ _));rw[Jm,p_]
  by_cases c:first<a/\Z.length<line.length
  .have cq:=by rw[Q_c c.1]at b;rw[Q_c c.2]at d;exact(mZ b).trans d
   obtain⟨U,Y,h,l⟩:=g (Z++[a]) _ (hcl a e) `z `z;refine⟨U,Y,?_,fun k i=>?_⟩
   .rw[zg cq ?_]
    .exact h
    .refine(bI (lg rfl rfl (aD (im (aT rfl (aD (aP rfl rfl (tR e)))) `s)) (oZ `g))).trans ?_;refine(dA (aP rfl rfl (tR e))).trans ?_;show Out.nx [_,_,_,some _,_]=_
     simp_all
   .cases k with
   |zero=>omega
   |succ k=>
     unfold Rg.mw
     grind
  .refine⟨Z,a,Ci ?_,fun k i=>?_⟩
   .by_cases hc1:first<a
    .rw[Q_c hc1]at b;rw[Q_b (fun z=>c ⟨hc1,z⟩)]at d;exact(mZ b).trans d
    .rw[Q_b hc1]at b;exact sC b
   .cases k with
   |zero=>omega
   |succ k=>unfold Rg.mw;rw[Q_e c]
theorem Si(a:first∈line):Vs [nD first,KD (FD line t),KD (FD line f)]=.ok (ng t (Rg.pv f line.length first)):=by
 refine d5 ?_;have Z:=ŏ a;obtain⟨Y,U,g,d⟩:=Q2 hcl hn 64 [first] _ (hcl first a) (by show 1<=_;assumption) `o;refine(dA (i9 (aD (im (aT rfl (aD (aP rfl rfl (tR a)))) `s)) `s)).trans ?_;refine(dA (aP rfl rfl (tR a))).trans ?_;refine(bI g).trans ?_;have b:Rg.pv f line.length first=if U=first then some Y else none:=d _ `o
 rw[b];have c:=dX (aP (f:=gv 4) (f':=gv 0) (r:=[some _,some (KD (FD line t)),some (KD (FD line f)),some (.lst (Y.map (mS t))),some _]) rfl rfl (ky U first));by_cases e:U=first
 .rw[Q_c e]at c;rw[Q_d e];exact cR ((re c).trans (cU (aD rfl) rfl))
 .rw[Q_b e]at c;rw[Q_e e];exact cR ((rc c).trans rfl)
end
structure Snd(rows:List (List Nat))(owns:List (Option Nat))(s:Rg.S):Prop where
 ok:Rg.Ok (Wr rows) (own owns) s
 inr:∀h∈s.line,h<rows.length
 ino:∀h∈s.line,h<owns.length
 wid:∀h∈s.line,(Wr rows h).length<=1000
 nl:s.line.length<=60
 nt:s.things.length<=60
variable{rows:List (List Nat)}{owns:List (Option Nat)}
section
variable{s:Rg.S}
theorem Snd.tg(S:Snd rows owns s)(U:h∈s.line):z7 [TN (Wr rows h),LN s.things]=.ok (nD (Rg.js (Wr rows) s h)):=Sf (S.ok.some_thing U) (S.wid h U)
theorem Snd.pts(S:Snd rows owns s)(U:h∈s.line):EC [OD owns,LN s.line,nD x]=.ok (nD (Rg.pt (own owns) s x)):=UD S.ino (Ò U)
abbrev tS(rows:List (List Nat))(s:Rg.S):Nat->Nat:=Rg.js (Wr rows) s
abbrev fS(rows:List (List Nat))(owns:List (Option Nat))(s:Rg.S):Nat->Nat:=Rg.eZ (Wr rows) (own owns) s
theorem IX(S:Snd rows owns s):∀(U Y:List Nat)(y:Option D),Y++U=s.line ->
  ∃c,bN (bX 6) W3 (U.map nD) [some (WD rows),some (OD owns),some (LN s.line),some (LN s.things),some (KD (FD Y (tS rows s))),some (KD (FD Y (fS rows owns s))),y,none]
   = .nx [some (WD rows),some (OD owns),some (LN s.line),some (LN s.things),some (KD (FD s.line (tS rows s))),some (KD (FD s.line (fS rows owns s))),c,none]
|[],Y,y,e=>⟨y,by rw[Ô]at e;rw[e];exact iJ⟩
|h::U,Y,y,e=>by
  obtain⟨c,i⟩:=IX S U (Y++[h]) (some (nD h)) (by simpa using e);have f:h∈s.line:=by rw[<-e];simp
  have g:=S.ok.nl;rw[<-e]at g;have m:h∉Y:=fun z=>(List.nodup_append.mp g).2.2 h z h h_ rfl;have Z:Y.length<=1000:=by
   have:=S.nl
   grind
  refine⟨c,?_⟩;rw[<-i];refine ir rfl ?_;have l:iw (KD (FD Y (tS rows s))) (nD h) (nD (tS rows s h))=some (KD (FD (Y++[h]) (tS rows s))):=by
   rw[BM (by simpa using Z),Jy `a]
   simp_all
  have j:iw (KD (FD Y (fS rows owns s))) (nD h) (nD (fS rows owns s h))=some (KD (FD (Y++[h]) (fS rows owns s))):=by
   rw[BM (by simpa using Z),Jy `a]
   simp_all
  refine(bI (mB (d:=KD (FD Y (tS rows s))) (k:=nD h) (v:=nD (tS rows s h)) rfl (cW (aT (aP (a:=WD rows) (b:=nD h) rfl rfl (km (BN (S.inr h f)))) (aD (d:=LN s.things) rfl)) (S.tg f)) rfl l)).trans ?_;refine(bI (mB (d:=KD (FD Y (fS rows owns s))) (k:=nD h) (v:=nD (fS rows owns s h)) rfl (cW (aT (d:=OD owns) rfl (aT (d:=LN s.line) rfl (aD (aP (a:=KD (FD (Y++[h]) (tS rows s))) (b:=nD h) rfl rfl (tR `s))))) (S.pts f)) rfl j)).trans ?_;rfl
theorem B3{U:Type}(t:Nat->Nat)(f:U->Option (List Nat)):∀(l:List U),(((l.map f).filter Qfm).map (ng t))=(l.filterMap f).map (lz t)
|[]=>rfl
|a::l=>by rw[í,Qde,Œ];cases e:f a with
 |none=>simpa using B3 t f l
 |some r=>simpa[ng]using B3 t f l
theorem Vb(t:Nat->Nat)(h:Nat):pL (mS t h)=some [(h:Int),(t h:Int)]:=rfl
theorem J3(t:Nat->Nat):∀(U:List Nat),pE (U.map (mS t))=some (U.map fun h:Nat=>[(h:Int),(t h:Int)])
|[]=>rfl
|h::U=>by show(pL _).bind _=_;rw[Vb,J3 t U];rfl
theorem KL(t:Nat->Nat):∀(Y:List (List Nat)),(∀r∈Y,r≠[])->∃U,pK (Y.map (lz t))=some U
|[],_=>⟨[],rfl⟩
|r::Y,h=>by obtain⟨U,e⟩:=KL t Y fun x Z=>h x (i_ _ Z);have b:=h r h_;cases r with
 |nil=>exact Q_f rfl b
 |cons a r=>refine⟨((a::r).map fun h:Nat=>[(h),(t h)])::U,?_⟩;show(pE ((a::r).map _)).bind _=_;rw[J3,e];rfl
theorem UZ(t:Nat->Nat)(Y:List (List Nat))(h:∀r∈Y,r≠[])(c:Y.length<64):∃U:List (List Nat),U.Perm Y/\Bl [.lst (Y.map (lz t))]=some (.lst (U.map (lz t))):=by
 obtain⟨Z,e⟩:=KL t Y h;refine⟨(mX (Y.map (lz t)).length fun i j=>iT (Z.getD i []) (Z.getD j [])).map fun i=>Y.getD i [],?_,?_⟩
 .have:=(C9 (Y.map (lz t)).length fun i j=>iT (Z.getD i []) (Z.getD j [])).map fun i=>Y.getD i [];refine this.trans ?_;rw[p_];have b:(x_ Y.length).map (fun i=>Y.getD i [])=Y:=by
   refine ų fun i=>?_
   grind
  rw[b]
 .show(pK _).bind _=_;rw[e];show(if _ then _ else _)=_;rw[Q_d `z];rw[N_];congr 2;refine œ fun i a=>?_;have a:=C7 a
  simp_all
theorem Td(t:Nat->Nat)(o:Option (List Nat)):n9 (ng t o) .non=some (.bl o.isSome):=by cases o <;> rfl
theorem Ui(S:Snd rows owns s):∃e:List (List Nat),e.Perm (Rg.kZ (Wr rows) (own owns) s)/\M9 [WD rows,OD owns,LN s.line,LN s.things]=.ok (.lst (e.map (lz (tS rows s)))):=by
 obtain⟨m,U⟩:=IX S s.line [] none rfl;have c:∀h∈s.line,fS rows owns s h∈s.line:=fun h Z=>Rg.pF (Ò Z);have f:(Rg.kZ (Wr rows) (own owns) s).length<=s.line.length:=List.length_filterMap_le _ _;obtain⟨Y,j,g⟩:=UZ (tS rows s) (Rg.kZ (Wr rows) (own owns) s) (by intro r i;obtain⟨x,_,k⟩:=Đ.mp i;exact Rg.IV k) (by have:=S.nl;omega);refine⟨Y,j,io (n:=8) ?_⟩
 dsimp only[M8,EK]
 refine(bI ((il (ds:=s.line.map nD) rfl).trans U)).trans ?_;refine(dA (iq (l:=s.line) nD (fun _=>true) (fun h=>ng (tS rows s) (Rg.pv (fS rows owns s) s.line.length h)) rfl (by have:=S.nl;omega) fun h Z=>⟨[some (nD h),some (KD (FD s.line (tS rows s))),some (KD (FD s.line (fS rows owns s)))],rfl,rfl,fun _=>cW (aT (d:=nD h) rfl (aT (d:=KD (FD s.line (tS rows s))) rfl (aD (d:=KD (FD s.line (fS rows owns s))) rfl))) (Si c S.nl Z)⟩)).trans ?_;rw[jJ];refine cR (cU (aD (iq (l:=s.line.map (Rg.pv (fS rows owns s) s.line.length)) (ng (tS rows s)) Qfm (ng (tS rows s)) ?_ (by have:=S.nl;simp;omega) fun o _=>⟨[some (ng (tS rows s) o)],rfl,dX (aP (a:=ng (tS rows s) o) (b:=.non) rfl rfl (Td _ _)),fun _=>rfl⟩)) ?_)
 .rw[N_];rfl
 .rw[B3];exact g
theorem NN{a:List Nat}(k:a.length<=60)(e d:D):∀(Y L:List Nat)(Z:List (Nat×Nat))(x y:Option D),GI t Z L->(∀h∈L++Y,h∈a) ->∃U c b,GI t U (L++Y)/\bN (jb (eJ (bX 3) (eJ (bX 4) i7))) K6 (Y.map (mS t)) [some e,some (KD Z),some d,x,y]=.nx [some e,some (KD U),some d,c,b]
|[],L,Z,x,y,g,f=>⟨Z,x,y,`a,iJ⟩
|h::Y,L,Z,x,y,g,f=>by obtain⟨U,c,b,l,i⟩:=NN k e d Y _ _ _ _ (g.put h) (by simpa using f);refine⟨U,c,b,by simpa using l,?_⟩;rw[<-i];have m:=g.len fun x j=>f x (Qcs _ j);exact ir rfl (bI (mB rfl rfl rfl (BM `o)))
theorem GW{a:List Nat}(j:a.length<=60)(c:D):∀(b:List (List Nat))(L:List Nat)(Z:List (Nat×Nat))(z x y:Option D),GI t Z L->(∀h∈L++b.flatten,h∈a) ->∃U d f e,GI t U (L++b.flatten)/\bN (bX 2) UO (b.map (lz t)) [some c,some (KD Z),z,x,y]=.nx [some c,some (KD U),d,f,e]
|[],L,Z,z,x,y,g,i=>⟨Z,z,x,y,by simpa using g,iJ⟩
|r::b,L,Z,z,x,y,g,i=>by obtain⟨Y,l,k,o,n⟩:=NN j c _ r L Z x y g fun h p=>i h `g;obtain⟨U,d,f,e,q,m⟩:=GW j c b _ Y _ l k o `g;refine⟨U,d,f,e,`a,?_⟩;rw[<-m];exact ir rfl (bI ((il rfl).trans n))
theorem IY{Y:List Nat}{a:List (List Nat)}(d:Y.length<=60)(b:∀h∈a.flatten,h∈Y):∃Z,GI t Z a.flatten/\CO [.lst (a.map (lz t))]=.ok (KD Z):=by obtain⟨U,f,i,g,e,h⟩:=GW d _ a [] [] none none none ⟨`s,fun _ c=>(nomatch c),fun h=>by simp⟩ (by simpa using b);refine⟨U,by simpa using e,d5 ?_⟩;refine(bI ((il rfl).trans h)).trans ?_;exact cR rfl
end
inductive Ch(rows:List (List Nat))(owns:List (Option Nat)):Rg.S->List (List (List Nat)×Rg.S)->Prop where
 |nil {s:Rg.S}:s.line=[]->Ch rows owns s []
 |cons {s:Rg.S} {rs:List (List Nat)} {l:List (List (List Nat)×Rg.S)}:rs.Perm (Rg.kZ (Wr rows) (own owns) s)->Ch rows owns (Rg.minus (Wr rows) s rs.flatten) l->Ch rows owns s ((rs,s)::l)
abbrev sT(rows:List (List Nat))(p:List (List Nat)×Rg.S):D:=.lst (p.1.map (lz (tS rows p.2)))
theorem Jw{Y:List (List Nat)}(a:Y.Perm (Rg.kZ (Wr rows) (own owns) s)):Rg.Cyc (Wr rows) (own owns) s Y.flatten:=Rg.IW (fun h U=>by obtain⟨r,c,b⟩:=ľ.mp U;grind) (fun r Z h U=>ľ.mpr ⟨r,a.mem_iff.mpr Z,U⟩)
theorem Snd.minus(S:Snd rows owns s)(c:Rg.Cyc (Wr rows) (own owns) s C):Snd rows owns (Rg.minus (Wr rows) s C) where
 ok:=Rg.tT S.ok c
 inr:=fun h U=>S.inr h (C_.mp U).1
 ino:=fun h U=>S.ino h (C_.mp U).1
 wid:=fun h U=>S.wid h (C_.mp U).1
 nl:=U_ (QdC _ _) S.nl
 nt:=U_ (QdC _ _) S.nt
theorem Jq(c:Rg.Cyc (Wr rows) (own owns) s C)(U:C≠[]):(Rg.minus (Wr rows) s C).line.length<s.line.length:=by obtain⟨x,Y⟩:=ű _ U;have:=Rg.Aa (fun h=>decide (h∉C)) s.line;have Z:0<(s.line.filter fun h=>not (decide (h∉C))).length:=ŏ (C_.mpr ⟨c.sub x Y,by simpa using Y⟩);show(s.line.filter _).length<_;omega
theorem Xm(g:GI t U L)(h:Nat):hV (nD h) (KD U)=some (.bl (decide (h∉L))):=by
 show(some _).map _=_;have e:h9 _ _=decide _:=wS U h;have:decide (h∈U.map (·.1))=decide (h∈L):=by rw[decide_eq_decide];exact g.key h
 simp_all
theorem Xn(g:GI t U L)(x:Nat):hV (nD x) (LN (U.map (·.2)))=some (.bl (decide (x∉L.map t))):=by
 rw[Hn,decide_not];congr 3;rw[decide_eq_decide];exact by
    constructor
    .intro hx;obtain⟨p,Y,rfl⟩:=w_.mp hx;exact w_.mpr ⟨p.1,(g.key _).mp (w_.mpr ⟨p,Y,rfl⟩),(g.val p Y).symm⟩
    .intro hx;obtain⟨h,Y,rfl⟩:=w_.mp hx;obtain⟨p,Z,rfl⟩:=w_.mp ((g.key h).mpr Y);exact w_.mpr ⟨p,Z,g.val p Z⟩
theorem Q1(m:D):∀(j:Nat)(s:Rg.S)(Y:List D)(x y z:Option D),Snd rows owns s->s.line.length<j->Y.length+s.line.length<=60 ->
  ∃(Z:Rg.S)(l:List (List (List Nat)×Rg.S))(f e b:Option D),Ch rows owns s l/\l.length<=s.line.length /\
   jV lX UQ UP j [some (WD rows),some (OD owns),some m,some (LN s.line),some (LN s.things),some (.lst Y),x,y,z]
    = .nx [some (WD rows),some (OD owns),some m,some (LN Z.line),some (LN Z.things),some (.lst (Y++l.map (sT rows))),f,e,b]:=by
 intro j
 induction j with
|zero=>omega
|succ j p=>
  intro s Y x y z S C B;by_cases U:s.line=[]
  .refine⟨s,[],x,y,z,.nil U,é _,?_⟩;rw[ŀ,Ô];rw[U];rfl
  .obtain⟨rs,hp,hr⟩:=Ui S;have c:=Jw hp;obtain⟨i,g,A⟩:=IY S.nl c.sub;have v:=Jq c ((fun hp U=>by obtain⟨x,u⟩:=ű _ (Rg.Iz U);obtain⟨r,k,o⟩:=ľ.mp u;exact Ò (ľ.mpr ⟨r,hp.mem_iff.mpr k,o⟩)) hp U);obtain⟨Z,l,f,e,b,k,o,n⟩:=p _ (Y++[sT rows _]) _ _ _ (S.minus c) `o `g;refine⟨Z,_,f,e,b,.cons hp k,`g,?_⟩;rw[Qew]at n;refine ņ (zg (kM rfl ?_) ?_) n
   .cases q:s.line with
   |nil=>exact Q_f q U
   |cons a t=>rfl
   .refine(dA (cW (aT rfl (aT rfl (aT rfl (aD rfl)))) hr)).trans ?_;refine(dA (cW (aD rfl) A)).trans ?_;refine(dA (d:=LN (i.map (·.2))) (fg rfl ?_)).trans ?_
    .rw[e_valsD,N_];show some (D.lst _)=some (D.lst _);rw[N_];rfl
    refine(dA (iq nD _ nD rfl `o fun h w=>⟨_,rfl,dX (aP rfl rfl (Xm g h)),fun _=>rfl⟩)).trans ?_;refine(dA (iq nD _ nD rfl (by have:=S.nt;omega) fun h w=>⟨_,rfl,dX (aP rfl rfl (Xn g h)),fun _=>rfl⟩)).trans ?_;refine(bI (lg rfl rfl (aD rfl) (oZ `o))).trans ?_;rfl
def hJ:Option (List Nat)->D
|none=>.non
|some l=>LN l
noncomputable def s0(rows:List (List Nat))(o:Option (List Nat)):Rg.S:=⟨o.getD (x_ rows.length),x_ (rows.headD []).length⟩
theorem UC(U:∀l,o=some l->l.Nodup/\(∀k∈l,k<rows.length)/\l.length=rows.length)(c:rows.length<=60):K3 [WD rows,hJ o]=.ok (LN (s0 rows o).line):=by cases o with
|none=>exact(show K3 [WD rows,.non]=.ok (LN (x_ rows.length))by
    refine io (n:=2) ?_
    dsimp only[Dq,zW]
    refine gP ((sI (b:=true) rfl).trans ?_);rw[Q_d rfl];exact cR (cU (ds:=[nD rows.length]) (aD (cU (aD (d:=WD rows) rfl) (jW _ _))) (yZ `o)))
|some l=>
  obtain⟨a,Z,Y⟩:=U l rfl;refine io (n:=2) ?_
  dsimp only[Dq,zW]
  refine(bI ((sI (b:=false) (nh (b:=true) (kM (cW (aT (d:=LN _) rfl (aD (cU (aD (d:=WD _) rfl) (jW _ _)))) (IZ a Z Y `o)) rfl))).trans rfl)).trans ?_;exact cR (cU (aD (d:=LN _) rfl) rfl)
theorem Iy:∀(U Y:List (Nat×Nat)),BC (Y.map fun p=>(kI p.1,nD p.2)) (U.map fun p=>(kI p.1,nD p.2))=(U.foldl (fun Z p=>putN Z p.1 p.2) Y).map fun p=>(kI p.1,nD p.2)
|[],Y=>rfl
|p::U,Y=>by have a:=Iy U (putN Y p.1 p.2);rw[Ř,<-a,<-GX];rfl
theorem Jp:∀(U Y:List (Nat×Nat))(L:List Nat),GI t Y L->(∀p∈U,p.2=t p.1)->GI t (U.foldl (fun Z p=>putN Z p.1 p.2) Y) (L++U.map (·.1))
|[],Y,L,g,_=>by simpa using g
|p::U,Y,L,g,h=>by
  have:=Jp U (putN Y p.1 p.2) _ (by rw[h p h_];exact g.put p.1) fun q a=>h q (i_ _ a)
  simp_all
theorem HP{Z:List Nat}(j:Z.length<=60)(e:D):∀(l:List (List (List Nat)×Rg.S))(L:List Nat)(Y:List (Nat×Nat))(z:Option D),GI a Y L->(∀h∈L,h∈Z) ->(∀p∈l,∀h∈p.1.flatten,a h=tS rows p.2 h/\h∈Z) ->∃U d,GI a U (L++l.flatMap fun p=>p.1.flatten)/\bN (bX 4) VD (l.map (sT rows)) [some (WD rows),some (OD owns),some e,some (KD Y),z]=.nx [some (WD rows),some (OD owns),some e,some (KD U),d]
|[],L,Y,z,g,_,_=>⟨Y,z,by simpa using g,iJ⟩
|p::l,L,Y,z,g,t,i=>by
  have f:=i p h_;obtain⟨b,m,s⟩:=IY j fun h c=>(f h c).2;have k:=m.congr fun x o=>(f x o).1;have u:=(Jp b Y L g k.val).mem (M:=L++p.1.flatten) fun x=>by rw[Ý,Ý,k.key]
  obtain⟨U,d,y,n⟩:=HP j e l _ _ _ u (fun h c=>`g) fun q r=>i q (i_ _ r);refine⟨U,d,`a,?_⟩;rw[<-n];refine ir rfl (bI (lg rfl rfl (aD (cW (aD rfl) s)) ?_));have w:=g.len t;have v:=m.len fun h c=>(f h c).2;show(if _ then some _ else none)=_;rw[Q_d (by rw[p_,p_,G_];omega),Iy]
theorem Po(c:Ch rows owns s l):Rg.Ok (Wr rows) (own owns) s->Rg.TTC (Wr rows) (own owns) a s->(∀p∈l,∀h∈p.1.flatten,a h=tS rows p.2 h/\h∈s.line)/\∀h∈s.line,∃p∈l,h∈p.1.flatten:=by induction c with
|nil m=>simp_all
|@cons s b l j c g=>
  intro k t;have Z:=Jw j;obtain⟨f,e⟩:=Rg.NQ t k Z;obtain⟨d,i⟩:=g (Rg.tT k Z) f;refine⟨fun p U h Y=>?_,fun h Y=>?_⟩
  .rcases m_.mp U with rfl|q
   .exact⟨e h Y,Z.sub h Y⟩
   .exact⟨(d p q h Y).1,(C_.mp (d p q h Y).2).1⟩
  .by_cases hc:h∈b.flatten
   .exact⟨(b,s),h_,hc⟩
   .obtain⟨p,h1,h2⟩:=i h (C_.mpr ⟨Y,by simpa using hc⟩)
    grind
theorem V0(s:∀l,o=some l->l.Nodup/\(∀k∈l,k<rows.length)/\l.length=rows.length)(q:rows≠[])(f:rows.length<=60)(S:Snd rows owns (s0 rows o))(e:∀h,h<rows.length->h∈(s0 rows o).line)(t:Rg.TTC (Wr rows) (own owns) a (s0 rows o)):Dr [WD rows,OD owns,hJ o]=.ok (TN ((x_ rows.length).map a)):=by
 obtain⟨l,v,B,Y⟩:∃l,Ch rows owns (s0 rows o) l/\l.length<=60/\R3 [WD rows,OD owns,hJ o]=.ok (.lst (l.map (sT rows))):=by
    obtain⟨A,l,z,y,m,c,i,w⟩:=Q1 (rows:=rows) (owns:=owns) (hJ o) 64 (s0 rows o) [] none none none S (by have:=S.nl;omega) (by have:=S.nl;simp;omega);refine⟨l,c,by have:=S.nl;omega,io (n:=9) ?_⟩
    dsimp only[JW,CJ]
    cases rows with
   |nil=>exact Q_f rfl q
   |cons b rest=>refine(dA (cW (aT (d:=WD (b::rest)) rfl (aD (d:=hJ o) rfl)) (UC s f))).trans ?_;refine(dA (cU (aD (cW (aD (d:=WD (b::rest)) rfl) Ll)) (yZ (by have:=S.nt;unfold s0 at this;simp at this;omega)))).trans ?_;refine(bI w).trans ?_;exact cR rfl
 obtain⟨j,C⟩:=Po v S.ok t;obtain⟨Z,m,g,U⟩:=HP (rows:=rows) (owns:=owns) (a:=a) S.nl (hJ o) l [] [] none ⟨`s,fun _ r=>(nomatch r),fun h=>by simp⟩ (fun _ u=>(nomatch u)) j;refine io (n:=5) ?_
 dsimp only[Lm,Df]
 refine(bI ((il (ds:=l.map (sT rows)) (iR (cW (aT (d:=WD rows) rfl (aT (d:=OD owns) rfl (aD (d:=hJ o) rfl))) Y) rfl)).trans U)).trans ?_;refine cR (cW (aD (d:=KD Z) rfl) (WL g (n:=rows.length) (fun x=>?_) f));rw[List.nil_append,List.mem_flatMap];constructor
 .rintro⟨p,c,i⟩
  exact S.inr x (j p c x i).2
 simp_all
theorem kJ(h:0<b):cQ (nD a) (nD b)=some (nD (a%b)):=`a
theorem nu(h:0<b)(U:b<1000):i0 (nD a) (nD b)=some (nD (a/b)):=by
 rw[JO (⟨`o,`o⟩)]
 simp_all
theorem rh(a b:Nat):addA (nD a) (nD b)=some (nD (a+b)):=`a
section
variable{f f':FE}{r:aI}
theorem k9(h:∃i:Int,f r=.ok (.int i))(h':f' r=.ok (.int b))(Y:0<b):∃c:Nat,f2 f f' cQ r=.ok (nD c):=by obtain⟨i,U⟩:=h;refine⟨(i%b).toNat,aP U h' ?_⟩;rw[P3 Y];show some _=some (D.int _);rw[Int.toNat_of_nonneg (Int.emod_nonneg _ `o)]
theorem AQ(h:∃c:Nat,f r=.ok (nD c)):∃i:Int,f r=.ok (.int i):=let⟨c,e⟩:=h;⟨c,e⟩
theorem lC(h:∃i:Int,f r=.ok (.int i))(h':f' r=.ok (.int b))(Y : -(2^64)<b/\b<2^64):∃i:Int,f2 f f' cV r=.ok (.int i):=by obtain⟨i,U⟩:=h;exact⟨i*b,aP U h' (HQ (.inr Y))⟩
theorem ra(h:∃i:Int,f r=.ok (.int i))(h':∃i:Int,f' r=.ok (.int i)):∃i:Int,f2 f f' addA r=.ok (.int i):=by obtain⟨i,Y⟩:=h;obtain⟨j,U⟩:=h';exact⟨i+j,aP Y U rfl⟩
end
theorem NL(h:∃c:Nat,f r=.ok (nD c))(k:∀c:Nat,∃d:Nat,U (r.set i (some (nD c)))=.rt (nD d)):∃d:Nat,seqF (aN m i f) U r=.rt (nD d):=by obtain⟨c,Z⟩:=h;obtain⟨d,Y⟩:=k c;exact⟨d,(dA Z).trans Y⟩
noncomputable abbrev IN(ns:List Int):D:=.lst (ns.map .int)
theorem Cw(U:List Int)(k:Nat)(w:k<=1000):∃c:Nat,zZ [IN U,nD k]=.ok (nD c):=by
 suffices h:∃c:Nat,KY _=.rt _ by obtain⟨c,p⟩:=h;exact⟨c,d5 p⟩
 have v:seqF (aN gZ 2 (ci 0))=seqF _:=rfl;refine NL ⟨0,rfl⟩ fun i=>?_;show ∃d:Nat,seqF _ _ [some _,some _,some _,none]=_;have e:∃Y:Nat,(fA gZ (cN (f2 (gv 1) (fC (lI 0) lenD) mL)) (seqF (aN gZ 2 (f2 (f2 (gv 0) (gv 1) di) (f2 (ci 10) (ci 60) j7) cQ)) aW) aW) [some (IN U),some (nD k),some (nD i),none]=.nx [some (IN U),some (nD k),some (nD Y),none]:=by
  have t:=dX (aP (f:=gv 1) (r:=[some (IN U),some _,some (nD i),none]) rfl (cU (aD (f:=gv 0) rfl) (jq _ _)) (pA k U.length));by_cases Z:k<U.length
  .rw[Q_c Z]at t;have n:(U.map D.int)[k]? = some (.int U[k]):=`a
   have o:j7 (.int 10) (.int 60)=some (.int (10^60)):=`r
   obtain⟨Y,g⟩:=k9 (f:=f2 (gv 0) (gv 1) di) (f':=f2 (fun _=>Res.ok _) (fun _=>Res.ok _) j7) (r:=[some _,some _,some _,none]) ⟨U[k],aP rfl rfl (m9 n)⟩ (aP rfl rfl o) `d;exact⟨Y,(dO t).trans ((dA g).trans rfl)⟩
  .rw[Q_b Z]at t;exact⟨i,(de t).trans rfl⟩
 obtain⟨Y,g⟩:=e;rw[bI g];have m:∃b,(gM (cN (f2 (fC (lI 0) lenD) (ci 0) pq)) (cN (f2 (f2 (f2 (gv 0) (ci 0) di) (ci 2) cQ) (ci 0) eqD))) [some (IN U),some (nD k),some (nD Y),none]=.ok b:=by have t:=dX (aP (f:=fC (lI 0) lenD) (f':=fun _=>Res.ok _) (r:=[some (IN U),some (nD k),some (nD Y),none]) (cU (aD rfl) (jq _ _)) rfl (qS U.length 0));cases U with
 |nil=>exact⟨false,sC t⟩
 |cons a U=>obtain⟨l,s⟩:=k9 (f:=f2 (gv 0) (fun _=>Res.ok _) di) (f':=fun _=>Res.ok (D.int 2)) (r:=[some _,some _,some _,none]) ⟨a,aP rfl rfl (ixA_L0 _ _)⟩ rfl `d;exact⟨_,(mZ t).trans (dX (aP s rfl (ky l 0)))⟩
 obtain⟨b,j⟩:=m;cases b with
|true=>exact⟨Y,gP ((dO j).trans (cR rfl))⟩
|false=>rw[bI ((de j).trans (e_skip _))];refine NL (k9 (lC (AQ (k9 (lC (ra (ra (ra ⟨_,rfl⟩ (lC (lC ⟨7,rfl⟩ rfl `o) rfl `o)) (lC ⟨13,rfl⟩ rfl `o)) ⟨5,rfl⟩) rfl `d) rfl `d)) rfl `d) rfl `d) fun l=>?_;obtain⟨u,q⟩:=k9 (f:=(f2 (f2 (f2 (f2 (gv 3) (fun _=>Res.ok _) addA) (ci 40692) cV) (ci 2147483629) cQ) (ci 39373) cV)) (f':=fun _=>Res.ok (D.int 999999937)) (r:=[some _,some _,some _,some _]) (lC (AQ (k9 (lC (ra ⟨_,rfl⟩ ⟨1,rfl⟩) rfl `d) rfl `d)) rfl `d) rfl `d;exact⟨u,cR q⟩
theorem Tc:fL (U.map nD) i (nD x)=(fL U i x).map nD:=by unfold fL;rw[p_,Ŀ,í,List.map_take,Qfn]
theorem T7{x:Nat}:(fL U i x).Perm (x::U):=by refine List.perm_middle.trans ?_;rw[List.take_append_drop]
theorem J5(m:Nat):∀(j i c:Nat)(Z:List Nat)(x:Option D),Z.Perm (x_ i)->i+j<=60 ->∃(d:Nat)(U:List Nat)(b:Option D),U.Perm (x_ (i+j))/\bN (bX 3) LM ((List.range' i j).map nD) [some (nD c),some (nD m),some (LN Z),x]=.nx [some (nD d),some (nD m),some (LN U),b]
|0,i,c,Z,x,a,_=>⟨c,Z,x,a,iJ⟩
|j+1,i,c,Z,x,a,h=>by
  have e:Z.length=i:=by rw[a.length_eq];simp
  obtain⟨d,U,b,g,f⟩:=J5 m j _ _ (fL Z ((c%(i+1))) i) _ (by refine T7.trans ?_;rw[QeT];exact(List.Perm.cons i a).trans (List.perm_append_singleton i _).symm) `o;refine⟨d,U,b,by rw[show i+(j+1)=i+1+j by omega];exact g,?_⟩;rw[<-f];have Y:c%(i+1)<i+1:=Ā _ `o;refine ir rfl ?_;refine(bI (lg (d':=LN (fL Z ((c%(i+1):Nat)) i)) rfl rfl (aT (aP rfl (aP rfl rfl (rh i 1)) (kJ `o)) (aD rfl)) ?_)).trans ?_
  .show(if _ then some _ else none)=_;rw[Q_d ⟨by rw[p_,G_];omega,`o,`o⟩,Tc]
  .exact dA (aP rfl (aP rfl rfl (rh i 1)) (nu `o `o))
theorem Jb(c m:Nat)(d:m<=60):∃Y:List Nat,Y.Perm (x_ m)/\zR [nD c,nD m]=.ok (TN Y):=by obtain⟨e,U,b,a,Z⟩:=J5 m m 0 c [] none `s `o;rw[Nat.zero_add]at a;rw[<-List.range_eq_range']at Z;refine⟨U,a,d5 ?_⟩;refine(dA (i9 gE `s)).trans ?_;refine(bI ((il (pP (aD rfl) (sX `o))).trans Z)).trans ?_;exact cR (cU (aD rfl) rfl)
structure Own(owns:List (Option Nat))(m:Nat):Prop where
 lt:∀x,some x∈owns->x<m
 inj:∀h k x,own owns h=some x->own owns k=some x->h=k
theorem rG(e:own owns h=some x):some x∈owns/\h<owns.length:=by
 unfold own at e
 grind
theorem HZ:own (owns++[o]) h=if h<owns.length then own owns h else if h=owns.length then o else none:=by
 unfold own;by_cases q:h<owns.length
 .rw[Q_d q,O_ q]
 .rw[Q_e q,Ļ `o];by_cases z:h=owns.length
  .subst z;simp
  .rw[Q_e z,List.getElem?_eq_none `g];rfl
theorem Own.app_none(w:Own owns m):Own (owns++[none]) m where
 lt:=fun x Z=>w.lt x (by simpa using Z)
 inj:=fun h k x Y U=>by
  rw[HZ]at Y U;have f:∀h,(if h<owns.length then own owns h else if h=owns.length then none else none)=some x->own owns h=some x:=`s
  exact w.inj h k x (f h Y) (f k U)
theorem Own.app_some(w:Own owns m)(b:t<m)(Z:some t∉owns):Own (owns++[some t]) m where
 lt:=fun x a=>by
  rcases Ý.mp a with z|z
  .exact w.lt x z
  .simp at z;omega
 inj:=fun h k x Y U=>by
  rw[HZ]at Y U;split at Y <;> split at U
  .exact w.inj h k x Y U
  .split at U
   .cases U;exact Q_f (rG Y).1 Z
   .cases U
  .split at Y
   .cases Y;exact Q_f (rG U).1 Z
   .cases Y
  simp_all
theorem FO(l:List (Option Nat))(k:Nat):(l.map oD).any (fun y=>jc y (nD k))=decide (some k∈l):=by
 rw[Ś,À,Ŵ,Q_h];constructor
 .rintro⟨x,h1,h2⟩
  cases x with
 |none=>cases h2
 |some x=>
   have:(((x))==(k:Int))=true:=h2
   grind
 .intro h;exact⟨some k,h,by show(((k):Int)==(k))=true;simp⟩
theorem X4(l:List (Option Nat)):(l.map oD).all eI=true:=by rw[P_];intro x U;obtain⟨k,_,rfl⟩:=w_.mp U;cases k <;> rfl
theorem X9(l:List (Option Nat))(k:Nat):iV (nD k) (.lst (l.map oD))=some (.bl (decide (some k∈l))):=by show(if eI _=true/\(l.map oD).all eI=true then some _ else none).map D.bl=_;rw[Q_d ⟨rfl,X4 l⟩,FO];rfl
structure Scene(rows:List (List Nat))(owns:List (Option Nat))(o:Option (List Nat))(n m:Nat):Prop where
 n1:1<=n
 n7:n<=7
 nm:n<=m
 m8:m<=8
 rl:rows.length=n
 rp:∀row∈rows,row.Perm (x_ m)
 ow:Own owns m
 ol:owns.length=n
 op:∀l,o=some l->l.Perm (x_ n)
theorem HY(n m:Nat)(u:m<=60):∀(l:List Nat)(c:Nat)(owns:List (Option Nat))(x y:Option D),Own owns m->owns.length+l.length<=60 ->∃(k:Nat)(Z:List (Option Nat))(i g:Option D),Own Z m/\Z.length=owns.length+l.length/\bN (bX 4) Mm (l.map nD) [some (nD c),some (nD n),some (nD m),some (.lst (owns.map oD)),x,y]=.nx [some (nD k),some (nD n),some (nD m),some (.lst (Z.map oD)),i,g]
|[],c,owns,x,y,w,_=>⟨c,owns,x,y,w,rfl,iJ⟩
|h::l,c,owns,x,y,w,v=>by
  have Y:c%(m+1)<m+1:=Ā _ `o;have b:∃o,Own (owns++[o]) m/\Mm [some (nD c),some (nD n),some (nD m),some (.lst (owns.map oD)),some (nD h),y]=.nx [some (nD (c/(m+1))),some (nD n),some (nD m),some (.lst ((owns++[o]).map oD)),some (nD h),some (nD (c%(m+1)))]:=by
   have a:=dX (aP (f:=gv 5) (f':=gv 2) (r:=[some (nD (c/(m+1))),some (nD n),some _,some (.lst (owns.map oD)),some (nD h),some _]) rfl rfl (ky (c%(m+1)) m));have e:=dX (aP (f:=gv 5) (f':=gv 3) (r:=[some (nD (c/(m+1))),some (nD n),some (nD m),some _,some (nD h),some _]) rfl rfl (X9 owns (c%(m+1))));have d:∀j,seqF (aN jy 5 (f2 (gv 0) (f2 (gv 2) (ci 1) addA) cQ)) (seqF (aN jy 0 (f2 (gv 0) (f2 (gv 2) (ci 1) addA) i0)) j) [some (nD c),some (nD n),some (nD m),some (.lst (owns.map oD)),some (nD h),y]=j [some (nD (c/(m+1))),some (nD n),some (nD m),some (.lst (owns.map oD)),some (nD h),some (nD (c%(m+1)))]:=by intro j;refine(dA (aP rfl (aP rfl rfl (rh m 1)) (kJ `o))).trans ?_;exact dA (aP rfl (aP rfl rfl (rh m 1)) (nu `o `o))
   have U:(owns.map oD).length<=1000:=`z
   by_cases q:c%(m+1)=m\/some (c%(m+1))∈owns
   .refine⟨none,w.app_none,(d _).trans ((bI ((dO ?_).trans (bI (lg rfl rfl (aD rfl) (oZ U))))).trans ?_)⟩
    .by_cases z:c%(m+1)=m
     .rw[Q_c z]at a;exact qr a
     .rw[Q_b z]at a;rw[Q_c (q.resolve_left z)]at e;exact(gK a).trans e
    .rw[Ŀ];rfl
   .have z1:=fun z=>q (.inl z);have p:=fun z=>q (.inr z);rw[Q_b z1]at a;rw[Q_b p]at e;refine⟨_,w.app_some `o p,(d _).trans ((bI ((de ((gK a).trans e)).trans (bI (lg rfl rfl (aD rfl) (oZ U))))).trans ?_)⟩;rw[Ŀ];rfl
  obtain⟨o,s,t⟩:=b;obtain⟨k,Z,i,g,C,B,A⟩:=HY n m u l _ _ _ _ s (by simp at v ⊢;omega);refine⟨k,Z,i,g,C,by rw[B];simp;omega,?_⟩;rw[<-A];exact ir rfl t
theorem Sg(c n m:Nat)(j:n<=60)(Z:m<=60):∃owns:List (Option Nat),Own owns m/\owns.length=n/\Vq [nD c,nD n,nD m]=.ok (OD owns):=by
 obtain⟨l,U,i,g,f,b,a⟩:=HY n m Z (x_ n) c [] none none ⟨fun x Y=>(nomatch Y),fun h k x e=>by unfold own at e;simp at e⟩ `z;refine⟨U,f,by rw[b];simp,io (n:=6) ?_⟩
 dsimp only[KZ,DK]
 refine(dA (d:=.lst []) (i9 gE `s)).trans ?_;refine(bI ((il (ds:=(x_ n).map nD) (pP (aD (d:=nD n) rfl) (sX `o))).trans a)).trans ?_;exact cR (cU (aD (d:=.lst (U.map oD)) rfl) rfl)
end Law
namespace Law
open PySem PyProof.Rows L2 DL
theorem X2(a b:Nat):jc (nD a) (nD b)=decide (a=b):=by show(((a):Int)==(b))=_;rw[À,beq_iff_eq,Q_h];exact Qfl
theorem B2(k:Nat):∀l:List Nat,k∈l->kz (nD k) (l.map nD)=some (l.idxOf k)
|[],h=>by cases h
|a::l,h=>by
  show(if jc _ _=true then some 0 else(kz _ _).map _)=_;rw[X2];by_cases e:a=k
  .simp_all
  .rw[Q_e (by simpa using e),B2 k l `g]
   grind
theorem HB(k:Nat):∀l:List Nat,(l.map nD).eraseIdx (l.idxOf k)=(l.erase k).map nD
|[]=>rfl
|a::l=>by
  by_cases e:a=k
  .subst e;simp
  .rw[List.idxOf_cons,List.erase_cons_tail (by simpa using e)];have:(a==k)=false:=by simpa using e
   rw[this];show nD a::(l.map nD).eraseIdx _=_;rw[HB k l];rfl
theorem GZ(h:k∈l):remD (LN l) [nD k]=some (LN (l.erase k)):=by show(if (l.map nD).all isInt=true then(kz _ _).map fun j=>D.lst _ else none)=_;rw[Q_d (by rw[P_];intro x U;obtain⟨y,_,rfl⟩:=w_.mp U;rfl),B2 k l h];show some (D.lst _)=some _;rw[HB]
theorem ji(c:U r=.ok d)(Z:AG T d=true)(b:Y r=.ok ds)(a:k d ds=some d'):fM T U Y k r=.ok d':=by unfold fM;rw[c,bind_ok,Q_d Z,b,bind_ok,a];rfl
section
variable{rows:List (List Nat)}{owns:List (Option Nat)}{o:Option (List Nat)}{n m:Nat}
theorem Scene.ne(S:Scene rows owns o n m):rows≠[]:=by
 rintro rfl
 have:=S.rl;have:=S.n1;simp at *;omega
theorem Scene.row(S:Scene rows owns o n m)(U:h<n):(Wr rows h).Perm (x_ m):=by unfold Wr;rw[q_ (by rw[S.rl];exact U)];exact S.rp _ (Ŗ _)
theorem Scene.row0(S:Scene rows owns o n m):(rows.headD []).length=m:=by cases rows with
|nil=>exact Q_f rfl S.ne
|cons r t=>rw[List.headD_cons,(S.rp r h_).length_eq];simp
theorem Scene.line_perm(S:Scene rows owns o n m):(s0 rows o).line.Perm (x_ n):=by unfold s0;cases o with
|none=>rw[S.rl];rfl
|some l=>exact S.op l rfl
theorem Scene.mem(S:Scene rows owns o n m):h∈(s0 rows o).line↔h<n:=by rw[S.line_perm.mem_iff];exact D_
theorem Scene.things(S:Scene rows owns o n m):(s0 rows o).things=x_ m:=by unfold s0;rw[S.row0]
theorem Scene.ok(S:Scene rows owns o n m):Rg.Ok (Wr rows) (own owns) (s0 rows o) where
 nl:=S.line_perm.nodup_iff.mpr ŗ
 nt:=by rw[S.things];grind
 le:=by rw[S.things,S.line_perm.length_eq];simp;exact S.nm
 row:=fun h Y x U=>by rw[S.things]at U;exact(S.row (S.mem.mp Y)).mem_iff.mpr U
 inj:=S.ow.inj
 own:=fun h Y x U=>by rw[S.things];exact D_.mpr (S.ow.lt x (rG U).1)
theorem Scene.snd(S:Scene rows owns o n m):Snd rows owns (s0 rows o) where
 ok:=S.ok
 inr:=fun h U=>by rw[S.rl];exact S.mem.mp U
 ino:=fun h U=>by rw[S.ol];exact S.mem.mp U
 wid:=fun h U=>by have:=(S.row (S.mem.mp U)).length_eq;have:=S.m8;simp at *;omega
 nl:=by have:=S.line_perm.length_eq;have:=S.n7;simp at *;omega
 nt:=by rw[S.things];have:=S.m8;simp;omega
theorem yN(h:f r=.ok d)(Y:ft d r=some r'):jB U f ft r=.nx r':=by unfold jB;rw[h,onE_ok];simp only[Y]
end
theorem Tb(h:k∈l):uF (LN l) [nD k]=some (nD (l.idxOf k)):=by show(if eI _=true/\(l.map nD).all eI=true then(kz _ _).map fun j=>D.int j else none)=_;rw[Q_d ⟨rfl,A0 l⟩,B2 k l h];rfl
theorem Rk{i:Nat}(h:i<=l.length):E8 (LN l) (some (i:Int)) none=some (LN (l.drop i)):=by show some _=_;unfold ie;rw[HT.kr,HT.jv,p_,Nat.min_eq_left h];rw[List.take_of_length_le `s];show some _=some (D.lst _);rw[Qfn]
theorem tX(h:f r=.ok (.int i)):oK f r=.ok (some i):=by unfold oK;rw[h];rfl
theorem YR{lo hi:Option Int}(e:Z r=.ok d)(c:U r=.ok lo)(b:Y r=.ok hi)(a:E8 d lo hi=some d'):FC Z U Y r=.ok d':=by unfold FC;rw[e,bind_ok,c,bind_ok,b,bind_ok,a];rfl
theorem yV(h:i<ds.length):iw (.lst ds) (nD i) v=some (.lst (ds.set i v)):=by show(j9 ds.length _).map _=_;unfold j9;rw[Q_d (š i),Q_d `o];simp
theorem Iq(Z Y:List Nat)(U:D):∀(l:List Nat)(y:Option D),(match l.find? (fun h=>decide (h∈Y))with
  |some h=>bN (bX 2) Aw (l.map nD) [some U,some (LN Y),y]=.rt (nD h)
  |none=>∃a,bN (bX 2) Aw (l.map nD) [some U,some (LN Y),y]=.nx [some U,some (LN Y),a])
|[],y=>⟨y,iJ⟩
|h::l,y=>by have c:(cN (f2 (gv 2) (gv 1) iV)) [some U,some (LN Y),some (nD h)]=.ok _:=dX (aP rfl rfl (NO _ _));rw[Y_];cases e:decide (h∈Y)with
 |true=>rw[e]at c;refine Bs rfl ?_;exact gP ((dO c).trans (cR rfl))
 |false=>
   rw[e]at c;have d:=Iq Z Y U l (some (nD h));have b:bN _ Aw _ [some U,some _,y]=bN (bX 2) Aw (l.map nD) [some U,some _,some _]:=ir rfl ((bI (de c)).trans rfl)
   simp_all
theorem Kn(h:∃x∈Y,x∈U):Dy [TN Y,LN U]=.ok (nD (Rg.fO Y U)):=by refine d5 ?_;have Z:=Iq Y U (TN Y) Y none;unfold Rg.fO;cases e:Y.find? fun x=>decide (x∈U)with
|none=>grind
|some k=>rw[e]at Z;exact gP ((il rfl).trans Z)
end Law
namespace Law
open PySem PyProof.Rows L2 DL PySem.Builtin PySem.Builtin.Str
noncomputable def jl(y:List Nat):List (List Nat)->List Nat
|[]=>[]
|[p]=>p
|p::q::r=>p++(y++jl y (q::r))
theorem GQ:∀{p q r s:List Nat},c∉p->c∉q->p++c::r=q++c::s->p=q/\r=s
|[],[],r,s,_,_,h=>⟨rfl,(Qc7 h).2⟩
|[],b::q,r,s,_,U,h=>Q_f (Qc7 h).1 (fun e=>U `a)
|a::p,[],r,s,Y,_,h=>Q_f (Qc7 h).1 (fun e=>Y `a)
|a::p,b::q,r,s,Y,U,h=>by
  obtain⟨d,Z⟩:=Qc7 h;obtain⟨g,f⟩:=GQ (fun z=>Y (i_ _ z)) (fun z=>U (i_ _ z)) Z
  simp_all
theorem Hk:∀{Y U:List (List Nat)},Y≠[]->U≠[]->(∀p∈Y,c∉p)->(∀q∈U,c∉q)->jl (c::b) Y=jl (c::b) U->Y=U
|[],_,h,_,_,_,_=>Q_f rfl h
|_::_,[],_,h,_,_,_=>Q_f rfl h
|[p],[q],_,_,_,_,h=>by rw[show p=q from h]
|[p],q::e::s,_,_,a,_,h=>by have h:p=q++(c::b++jl _ _):=h;exact Q_f (by rw[h];simp) (a p h_)
|p::f::r,[q],_,_,_,Z,h=>by have h:p++(c::b++jl _ _)=q:=h;exact Q_f (by rw[<-h];simp) (Z q h_)
|p::f::r,q::e::s,_,_,a,Z,h=>by obtain⟨j,i⟩:=GQ (a p h_) (Z q h_) h;have g:=List.append_cancel_left i;rw[j,Hk `s `s (fun z d=>a z (i_ _ d)) (fun z d=>Z z (i_ _ d)) g]
theorem Gg(U:c∉Y):∀{a:List (List Nat)},(∀p∈a,c∉p)->∀k,(jl (c::Y) a)[k]? = some c->((jl (c::Y) a).drop k).take (c::Y).length=c::Y
|[],_,k,h=>by simp[jl]at h
|[p],Z,k,h=>Q_f (ő h) (Z p h_)
|p::q::r,Z,k,h=>by
  have e:jl (c::Y) (p::q::r)=p++((c::Y)++jl (c::Y) (q::r)):=rfl;rw[e]at h ⊢;by_cases f:k<p.length
  .rw[O_ f]at h;exact Q_f (ő h) (Z p h_)
  .obtain⟨j,rfl⟩:∃j,k=p.length+j:=⟨k-p.length,`o⟩
   rw[Ļ `o,Qdf]at h;rw[<-Qfh,Qfi];by_cases d:j<(c::Y).length
   .rw[O_ d]at h;cases j with
   |zero=>rw[Qfe,List.take_left]
   |succ j=>rw[List.getElem?_cons_succ]at h;exact Q_f (ő h) U
   .obtain⟨i,rfl⟩:∃i,j=(c::Y).length+i:=⟨j-(c::Y).length,`o⟩
    rw[Ļ `o,Qdf]at h;rw[<-Qfh,Qfi];exact Gg U (fun z b=>Z z (i_ _ b)) i h
theorem rE(y:Str):∀U:List Str,(W_ y U).cps.toList=jl y.cps.toList (U.map fun p=>p.cps.toList)
|[]=>rfl
|[p]=>rfl
|p::q::r=>by
  have Y:=rE y (q::r);show(p++y++W_ y _).cps.toList=p.cps.toList++(y.cps.toList++jl y.cps.toList ((q::r).map fun p=>p.cps.toList))
  rw[<-Y];simp only[Str.cps_append,QdX,Qew]
theorem Te(x:Str):1<=ż x:=by
 unfold ż;split
 .exact k_ _
 .split <;> decide
section
variable{c:Nat}{x y:Str}
theorem J2(d:∀k,x.cps.toList[k]? = some c->Ī x y x.length k)(Y:∀k,a<=k->k<b->¬ Ī x y x.length k):c∉(strSub x a b).cps.toList:=by
 intro U;rw[StrLaws.strSub_toList]at U;obtain⟨j,Z⟩:=Qcu U
 grind
theorem Kv(b:∀k,x.cps.toList[k]? = some c->Ī x y x.length k):∀(U:List Nat)(a f:Nat),StrLaws.ChainG x y x.length a U f->(∀k,f<=k->¬ Ī x y x.length k)->∀p∈StrLaws.partsFrom x y.length a U,c∉p.cps.toList
|[],a,f,h,Z,p,Y=>by subst h;rw[J_.mp Y];exact J2 b fun k g _=>Z k g
|d::r,a,f,h,Z,p,Y=>by
  rcases m_.mp Y with e|e
  .rw[e];exact J2 b h.2.2.1
  .exact Kv b r _ f h.2.2.2 Z p e
theorem KU(i:ż y=1)(U:1<=y.length)(b:∀k,x.cps.toList[k]? = some c->Ī x y x.length k):∀q∈Txt.split x y,c∉q.cps.toList:=by
 have a:(∀k,¬ Ī x y x.length k)->c∉x.cps.toList:=fun h z=>by obtain⟨j,d⟩:=Qcu z;exact h j (b j d)
 obtain⟨f,Z,e⟩:=StrLaws.occ_tight x y U;unfold Txt.split;split
 .intro q hq;rw[J_.mp hq];refine a fun k Y=>?_;have:=Y.1;have g:=Te x
  grind
 .split
  .rename_i h;rw[List.isEmpty_iff.mp h]at Z;have Z:f=0:=Z
   simp_all
  .rw[Qdg];exact Kv b _ 0 f Z e
theorem Cz(x y:Str):Txt.split x y≠[]:=by
 unfold Txt.split;split
 .simp
 .split
  .simp
  .rw[Qdg];obtain⟨p,r,e⟩:=StrLaws.partsFrom_ne x y.length 0 _;rw[e];simp
theorem Da(d:y.cps.toList=c::f)(m:ż y=1)(Y:c∉f)(U:Z≠[])(r:∀p∈Z,c∉p.cps.toList):Txt.split (W_ y Z) y=Z:=by
 have l:y.length=(c::f).length:=by rw[<-d];simp[Ÿ]
 have n:∀k,(W_ y Z).cps.toList[k]? = some c->Ī (W_ y Z) y (W_ y Z).length k:=by
  intro k h;rw[rE,d]at h;have o:=Gg Y (fun p g=>`g) k h;rw[<-d,<-rE]at o;refine⟨?_,?_⟩
  .have h4:(W_ y Z).cps.toList.length=(W_ y Z).length:=by simp[Ÿ]
   grind
  .rw[QeJ,l,<-d]
   simp_all
 have i:=KU m `a n;have j:=Cz (W_ y Z) y;have e:(W_ y (Txt.split (W_ y Z) y)).cps.toList=(W_ y Z).cps.toList:=by rw[QcV]
 rw[rE y _,rE y Z,d]at e;have q:=Hk (by simpa using j) (by simpa using U) (fun p g=>`g) (fun p g=>`g) e;exact(List.map_inj_right fun a b h=>Str.ext' (QeD.mp h)).mp q
end
noncomputable abbrev dz(x:Nat):Str:=⟨#[65+x]⟩
def word(x:Nat)(o:Option Nat):Str:=if o=some x then dz x++"*" else dz x
theorem qJ{p:Nat->Prop}(e:p 0)(d:p 1)(c:p 2)(b:p 3)(a:p 4)(Z:p 5)(Y:p 6)(U:p 7)(h:x<8):p x:=`g
theorem tt(h:x<8):di (.str "ABCDEFGH") (nD x)=some (.str (dz x)):=qJ (p:=fun x=>di _ _=some (.str _)) (rfl) (rfl) (rfl) (rfl) (rfl) (rfl) (rfl) (rfl) h
theorem Kb(h:x<8):sJ (.str "ABCDEFGH") [.str (dz x)]=some (nD x):=qJ (p:=fun x=>sJ _ [.str _]=some _) `q `q `q `q `q `q `q `q h
theorem Yw(h:x<8):iV (.str (dz x)) (.str "ABCDEFGH")=some (.bl true):=qJ (p:=fun x=>iV (.str _) _=some _) `q `q `q `q `q `q `q `q h
theorem Qw(h:x<8):lenD [.str (dz x)]=some (nD 1):=qJ (p:=fun x=>lenD [.str _]=some _) (rfl) (rfl) (rfl) (rfl) (rfl) (rfl) (rfl) (rfl) h
theorem CT(x:Nat)(o:Option Nat):(word x o).length<=2:=by
 unfold word;split
 .exact k_ 2
 .exact ŝ 1
theorem word_chr(h:c∈(word x o).cps.toList):c=42\/65<=c:=by
 unfold word at h;split at h
 .have h:c∈(#[65+x]++("*" : Str).cps).toList:=h;rw[QdX]at h;rcases Ý.mp h with z|z
  .simp_all
  .left;exact J_.mp z
 simp_all
theorem oN(h:a.length+b.length<=1000):addA (.str a) (.str b)=some (.str (a++b)):=by show(if a.length+b.length<=sizeLine then _ else _)=_;rw[Q_d (by rw[G_];omega)]
theorem JX(x:Nat):(dz x).length+(("*" : Str)).length<=1000:=by
 have h:(("*")).length=1:=`d
 show 1+1<=1000;decide
theorem GR(x:Nat)(o:Option Nat):eqD (nD x) (oD o)=some (.bl (decide (o=some x))):=by cases o with
|none=>rfl
|some y=>
  rw[show oD _=nD y from rfl,ky];congr 2
  grind
theorem Sl(o:Option Nat)(h:x<8):LH [nD x,oD o]=.ok (.str (word x o)):=by
 refine d5 ?_;refine(bI (r':=[some _,some _,some _]) (jm (aP rfl rfl (tt h)))).trans (cR ?_);have t:cN (f2 (gv 0) (gv 1) eqD) [some _,some _,some (.str (dz x))]=.ok _:=dX (aP rfl rfl (GR x o));unfold word;by_cases c:o=some x
 .rw[Q_c c]at t;rw[Q_d c,re t];exact aP rfl rfl (oN (JX x))
 .rw[Q_b c]at t;rw[Q_e c,rc t];rfl
theorem D3(o:Option Nat)(h:x<8):Ai [.str (word x o)]=.ok (.bl (decide (o=some x))):=by
 refine io (n:=1) ?_
 dsimp only[Ma,vK]
 refine cR (ji (d:=.str (word x o)) (ds:=[.str "*"]) rfl rfl rfl ?_);unfold word;by_cases c:o=some x
 .rw[Q_d c,Q_c c];exact qJ (p:=fun x=>xF _ [.str "*"]=some _) (rfl) (rfl) (rfl) `q `q `q `q (rfl) h
 .rw[Q_e c,Q_b c];exact qJ (p:=fun x=>xF (.str (dz x)) [.str "*"]=some _) (rfl) (rfl) (rfl) (rfl) (rfl) (rfl) (rfl) (rfl) h
theorem BL{lo hi:Option Int}(e:Z r=.ok d)(c:U r=.ok lo)(b:Y r=.ok hi)(a:AK d lo hi=some d'):oi Z U Y r=.ok d':=by unfold oi;rw[e,bind_ok,c,bind_ok,b,bind_ok,a];rfl
theorem Dn(o:Option Nat)(h:x<8):LG [.str (word x o)]=.ok (.str (dz x)):=by
 refine d5 ?_;refine cR ?_;have t:dY (cP (lI 0) [] Ai) [some _]=.ok _:=kM (cW (aD rfl) (D3 o h)) rfl;by_cases c:o=some x
 .rw[Q_c c]at t;refine(re t).trans (BL rfl rfl (tX rfl) ?_);unfold word;rw[Q_d c];exact qJ (p:=fun x=>AK (.str (dz x++"*")) none (some (-1))=some (.str (dz x))) `q `q (rfl) (rfl) `q `q `q (rfl) h
 .rw[Q_b c]at t;refine(rc t).trans ?_;show Res.ok _=_;unfold word;rw[Q_e c]
theorem UA(o:Option Nat)(h:x<8):Tu [.str (word x o)]=.ok (.bl true):=by refine d5 ?_;refine(dA (cW (aD rfl) (Dn o h))).trans (cR ?_);rw[pN (aP (cU (aD rfl) (Qw h)) rfl (rO 1))];exact aP rfl rfl (Yw h)
def dE(row:List Nat)(o:Option Nat):Str:=W_ " " (row.map fun x=>word x o)
def fj(rows:List (List Nat))(owns:List (Option Nat)):Str:=W_ "; " ((rows.zip owns).map fun p=>dE p.1 p.2)
theorem Dc:∀l:List Str,nr (l.map D.str)=some l
|[]=>rfl
|x::l=>by show(nr _).map _=_;rw[Dc l];rfl
theorem rq(Z:∀y∈l,y.length<=B)(h:l.length*B+l.length*U.length<=16777216):oF (.str U) [.lst (l.map D.str)]=some (.str (W_ U l)):=by
 show(match nr _ with|some Y=>if Ċ U Y=true then some _ else none|none=>none)=_;rw[Dc];have:Ċ U l=true:=by unfold Ċ;rw[StrLaws.joinFits Z h];rfl
 simp only[this];show some (D.str (PySem.Builtin.Str.glued U l))=_;rw[Qcn]
theorem zq(o:Option Nat)(b:U.length<=8):(dE U o).length<=24:=by
 have h:=Ž " " (U.map fun x=>word x o);have a:=Qc3 (U.map fun x=>word x o) (fun y Y=>by obtain⟨x,_,rfl⟩:=w_.mp Y;exact CT x o);have Z:((" " : Str)).length=1:=`d
 rw[Z,p_]at h;rw[p_]at a;unfold dE;omega
theorem Km(a:∀U∈rows,U.length<=8)(d:rows.length<=7):(fj rows owns).length<=1000:=by
 have h:=Ž "; " ((rows.zip owns).map fun p=>dE p.1 p.2);have c:=Qc3 ((rows.zip owns).map fun p=>dE p.1 p.2) (fun y Y=>by obtain⟨p,Z,rfl⟩:=w_.mp Y;exact zq p.2 (a p.1 (Þ Z).1));have b:(("; " : Str)).length=2:=`r
 have e:(rows.zip owns).length<=7:=`g
 rw[b,p_]at h;rw[p_]at c;unfold fj;omega
theorem VL(o:Option Nat)(a:∀x∈U,x<8)(b:U.length<=8):K4 [TN U,oD o]=.ok (.str (dE U o)):=by
 refine d5 ?_;have e:gG 1 [1] (df fV (gv 0)) (bX 0) (fun _=>Res.ok true) (cP (aG (gv 0) (lI 1)) [] LH) (cS 2 [TN U,oD o])=.ok (.lst ((U.map fun x=>word x o).map D.str)):=by refine(iq nD _ _ (iR rfl rfl) `o fun x Z=>⟨_,rfl,rfl,fun _=>cW (aT rfl (aD rfl)) (Sl o (a x Z))⟩).trans ?_;rw[jJ,N_];rfl
 have c:((" " : Str)).length=1:=`k
 exact cR (ji rfl rfl (aD e) (rq (fun y Y=>by obtain⟨x,_,rfl⟩:=w_.mp Y;exact CT x o) `g))
theorem B1(h:Y r=.ok d)(g:U r=.ok e)(f:fV d=some ds)(c:fV e=some Z):l7 Y U r=.ok (Ł (fun a b=>DL.D.tup [a,b]) ds Z):=by unfold l7;rw[h,bind_ok,g,bind_ok,f,opt_some,bind_ok,c,opt_some,bind_ok]
theorem Gn(rows:List (List Nat))(owns:List (Option Nat)):Ł (fun a b=>DL.D.tup [a,b]) (rows.map TN) (owns.map oD)=(rows.zip owns).map fun p=>.tup [TN p.1,oD p.2]:=by rw[List.zipWith_map,List.zip,List.map_zipWith]
theorem V1(b:∀U∈rows,∀x∈U,x<8)(Z:∀U∈rows,U.length<=8)(c:rows.length<=7):DB [WD rows,OD owns]=.ok (.str (fj rows owns)):=by
 refine io (n:=2) ?_
 dsimp only[K1,DP]
 have f:(rows.zip owns).length<=7:=`g
 have e:gG 2 [] (l7 (gv 0) (gv 1)) (jb (eJ (bX 0) (eJ (bX 1) i7))) (fun _=>Res.ok true) (cP (aG (gv 0) (lI 1)) [] K4) (cS 2 [WD rows,OD owns])=.ok (.lst (((rows.zip owns).map fun p=>dE p.1 p.2).map D.str)):=by refine(iq (l:=rows.zip owns) (fun p=>.tup [TN p.1,oD p.2]) (fun _=>true) (fun p=>.str (dE p.1 p.2)) ((B1 (d:=WD rows) (e:=OD owns) rfl rfl rfl rfl).trans (by rw[Gn])) `o fun p Y=>⟨[some (TN p.1),some (oD p.2)],rfl,rfl,fun _=>cW (aT (d:=TN p.1) rfl (aD (d:=oD p.2) rfl)) (VL p.2 (b p.1 (Þ Y).1) (Z p.1 (Þ Y).1))⟩).trans ?_;rw[jJ,N_];rfl
 have g:(("; " : Str)).length=2:=`r
 exact cR (ji (d:=.str "; ") rfl rfl (aD e) (rq (B:=24) (fun y a=>by obtain⟨p,Y,rfl⟩:=w_.mp a;exact zq p.2 (Z p.1 (Þ Y).1)) `g))
theorem mem_jl:∀{U:List (List Nat)},c∈jl y U->c∈y\/∃p∈U,c∈p
|[],h=>by cases h
|[p],h=>.inr ⟨p,h_,h⟩
|p::q::r,h=>by
  rcases Ý.mp (h)with z|z
  .exact .inr ⟨p,h_,z⟩
  .rcases Ý.mp z with z|z
   .exact .inl z
   .rcases mem_jl z with z|⟨Y,a,Z⟩
    .exact .inl z
    .exact .inr ⟨Y,i_ _ a,Z⟩
theorem yW:((" " : Str)).cps.toList=[32]:=rfl
theorem Pt:(("; " : Str)).cps.toList=[59,32]:=`q
theorem rowS_chr(h:c∈(dE U o).cps.toList):c=32\/c=42\/65<=c:=by
 unfold dE at h;rw[rE,yW]at h;rcases mem_jl h with z|⟨p,Y,Z⟩
 .simp_all
 .rw[N_]at Y;obtain⟨x,_,rfl⟩:=w_.mp Y;exact .inr (word_chr Z)
abbrev WS(row:List Nat)(o:Option Nat):D:=.lst (row.map fun x=>D.str (word x o))
theorem zc(Y:0<b.length)(U:a.length<=10000):tm (.str a) [.str b]=some (.lst ((Txt.split a b).map D.str)):=by show(if 0<b.length/\a.length<=10000 then some _ else none)=_;rw[Q_d ⟨Y,U⟩]
theorem VS(o:Option Nat)(U:Y≠[])(a:Y.length<=8):tm (.str (dE Y o)) [.str " "]=some (WS Y o):=by
 rw[zc `d (by have:=zq o a;omega)];unfold dE;rw[Da yW `k `s (by simpa using U) (fun p Z=>?_),N_]
 .rfl
 .obtain⟨x,_,rfl⟩:=w_.mp Z;intro z;rcases word_chr z with e|e <;> omega
theorem U1(U:rows.zip owns≠[])(b:∀Y∈rows,Y.length<=8)(a:rows.length<=7):tm (.str (fj rows owns)) [.str "; "]=some (.lst ((rows.zip owns).map fun p=>D.str (dE p.1 p.2))):=by
 rw[zc `d (by have:=Km (owns:=owns) b a;omega)];unfold fj;rw[Da Pt `k `d (by simpa using U) (fun p Z=>?_),N_]
 .rfl
 .obtain⟨x,_,rfl⟩:=w_.mp Z;intro z;rcases rowS_chr z with e|e|e <;> omega
variable{o:Option Nat}
section
variable{row:List Nat}
theorem OV:∀{l:List Nat},l.Nodup->(∀x∈l,x=y)->l.length<2
|[],_,_=>by simp
|[a],_,_=>by simp
|a::b::r,U,h=>by simp_all
theorem U7(Y:row.Nodup):(row.filter fun x=>decide (o=some x)).length<2:=by cases o with
|none=>rw[List.filter_eq_nil_iff.mpr (fun x _=>`s)];simp
|some y=>refine OV (y:=y) (List.Nodup.sublist List.filter_sublist Y) fun x U=>?_;have:=(C_.mp U).2;simp at this;exact this.symm
theorem R5(a:fi r=.ok U)(Z:U.length<=1000)(c:∀d∈U,∃r1,ft d (fB nl cap r)=some r1/\f r1=.ok (.bl true)):fC (aG (gG nl cap fi ft (fun _=>Res.ok true) f) aE) allD r=.ok (.bl true):=by
 have e:=iq (nl:=nl) (cap:=cap) (fi:=fi) (ft:=ft) (q:=fun _=>Res.ok true) (fe:=f) id (fun _=>true) (fun _=>.bl true) (by rw[List.map_id];exact a) Z (fun d b=>`a);refine cU (aD e) ?_;show(m5 _).map _=_;have:∀l:List D,m5 (l.map fun _=>D.bl true)=some (l.map fun _=>true):=by
  intro l
  induction l with
 |nil=>rfl
 |cons d l Y=>simp[m5,Y]
 rw[this];simp
theorem Uz(Z:row.Nodup)(Y:∀x∈row,x<8)(e:row.length<=8):Kd [WS row o]=.ok (.bl true):=by refine d5 ?_;refine(dA (iq _ _ _ (iR rfl rfl) `o fun x U=>⟨_,rfl,kM (cW (aD rfl) (D3 o (Y x U))) rfl,fun _=>rfl⟩)).trans (cR ?_);have a:=U7 (o:=o) Z;rw[pN (aP (b:=nD 2) (cU (aD rfl) (jq _ _)) rfl (by rw[pA,Q_c a]))];refine R5 (iR rfl rfl) `g fun d c=>?_;obtain⟨x,U,rfl⟩:=w_.mp c;exact⟨_,rfl,cW (aD rfl) (UA o (Y x U))⟩
theorem HV:∀(l:List Nat)(U:Option D),(∀x∈l,x<8) ->(∀y,o=some y->y∈l->bN (bX 1) zT (l.map fun x=>D.str (word x o)) [some W,U]=.rt (nD y)) /\((∀y,o=some y->y∉l)->∃a,bN (bX 1) zT (l.map fun x=>D.str (word x o)) [some W,U]=.nx [some W,a])
|[],U,_=>⟨fun y _ h=>(nomatch h),fun _=>⟨U,iJ⟩⟩
|x::l,U,Z=>by
  have Y:=Z x h_;obtain⟨f,e⟩:=HV (W:=W) l (some (.str (word x o))) fun z b=>Z z (i_ _ b);have t:dY (cP (lI 1) [] Ai) [some W,some _]=.ok _:=kM (cW (aD rfl) (D3 o Y)) rfl;by_cases c:o=some x
  .rw[Q_c c]at t;refine⟨fun y g _=>?_,fun h=>Q_f h_ (h x c)⟩;have:y=x:=`a
   subst this;refine Bs rfl (gP ((dO t).trans (cR ?_)));exact ji rfl rfl (aD (cW (aD rfl) (Dn o Y))) (Kb Y)
  .rw[Q_b c]at t;have d:bN (bX 1) zT _ [some W,U]=bN _ zT (l.map fun x=>D.str (word x o)) [some W,some _]:=ir rfl (bI ((de t).trans (e_skip _)))
   grind
theorem Uh(a:∀x∈row,x<8)(Z:∀y,o=some y->y∈row):JE [WS row o]=.ok (oD o):=by obtain⟨Y,U⟩:=HV (o:=o) (W:=WS row o) row none a;refine d5 ?_;cases o with
|none=>obtain⟨c,h⟩:=U fun y b=>nomatch b;exact(bI ((il (iR rfl rfl)).trans h)).trans (cR rfl)
|some y=>exact gP ((il (iR rfl rfl)).trans (Y y rfl (Z y rfl)))
end
theorem dS(a:Y r=.ok U)(Z:F U=z):gF Y [] F r=z:=by unfold gF;rw[a,bind_ok,Ô,Z]
structure Txs(rows:List (List Nat))(owns:List (Option Nat))(n m:Nat):Prop where
 n1:1<=n
 n7:n<=7
 nm:n<=m
 m8:m<=8
 rl:rows.length=n
 rp:∀row∈rows,row.Perm (x_ m)
 ow:Own owns m
 ol:owns.length=n
variable{rows:List (List Nat)}{owns:List (Option Nat)}{n m:Nat}
theorem Txs.bd(S:Txs rows owns n m):∀U∈rows,∀x∈U,x<m:=fun U Z x Y=>D_.mp ((S.rp U Z).mem_iff.mp Y)
theorem Txs.b8(S:Txs rows owns n m):∀U∈rows,∀x∈U,x<8:=fun U Z x Y=>A_ (S.bd U Z x Y) S.m8
theorem Txs.len(S:Txs rows owns n m):∀U∈rows,U.length=m:=fun U Y=>by rw[(S.rp U Y).length_eq];simp
theorem Txs.l8(S:Txs rows owns n m):∀U∈rows,U.length<=8:=fun U Y=>by rw[S.len U Y];exact S.m8
theorem Txs.nd(S:Txs rows owns n m):∀U∈rows,U.Nodup:=fun U Y=>(S.rp U Y).nodup_iff.mpr ŗ
theorem Txs.zl(S:Txs rows owns n m):(rows.zip owns).length=n:=by rw[List.length_zip,S.rl,S.ol,Nat.min_self]
theorem Txs.zr(S:Txs rows owns n m)(h:p∈rows.zip owns):p.1∈rows/\p.2∈owns:=Þ h
theorem Jf:∀(l:List (List Nat))(k:Nat)(x y:Option D),(∀U∈l,U.Nodup/\(∀z∈U,z<m)/\U.length=m)->m<=8->∃Z Y,bN (jb (eJ (bX 2) (eJ (bX 3) i7))) WV (fN k (l.map LN)) [some W,some (nD m),x,y]=.nx [some W,some (nD m),Z,Y]
|[],k,x,y,_,_=>⟨x,y,iJ⟩
|U::l,k,x,y,h,c=>by obtain⟨Z,Y,a⟩:=Jf l _ _ _ (fun r b=>h r (i_ _ b)) c;obtain⟨f,e,d⟩:=h U h_;refine⟨Z,Y,?_⟩;rw[<-a];refine ir rfl (bI ((de ?_).trans (e_skip _)));exact nh (kM (cW (aT rfl (aD rfl)) (IZ f e d `o)) rfl)
theorem mE{m:List Md}(h:f r=.ok d):jP m f r=.nx r:=by unfold jP;rw[h];rfl
theorem Q8(c:1<=U.length)(Z:U.length<=7):Xb [.lst U]=.ok .non:=by
 show bQ false (AD (cS 1 [.lst U]))=_;have Y:fC (lI 0) lenD (cS 1 [.lst U])=.ok (nD U.length):=cU (aD (d:=.lst U) rfl) rfl;have:AD (cS 1 [.lst U])=.nx [some (.lst U)]:=by
  dsimp only[AD,EL]
  refine bI ((de ?_).trans (e_skip _));refine(gK (dX (aP (a:=nD U.length) (b:=nD 1) Y rfl (by rw[pA,Q_b `o])))).trans (dX (aP (a:=nD U.length) (b:=nD 7) Y rfl (by rw[qS,Q_b `o])))
 rw[this];rfl
theorem PP(S:Txs rows owns n m):Wo [.lst (rows.map LN)]=.ok (WD rows):=by
 have e:=S.rl;have Z:=S.n1;have k:=S.n7;have Y:=S.m8;have U:=S.nm;obtain⟨j,i,f⟩:=Jf (W:=.lst (rows.map LN)) rows 0 none none (fun a c=>⟨S.nd a c,S.bd a c,S.len a c⟩) S.m8;obtain⟨d,h,g⟩:∃d,(rows.map LN)[0]? = some (LN d)/\d.length=m:=by cases rows with
 |nil=>simp at e;omega
 |cons r t=>exact⟨r,rfl,S.len r h_⟩
 refine d5 ?_;refine(bI (mE (dS (aD rfl) (Q8 `a `a)))).trans ?_;refine(dA (cU (aD (aP rfl rfl (m9 h))) (by rw[jq,g]))).trans ?_;refine(bI ((de ?_).trans (e_skip _))).trans ?_
 .refine(gK (dX (aP rfl (cU (aD rfl) (by rw[jq,e])) (by rw[pA,Q_b `o])))).trans (dX (aP (b:=nD 8) rfl rfl (by rw[qS,Q_b `o])))
 refine(bI ((il rfl).trans f)).trans (cR ?_);refine cU (aD ((iq LN _ TN (iR rfl rfl) `o fun a c=>⟨_,rfl,rfl,fun _=>cU (aD rfl) rfl⟩).trans (by rw[jJ]))) rfl
theorem Qp(U:List Nat)(k:Nat):iV (nD k) (iN U)=some (.bl (decide (k∈U))):=by
 show(some _).map D.bl=_;rw[BE,N_];have:decide (k∈U.map ((fun p=>p.1)∘fun k=>(k,D.bl true)))=decide (k∈U):=by simp[Qex]
 rw[this];rfl
theorem TF{U:List Nat}{k:Nat}(Z:k∉U)(Y:U.length<=60):iw (iN U) (nD k) (.bl true)=some (iN (U++[k])):=by show(if _ then some _ else none)=_;rw[Q_d (by rw[p_,p_,G_];omega),Jx _ _ _ `z];simp
theorem Cv{W T:D}(q:uX [W]=.ok (nD m)):∀(l:List (Option Nat))(Y:List Nat)(k:Nat)(x y:Option D),(∀z,some z∈l->z<m/\z∉Y)->(∀(i j:Nat) z,l[i]? = some (some z)->l[j]? = some (some z)->i=j)->Y.length+l.length<=60->∃U c Z,bN (jb (eJ (bX 3) (eJ (bX 4) i7))) Ws (fN k (l.map oD)) [some W,some T,some (iN Y),x,y]=.nx [some W,some T,some (iN U),c,Z]
|[],Y,k,x,y,_,_,_=>⟨Y,x,y,iJ⟩
|none::l,Y,k,x,y,h,n,p=>by simp only[Ë]at p;obtain⟨U,c,Z,o⟩:=Cv (T:=T) q l Y (k+1) (some (nD k)) (some .non) (fun z g=>h z (i_ _ g)) (fun i j z s r=>by have:=n (i+1) (j+1) z s r;omega) `o;refine⟨U,c,Z,?_⟩;rw[<-o];exact ir (r1:=[some W,some T,some (iN Y),some (nD k),some .non]) rfl (bI ((de (dX (aP (a:=.non) (b:=.non) (d:=.bl false) rfl rfl rfl))).trans (e_skip _)))
|some a::l,Y,k,x,y,h,n,p=>by
  simp only[Ë]at p;obtain⟨w,f⟩:=h a h_;obtain⟨U,c,Z,o⟩:=Cv (T:=T) q l (Y++[a]) (k+1) (some (nD k)) (some (nD a)) (fun z g=>by
   refine⟨(h z (i_ _ g)).1,fun u=>?_⟩;rcases Ý.mp u with e|e
   .simp_all
   .obtain⟨j,hj⟩:=Qcu g;have e:=J_.mp e;subst e;have:=n 0 (j+1) z rfl hj;omega) (fun i j z s r=>by have:=n (i+1) (j+1) z s r;omega) `z
  refine⟨U,c,Z,?_⟩;rw[<-o];refine ir (r1:=[some W,some T,some (iN Y),some (nD k),some (nD a)]) rfl (bI ((dO (dX (aP (a:=nD a) (b:=.non) (d:=.bl true) rfl rfl rfl))).trans ?_));refine(bI ((de ?_).trans (e_skip _))).trans (bI (mB (d:=iN Y) (k:=nD a) (v:=.bl true) (d':=iN (Y++[a])) rfl rfl rfl (TF f `o)));have t:=L1 a m;rw[Q_c w]at t;refine(gK (nh (b:=true) (kM (d:=.bl true) (cW (aT (d:=nD a) rfl (aD (d:=nD m) (cW (aD (d:=W) rfl) q))) t) rfl))).trans (dX (aP (a:=nD a) (b:=iN Y) rfl rfl ?_));rw[Qp,Q_b f]
theorem D4(S:Txs rows owns n m):uX [WD rows]=.ok (nD m):=by have Y:=S.rl;have U:=S.n1;cases rows with
|nil=>simp at Y;omega
|cons r t=>rw[Ll,S.len r h_]
theorem JA(S:Txs rows owns n m):∀(l:List (List Nat×Option Nat))(k:Nat)(x y:Option D),(∀p∈l,p∈rows.zip owns)->∃Z Y,bN (jb (eJ (bX 2) (eJ (bX 3) i7))) WU (fN k (l.map fun p=>WS p.1 p.2)) [some W,some P,x,y,x4]=.nx [some W,some P,Z,Y,x4]
|[],k,x,y,_=>⟨x,y,iJ⟩
|p::l,k,x,y,h=>by obtain⟨Z,Y,a⟩:=JA S l _ _ _ (fun r U=>h r (i_ _ U));have U:=(S.zr (h p h_)).1;refine⟨Z,Y,?_⟩;rw[<-a];refine ir rfl (bI ((de ?_).trans (e_skip _)));exact nh (kM (cW (aD rfl) (Uz (S.nd _ U) (S.b8 _ U) (S.l8 _ U))) rfl)
theorem Sh(S:Txs rows owns n m):Wn [.str (fj rows owns)]=.ok (.tup [WD rows,OD owns]):=by
 have h:=S.zl;have Z:=S.n1;have U:=S.n7;have w:=U_ S.n1 S.nm;obtain⟨f,e,g⟩:=JA (W:=.str (fj rows owns)) (P:=.lst ((rows.zip owns).map fun p=>WS p.1 p.2)) (x4:=none) S (rows.zip owns) 0 none none (fun p c=>c);refine io (n:=5) ?_
 dsimp only[Mg,Eg]
 refine(bI ((de (nh (b:=true) (kM (d:=.bl true) (fg (a:=.str (fj rows owns)) rfl rfl) rfl))).trans (e_skip _))).trans ?_;refine(bI (r':=[some (.str (fj rows owns)),some (.lst ((rows.zip owns).map fun p=>WS p.1 p.2)),none,none,none]) (jm ((iq (l:=rows.zip owns) (fun p=>D.str (dE p.1 p.2)) (fun _=>true) (fun p=>WS p.1 p.2) (iR (d:=.lst ((rows.zip owns).map fun p=>D.str (dE p.1 p.2))) (ji (d:=.str (fj rows owns)) rfl rfl (aT (d:=.str "; ") rfl gE) (U1 `g S.l8 (by rw[S.rl];omega))) rfl) `o fun p c=>⟨[some (.str (dE p.1 p.2))],rfl,rfl,fun _=>ji (d:=.str (dE p.1 p.2)) rfl rfl (aT (d:=.str " ") rfl gE) (VS p.2 (by intro z;have:=S.len p.1 (S.zr c).1;grind) (S.l8 _ (S.zr c).1))⟩).trans (by rw[jJ])))).trans ?_;refine(bI ((il (ds:=fN 0 ((rows.zip owns).map fun p=>WS p.1 p.2)) rfl).trans g)).trans ?_;have v:gG 1 [] (df fV (gv 1)) (bX 0) (fun _=>Res.ok true) (cP (lI 0) [] R4) [some (.str (fj rows owns)),some (.lst ((rows.zip owns).map fun p=>WS p.1 p.2)),f,e,none]=.ok (.lst (rows.map LN)):=by
  refine(iq (l:=rows.zip owns) (fun p=>WS p.1 p.2) (fun _=>true) (fun p=>LN p.1) (iR (d:=.lst ((rows.zip owns).map fun p=>WS p.1 p.2)) rfl rfl) `o fun p c=>⟨[some (WS p.1 p.2)],rfl,rfl,fun _=>cW (aT (d:=WS p.1 p.2) rfl gE) ((fun o g=>by refine d5 ?_;refine gP (nq ((iq _ _ nD (iR rfl rfl) `o fun x k=>⟨_,rfl,rfl,fun _=>?_⟩).trans (by rw[jJ])));exact ji rfl rfl (aT (cW (aT rfl gE) (Dn _ (o x k))) gE) (Kb (o x k))) (S.b8 _ (S.zr c).1) (S.l8 _ (S.zr c).1))⟩).trans ?_;rw[jJ];congr 2;have:=List.map_fst_zip (l₁:=rows) (l₂:=owns) (by rw[S.rl,S.ol];exact k_ _)
  conv=>rhs;rw[<-this]
  rw[N_];rfl
 have u:∀x4:Option D,gG 1 [] (df fV (gv 1)) (bX 0) (fun _=>Res.ok true) (cP (lI 0) [] JE) [some (.str (fj rows owns)),some (.lst ((rows.zip owns).map fun p=>WS p.1 p.2)),f,e,x4]=.ok (.lst (owns.map oD)):=by
  intro x4;refine(iq (l:=rows.zip owns) (fun p=>WS p.1 p.2) (fun _=>true) (fun p=>oD p.2) (iR (d:=.lst ((rows.zip owns).map fun p=>WS p.1 p.2)) rfl rfl) `o fun p c=>⟨[some (WS p.1 p.2)],rfl,rfl,fun _=>cW (aT (d:=WS p.1 p.2) rfl gE) (Uh (S.b8 _ (S.zr c).1) fun y t=>?_)⟩).trans ?_
  .rw[(S.rp _ (S.zr c).1).mem_iff,D_];exact S.ow.lt y (by rw[<-t];exact(S.zr c).2)
  .rw[jJ];congr 2;have:=QeA (l₁:=rows) (l₂:=owns) (by rw[S.rl,S.ol];exact k_ _)
   conv=>rhs;rw[<-this]
   rw[N_];rfl
 refine(bI (r':=[some (.str (fj rows owns)),some (.lst ((rows.zip owns).map fun p=>WS p.1 p.2)),f,e,some (WD rows)]) (jm (dS (aT (d:=.lst (rows.map LN)) v gE) (PP S)))).trans (gP (nq ?_));exact im (aT (d:=WD rows) rfl (aT (d:=OD owns) (dS (aT (d:=WD rows) rfl (aT (d:=.lst (owns.map oD)) (u _) gE)) ((fun S=>by
    have q:=S.ol;have U:=S.n7;obtain⟨Y,f,e,g⟩:=Cv (T:=.lst (owns.map oD)) (D4 S) owns [] 0 none none (fun z h=>⟨S.ow.lt z h,`s⟩) (fun i j z s r=>S.ow.inj i j z (by unfold own;rw[s];rfl) (by unfold own;rw[r];rfl)) `g;refine io (n:=5) ?_
    dsimp only[Vk,DO]
    refine(bI ((de (dX (aP (a:=nD n) (b:=nD n) (d:=.bl false) (cU (aT (d:=.lst (owns.map oD)) rfl gE) (by rw[jq,q])) (cU (aT (d:=WD rows) rfl gE) (by rw[jW,S.rl])) ?_))).trans (e_skip _))).trans ?_
    .show some (D.bl (not ((((n:Nat):Int)==((n:Nat):Int)))))=_;simp
    refine(bI (r':=[some (WD rows),some (.lst (owns.map oD)),some (iN []),none,none]) rfl).trans ?_;refine(bI ((il (ds:=fN 0 (owns.map oD)) rfl).trans g)).trans (gP (nq (cU (aT (d:=.lst (owns.map oD)) rfl gE) rfl)))) S)) gE)) `s
theorem Pz:sN (.str "*") (.int 1)=some (.str "*"):=rfl
theorem Py:sN (.str "*") (.int 0)=some (.str ā):=rfl
section
variable{a0 a1 a2 a3:Option D}
theorem Iw:∀(l:List Nat)(ws:List Str)(U:Option D),(∀x∈l,x<8)->ws.length+l.length<=60->∃Z,bN (bX 6) Mn (l.map nD) [a0,a1,a2,a3,some (oD o),some (.lst (ws.map D.str)),U]=.nx [a0,a1,a2,a3,some (oD o),some (.lst ((ws++l.map fun x=>word x o).map D.str)),Z]
|[],ws,U,_,_=>⟨U,by rw[ŀ,ŀ,Ô];exact iJ⟩
|x::l,ws,U,a,g=>by
  simp  at g;have f:=a x h_;obtain⟨Z,d⟩:=Iw l (ws++[word x o]) (some (nD x)) (fun z e=>a z (i_ _ e)) `z;refine⟨Z,?_⟩;rw[í,í,show ws++(word x o::l.map fun x=>word x o)=ws++[word x o]++l.map fun x=>word x o by simp,<-d];refine ir rfl (bI ?_);refine(lg (ds:=[.str (word x o)]) rfl rfl (aD ?_) (oZ `g)).trans `s;have b:f2 (fun _=>Res.ok _) (gv 6) di [a0,a1,a2,a3,some (oD o),some (.lst (ws.map D.str)),some _]=.ok _:=aP rfl rfl (tt f);have Y:fC (aG (f2 (gv 6) (gv 4) eqD) aE) xY [a0,a1,a2,a3,some _,some (.lst (ws.map D.str)),some _]=.ok _:=cU (aD (aP rfl rfl (GR x o))) rfl;unfold word;by_cases c:o=some x
  .rw[Q_c c,Q_d rfl]at Y;rw[Q_d c];exact aP b (aP rfl Y Pz) (oN (JX x))
  .rw[Q_b c,Q_e t_]at Y;rw[Q_e c];refine aP b (aP rfl Y Py) ?_;rw[oN (by show 1+0<=1000;decide),Str.append_empty]
theorem Iv(S:Txs rows owns n m):∀(l:List (List Nat×Option Nat))(U:List Str)(a x4 Z Y:Option D),(∀p∈l,p∈rows.zip owns)->U.length+l.length<=60->∃e d c b,bN (jb (eJ (bX 3) (eJ (bX 4) i7))) Wp (l.map fun p=>.tup [TN p.1,oD p.2]) [some W,some O,some (.lst (U.map D.str)),a,x4,Z,Y]=.nx [some W,some O,some (.lst ((U++l.map fun p=>dE p.1 p.2).map D.str)),e,d,c,b]
|[],U,a,x4,Z,Y,_,_=>⟨a,x4,Z,Y,by rw[ŀ,ŀ,Ô];exact iJ⟩
|p::l,U,a,x4,Z,Y,g,r=>by
  simp  at r;have f:=(S.zr (g p h_)).1;have s:=S.l8 _ f;obtain⟨h,k⟩:=Iw p.1 [] Y (S.b8 _ f) `g;obtain⟨e,d,c,b,i⟩:=Iv S l (U++[dE p.1 p.2]) (some (TN p.1)) (some (oD p.2)) (some (.lst ((p.1.map fun x=>word x p.2).map D.str))) h (fun q o=>g q (i_ _ o)) `z;refine⟨e,d,c,b,?_⟩;rw[í,í,show U++(dE p.1 p.2::l.map fun p=>dE p.1 p.2)=U++[dE p.1 p.2]++l.map fun p=>dE p.1 p.2 by simp,<-i];refine ir rfl ?_;refine(bI ((il (iR rfl rfl)).trans k)).trans (bI ?_);have t:((" " : Str)).length=1:=`r
  refine(lg (ds:=[.str (dE p.1 p.2)]) rfl rfl (aD (ji rfl rfl (aD rfl) (rq (fun y j=>by obtain⟨x,_,rfl⟩:=w_.mp j;exact CT x _) `g))) (oZ `g)).trans `s
theorem Ko(S:Txs rows owns n m):Dz [WD rows,OD owns]=.ok (.str (fj rows owns)):=by
 have f:=S.zl;have U:=S.n7;obtain⟨e,d,c,b,a⟩:=Iv S _ [] none none none none (fun p Y=>Y) `g;refine d5 ?_;refine(bI ((il ((B1 rfl rfl rfl rfl).trans (by rw[Gn]))).trans a)).trans (cR ?_);have g:(("; " : Str)).length=2:=`k
 exact ji rfl rfl (aD rfl) (rq (fun y Z=>by obtain⟨p,Y,rfl⟩:=w_.mp Z;exact zq p.2 (S.l8 _ (S.zr Y).1)) `g)
end
def qV(owns:List (Option Nat))(x:Nat)(l:List Nat)(here:Nat):Nat:=l.foldl (fun acc h=>if own owns h=some x then h else acc) here
theorem Li:∀{l:List Nat}{U:Nat},(∀h∈l,own owns h≠some x)->qV owns x l U=U
|[],_,_=>rfl
|a::l,U,h=>by show qV owns x l (if own owns a=some x then a else U)=U;rw[Q_e (h a h_)];exact Li fun k Y=>h k (i_ _ Y)
theorem Lj(Z:own owns k=some x)(Y:∀h,own owns h=some x->h=k):∀{l:List Nat}{U:Nat},k∈l\/U=k->qV owns x l U=k
|[],_,h=>by
  rcases h with z|z
  .cases z
  .exact z
|a::l,U,h=>by
  show qV owns x l _=k;refine Lj Z Y ?_
  grind
section
variable{s:Rg.S}
theorem Sr(k:Rg.Ok (Wr rows) (own owns) s)(x:Nat):qV owns x s.line (s.line.headD 0)=Rg.pt (own owns) s x:=by unfold Rg.pt;cases e:s.line.find? fun h=>decide (own owns h=some x)with
|none=>exact Li fun h Z=>by simp_all
|some h=>have U:=Ŷ e;simp  at U;exact Lj U (fun j Y=>k.inj j h x Y U) (.inl (List.mem_of_find?_eq_some e))
theorem Jd(w a Z b g Y:Option D)(x:Nat):∀(l:List Nat)(U:Nat)(y:Option D),(∀h∈l,h<owns.length) ->∃d,bN (bX 9) Nm (l.map nD) [w,some (OD owns),a,Z,b,g,some (nD U),Y,some (nD x),y]=.nx [w,some (OD owns),a,Z,b,g,some (nD (qV owns x l U)),Y,some (nD x),d]
|[],U,y,_=>⟨y,iJ⟩
|h::l,U,y,f=>by
  obtain⟨d,i⟩:=Jd w a Z b g Y x l (if own owns h=some x then h else U) _ fun k j=>f k (i_ _ j);refine⟨d,ņ ?_ i⟩;have c:(cN (f2 (f2 (gv 1) (gv 9) di) (gv 8) eqD)) [w,some _,a,Z,b,g,some (nD U),Y,some (nD x),some _]=.ok _:=dX (aP (aP rfl rfl (km (Hr (f h h_)))) rfl (AY _ _));refine ir rfl ?_;by_cases e:own owns h=some x
  .rw[Q_c e]at c;rw[Q_d e];exact(bI ((dO c).trans (dA rfl))).trans rfl
  .rw[Q_b e]at c;rw[Q_e e];exact(bI ((de c).trans (e_skip _))).trans rfl
theorem Ru(S:Snd rows owns s)(i g:Option D):∀(j:Nat)(f:List Nat)(Z:Nat)(x y:Option D),Z∈s.line->f.length<=s.line.length->f.Nodup->(∀h∈f,h∈s.line)->s.line.length<j+f.length ->
  ∃l k,jV gJ EM Nn j [some (WD rows),some (OD owns),i,some (LN s.things),some (LN s.line),g,some (nD Z),some (LN f),x,y]
   = .nx [some (WD rows),some (OD owns),i,some (LN s.things),some (LN s.line),g,some (nD (Rg.mQ (fS rows owns s) j f Z).2),some (LN (Rg.mQ (fS rows owns s) j f Z).1),l,k]:=by
 intro j
 induction j with
|zero=>omega
|succ j p=>
  intro f Z x y m A r z B;have q:EM [some (WD rows),some (OD owns),i,some (LN s.things),some (LN s.line),g,some (nD Z),some (LN f),x,y]=.ok _:=dX (aP rfl rfl (Hn _ _));by_cases c:Z∈f
  .rw[Q_c c]at q;refine⟨x,y,(Ci q).trans ?_⟩;unfold Rg.mQ;rw[Q_d c]
  .rw[Q_b c]at q;have U:(f++[Z]).Nodup:=List.nodup_append.mpr ⟨r,`s,fun a E b C=>by grind⟩;have Y:∀h∈f++[Z],h∈s.line:=fun h u=>by grind
   obtain⟨o,n⟩:=Jd _ i _ _ g _ (tS rows s Z) s.line _ y S.ino;rw[Sr S.ok]at n;have v:fS rows owns s Z∈s.line:=Rg.pF (Ò m);obtain⟨l,k,w⟩:=p _ _ _ o v (Rg.p7 U Y) U Y `z;refine⟨l,k,(zg q ?_).trans (w.trans ?_)⟩
   .have hap:appD (LN f) [nD Z]=some (LN (f++[Z])):=by
     rw[oZ (by have:=S.nl;simp;omega)]
     simp_all
    refine(bI (lg rfl rfl (aD rfl) hap)).trans ?_;refine(dA (cW (aT (aP rfl rfl (km (BN (S.inr Z m)))) (aD rfl)) (Kn (S.ok.some_thing m)))).trans ?_;refine(dA (d:=nD (s.line.headD 0)) (aP rfl rfl ?_)).trans ?_
    .cases e:s.line with
    |nil=>simp_all
    |cons b t=>exact ixA_L0 _ _
    exact bI ((il rfl).trans n)
   .have e:Rg.mQ (fS rows owns s) (j+1) f Z=Rg.mQ (fS rows owns s) j (f++[Z]) (fS rows owns s Z):=by
     conv=>lhs;unfold Rg.mQ
     rw[Q_e c]
    rw[e]
theorem Io(S:Snd rows owns s){a:Nat->Nat}(c d Z Y U:Option D):∀(C:List Nat)(g:List (Option Nat))(y:Option D),g.length=n->(∀h∈C,h∈s.line/\h<n/\a h=tS rows s h) ->∃(g':List (Option Nat))(b:Option D),g'.length=n/\(∀h,h∈C->g'[h]? = some (some (a h)))/\(∀h,h∉C->g'[h]? = g[h]?) /\bN (bX 9) No (C.map nD) [some (WD rows),some (OD owns),c,some (LN s.things),d,some (.lst (g.map oD)),Z,Y,U,y]=.nx [some (WD rows),some (OD owns),c,some (LN s.things),d,some (.lst (g'.map oD)),Z,Y,U,b]
|[],g,y,f,_=>⟨g,y,f,fun h o=>(nomatch o),fun _ _=>rfl,iJ⟩
|h::C,g,y,f,i=>by
  obtain⟨j,t,p⟩:=i h h_;obtain⟨g',b,m,r,q,l⟩:=Io S c d Z Y U C (g.set h (some (a h))) _ (by simpa using f) fun k e=>i k (i_ _ e);refine⟨g',b,m,fun k e=>?_,fun k e=>?_,ņ ?_ l⟩
  .grind
  .grind
  .refine ir rfl ?_;refine(bI (mB rfl (cW (aT (aP rfl rfl (km (BN (S.inr h j)))) (aD rfl)) (Kn (S.ok.some_thing j))) rfl ?_)).trans rfl;show(j9 (g.map oD).length _).map _=_;unfold j9;rw[Q_d (š h),Q_d `a,ś,p];rfl
theorem Ip(w e f c b U:Option D)(g:List (Option Nat)):∀(C L T:List Nat)(y:Option D),C.Nodup->(C.map a).Nodup->(∀h∈C,h∈L/\a h∈T/\g[h]? = some (some (a h))) ->∃d,bN (bX 9) Np (C.map nD) [w,e,f,some (LN T),some (LN L),some (.lst (g.map oD)),c,b,U,y]=.nx [w,e,f,some (LN ((C.map a).foldl (fun l h=>l.erase h) T)),some (LN (C.foldl (fun l h=>l.erase h) L)),some (.lst (g.map oD)),c,b,U,d]
|[],L,T,y,_,_,_=>⟨y,iJ⟩
|h::C,L,T,y,j,i,n=>by
  have Z:=ģ.mp j;have Y:=ģ.mp i;obtain⟨q,p,o⟩:=n h h_;obtain⟨d,m⟩:=Ip w e f c b U g C (L.erase h) (T.erase (a h)) _ Z.2 Y.2 fun k r=>by grind
  refine⟨d,ņ ?_ m⟩;refine ir rfl ?_;refine(bI (lg rfl rfl (aD rfl) (GZ q))).trans ?_;refine(bI (lg rfl rfl (aD (aP rfl rfl (m9 (by rw[K_,o];rfl)))) (GZ p))).trans rfl
end
theorem Q6(e:Option D):∀(j:Nat)(s:Rg.S)(g:List (Option Nat))(m l i x4:Option D),Snd rows owns s->Rg.TTC (Wr rows) (own owns) a s->s.line.length<j->(∀h∈s.line,h<n)->g.length=n->(∀h,h<n->h∉s.line->g[h]? = some (some (a h))) ->
  ∃(g':List (Option Nat))(G:List Nat)(x v u r:Option D),g'.length=n/\(∀h,h<n->g'[h]? = some (some (a h))) /\
   jV nW Nu W8 j [some (WD rows),some (OD owns),e,some (LN s.things),some (LN s.line),some (.lst (g.map oD)),m,l,i,x4]
    = .nx [some (WD rows),some (OD owns),e,some (LN G),some (LN []),some (.lst (g'.map oD)),x,v,u,r]:=by
 intro j
 induction j with
|zero=>omega
|succ j ih=>intro s g m l i x4 S t hj U R E;have q:Nu [some (WD rows),some (OD owns),e,some (LN s.things),some (LN s.line),some (.lst (g.map oD)),m,l,i,x4]=.ok _:=dX (aP (cU (aD rfl) (jq _ _)) rfl (qS s.line.length 0));cases B:s.line with
 |nil=>rw[B]at q E;exact⟨g,s.things,m,l,i,x4,R,fun h b=>E h b (fun z=>(nomatch z)),Ci q⟩
 |cons f rest=>
   have p:f∈s.line:=`a
   rw[Q_c (ŏ p)]at q;have F:∀h∈s.line,fS rows owns s h∈s.line:=fun h b=>Rg.pF (Ò b);obtain⟨k,k1,y,N⟩:=Rg.Pb F p 64 0 (by simp[Rg.eY]) (by have:=S.nl;omega);have e0:Rg.eY (fS rows owns s) f 0=[]:=rfl;have e1:Rg.it (fS rows owns s) 0 f=f:=rfl;rw[e0,e1]at N;obtain⟨c,Y⟩:=Rg.Oh p k1 y;obtain⟨o,X,Q⟩:=Ru S e (some (.lst (g.map oD))) 64 [] f i x4 p (é _) `s (fun h b=>(nomatch b)) (by have:=S.nl;omega);rw[N]at Q;have dl:=QbI y;generalize hC:(Rg.eY _ f k).drop _=C at c Y;have L:C.Nodup:=`g
   obtain⟨t1,J⟩:=Rg.NQ t S.ok c;have A:=Rg.Yz t S.ok;have Z:(C.map a).Nodup:=by rw[QcU,Qev];exact Qc6 (fun ha hb h z=>h (A _ (c.sub _ ha) _ (c.sub _ hb) z)) L
   have ea:=œ J;obtain⟨W,w1,i1,P,i3,i4⟩:=Io S e _ _ _ o C g X R fun h b=>⟨c.sub h b,U h (c.sub h b),J h b⟩
   obtain⟨w2,O⟩:=Ip _ _ e _ _ o W C s.line s.things w1 L Z fun h b=>⟨c.sub h b,Rg.Ba t S.ok h (c.sub h b),P h b⟩
   rw[Rg.B4 S.ok.nl,Rg.B4 S.ok.nt,ea]at O;have hlt:=Jq c Y;obtain⟨g',G,x,v,u,r,j1,j2,j3⟩:=ih _ W _ _ o w2 (S.minus c) t1 `o (fun h b=>U h (C_.mp b).1) i1 fun h b hn=>by
    by_cases z:h∈C
    .exact P h z
    .rw[i3 h z];exact E h b fun w=>hn (C_.mpr ⟨w,by simpa using z⟩)
   refine⟨g',G,x,v,u,r,j1,j2,?_⟩;rw[<-B];refine(zg q ?_).trans j3;refine(dA (d:=nD f) (aP rfl rfl ?_)).trans ?_
   .rw[B];exact ixA_L0 _ _
   refine(bI Q).trans ?_;have K:∀T H,∀I M,(df fV (FC (gv 7) (oK (fM "list" (gv 7) (lI 6) uF)) (fun _=>Res.ok none))) [some (WD rows),some (OD owns),e,some (LN I),some (LN M),T,some (nD (Rg.it (fS rows owns s) k f)),some (LN (Rg.eY (fS rows owns s) f k)),o,H]=.ok (C.map nD):=by intro T H I M;refine iR (d:=LN C) (YR rfl (tX (ji rfl rfl (aD rfl) (Tb y))) rfl ?_) rfl;rw[Rk `o,hC]
   refine(bI ((il (K _ _ _ _)).trans i4)).trans ?_;exact bI ((il (K _ _ _ _)).trans O)
section
variable{f f':FE}{r:aI}
theorem Bp(h:∃c:Nat,f r=.ok (nD c))(h':∃c:Nat,f' r=.ok (nD c)):∃c:Nat,f2 f f' addA r=.ok (nD c):=by obtain⟨i,Y⟩:=h;obtain⟨j,U⟩:=h';exact⟨i+j,aP Y U (rh i j)⟩
theorem tM(h:∃c:Nat,f r=.ok (nD c))(h':f' r=.ok (nD b))(Y:b<2^64):∃c:Nat,f2 f f' cV r=.ok (nD c):=by
 obtain⟨i,U⟩:=h;refine⟨i*b,aP U h' ?_⟩;rw[HQ (.inr ⟨`o,`o⟩)]
 simp_all
end
theorem Je(m:k<=1000):∀(l:List Nat)(w:Nat)(x4 Y U:Option D),(∀t∈l,t<=1000)->∃(w':Nat)(b a Z:Option D),bN (bX 4) Wq (l.map nD) [some A,some (nD k),some (nD c),some (nD w),x4,Y,U]=.nx [some A,some (nD k),some (nD c),some (nD w'),b,a,Z]
|[],w,x4,Y,U,_=>⟨w,x4,Y,U,iJ⟩
|t::l,w,x4,Y,U,d=>by
  have n:=d t h_;obtain⟨p,j⟩:=Bp (f:=f2 (f2 (f2 (fun _=>Res.ok _) (gv 4) cV) (gv 4) cV) (f2 (fun _=>Res.ok _) (gv 1) cV) addA) (f':=fun _=>Res.ok _) (r:=[some A,some (nD k),some _,some _,some (nD t),Y,U]) (Bp (tM (tM ⟨7919,rfl⟩ rfl `o) rfl `o) (tM ⟨13,rfl⟩ rfl `o)) ⟨5,rfl⟩;obtain⟨q,i⟩:=k9 (f:=f2 (f2 (f2 (f2 (gv 2) (gv 5) addA) (ci 48271) cV) (ci 2147483647) cQ) (ci 69621) cV) (f':=fun _=>Res.ok (D.int 1000000007)) (r:=[some A,some _,some _,some _,some _,some _,U]) (lC (AQ (k9 (lC (ra ⟨_,rfl⟩ ⟨_,rfl⟩) rfl `d) rfl `d)) rfl `d) rfl `d;obtain⟨v,h⟩:=Bp (f:=f2 (gv 3) (ci 999999937) cV) (f':=f2 (f2 (f2 (f2 (f2 (gv 6) (fun _=>Res.ok _) addA) (ci 40692) cV) (ci 2147483629) cQ) (ci 39373) cV) (ci 999999937) cQ) (r:=[some A,some _,some _,some _,some _,some _,some _])
   (tM ⟨w,rfl⟩ rfl `d) (k9 (lC (AQ (k9 (lC (ra ⟨_,rfl⟩ ⟨1,rfl⟩) rfl `d) rfl `d)) rfl `d) rfl `d)
  obtain⟨w',b,a,Z,e⟩:=Je m l v _ _ _ fun z g=>d z (i_ _ g);refine⟨w',b,a,Z,ņ ?_ e⟩;refine ir rfl ?_;exact(dA j).trans ((dA i).trans (dA h))
theorem Sk(U:List Int)(k:Nat)(d:k<=1000)(m:k<U.length):∃c:Nat,DA [IN U,nD k]=.ok (nD c):=by
 suffices h:∃c:Nat,K0 _=.rt _ by obtain⟨c,Y⟩:=h;exact⟨c,d5 Y⟩
 have i:∃b,(cN (f2 (f2 (f2 (gv 0) (ci 0) di) (ci 2) cQ) (ci 0) eqD)) (cS 7 [IN U,nD k])=.ok b:=by cases U with
 |nil=>simp at m
 |cons a U=>obtain⟨o,Z⟩:=k9 (f:=f2 (gv 0) (fun _=>Res.ok _) di) (f':=fun _=>Res.ok (D.int 2)) (r:=cS 7 [IN (a::U),nD k]) ⟨a,aP rfl rfl (ixA_L0 _ _)⟩ rfl `d;exact⟨_,dX (aP Z rfl (ky o 0))⟩
 obtain⟨b,e⟩:=i;cases b with
|true=>obtain⟨c,Y⟩:=Cw U k d;exact⟨c,gP ((dO e).trans (cR (cW (aT rfl (aD rfl)) Y)))⟩
|false=>
  have j:(U.map D.int)[k]? = some (.int U[k]):=`s
  have l:j7 (.int 10) (.int 60)=some (.int (10^60)):=`r
  obtain⟨v,n⟩:=k9 (f:=f2 (gv 0) (gv 1) di) (f':=f2 (fun _=>Res.ok _) (fun _=>Res.ok _) j7) (r:=cS 7 [IN U,nD k]) ⟨U[k],aP rfl rfl (m9 j)⟩ (aP rfl rfl l) `d;obtain⟨g,s,q,p,Z⟩:=Je d (x_ 7) 0 none none none fun t u=>by grind
  refine⟨g,(bI ((de e).trans (e_skip _))).trans ?_⟩;refine(dA n).trans ((dA rfl).trans ?_);exact(bI ((il (pP (aD rfl) (sX `d))).trans Z)).trans (cR rfl)
theorem Ql(h:0<b)(U:b<1073741824):i0 (nD a) (nD b)=some (nD (a/b)):=by
 rw[JO ⟨`o,`o⟩]
 grind
theorem IG(d:m<=60):∀(l:List Nat)(c:Nat)(rows:List (List Nat))(x:Option D),(∀Y∈rows,Y.Perm (x_ m))->rows.length+l.length<=60->∃(Z:Nat)(U:List (List Nat))(y:Option D),U.length=rows.length+l.length/\(∀Y∈U,Y.Perm (x_ m)) /\bN (bX 4) Wz (l.map nD) [some (nD c),some (nD n),some (nD m),some (.lst (rows.map TN)),x]=.nx [some (nD Z),some (nD n),some (nD m),some (.lst (U.map TN)),y]
|[],c,rows,x,a,_=>⟨c,rows,x,rfl,a,iJ⟩
|t::l,c,rows,x,a,h=>by rw[Ë]at h;obtain⟨Y,p,i⟩:=Jb _ m d;obtain⟨Z,U,y,g,f,e⟩:=IG d l _ (rows++[Y]) _ (fun z o=>`g) `z;refine⟨Z,U,y,by rw[g];simp;omega,f,ņ ?_ e⟩;have k:f2 (gv 0) (fun _=>Res.ok _) cQ [some (nD c),some (nD n),some (nD m),some (.lst (rows.map TN)),some (nD t)]=.ok _:=aP (b:=nD 40320) rfl rfl (kJ `o);have j:∀z,f2 (gv 0) (fun _=>Res.ok _) i0 [some (nD c),some (nD n),some (nD m),z,some (nD t)]=.ok _:=fun z=>aP (b:=nD 40320) rfl rfl (Ql `o `d);refine ir rfl ?_;refine(bI (lg (d':=.lst ((rows++[Y]).map TN)) rfl rfl (aD (cW (aT k (aD rfl)) i)) (by rw[oZ `g,Ŀ];rfl))).trans ?_;exact dA (j _)
theorem T8(c:Nat):∃(rows:List (List Nat))(owns:List (Option Nat))(n m:Nat),Txs rows owns n m/\Mc [nD c]=.ok (.tup [WD rows,OD owns]):=by
 have j:c/7%(9-(1+c%7))<9-(1+c%7):=Ā _ `o;obtain⟨i,rows,y,f,d,b⟩:=IG (m:=1+c%7+c/7%(9-(1+c%7))) `o (x_ (1+c%7)) _ [] none (fun _ h=>(nomatch h)) `z;obtain⟨owns,a,Z,Y⟩:=Sg i (1+c%7) (1+c%7+c/7%(9-(1+c%7))) `o `o;have U:rows.length=1+c%7:=by rw[f];simp
 refine⟨rows,owns,_,_,⟨`o,`o,`o,`o,U,d,a,Z⟩,d5 ?_⟩;have g:vZ (nD 9) (nD (1+c%7))=some (nD (9-(1+c%7))):=by
  have e:((9:Nat):Int)-((1+c%7:Nat))=((9-(1+c%7):Nat)):=`o
  show some (D.int _)=_;rw[e]
 refine(dA (aP rfl (aP (aP rfl rfl (nu `d `d)) (aP rfl rfl g) (kJ `o)) (rh _ _))).trans ?_;refine(dA (aP rfl rfl (nu `d `d))).trans ?_;refine(dA (i9 gE `s)).trans ?_;refine(bI ((il (pP (aD rfl) (sX `o))).trans b)).trans ?_;exact cR (im (aT (cU (aD rfl) rfl) (aD (cW (aT rfl (aT rfl (aD rfl))) Y))) `s)
end Law
namespace Law
open PySem PyProof.Rows L2 DL PySem.Builtin PySem.Builtin.Str
theorem VR:∀q∈Txt.split x " ",32∉q.cps.toList:=KU `k `d fun k h=>by
   have U:((" " : Str)).length=1:=`k
   have Y:=(g_.mp h).1;have Z:x.cps.toList.length=x.length:=by simp[Ÿ]
   refine⟨(by assumption),?_⟩;rw[QeJ,U,yW];have:(x.cps.toList.drop k).take 1=[32]:=by rw[Ď Y,List.take_succ_cons,List.take_zero,(g_.mp h).2]
   simp_all
theorem Ky(h:ws≠[]):W_ " " (a::ws)=a++" "++W_ " " ws:=by cases ws with
|nil=>exact Q_f rfl h
|cons b t=>rfl
theorem JV:∀ws:List Str,(ws.map (·.length)).sum+ws.length<=(W_ " " ws).length+1
|[]=>by simp
|[a]=>by simp[W_]
|a::b::t=>by
  have Y:=JV (b::t);have U:((" " : Str)).length=1:=`k
  rw[Ky `s,ñ,ñ,U,í,List.sum_cons,Ë];omega
noncomputable abbrev cO(ws:List Str):D:=.lst (ws.map D.str)
theorem RM{Y:Type}{l:List Y}(e:Y->D)(U:Y->Bool)(g:Y->D)(b:fi r=.ok (l.map e))(Z:l.length<=1000)(h:∀a∈l,∃r1,ft (e a) (fB nl cap r)=some r1/\q r1=.ok (U a)/\(U a=true->fe r1=.ok (g a))):yQ nl cap fi ft q fe r=.ok (.lst ((l.filter U).map g)):=by unfold yQ;rw[b,bind_ok,nP (by simpa using Z),opt_some,bind_ok,CZ e U g l h,bind_ok]
theorem nE(h:jY d=some true):pf [d]=.ok .non:=by
 show bQ false (EB (cS 1 [d]))=_;have:EB (cS 1 [d])=.nx [some d]:=by exact bI ((de (nh (kM rfl h))).trans (e_skip _))
 rw[this];rfl
theorem pZ{ws:List Str}(U:ws≠[])(Z:∀p∈ws,32∉p.cps.toList)(Y:(W_ " " ws).length<=10000):ko [.str (W_ " " ws)]=.ok (cO ws):=by
 refine io (n:=1) ?_
 dsimp only[Ag,vL]
 refine(bI (mE (dS (aT (d:=.bl true) (fg (a:=.str (W_ " " ws)) rfl rfl) gE) (nE rfl)))).trans (gP (nq (ji (d:=.str (W_ " " ws)) rfl rfl (aT (d:=.str " ") rfl gE) ?_)));rw[zc `d Y,Da yW `k `s U Z]
theorem Sj(U:ws≠[])(Y:(W_ " " ws).length<=10000):Vu [cO ws]=.ok (.str (W_ " " ws)):=by
 refine d5 ?_;refine(bI (mE (dS (aD rfl) (nE ?_)))).trans (cR (ji rfl rfl (aD rfl) ((fun h=>by
    show(match nr _ with|some Z=>if Ċ " " Z=true then some _ else none|none=>none)=_;rw[Dc];have Y:((" " : Str)).length=1:=`k
    have:Ċ " " ws=true:=by
     unfold Ċ;have:=JV ws;rw[StrLaws.joinTotal,Y];unfold tooLong sizeLine
     grind
    simp only[this];show some (D.str (PySem.Builtin.Str.glued " " ws))=_;rw[Qcn]) Y)))
 cases ws with
|nil=>exact Q_f rfl U
|cons a t=>rfl
noncomputable abbrev bY(h:Nat):Str:=⟨#[48+h]⟩
noncomputable def dH(n:Nat):Str:=Txt.slice "0123456" none (some (n:Int))
noncomputable def iE(m:Nat):Str:=Txt.slice "ABCDEFGH" none (some (m:Int))
theorem Qm:((x_ 8).all fun n=>(x_ n).all fun h=>not ((î (dH n) (bY h) 0 (dH n).length 1).isEmpty)&&(î (dH n) (bY h) 0 (dH n).length 1).head? == some h)=true:=`q
theorem Qy:((x_ 9).all fun n=>(x_ n).all fun h=>not ((î (iE n) (dz h) 0 (iE n).length 1).isEmpty)&&(î (iE n) (dz h) 0 (iE n).length 1).head? == some h)=true:=`q
theorem CP(U:h<7):pD [nD h]=some (.str (bY h)):=by match h,U with
|0,_=>kernel_rfl
|1,_=>kernel_rfl
|2,_=>kernel_rfl
|3,_=>kernel_rfl
|4,_=>kernel_rfl
|5,_=>kernel_rfl
|6,_=>kernel_rfl
theorem Ja(Y:w.length=1)(U:(not ((î s w 0 s.length 1).isEmpty)&&(î s w 0 s.length 1).head? == some k)=true):vG [.str w,.str s]=.ok (nD k):=by
 rw[L_]at U;obtain⟨Z,a⟩:=U;refine d5 ?_;have c:jX (f2 (fC (lI 0) lenD) (ci 1) eqD) (f2 (gv 0) (gv 1) iV) (cS 2 [.str w,.str s])=.ok (.bl true):=by rw[pN (aP (cU (aD rfl) (by show(if w.length<=sizeLine then some _ else none)=_;rw[Q_d (by rw[Y,G_];decide),Y])) rfl (rO 1))];refine aP rfl rfl ?_;show some _=_;rw[Z]
 refine(bI (mE (dS (aD c) (nE rfl)))).trans (cR (ji rfl rfl (aD rfl) ?_));show(match î s w 0 s.length 1 with|i::_=>some _|[]=>none)=_
 grind
theorem Cs(Y:n<=7)(U:h<n):vG [.str (bY h),.str (dH n)]=.ok (nD h):=Ja rfl (P_.mp (P_.mp Qm n (D_.mpr `o)) h (D_.mpr U))
theorem Rc(Y:m<=8)(U:t<m):vG [.str (dz t),.str (iE m)]=.ok (nD t):=Ja rfl (P_.mp (P_.mp Qy m (D_.mpr `o)) t (D_.mpr U))
theorem DZ{l:List (Str×Str×Nat)}(Z:l.length<=60)(h:∀p∈l,vG [.str p.1,.str p.2.1]=.ok (nD p.2.2)):nJ [.lst (l.map fun p=>.str p.1),.lst (l.map fun p=>.str p.2.1)]=.ok (LN (l.map (·.2.2))):=by
 refine d5 ?_;refine(bI (mE (dS (aD (aP (cU (aD rfl) (jq _ _)) (cU (aD rfl) (jq _ _)) (rO _))) (nE rfl)))).trans (cR ?_);have U:Ł (fun a b=>DL.D.tup [a,b]) (l.map fun p=>D.str p.1) (l.map fun p=>D.str p.2.1)=l.map fun p=>.tup [.str p.1,.str p.2.1]:=`a
 refine(RM _ _ _ ((B1 rfl rfl rfl rfl).trans (by rw[U])) `o fun p Y=>⟨_,rfl,rfl,fun _=>dS (aT rfl (aD rfl)) (h p Y)⟩).trans ?_;rw[jJ];show Res.ok _=Res.ok (D.lst _);rw[N_];rfl
section
variable{rows:List (List Nat)}{owns:List (Option Nat)}{n m:Nat}
theorem zt(S:Txs rows owns n m):vI [WD rows]=.ok (.str (dH n)):=by refine d5 ?_;exact cR (BL rfl rfl (tX (cU (aD rfl) (by rw[jW,S.rl]))) rfl)
theorem J8(S:Txs rows owns n m):LL [WD rows]=.ok (.str (iE m)):=by refine io (n:=1) ?_;exact cR (BL (d:=.str "ABCDEFGH") (lo:=none) (hi:=some (m:Int)) rfl rfl (tX (cW (aD (d:=WD rows) rfl) (D4 S))) rfl)
theorem J6(S:Txs rows owns n m)(Y:h<n):pe [cO [bY h],WD rows]=.ok (nD h):=by refine d5 ?_;have e:=DZ (l:=[(bY h,dH n,h)]) `s (fun p U=>by rw[J_.mp U];exact Cs S.n7 Y);exact cR (aP (dS (aT rfl (aD (i9 (aD (cW (aD rfl) (zt S))) `s))) e) rfl (ixA_L0 _ _))
theorem Rb(S:Txs rows owns n m)(Z:h<n)(Y:t<m):Nw [cO [bY h,dz t],WD rows]=.ok (LN [h,t]):=by
 refine io (n:=2) ?_
 dsimp only[Nv,EN]
 have e:=DZ (l:=[(bY h,dH n,h),(dz t,iE m,t)]) `s (fun p U=>by
  rcases m_.mp U with rfl|U
  .exact Cs S.n7 Z
  .rw[J_.mp U];exact Rc S.m8 Y)
 exact cR (dS (aT rfl (aD (i9 (aT (cW (aD (d:=WD rows) rfl) (zt S)) (aD (cW (aD (d:=WD rows) rfl) (J8 S)))) `s))) e)
theorem JF:∀l:List Nat,lj (l.map nD)=some (l.map fun k:Nat=>(k:Int))
|[]=>rfl
|k::l=>by show(lj _).map _=_;rw[JF l];rfl
theorem Nd:∀(Y U:List Int),(U++Y).Nodup->(Y.foldl ź U).length=U.length+Y.length
|[],U,_=>rfl
|k::Y,U,h=>by
  have e:ź U k=U++[k]:=by
   unfold ź
   grind
  rw[Ř,e,Nd Y _ (by simpa using h)];simp;omega
theorem IS(ds:List D)(k:Int):j4 (.lst ds) (.int k)=if-(2^62)<=k/\k<2^62/\ds.length*k.toNat<=sizeLine then some (.lst ((j_ k.toNat ds).flatten))else none:=rfl
theorem JB{U:Type}(a:U):∀n:Nat,(j_ n [a]).flatten=j_ n a
|0=>rfl
|n+1=>by simp_all
theorem VZ(S:Txs rows owns n m){l:List Nat}(Z:l.Perm (x_ n)):qf [cO (l.map bY),WD rows]=.ok (LN l):=by
 have Y:=S.n7;have a:l.length=n:=by rw[Z.length_eq];simp
 have U:=Z.nodup_iff.mpr ŗ;have e:=DZ (l:=l.map fun h=>(bY h,dH n,h)) `g (fun p c=>by obtain⟨h,d,rfl⟩:=w_.mp c;exact Cs S.n7 (D_.mp (Z.mem_iff.mp d)));simp  at e;have g:l.map ((fun p=>p.2.2)∘fun h=>(bY h,dH n,h))=l:=by simp[Qex]
 rw[g]at e;have f:j4 (.lst [.str (dH n)]) (nD n)=some (.lst (l.map ((fun p=>D.str p.2.1)∘fun h=>(bY h,dH n,h)))):=by rw[IS];rw[Q_d ⟨`o,`o,by rw[G_];simp;omega⟩,ė];rw[JB,<-a,<-ř];rfl
 have b:qa [cO (l.map bY),.lst (l.map ((fun p=>D.str p.2.1)∘fun h=>(bY h,dH n,h)))]=.ok (LN l):=by
  refine d5 ?_;refine(dA (dS (aT rfl (aD rfl)) (by rw[show cO _=D.lst (l.map ((fun p=>D.str p.1)∘fun h=>(bY h,dH n,h)))by rw[cO,N_];rfl];exact e))).trans ?_;refine(bI (mE (dS (aD (aP (fg rfl ((fun i a=>by
     show(lj _).bind _=_;rw[JF];show(if _ then some _ else none)=_;have U:(l.map fun k:Nat=>(k:Int)).Nodup:=`g
     have e:(kn (l.map fun k:Nat=>(k))).length=l.length:=by have:=Nd _ [] (by simpa using U);unfold kn;rw[this];simp
     rw[Q_d (by rw[p_];unfold ú;omega),e]) U `o)) (cU (aD rfl) (jq _ _)) (rO _))) (nE rfl)))).trans (cR rfl)
 refine d5 ?_;exact cR (dS (aT rfl (aD (aP (i9 (aD (cW (aD rfl) (zt S))) `s) (cU (aD rfl) (by rw[jW,S.rl])) f))) b)
end
abbrev kD(rows:List (List Nat))(owns:List (Option Nat))(o:Option (List Nat)):D:=iD "Kept" [("wishes",WD rows),("owns",OD owns),("order",hJ o)]
theorem xV(h:U r=.ok [WD rows,OD owns,hJ o]):qW "Kept" U [] C4 r=.ok (kD rows owns o):=by unfold qW;rw[h];rfl
variable{rows:List (List Nat)}{owns:List (Option Nat)}{o:Option (List Nat)}{n m:Nat}
theorem kU(h:f r=.ok (kD rows owns o)):f1 f (dQ jG "wishes") r=.ok (WD rows):=fg h rfl
theorem sf(h:f r=.ok (kD rows owns o)):f1 f (dQ jG "owns") r=.ok (OD owns):=fg h rfl
theorem FB(h:f r=.ok (kD rows owns o)):f1 f (dQ jG "order") r=.ok (hJ o):=fg h rfl
noncomputable def ownS(owns:List (Option Nat))(h t:Nat):List (Option Nat):=(owns.map fun x=>if x=some t then none else x).set h (some t)
theorem II(fi:FI)(r:aI)(a:owns.length<=60)(Z:fi r=.ok (owns.map oD))(Y:fB 1 U r=[none,some (nD t)]):gG 1 U fi (bX 0) (fun _=>Res.ok true) (qy (cN (f2 (gv 0) (gv 1) eqD)) (fun _=>Res.ok D.non) (gv 0)) r=.ok (.lst ((owns.map fun x=>if x=some t then none else x).map oD)):=by
 refine(iq oD _ (fun x=>oD _) Z `o fun x _=>⟨_,by rw[Y];rfl,rfl,fun _=>?_⟩).trans (by rw[jJ,N_];rfl);have c:=dX (aP (f:=gv 0) (f':=gv 1) (r:=[some _,some _]) rfl rfl (AY x t));by_cases e:x=some t
 .rw[Q_c e]at c;rw[Q_d e];exact(re c).trans rfl
 .rw[Q_b e]at c;rw[Q_e e];exact(rc c).trans rfl
theorem Yl(x:Option Nat):eqD (oD x) .non=some (.bl (decide (x=none))):=by cases x <;> rfl
theorem VN(Y:h<owns.length)(U:owns.length<=60):K5 [kD rows owns o,nD h,nD t]=.ok (kD rows (ownS owns h t) o):=by
 refine d5 ?_;refine(dA (II _ _ U (iR (sf rfl) rfl) rfl)).trans ?_;refine(bI (mB (d':=.lst ((ownS owns h t).map oD)) rfl rfl rfl ?_)).trans ?_
 .rw[yV (by simpa using Y)];unfold ownS;rw[ś];rfl
 .exact cR (xV (aT (kU rfl) (aT (cU (aD rfl) rfl) (aD (FB rfl)))))
theorem VM(U:h<owns.length)(Y:owns.length<=60):K5 [kD rows owns o,nD h,.non]=.ok (kD rows (owns.set h none) o):=by
 refine d5 ?_;refine(dA ((iq oD _ oD (iR (sf rfl) rfl) `o fun x _=>⟨_,rfl,rfl,fun _=>?_⟩).trans (by rw[jJ]))).trans ?_
 .have c:=dX (aP (f:=gv 0) (f':=gv 1) (r:=[some _,some .non]) rfl rfl (Yl x));cases x with
 |none=>exact(re c).trans rfl
 |some k=>exact(rc c).trans rfl
 refine(bI (mB (d':=.lst ((owns.set h none).map oD)) rfl rfl rfl ?_)).trans ?_
 .rw[yV (by simpa using U),ś];rfl
 .exact cR (xV (aT (kU rfl) (aT (cU (aD rfl) rfl) (aD (FB rfl)))))
theorem J7(S:Txs rows owns n m):AA [.str (fj rows owns)]=.ok (kD rows owns none):=by refine d5 ?_;refine(dA (dS (aD rfl) (Sh S))).trans (cR (xV ?_));exact aT (aP rfl rfl (km rfl)) (aT (aP rfl rfl (km rfl)) (aD rfl))
theorem Dm(S:Txs rows owns n m):(fj rows owns).length<=1000:=Km S.l8 (by rw[S.rl];exact S.n7)
theorem Ux(S:Txs rows owns n m):Ev [k,cO (Txt.split (fj rows owns) " ")]=.ok (kD rows owns none):=by
 have e:=QcV (fj rows owns) " ";have Y:=Dm S;refine io (n:=2) ?_
 dsimp only[MM,Ez]
 have U:=Sj (Cz (fj rows owns) " ") (by rw[e];omega);rw[e]at U;exact cR (dS (aD (dS (aD rfl) U)) (J7 S))
def pj(l:List Nat):Str:=W_ " " (l.map dz)
theorem Ji(Y:l.length<=60):oF (.str " ") [.lst ((l.map dz).map D.str)]=some (.str (pj l)):=by
 have Z:((" " : Str)).length=1:=`k
 exact rq (fun y U=>by obtain⟨x,_,rfl⟩:=w_.mp U;exact k_ 1) `g
theorem PN(Z:∀x∈l,x<8)(Y:l.length<=60):Eu [TN l]=.ok (.str (pj l)):=by
 refine d5 ?_;have e:gG 1 [] (df fV (gv 0)) (bX 0) (fun _=>Res.ok true) (f2 (fun _=>Res.ok (D.str "ABCDEFGH")) (gv 0) di) (cS 1 [TN l])=.ok (.lst ((l.map dz).map D.str)):=by refine(iq nD _ _ (iR rfl rfl) `o fun x U=>⟨_,rfl,rfl,fun _=>aP rfl rfl (tt (Z x U))⟩).trans ?_;rw[jJ,N_];rfl
 exact cR (ji rfl rfl (aD e) (Ji Y))
theorem PM(h:Dr [WD rows,OD owns,hJ o]=.ok (TN l))(Y:∀x∈l,x<8)(U:l.length<=60):Ar [kD rows owns o,.lst []]=.ok (.str (pj l)):=by
 refine d5 (B:=Ap) (n:=2) ?_;unfold Ap;refine(bI (mE (dS (aD (d:=.bl true) (fg (a:=.lst []) rfl rfl)) (nE rfl)))).trans ?_;exact cR (cW (aD (cW (aT (kU rfl) (aT (sf rfl) (aD (FB rfl)))) h)) ((fun Y U=>by
    refine d5 ?_;have e:gG 1 [] (df fV (gv 0)) (bX 0) (fun _=>Res.ok true) (f2 (fun _=>Res.ok (D.str "ABCDEFGH")) (gv 0) di) (cS 1 [TN l])=.ok (.lst ((l.map dz).map D.str)):=by refine(iq nD _ _ (iR rfl rfl) `o fun x Z=>⟨_,rfl,rfl,fun _=>aP rfl rfl (tt (Y x Z))⟩).trans ?_;rw[jJ,N_];rfl
    exact cR (ji rfl rfl (aD e) (Ji U))) Y U))
section
variable{r r':aI}{w w':DW}{d:D}{f1' f2':dW}{f:D->FS}{p:D->FQ}
theorem eU(h:f1' r w=.nx r' w'):bM f1' f2' r w=f2' r' w':=by unfold bM;rw[h]
theorem A8(h:f1' r w=.rt d w'):bM f1' f2' r w=.rt d w':=by unfold bM;rw[h]
theorem jQ(h:f w.1 r=.nx r'):cZ f r w=.nx r' w:=by unfold cZ;rw[h]
theorem NJ(h:f w.1 r=.rt d):cZ f r w=.rt d w:=by unfold cZ;rw[h]
theorem qz(h:p w.1 r=.ok true):l6 p f1' f2' r w=f1' r w:=by unfold l6;rw[h];rfl
theorem l9(h:p w.1 r=.ok false):l6 p f1' f2' r w=f2' r w:=by unfold l6;rw[h];rfl
end
theorem ll(h:f r=.ok (.str s))(e:(U.lookup s).isSome=b):qw U f r=.ok b:=by unfold qw;rw[h,bind_ok];simp_all
theorem yP(c:Y r=.ok (.str s))(b:F s=some g)(a:U r=.ok ds)(Z:g ds=z):sj F Y U r=z:=by unfold sj;rw[c,bind_ok];simp only[b,a,bind_ok,Z]
theorem YQ:AL (.lst (a::ds)) (some 1) none=some (.lst ds):=by show some _=_;unfold ie;have U:HT.sIx (a::ds).length 0 (some 1)=1:=(HT.kr _ _ 1).trans (rfl);rw[U,HT.jv];simp
theorem Pv{lo hi:Option Int}(e:Z r=.ok d)(c:U r=.ok lo)(b:Y r=.ok hi)(a:AL d lo hi=some d'):ka Z U Y r=.ok d':=by unfold ka;rw[e,bind_ok,c,bind_ok,b,bind_ok,a];rfl
theorem Jj(h:yU (cL 5 ds) z=.rt d U):kL z ds=some (d,U):=by show iC (yU (cL 5 ds) z)=_;rw[h];rfl
abbrev zn(l f:Str)(w:List Str):aI:=[none,some (.str l),some (cO (f::w)),some (.str f),none]
section
variable{k:D}{past:List D}{first line:Str}{ws:List Str}
theorem xC(h:eh r 2=.ok (cO (first::ws))):A_tell k r=.ok [k,cO ws]:=aT rfl (aD (Pv h (tX rfl) rfl YQ))
theorem vV(U:ko [.str line]=.ok (cO (first::ws))):t8 (cL 5 [.str line])=.nx [none,some (.str line),some (cO (first::ws)),none,none]:=jm (dS (aD (d:=.str line) rfl) U)
theorem vU:uA [none,some (.str line),some (cO (first::ws)),none,none]=.nx (zn line first ws):=jm (aP rfl rfl (ixA_L0 _ _))
theorem IJ(Y:ko [.str line]=.ok (cO (first::ws))):bM (cZ fun _=>t8) (bM (cZ fun _=>uA) U) (cL 5 [.str line]) z=U (zn line first ws) z:=(eU (jQ (vV Y))).trans (eU (jQ vU))
theorem Gy(S:Txs rows owns n m):bM (cZ fun U=>retF iQ (cP (aG (f1 (fun _=>.ok U) (dQ jG "wishes")) (aG (f1 (fun _=>.ok U) (dQ jG "owns")) aE)) [] DB)) gU r (kD rows owns o,past)=.rt (.str (fj rows owns)) (kD rows owns o,past):=A8 (NJ (nq (cW (aT (kU rfl) (aD (sf rfl))) (V1 S.b8 S.l8 (by rw[S.rl];exact S.n7)))))
theorem zx(S:Txs rows owns n m)(U:ko [.str line]=.ok (cO (first::ws)))(hq:(fY.lookup first).isSome=false)(Z:(gz.lookup first).isSome=true)(a:pW first=some f)(Y:f [k,cO ws]=.ok (kD rows owns o))(b:past.length<=1000):kL (k,past) [.str line]=some (.str (fj rows owns),(kD rows owns o,past++[k])):=by
 refine Jj ?_;refine(IJ U).trans ?_;refine(eU (l9 (ll rfl hq))).trans ?_;refine(eU (r':=[none,some (.str line),some (cO (first::ws)),some (.str first),some (kD rows owns o)]) ((qz (ll rfl Z)).trans ?_)).trans (Gy S);refine(eU (jQ (jm (yP rfl a (xC rfl) Y)))).trans ?_;refine(eU (r':=[none,some (.str line),some (cO (first::ws)),some (.str first),some (kD rows owns o)]) (w':=(k,past++[k])) ?_).trans ?_
 .show(if past.length<sizeLine then _ else _)=_;rw[Q_d (by rw[G_];omega)];rfl
 .exact eU rfl
theorem HA:eqD (cO ["undo"]) (cO ["undo"])=some (.bl true):=by
 have h:∀d∈(["undo"]:List Str).map D.str,dZ 59 d:=fun d U=>by rw[J_.mp U];unfold dZ;decide+kernel
 unfold eqD;rw[zh rfl (pV.mpr h) (pV.mpr h)];unfold oj;simp[dy,zeM,ń,ĕ]
theorem UU(S:Txs rows owns n m):kL (k,past++[kD rows owns o]) [.str "undo"]=some (.str (fj rows owns),(kD rows owns o,past)):=by
 refine Jj ?_;have U:ko [.str "undo"]=.ok _:=pZ (ws:=["undo"]) `s (fun p Z=>by rw[J_.mp Z];decide+kernel) `d;refine(IJ U).trans ?_;refine(eU (l9 (ll rfl `r))).trans ?_;refine(eU (r':=(zn "undo" "undo" [])) ((l9 (ll rfl `r)).trans ?_)).trans (Gy S);refine(eU (jQ (mE (dS (aD (aP rfl rfl HA)) (nE rfl))))).trans (eU ?_);have Y:yL (k,past++[kD rows owns o]) []=some (.non,(kD rows owns o,past)):=by
  show iC (bM qX _ (cL 1 []) _)=_;have b:qX (cL 1 []) (k,past++[kD rows owns o])=.nx (cL 1 []) (k,past++[kD rows owns o]):=by unfold qX;rw[Q_e `s]
  have a:sR (cL 1 []) (k,past++[kD rows owns o])=.nx (cL 1 []) (kD rows owns o,past):=by
   unfold sR
   simp_all
  rw[eU b,eU a];rfl
 unfold yO;rw[Y]
theorem S9(h:kL z [.str U]=some (.str s,Y)):Ah z [.str U,.str s]=some (.bl true,Y):=by
 show iC (Af (cL 4 [.str U,.str s]) z)=_;have e:Af (cL 4 [.str U,.str s]) z=.rt (.bl true) Y:=by
  refine(eU (r':=[none,some (.str U),some (.str s),some (.str s)]) ?_).trans (A8 (NJ (nq ?_)))
  .show(match kL z [.str U]with|some (d,Z)=>OutD.nx _ Z|none=>.stuck)=_;rw[h];rfl
  .rw[pN (fg (a:=.str s) rfl rfl)];refine aP rfl rfl ?_;unfold eqD;rw[eqB_str,beq_self_eq_true];rfl
 rw[e];rfl
end
theorem Ib(U:h<l.length)(j:Nat):own (l.set h a) j=if j=h then a else own l j:=by
 unfold own
 grind
theorem Qi(l:List (Option Nat))(t j:Nat):own (l.map fun x=>if x=some t then none else x) j=if own l j=some t then none else own l j:=by
 unfold own
 grind
theorem Own.ownS(w:Own owns m)(b:h<owns.length)(a:t<m):Own (ownS owns h t) m where
 lt:=fun x Z=>by
  rcases QcY Z with z|z
  .obtain⟨y,h1,h2⟩:=w_.mp z;split at h2
   .cases h2
   .subst h2;exact w.lt x h1
  .cases z;exact a
 inj:=fun j k x h1 h2=>by
  unfold Law.ownS at h1 h2;rw[Ib (by simpa using b),Qi]at h1 h2;by_cases Y:j=h <;> by_cases U:k=h
  .rw[Y,U]
  .simp_all
  .simp_all
  .rw[Q_e Y]at h1;rw[Q_e U]at h2;split at h1
   .cases h1
   .split at h2
    .cases h2
    .exact w.inj j k x h1 h2
theorem Own.lose(w:Own owns m)(a:h<owns.length):Own (owns.set h none) m where
 lt:=fun x Z=>by
  rcases QcY Z with z|z
  .exact w.lt x z
  .cases z
 inj:=fun j k x Y U=>by
  rw[Ib a]at Y U;split at Y
  .cases Y
  .split at U
   .cases U
   .exact w.inj j k x Y U
def oT:Option (List Nat)->D
|none=>.non
|some l=>TN l
abbrev kO(rows:List (List Nat))(owns:List (Option Nat))(o:Option (List Nat)):D:=.tup [WD rows,OD owns,oT o]
theorem Scene.tx(S:Scene rows owns o n m):Txs rows owns n m:=⟨S.n1,S.n7,S.nm,S.m8,S.rl,S.rp,S.ow,S.ol⟩
def sr(rows:List (List Nat))(owns:List (Option Nat))(o:Option (List Nat))(line:Str)(rows':List (List Nat))(owns':List (Option Nat))(o':Option (List Nat)):Prop:=(∃n m,Scene rows' owns' o' n m)/\∀past:List D,past.length<=1000->kL (kD rows owns o,past) [.str line]=some (.str (fj rows' owns'),(kD rows' owns' o',past++[kD rows owns o]))
theorem JL(S:Txs U Y b m'):sr rows owns o ("rows "++fj U Y) U Y none:=by
 refine⟨⟨b,m',S.n1,S.n7,S.nm,S.m8,S.rl,S.rp,S.ow,S.ol,fun l h=>nomatch h⟩,fun a Z=>?_⟩;have g:("rows " : Str) = "rows"++" " := rfl;have e:=QcV (fj U Y) " ";have d:W_ " " ("rows"::Txt.split (fj U Y) " ") = "rows "++fj U Y:=by rw[Ky (Cz _ _),e,g]
 have i:=Dm S;have f:("rows " : Str).length=5:=`r
 have c:=pZ (ws := "rows"::Txt.split _ " ") `s (fun p Z=>by
  rcases m_.mp Z with e|e
  .rw[e];decide+kernel
  .exact VR p e) (by rw[d,ñ,f];omega)
 rw[d]at c;exact zx S c `r `d (Q_d rfl) (Ux S) Z
theorem Pq(S:Scene rows owns o n m)(Y:h<n)(Z:t<m):sr rows owns o ("own "++bY h++" "++dz t) rows (ownS owns h t) o:=by
 have l:h<owns.length:=by rw[S.ol];exact Y
 have g:Scene rows _ o n m:=⟨S.n1,S.n7,S.nm,S.m8,S.rl,S.rp,S.ow.ownS l Z,by unfold ownS;rw[Ē,p_,S.ol],S.op⟩
 refine⟨⟨n,m,g⟩,fun f c=>?_⟩;have k:(W_ " " ["own",bY h,dz t]).length<=10000:=by
  have:=Ž " " ["own",bY h,dz t];have u:("own" : Str).length=3:=`r
  have s:(" " : Str).length=1:=`k
  simp  at this;have r:(bY h).length=1:=rfl;have q:(dz t).length=1:=rfl;omega
 have j:=pZ `s (fun p c=>by
  rcases m_.mp c with e|e
  .rw[e];decide+kernel
  grind) k
 exact zx g.tx j `r `r ((Q_e `d).trans (Q_d rfl)) ((fun S Y Z=>by
    have U:=S.n7;refine io (n:=3) ?_
    dsimp only[Mf,Ef]
    refine(dA (dS (aT (d:=cO [bY h,dz t]) rfl (aD (kU rfl))) (Rb S Y Z))).trans ?_;exact cR (cW (aT (d:=kD rows owns o) rfl (aT (d:=nD h) (aP (a:=LN [h,t]) (b:=nD 0) rfl rfl (ixA_L0 _ _)) (aD (d:=nD t) (aP (a:=LN [h,t]) (b:=nD 1) rfl rfl (m9 (i:=1) rfl))))) (VN (by rw[S.ol];exact Y) (by rw[S.ol];omega)))) S.tx Y Z) c
theorem RK(S:Scene rows owns o n m)(Y:h<n):sr rows owns o ("none "++bY h) rows (owns.set h none) o:=by
 have g:h<owns.length:=by rw[S.ol];exact Y
 have c:Scene rows _ o n m:=⟨S.n1,S.n7,S.nm,S.m8,S.rl,S.rp,S.ow.lose g,by rw[Ē,S.ol],S.op⟩
 refine⟨⟨n,m,c⟩,fun b Z=>?_⟩;have k:("none ") = "none"++" " := rfl;have j:W_ " " ["none",bY h] = "none "++bY h:=`r
 have i:("none ").length=5:=`r
 have f:=pZ (ws:=["none",bY h]) `s (fun p Z=>by
  rcases m_.mp Z with e|e
  .rw[e];decide+kernel
  grind) (by show 5+1<=10000;decide)
 exact zx c.tx f `r `r ((Q_e `d).trans ((Q_e `d).trans (Q_d rfl))) ((fun S Y=>by
    have U:=S.n7;refine io (n:=2) ?_
    dsimp only[ML,Ey]
    exact cR (cW (aT (d:=kD rows owns o) rfl (aT (dS (aT (d:=cO [bY h]) rfl (aD (kU rfl))) (J6 S Y)) (aD (d:=.non) rfl))) (VM (by rw[S.ol];exact Y) (by rw[S.ol];omega)))) S.tx Y) Z
theorem Ti(S:Scene rows owns o n m)(Y:l.Perm (x_ n)):sr rows owns o (W_ " " ("order"::l.map bY)) rows owns (some l):=by
 have b:Scene rows owns (some l) n m:=⟨S.n1,S.n7,S.nm,S.m8,S.rl,S.rp,S.ow,S.ol,fun k e=>by cases e;exact Y⟩
 refine⟨⟨n,m,b⟩,fun Z j=>?_⟩;have q:l.length=n:=by rw[Y.length_eq];simp
 have U:=S.n7;have i:(W_ " " ("order"::l.map bY)).length<=10000:=by
  have h:=Ž " " ("order"::l.map bY);have r:=Qc3 (B:=5) ("order"::l.map bY) (fun y c=>by
   rcases m_.mp c with e|e
   .rw[e];decide+kernel
   .obtain⟨x,_,rfl⟩:=w_.mp e;show 1<=5;decide)
  have s:(" " : Str).length=1:=`k
  grind
 have g:=pZ (ws := "order"::l.map bY) `s (fun p Y=>by
  rcases m_.mp Y with e|e
  .rw[e];decide+kernel
  grind) i
 exact zx b.tx g `r `r (f:=Aq) ((Q_e `d).trans ((Q_e `d).trans ((Q_e `d).trans (Q_d rfl)))) ((fun S Y=>by refine d5 (B:=Ao) (n:=2) ?_;unfold Ao;exact gP (nq (xV (aT (kU rfl) (aT (sf rfl) (aT (d:=LN l) (dS (aT (d:=cO (l.map bY)) rfl (aT (kU rfl) gE)) (VZ S Y)) gE)))))) S.tx Y) j
theorem YE(h:a.length+b.length<=1000):addA (.lst a) (.lst b)=some (.lst (a++b)):=by show(if a.length+b.length<=sizeLine then _ else _)=_;rw[Q_d (by rw[G_];omega)]
abbrev zz(c:Nat)(rows:List (List Nat))(owns:List (Option Nat))(o:Option (List Nat))(n m:Nat)(l:aI):aI:=some (nD (c/5))::some (kO rows owns o)::some (WD rows)::some (OD owns)::some (oT o)::some (nD n)::some (nD m)::some (nD (c%5))::l
theorem Uy(S:Scene rows owns o n m)(c:Nat):∃d a b i,sr rows owns o d a b i/\Av [nD c,kO rows owns o]=.ok (.tup [.str d,kO a b i]):=by
 have LE:=S.n1;have LT:=S.n7;have KK:=S.m8;have IO:=S.nm;have F:c/5%n<n:=Ā _ (by assumption);have O:c/5/n%m<m:=Ā _ `o;have s:lenD [WD rows]=some (nD n):=by rw[jW,S.rl]
 obtain⟨w,Cl,dl⟩:∃w,di (WD rows) (.int 0)=some (TN w)/\lenD [TN w]=some (nD m):=by have BT:=S.ne;have h0:=S.row0;cases rows with
 |nil=>exact Q_f rfl BT
 |cons r rest=>exact⟨r,ixA_T0 _ _,by rw[jW];simp_all⟩
 suffices h:∃d a b i,sr rows owns o d a b i/\D8 _=.rt _ by obtain⟨d,a,b,i,T,R⟩:=h;exact⟨d,a,b,i,T,d5 (n:=12) R⟩
 unfold D8;have W:∀v,(seqF (jB iA (gv 1) (jb (eJ (bX 2) (eJ (bX 3) (eJ (bX 4) i7))))) (seqF (aN iA 5 (fC (lI 2) lenD)) (seqF (aN iA 6 (fC (aG (f2 (gv 2) (ci 0) di) aE) lenD)) (seqF (aN iA 7 (f2 (gv 0) (ci 5) cQ)) (seqF (aN iA 0 (f2 (gv 0) (ci 5) i0)) v))))) (cS 12 [nD c,kO rows owns o])
   = v (zz c rows owns o n m [none,none,none,none]):=by intro v;refine(bI (yN rfl rfl)).trans ?_;refine(dA (cU (aD rfl) s)).trans ?_;refine(dA (cU (aD (aP rfl rfl Cl)) dl)).trans ?_;refine(dA (aP rfl rfl (kJ `d))).trans ?_;exact dA (aP rfl rfl (nu `d `d))
 rw[W];have U:∀(k:Nat)(H G p Z:Option D),(cN (f2 (gv 7) (fun _=>Res.ok (D.int (k))) eqD)) (zz c rows owns o n m [H,G,p,Z])=.ok _:=fun k H G p Z=>dX (aP rfl rfl (ky _ _));have g:(cN (f2 (gv 5) (ci 1) eqD)) (zz c rows owns o n m [none,none,none,none])=.ok _:=dX (aP rfl rfl (ky _ _));by_cases C:c%5=0\/(c%5=4/\n=1)
 .obtain⟨a,b,n',m',S',hs⟩:=T8 _;refine⟨_,a,b,none,JL S',gP ((dO ?_).trans ?_)⟩
  .have w0:=U 0 none none none none;have f:=U 4 none none none none;by_cases z:c%5=0
   .rw[Q_c z]at w0;exact qr w0
   .obtain⟨z4,z1⟩:=C.resolve_left z;rw[Q_b z]at w0;rw[Q_c z4]at f;rw[Q_c z1]at g;exact(gK w0).trans ((mZ f).trans g)
  .refine(bI (yN (cW (aD rfl) hs) rfl)).trans ?_;refine cR (im (aT (aP rfl (cW (aT rfl (aD rfl)) (Ko S')) ?_) (aD (im (aT rfl (aT rfl (aD rfl))) `s))) `s);have L:=Dm S';have Q:("rows " : Str).length=5:=`r
   show(if ("rows " : Str).length+(fj a b).length<=sizeLine then _ else _)=_;rw[Q_d (by rw[Q,G_];omega)]
 .have f1':(kb (cN (f2 (gv 7) (ci 0) eqD)) (gM (cN (f2 (gv 7) (ci 4) eqD)) (cN (f2 (gv 5) (ci 1) eqD)))) (zz c rows owns o n m [none,none,none,none])=.ok false:=by
   have w0:=U 0 none none none none;have f:=U 4 none none none none;rw[Q_b (fun z=>C (.inl z))]at w0;refine(gK w0).trans ?_;by_cases z4:c%5=4
   .rw[Q_c z4]at f;rw[Q_b (fun z=>C (.inr ⟨z4,z⟩))]at g;exact(mZ f).trans g
   .rw[Q_b z4]at f;exact sC f
  rw[bI ((de f1').trans (e_skip _))];rw[bI (jm (aP rfl rfl (kJ (by assumption))))];show ∃d a b i,_/\seqF _ _ [some _,some _,some _,some _,some _,some _,some _,some _,some _,none,none,none]=_;have K:c/5%n<owns.length:=by rw[S.ol];exact F
  have E:owns.length<=60:=by rw[S.ol];omega
  have Y:=CP (h:=c/5%n) `o;have j:=U 1 (some (nD (c/5%n))) none none none;have f:=U 4 (some (nD (c/5%n))) none none none;by_cases A:c%5=1\/c%5=4
  .refine⟨_,rows,_,o,Pq S F O,gP ((dO ?_).trans ?_)⟩
   .by_cases z:c%5=1
    .rw[Q_c z]at j;exact qr j
    .rw[Q_b z]at j;rw[Q_c (A.resolve_left z)]at f;exact(gK j).trans f
   .refine(dA (aP (aP rfl rfl (nu (by assumption) `o)) rfl (kJ `o))).trans ?_;refine(dA (II _ _ E (iR rfl rfl) rfl)).trans ?_;refine(bI (mB (d':=.lst ((ownS owns (c/5%n) (c/5/n%m)).map oD)) rfl rfl rfl ?_)).trans ?_
    .rw[yV (by simpa using K)];unfold ownS;rw[ś];rfl
    .have e4:("own " : Str).length=4:=`r
     have M:(" " : Str).length=1:=`k
     have t:(bY (c/5%n)).length=1:=rfl;have X:(dz (c/5/n%m)).length=1:=rfl;refine cR (im (aT (aP (aP (aP rfl (cU (aD rfl) Y) (oN (by rw[e4,t];decide))) rfl (oN (by rw[ñ,e4,t,M];decide)))
      (aP rfl rfl (tt `o)) (oN (by rw[ñ,ñ,e4,t,M,X];decide))) (aD (im (aT rfl (aT (cU (aD rfl) rfl) (aD rfl))) `s))) `s)
  .have q:(kb (cN (f2 (gv 7) (ci 1) eqD)) (cN (f2 (gv 7) (ci 4) eqD))) (zz c rows owns o n m [some (nD (c/5%n)),none,none,none])=.ok false:=by rw[Q_b (fun z=>A (.inl z))]at j;rw[Q_b (fun z=>A (.inr z))]at f;exact(gK j).trans f
   rw[bI ((de q).trans (e_skip _))];have u:=U 2 (some (nD (c/5%n))) none none none;by_cases I:c%5=2
   .rw[Q_c I]at u;refine⟨_,rows,_,o,RK S F,gP ((dO u).trans ?_)⟩;refine(bI (mB (d':=.lst ((owns.set (c/5%n) none).map oD)) rfl rfl rfl ?_)).trans ?_
    .rw[yV (by simpa using K),ś];rfl
    .have e5:("none " : Str).length=5:=`r
     have t:(bY (c/5%n)).length=1:=rfl;refine cR (im (aT (aP rfl (cU (aD rfl) Y) (oN (by rw[e5,t];decide))) (aD (im (aT rfl (aT (cU (aD rfl) rfl) (aD rfl))) `s))) `s)
   .rw[Q_b I]at u;obtain⟨l,J,L⟩:=Jb _ n `o;have Id:l.length=n:=by rw[J.length_eq];simp
    refine⟨_,rows,owns,some l,Ti S J,(bI ((de u).trans (e_skip _))).trans ?_⟩;refine(dA (cW (aT rfl (aD rfl)) L)).trans ?_;have h3:((" " : Str)).length=1:=`k
    have ec:∀r,eh r 11=.ok (TN l)->gG 1 [] (df fV (gv 11)) (bX 0) (fun _=>Res.ok true) (fC (lI 0) pD) r=.ok (.lst ((l.map bY).map D.str)):=fun r P=>by refine(iq nD _ _ (iR P rfl) `o fun x hx=>⟨_,rfl,rfl,fun _=>cU (aD rfl) (CP `g)⟩).trans ?_;rw[jJ,N_];rfl
    refine cR (im (aT (ji rfl rfl (aD (aP (i9 (aD rfl) `s) (ec _ rfl) (YE `g)))
     (rq (l := "order"::l.map bY) (B:=5) (fun y N=>by
      rcases m_.mp N with e|e
      .rw[e];decide+kernel
      .obtain⟨x,_,rfl⟩:=w_.mp e;show 1<=5;decide) `g)) (aD (im (aT rfl (aT rfl (aD rfl))) `s))) `s)
end Law
namespace Law
open PySem PyProof.Rows L2 DL PySem.Builtin
section
variable{r r':aI}{x d:D}{fl:aI->Res (List D)}{f f':FE}{F:List D->Res D}{m:List Md}{dds:List D}
theorem fq(h:U r=.exc x r'):seqF U Y r=.exc x r':=by unfold seqF;rw[h]
theorem iP{B:FS}(h:B (cS n ds)=.exc x r'):bQ false (B (cS n ds))=.exc x:=by rw[h];rfl
theorem uG(h:f r=.exc x):aN m i f r=.exc x (forget m r):=by unfold aN;rw[h];rfl
theorem o7(h:f r=.exc x):jP m f r=.exc x (forget m r):=by unfold jP;rw[h];rfl
theorem mH(h:f r=.exc x):retF m f r=.exc x (forget m r):=by unfold retF;rw[h];rfl
theorem rM{F:oy}(Z:fl r=.ok U)(Y:F w U=z):my w fl F r=z:=by unfold my;rw[Z,bind_ok,Y]
theorem rN(h:fl r=.exc x):cP fl dds F r=.exc x:=by unfold cP;rw[h];rfl
theorem Yn(h:fl r=.exc x):fC fl g r=.exc x:=by unfold fC;rw[h];rfl
theorem oO(h:f r=.exc x):aG f fl r=.exc x:=by unfold aG;rw[h];rfl
theorem tV(U:f r=.ok d)(h:fl r=.exc x):aG f fl r=.exc x:=by unfold aG;rw[U,h];rfl
theorem Bq(h:f r=.exc x):f2 f f' g r=.exc x:=by unfold f2;rw[h];rfl
theorem Cq(h:fl r=.ok [d]):nS m nm fl r=.exc (xD nm []) (forget m r):=by unfold nS;rw[h];rfl
end
abbrev hU:D:=xD "NoLine" []
theorem sQ(h:jY d=some false):pf [d]=.exc hU:=iP (fq ((dO (nh (kM rfl h))).trans (fq (Cq rfl))))
noncomputable def oa(r:Res D):Bool:=match r with
|.exc (.obj 0 [(k,.str s)])=>k == "__class__" && s == "NoLine"
|_=>false
theorem pM(h:oa r=true):r=.exc hU:=by
 unfold oa at h
 grind
variable{ws:List Str}
section
variable{rows:List (List Nat)}{owns:List (Option Nat)}{o:Option (List Nat)}{n m:Nat}
theorem AZ(S:Txs rows owns n m)(h:eh r i=.ok (WD rows)):cP (aG (fun r=>eh r i) aE) [] vI r=.ok (.str (dH n)):=cW (aD h) (zt S)
theorem Gh(S:Txs rows owns n m)(h:eh r i=.ok (WD rows)):cP (aG (fun r=>eh r i) aE) [] LL r=.ok (.str (iE m)):=cW (aD (d:=WD rows) h) (J8 S)
theorem G9(S:Txs rows owns n m):j4 (.lst [.str x]) (nD n)=some (.lst (j_ n (.str x))):=by have:=S.n7;rw[IS,Q_d ⟨`o,`o,by rw[G_];simp;omega⟩,ė,JB]
theorem BD(S:Txs rows owns n m)(h:nJ [cO ws,.lst [.str (dH n)]]=.exc hU):pe [cO ws,WD rows]=.exc hU:=iP (fq (mH (Bq (dS (aT rfl (aD (i9 (aD (AZ S rfl)) `s))) h))))
theorem HX(S:Txs rows owns n m)(h:qa [cO ws,.lst (j_ n (.str (dH n)))]=.exc hU):qf [cO ws,WD rows]=.exc hU:=iP (fq (mH (dS (aT rfl (aD (aP (i9 (aD (AZ S rfl)) `s) (cU (aD rfl) (by rw[jW,S.rl])) (G9 S)))) h)))
abbrev WA(rows:List (List Nat))(owns:List (Option Nat))(o:Option (List Nat))(ws:List Str):List D:=[kD rows owns o,cO ws]
theorem oG(U:eh r 1=.ok (cO ws))(Y:eh r 0=.ok (kD rows owns o)):aG (gv 1) (aG (f1 (gv 0) (dQ jG "wishes")) aE) r=.ok [cO ws,WD rows]:=aT U (aD (kU Y))
theorem Cr(h:ws.isEmpty=false):EG (WA rows owns o ws)=.exc hU/\Es (WA rows owns o ws)=.exc hU/\Ar (WA rows owns o ws)=.exc hU:=by cases ws with
|nil=>cases h
|cons a t=>exact⟨iP (B:=M7) (n:=2) (fq (o7 (dS (aT (d:=.bl false) (fg (a:=cO (a::t)) rfl rfl) gE) (sQ rfl)))),iP (B:=MF) (n:=2) (fq (o7 (dS (aT (d:=.bl false) (fg (a:=cO (a::t)) rfl rfl) gE) (sQ rfl)))),iP (B:=Ap) (n:=2) (fq (o7 (dS (aT (d:=.bl false) (fg (a:=cO (a::t)) rfl rfl) gE) (sQ rfl))))⟩
theorem FM(h:qf [cO ws,WD rows]=.exc hU):D9 (WA rows owns o ws)=.exc hU:=iP (fq (mH (rN (oO (rN (tV (kU rfl) (oO (dS (oG rfl rfl) h))))))))
theorem Fk(h:Wy [cO ws,WD rows]=.exc hU):Mi (WA rows owns o ws)=.exc hU:=iP (fq (mH (rN (oO (rN (tV (kU rfl) (oO (dS (oG rfl rfl) h))))))))
theorem Xj(h:pe [cO ws,WD rows]=.exc x):Ew (WA rows owns o ws)=.exc x:=iP (fq (uG (dS (oG rfl rfl) h)))
theorem X1(h:pe [cO ws,WD rows]=.exc x):vN (WA rows owns o ws)=.exc x:=iP (fq (uG (dS (oG rfl rfl) h)))
theorem Xt(h:Nw [cO ws,WD rows]=.exc hU):Mh (WA rows owns o ws)=.exc hU:=iP (fq (uG (dS (oG rfl rfl) h)))
theorem OT(h:pe [cO ws,WD rows]=.exc hU):MO (WA rows owns o ws)=.exc hU:=iP (fq (mH (rN (tV rfl (oO (dS (oG rfl rfl) h))))))
theorem Xs(h:qf [cO ws,WD rows]=.exc hU):Aq (WA rows owns o ws)=.exc hU:=iP (B:=Ao) (n:=2) (fq (mH ((fun h=>by unfold qW;rw[h];rfl) (tV (kU rfl) (tV (sf rfl) (oO (dS (oG rfl rfl) h)))))))
end
theorem sU(h:pO z (cL 5 [d])=.exc x r'):gW z [d]=.exc x:=by show bQ false (pO z (cL 5 [d]))=_;rw[h];rfl
section
variable{z:DW}{first line:Str}{x:D}{f:List D->Res D}
theorem uS(Y:ko [.str line]=.ok (cO (first::ws))):seqF t8 (seqF uA U) (cL 5 [.str line])=U (zn line first ws):=(bI (vV Y)).trans (bI vU)
theorem iS(U:ko [.str line]=.ok (cO (first::ws)))(hq:(fY.lookup first).isSome=true)(Y:rL first=some f)(h:f [z.1,cO ws]=.exc x):gW z [.str line]=.exc x:=sU ((uS U).trans (fq ((dO (ll rfl hq)).trans (fq (mH (yP rfl Y (xC rfl) h))))))
theorem Gz(U:ko [.str line]=.ok (cO (first::ws)))(hq:(fY.lookup first).isSome=true)(Y:rL first=some f)(h:f [z.1,cO ws]=.ok a):gW z [.str line]=.ok a:=by
 show bQ false (pO z (cL 5 [.str line]))=_;have:pO z (cL 5 [.str line])=.rt a:=by exact(uS U).trans (gP ((dO (ll rfl hq)).trans (cR (yP rfl Y (xC rfl) h))))
 rw[this];rfl
theorem lO(U:ko [.str line]=.ok (cO (first::ws)))(hq:(fY.lookup first).isSome=false)(Y:(gz.lookup first).isSome=true)(Z:pW first=some f)(h:f [z.1,cO ws]=.exc x):gW z [.str line]=.exc x:=sU ((uS U).trans ((bI ((de (ll rfl hq)).trans (e_skip _))).trans (fq ((dO (ll rfl Y)).trans (fq (uG (yP rfl Z (xC rfl) h)))))))
theorem ET(U:ko [.str line]=.ok (cO (first::ws)))(hq:(fY.lookup first).isSome=false)(Z:(gz.lookup first).isSome=false)(Y:eqD (cO (first::ws)) (cO ["undo"])=some (.bl false)):gW z [.str line]=.exc hU:=sU ((uS U).trans ((bI ((de (ll rfl hq)).trans (e_skip _))).trans (fq ((de (ll rfl Z)).trans (fq (o7 (dS (aD (aP rfl (i9 (aD rfl) `d) Y)) (sQ rfl))))))))
end
theorem L7{L:Str}(U:L.length<=10000):ko [.str L]=.ok (cO (Txt.split L " ")):=by
 refine io (n:=1) ?_
 dsimp only[Ag,vL]
 exact(bI (mE (dS (aT (d:=.bl true) (fg (a:=.str L) rfl rfl) gE) (nE rfl)))).trans (gP (nq (ji (d:=.str L) rfl rfl (aT (d:=.str " ") rfl gE) (zc `k U))))
theorem QZ:gW (k,[]) [.str "undo"]=.exc (xD "NoDeed" []):=by
 refine sU (r':=forget iQ (zn "undo" "undo" [])) ?_;refine(uS (pZ (ws:=["undo"]) `s (fun p U=>by rw[J_.mp U];decide+kernel) `k)).trans ((bI ((de (ll rfl `k)).trans (e_skip _))).trans (fq ((de (ll rfl `k)).trans ?_)));refine(bI (mE (dS (aD (aP rfl (i9 (aD rfl) `s) HA)) (nE rfl)))).trans (fq (o7 ?_));show bQ false (yY _ _)=_;have:yY (k,[]) (cL 1 [])=.exc (xD "NoDeed" []) (forget [Md.bw] (cL 1 [])):=by exact fq ((dO rfl).trans (fq (Cq rfl)))
 rfl
theorem KN:∀a b:List Str,ĕ (zeM (a.map D.str)) (zeM (b.map D.str))=decide (a=b)
|[],[]=>by simp[zeM,ĕ]
|[],k::l=>by simp[zeM,ĕ]
|k::l,[]=>by simp[zeM,ĕ]
|k::l,Y::U=>by
  have Z:=KN l U;simp only[í,zeM,dy,ĕ,ń]
  grind
theorem Gs{a:List Str}(h:a.all ĩ=true):∀d∈a.map D.str,dZ k d:=fun d U=>by
 unfold dZ
 grind
theorem Ym(Y:a.all ĩ=true)(U:b.all ĩ=true):eqD (cO a) (cO b)=some (.bl (decide (a=b))):=by unfold eqD;rw[zh rfl (pV.mpr (Gs Y)) (pV.mpr (Gs U))];unfold oj;simp only[dy,ń,KN];rfl
def nox(n m:Nat)(L:Str):Bool:=match Txt.split L " " with
|[]=>false
|f::ws=>
  if f = "by" then oa (qa [cO ws,.lst (j_ n (.str (dH n)))])
  else if f = "of" then oa (qa [cO ws,.lst (j_ n (.str (iE m)))])
  else if f = "lot" then oa (nJ [cO ws,.lst [.str (dH n)]])
  else if f = "eat" then oa (nJ [cO ws,.lst [.str (dH n)]])
  else if f = "own" then oa (nJ [cO ws,.lst [.str (dH n),.str (iE m)]])
  else if f = "none" then oa (nJ [cO ws,.lst [.str (dH n)]])
  else if f = "order" then oa (qa [cO ws,.lst (j_ n (.str (dH n)))])
  else if f = "rows" then ws.isEmpty
  else if f = "rings" then not ws.isEmpty
  else if f = "asks" then not ws.isEmpty
  else if f = "deal" then not ws.isEmpty
  else(fY.lookup f).isSome.not&&(gz.lookup f).isSome.not&&(f::ws).all ĩ&&(decide (f::ws=(["undo"]:List Str))).not
def qq(n m:Nat):Bool:=match Vz [nD n,nD m]with
|.ok (.lst l)=>decide (0<l.length)&&decide (l.length<=1000)&&l.all fun d=>match d with
 |.str L=>decide (L.length<=10000)&&nox n m L
 |_=>false
|_=>false
theorem Xv:((x_ 8).all fun n=>(x_ 9).all fun m=>decide (n=0) || decide (m<n) || qq n m)=true:=`q
end Law
namespace Law
open PySem PyProof.Rows L2 DL
theorem SH(S:Txs rows owns n m)(b:L.length<=10000)(h:nox n m L=true):gW (kD rows owns o,Y) [.str L]=.exc hU:=by have U:=L7 b;unfold nox at h;generalize Txt.split L " " = t at h U;cases t with
|nil=>cases h
|cons f Z=>
  dsimp only at h
  by_cases e:f = "by"
  .subst e;exact iS U (rfl) (rfl) (FM (HX S (pM h)))
  rw[Q_e e]at h;by_cases e:f = "of"
  .subst e;exact iS U (rfl) (rfl) (Fk ((fun S h=>iP (fq (mH (Yn (oO (dS (aT rfl (aD (aP (i9 (aD (Gh S rfl)) `s) (cU (aD rfl) (by rw[jW,S.rl])) (G9 S)))) h)))))) S (pM h)))
  rw[Q_e e]at h;by_cases e:f = "lot"
  .subst e;exact iS U (rfl) (rfl) (Xj (BD S (pM h)))
  rw[Q_e e]at h;by_cases e:f = "eat"
  .subst e;exact iS U (rfl) (rfl) (X1 (BD S (pM h)))
  rw[Q_e e]at h;by_cases e:f = "own"
  .subst e;exact lO U (rfl) (rfl) (rfl) (Xt ((fun S h=>iP (fq (mH (dS (aT rfl (aD (i9 (aT (AZ S rfl) (aD (Gh S rfl))) `s))) h)))) S (pM h)))
  rw[Q_e e]at h;by_cases e:f = "none"
  .subst e;exact lO U (rfl) (rfl) (rfl) (OT (BD S (pM h)))
  rw[Q_e e]at h;by_cases e:f = "order"
  .subst e;exact lO U (rfl) (rfl) (rfl) (Xs (HX S (pM h)))
  rw[Q_e e]at h;by_cases e:f = "rows"
  .subst e;cases Z with
  |nil=>exact lO U (rfl) (rfl) (rfl) rfl
  |cons a t=>cases h
  rw[Q_e e]at h;by_cases e:f = "rings"
  .subst e;exact iS U (rfl) (rfl) (Cr `a).1
  rw[Q_e e]at h;by_cases e:f = "asks"
  .subst e;exact iS U (rfl) (rfl) (Cr `a).2.1
  rw[Q_e e]at h;by_cases e:f = "deal"
  .subst e;exact iS U (rfl) (rfl) (Cr `a).2.2
  rw[Q_e e]at h;simp only[L_,Ş]at h;obtain⟨⟨⟨i,g⟩,d⟩,c⟩:=h;refine ET U i g ?_;rw[Ym d `k,c]
theorem O5(h:Z r=.exc (xD nm ds) r')(a:U nm=true)(b:Y (r'.set i (some (xD nm ds)))=.nx r2):lP m1 i U Z Y r=.nx (r2.set i none):=by unfold lP;rw[h];show(if U nm=true then(match Y _ with|.nx r2=>Out.nx _|_=>.stuck)else .stuck)=_;rw[Q_d a,b]
theorem said(h:gW z [U]=.exc (xD nm ds))(Z:p9 nm=true)(Y:vM [xD nm ds]=.ok d):uW z [U]=.ok d:=by
 have a:seqF (jP nv (my z (lI 1) gW)) aW [none,some U,some (.lst []),none]=.exc _ _:=fq (o7 (rM (aD rfl) h));show bQ false (zY z (cL 4 [U]))=_;have:zY z (cL 4 [U])=.rt d:=by refine(dA (i9 gE `s)).trans ?_;refine(bI (O5 a Z (r2:=[none,some U,some d,some (xD nm ds)]) ?_)).trans (cR rfl);exact(dA (cW (aD rfl) Y)).trans rfl
 rw[this];rfl
structure Rf(z:DW)(line due:D):Prop where
 said:uW z [line]=.ok (.lst [due])
 eq:ke (.lst [due]) (.lst [due])=some true
theorem rf(h:gW z [U]=.exc (xD nm ds))(c:p9 nm=true)(b:vM [xD nm ds]=.ok (.lst [.tup [.str s,e]]))(Z:e=.non\/∃k:Nat,e=nD k)(a:ĩ s=true):Rf z U (.tup [.str s,e]):=⟨said h c b,(by
   have h:dZ 60 (.lst [.tup [.str s,e]]):=pV.mpr fun d Y=>by
    rw[J_.mp Y];refine zb.mpr fun d Y=>?_;rcases m_.mp Y with rfl|Y
    .exact a
    .rw[J_.mp Y];rcases Z with rfl|⟨k,rfl⟩ <;> trivial
   rw[zh rfl h h];unfold oj;rcases Z with rfl|⟨k,rfl⟩ <;> simp[dy,zeM,ń,ĕ])⟩
theorem IT(h:gW z [U]=.exc hU):Rf z U (.tup [.str "line",.non]):=rf h (rfl) (rfl) (.inl rfl) `k
theorem ny(Y:ko [.str L]=.ok (cO ("rows"::ws)))(h:Ev [k,cO ws]=.exc (xD nm ds))(a:vM [xD nm ds]=.ok (.lst [.tup [.str s,e]]))(b:p9 nm=true)(c:e=.non\/∃k:Nat,e=nD k)(Z:ĩ s=true):Rf (k,U) (.str L) (.tup [.str s,e]):=rf (lO Y (rfl) (rfl) (rfl) h) b a c Z
abbrev dK(s:Str)(k:Nat):D:=.tup [.str s,nD k]
noncomputable abbrev dN(s:Str):D:=.tup [.str s,.non]
def qL:List D:=[.tup [.str "rows ",dK "text" 0],.tup [.str "rows A; ",dK "text" 1],.tup [.str "rows A B; A",dK "row" 1],.tup [.str "rows A* B; B A*",dK "own" 1],.tup [.str "rows A B; A B; A B",dN "many"],.tup [.str "rows  A",dK "text" 0],.tup [.str "rows a",dK "text" 0],.tup [.str "rows B",dK "row" 0],.tup [.str "rows A B* C*",dK "text" 0]]
theorem Pi:∀p∈qL,∃Y a,p=.tup [Y,a]/\Rf (k,Z) Y a:=by
 simp only[qL,List.forall_mem_cons];refine⟨⟨_,_,rfl,?_⟩,⟨_,_,rfl,?_⟩,⟨_,_,rfl,?_⟩,⟨_,_,rfl,?_⟩,⟨_,_,rfl,?_⟩,⟨_,_,rfl,?_⟩,⟨_,_,rfl,?_⟩,⟨_,_,rfl,?_⟩,⟨_,_,rfl,?_⟩,nofun⟩
 .exact ny (ws:=[""]) (nm := "NoText") (ds:=[("at",nD 0)]) `q rfl rfl rfl (.inr ⟨_,rfl⟩) `k
 .exact ny (ws:=["A;",""]) (nm := "NoText") (ds:=[("at",nD 1)]) `q `q rfl rfl (.inr ⟨_,rfl⟩) `k
 .exact ny (ws:=["A","B;","A"]) (nm := "NoRow") (ds:=[("hand",nD 1)]) `q `q rfl rfl (.inr ⟨_,rfl⟩) `k
 .exact ny (ws:=["A*","B;","B","A*"]) (nm := "NoOwn") (ds:=[("hand",nD 1)]) `q `q rfl rfl (.inr ⟨_,rfl⟩) `k
 .exact ny (ws:=["A","B;","A","B;","A","B"]) (nm := "TooMany") (ds:=[]) `q `q rfl rfl (.inl rfl) `k
 .exact ny (ws:=["","A"]) (nm := "NoText") (ds:=[("at",nD 0)]) `q `q rfl rfl (.inr ⟨_,rfl⟩) `k
 .exact ny (ws:=["a"]) (nm := "NoText") (ds:=[("at",nD 0)]) `q `q rfl rfl (.inr ⟨_,rfl⟩) `k
 .exact ny (ws:=["B"]) (nm := "NoRow") (ds:=[("hand",nD 0)]) `q `q rfl rfl (.inr ⟨_,rfl⟩) `k
 .exact ny (ws:=["A","B*","C*"]) (nm := "NoText") (ds:=[("at",nD 0)]) `q `q rfl rfl (.inr ⟨_,rfl⟩) `k
variable{rows:List (List Nat)}{owns:List (Option Nat)}{o:Option (List Nat)}{n m:Nat}
theorem X0:∀h<7,Txt.split ("eat "++bY h) " " = (["eat",bY h]:List Str):=`k
theorem Yj(S:Txs rows owns n m)(e:n<m)(a:h<n):gW (kD rows owns o,Y) [.str ("eat "++bY h)]=.exc (xD "NotSquare" []):=by
 have U:=S.n7;have Z:=L7 (L := "eat "++bY h) (by show 4+1<=10000;decide);rw[X0 h `o]at Z;have d:Vr [WD rows]=.ok (.bl false):=by refine d5 ?_;exact cR (aP (cW (aD rfl) (D4 S)) (cU (aD rfl) (by rw[jW,S.rl])) (by rw[ky,Q_b `o]))
 have c:NA [WD rows]=.exc _:=iP (fq ((dO (nh (kM (cW (aD rfl) d) rfl))).trans (fq (Cq rfl))));have b:zB [WD rows]=.exc _:=iP (fq (o7 (dS (aD rfl) c)));refine iS Z (rfl) (rfl) (iP (r':=forget gb [some (kD rows owns o),some (cO [bY h]),some (nD h)]) ?_);exact(dA (dS (oG rfl rfl) (J6 S a))).trans (fq (mH (rN (oO (Bq (Bq (dS (aD (kU rfl)) b)))))))
noncomputable abbrev b5:List D:=[.non,.int 7,.bl true,.lst [.str "rings"],.tup [.str "deal"]]
theorem XS:∀d∈b5,Rf z d (dN "line"):=by
 intro d U;refine IT ((fun h=>by have e:ko [d]=.exc hU:=iP (B:=Ag) (n:=1) (fq (o7 (dS (aD (d:=.bl false) (fg (a:=d) rfl h)) (sQ rfl))));refine sU (r':=forget iQ (cL 5 [d])) ?_;unfold pO;exact fq (uG (dS (aD (d:=d) rfl) e))) ?_);simp only[m_,Ó,Q_j]at U;rcases U with rfl|rfl|rfl|rfl|rfl <;> rfl
theorem Q7(S:Txs rows owns n m)(v:List D)(c:Nat):∃a d,K2 [nD c,nD n,nD m]=.ok (.tup [a,d])/\Rf (kD rows owns o,v) a d:=by
 have Z:=S.n1;have P:=S.n7;have U:=S.nm;have Y:=S.m8
 suffices h:∃a d,Dp _=.rt _/\Rf _ a d by obtain⟨a,d,G,I⟩:=h;exact⟨a,d,d5 (n:=4) G,I⟩
 dsimp only[Dp,De]
 have M:∀u,f2 (gv 0) (ci 4) cQ [some (nD c),some (nD n),some (nD m),u]=.ok _:=fun u=>aP rfl rfl (kJ `d);have E:∀u,f2 (gv 0) (fun _=>Res.ok _) i0 [some _,some (nD n),some (nD m),u]=.ok (nD (c/4)):=fun u=>aP rfl rfl (nu `d `d);have t:∀k,cN (f2 _ (fun _=>Res.ok _) eqD) (cS 4 [nD c,nD n,nD m])=.ok _:=fun k=>dX (aP (b:=nD k) (M none) rfl (ky _ _));have B:cN (f2 _ (ci 0) eqD) _=.ok _:=t 0;have p:=t 1;have j:=t 2;by_cases H:c%4=0
 .rw[Q_c H]at B;have s:c/4%9<qL.length:=Ā _ `d;obtain⟨a,d,e,q⟩:=Pi _ (Ŗ s);refine⟨a,d,gP ((dO B).trans ?_),q⟩;refine(bI (r':=[some _,some _,some _,some _]) (rfl)).trans ((bI (r':=[some _,some _,some _,some _]) (rfl)).trans ((bI (r':=[some _,some _,some _,some _]) (rfl)).trans ((bI (r':=[some _,some _,some _,some (.lst qL)]) (rfl)).trans (cR (aP rfl (aP (E _) rfl (kJ `d)) ?_)))));exact m9 `a
 rw[Q_b H]at B;rw[bI ((de B).trans (e_skip _))];have g:=dX (aP (f:=gv 2) (f':=gv 1) (r:=cS 4 [nD c,nD n,nD m]) rfl rfl (qS m n));by_cases A:c%4=1/\n<m
 .rw[Q_c A.1]at p;rw[Q_c A.2]at g;have N:c/4%n<n:=Ā _ `o;refine⟨_,_,gP ((dO ((mZ p).trans g)).trans (cR ?_)),rf (Yj S A.2 N) (rfl) (rfl) (.inl rfl) `k⟩;exact im (aT (aP rfl (cU (aD (aP (E _) rfl (kJ `o))) (CP `o)) (oN (by show 4+1<=_;decide))) (aD (im (aT rfl (aD rfl)) `s))) `s
 have K:(gM (cN (f2 (f2 (gv 0) (ci 4) cQ) (ci 1) eqD)) (cN (f2 (gv 2) (gv 1) pq))) (cS 4 [nD c,nD n,nD m])=.ok false:=by
  by_cases y:c%4=1
  .rw[Q_c y]at p;rw[Q_b (fun z=>A ⟨y,z⟩)]at g;exact(mZ p).trans g
  .rw[Q_b y]at p;exact sC p
 rw[bI ((de K).trans (e_skip _))];have C:=dX (aP (f':=fun _=>Res.ok (D.int 0)) (aP (f':=fun _=>Res.ok (D.int 5)) (E none) rfl (kJ `d)) rfl (ky _ _));have a:gq (aG (fun _=>Res.ok _) (aG (fun _=>Res.ok D.non) aE))=fun _=>Res.ok (dN "line"):=rfl;by_cases F:c%4=2/\c/4%5=0
 .rw[Q_c F.1]at j;rw[Q_c F.2]at C;have s:c/20%5<b5.length:=Ā _ `d;refine⟨_,_,gP ((dO ((mZ j).trans C)).trans (cR ?_)),XS _ (Ŗ s)⟩;exact im (aT (aP (rfl) (aP (aP rfl rfl (nu `d `d)) rfl (kJ `d)) (m9 (q_ s))) (aD (by rw[a]))) `s
 have J:(gM (cN (f2 (f2 (gv 0) (ci 4) cQ) (ci 2) eqD)) (cN (f2 (f2 (f2 (gv 0) (ci 4) i0) (ci 5) cQ) (ci 0) eqD))) (cS 4 [nD c,nD n,nD m])=.ok false:=by
  by_cases y:c%4=2
  .rw[Q_c y]at j;rw[Q_b (fun z=>F ⟨y,z⟩)]at C;exact(mZ j).trans C
  .rw[Q_b y]at j;exact sC j
 rw[bI ((de J).trans (e_skip _))];have i:=P_.mp (P_.mp Xv n (D_.mpr `o)) m (D_.mpr `o);rw[Q_b `o,Q_b `o]at i;replace i:qq n m=true:=i;unfold qq at i;split at i
 .rename_i l el;simp only[L_,Q_i]at i;obtain⟨⟨G,I⟩,O⟩:=i;have s:c/4%l.length<l.length:=Ā _ G;have w:=P_.mp O _ (Ŗ s);split at w
  .rename_i L eL;simp  at w;refine⟨.str L,_,?_,IT (SH S w.1 w.2)⟩;refine(dA (cW (aT rfl (aD rfl)) el)).trans (cR ?_);exact im (aT (aP rfl (aP (E _) (cU (aD rfl) (by have:=jq (fun x=>x) l;rw[List.map_id']at this;exact this)) (kJ `o)) (m9 `a)) (aD (by rw[a]))) `s
  .cases w
 .cases i
theorem UB(S:Scene rows owns o n m):Mb [kO rows owns o]=.ok (LN (s0 rows o).line):=by
 have U:=S.n7;refine io (n:=1) ?_
 dsimp only[L8,Eo]
 have Y:f2 (gv 0) (ci 2) di (cS 1 [kO rows owns o])=.ok (oT o):=aP (a:=kO rows owns o) (b:=nD 2) rfl rfl (km (i:=2) rfl);unfold s0;cases o with
|none=>exact gP ((dO (dX (aP Y rfl rfl))).trans (cR (cU (aD (d:=nD rows.length) (cU (aD (d:=WD rows) (aP (a:=kO rows owns none) (b:=nD 0) rfl rfl (km (i:=0) rfl))) (jW _ _))) (yZ (by rw[S.rl];omega)))))
|some l=>exact(bI ((de (dX (aP Y rfl rfl))).trans (e_skip _))).trans (cR (cU (aD (d:=TN l) Y) rfl))
theorem Scene.both(S:Scene rows owns o n m):∃l:List Nat,Nh [WD rows,OD owns,LN (s0 rows o).line]=.ok (TN l)/\Eu [TN l]=.ok (.str (pj l))/\∀c,gW (kD rows owns o,c) [.str "deal"]=.ok (.str (pj l)):=by
 have t:=Rg.YD (W:=Wr rows) (O:=own owns) ((s0 rows o).line.length+1) (s0 rows o) `o;generalize Rg.deal _ _ _ _=a at t;have z:=S.n7;have B:=S.m8;have g:∀x∈(x_ n).map a,x<8:=fun x j=>by
  obtain⟨h,b,rfl⟩:=w_.mp j;have:=Rg.Ba t S.ok h (S.mem.mpr (D_.mp b));rw[S.things]at this
  grind
 have d:((x_ n).map a).length<=60:=`g
 exact⟨_,(by
    have M:(s0 rows o).line.length=n:=by rw[S.line_perm.length_eq];simp
    obtain⟨i,L,G,F,E,C,I,H,f⟩:=Q6 (some (LN (s0 rows o).line)) 64 _ ((s0 rows o).line.map fun _=>none) none none none none S.snd t (by have:=S.n7;omega) (fun h b=>S.mem.mp b) `a (fun h b u=>Q_f (S.mem.mpr b) u);refine d5 ?_;have q:=S.ne;have K:=S.row0;have B:=S.m8;have z:=S.n7;have A:=S.things;have v:i=(x_ n).map fun h=>some (a h):=by
     refine ų fun h=>?_
     grind
    have U:tupD [.lst (i.map oD)]=some (TN ((x_ n).map a)):=by rw[e_tupL,v,N_];show some _=some (D.tup _);rw[N_];rfl
    have Y:∃e,di (WD rows) (.int 0)=some (TN e)/\lenD [TN e]=some (nD m):=by cases rows with
    |nil=>exact Q_f rfl q
    |cons r rest=>exact⟨r,ixA_T0 _ _,by rw[jW];grind⟩
    obtain⟨e,y,Z⟩:=Y;rw[A]at f;refine(dA (cU (aD (cU (aD (aP rfl rfl y)) Z)) (yZ `o))).trans ?_;refine(dA (iq nD _ _ rfl `o fun h b=>⟨_,rfl,rfl,fun _=>rfl⟩)).trans ?_;rw[jJ];have w:(s0 rows o).line.map (fun _=>D.non)=((s0 rows o).line.map fun _=>(none)).map oD:=by rw[N_];rfl
    rw[w];refine(bI f).trans ?_;exact cR (cU (aD rfl) U)),PN g d,fun c=>Gz (pZ (ws:=["deal"]) `s (fun p s=>by rw[J_.mp s];decide+kernel) `d) (rfl) (rfl) (PM ((fun t=>by
       have:=V0 (by
          intro l d;have p:=S.op l d;refine⟨p.nodup_iff.mpr ŗ,fun k J=>?_,?_⟩
          .rw[S.rl];grind
          .rw[p.length_eq,S.rl];simp) S.ne (by rw[S.rl];have:=S.n7;omega) S.snd (fun h b=>S.mem.mpr (by rw[S.rl]at b;exact b)) t
       rw[S.rl]at this;exact this) t) g d)⟩
structure Sc where
 rows:List (List Nat)
 owns:List (Option Nat)
 o:Option (List Nat)
 n:Nat
 m:Nat
 ok:Scene rows owns o n m
abbrev Sc.st(s:Sc):D:=kO s.rows s.owns s.o
abbrev Sc.kd(s:Sc):D:=kD s.rows s.owns s.o
section
variable{fl:D->aI->Res (List D)}{F:kx}{r r':aI}{w w':DW}{ds:List D}{d:D}
theorem X6(Y:fl w.1 r=.ok ds)(U:F w ds=some (.bl true,w')):yR fl F r w=.nx r w':=by unfold yR;rw[Y];show(match F w ds with|some (.bl true,w')=>OutD.nx r w'|some (.bl false,w')=>.rt _ w'|_=>.stuck)=_;rw[U]
theorem GO(Y:fl w.1 r=.ok ds)(U:F w ds=some (d,w')):sW fl F r w=.nx r w':=by unfold sW;rw[Y];show(match F w ds with|some (_,w')=>OutD.nx r w'|none=>.stuck)=_;rw[U]
theorem wQ(h:p w r=.ok false):wR p Y U r w=U r w:=by unfold wR;rw[h];rfl
theorem Xy(h:fe w r=.ok d):xN fe r w=.rt d w:=by unfold xN;rw[h];rfl
theorem sw(h:b (r.set j (some d)) w=.nx r' w'):iW j b (d::ds) r w=iW j b ds r' w':=by show(match b (r.set j (some d)) w with|.nx r' w'=>iW j b ds r' w'|o=>o)=_;rw[h]
theorem Hm(h:fi r=.ok ds):sF fi j b r w=iW j b ds r w:=by unfold sF;rw[h];rfl
end
theorem ne_of(h:ke a a=some true):neD a a=some (.bl false):=by unfold neD;rw[h];rfl
theorem Fl(s:Str):neD (.str s) (.str s)=some (.bl false):=ne_of (by rw[eqB_str,beq_self_eq_true])
theorem O6{s:Sc}(h:eh r i=.ok s.st):NX i r=.ok (.str (fj s.rows s.owns)):=cW (aT (aP h rfl (km rfl)) (aD (aP h rfl (km rfl)))) (Ko s.ok.tx)
abbrev R1(ns:List Int)(s a:Sc)(x4 x5 x6:Option D):aI:=[some (IN ns),none,some s.st,some a.st,x4,x5,x6,none,none,none,none]
theorem yA(Z:List Int)(k:Nat)(n:k<=1000)(s a:Sc)(U:List D)(m:U.length<=900)(q c:Option D):∃(b:Sc)(p o:Option D),GL (R1 Z s a (some (nD k)) q c) (s.kd,U)=.nx (R1 Z b s (some (nD k)) p o) (b.kd,U++[s.kd]):=by
 obtain⟨l,A⟩:=Cw Z k n;have C:∃d:Nat,l6 (fun _=>cN (f2 (gv 4) (fC (lI 0) lenD) mL)) (bM (cZ fun _=>aN i8 5 (cP (aG (gv 0) (lI 4)) [] DA)) gU) gU (R1 Z s s (some (nD k)) (some (nD l)) c) (s.kd,U)=.nx (R1 Z s s (some (nD k)) (some (nD d)) c) (s.kd,U):=by
  have t:=dX (aP (f:=gv 4) (f':=fC (lI 0) lenD) (r:=R1 Z s s (some (nD k)) (some (nD l)) c) rfl (cU (aD rfl) (jq _ _)) (pA _ _));by_cases z:k<Z.length
  .rw[Q_c z]at t;obtain⟨d,j⟩:=Sk Z k n z;exact⟨d,(qz t).trans (eU (jQ (jm (cW (aT rfl (aD rfl)) j))))⟩
  .rw[Q_b z]at t;exact⟨l,l9 t⟩
 obtain⟨d,j⟩:=C;have B:∃h:Nat,l6 (fun _=>cN (f2 (gv 4) (ci 1) eqD)) (bM (cZ fun _=>aN i8 5 (f2 (f2 (gv 5) (ci 5) i0) (ci 5) cV)) gU) gU (R1 Z s s (some (nD k)) (some (nD d)) c) (s.kd,U)=.nx (R1 Z s s (some (nD k)) (some (nD h)) c) (s.kd,U):=by
  have t:=dX (aP (f:=gv 4) (f':=fun _=>Res.ok (D.int 1)) (r:=R1 Z s s (some (nD k)) (some (nD d)) c) rfl rfl (ky _ _));by_cases z:k=1
  .rw[Q_c z]at t;obtain⟨h,i⟩:=tM (f:=f2 (gv 5) (fun _=>Res.ok _) i0) (f':=fun _=>Res.ok (D.int 5)) (r:=R1 Z s s _ (some _) c) ⟨d/5,aP rfl rfl (nu `d `d)⟩ rfl `d;exact⟨h,(qz t).trans (eU (jQ (jm i)))⟩
  .rw[Q_b z]at t;exact⟨d,l9 t⟩
 obtain⟨h,i⟩:=B;obtain⟨Y,b,y,x⟩:∃(Y:Str)(b:Sc),Av [nD h,s.st]=.ok (.tup [.str Y,b.st])/\∀U:List D,U.length<=900->kL (s.kd,U) [.str Y]=some (.str (fj b.rows b.owns),(b.kd,U++[s.kd])):=by obtain⟨Y,e,g,u,⟨⟨v,w,E⟩,j⟩,i⟩:=Uy s.ok h;exact⟨Y,⟨e,g,u,v,w,E⟩,i,fun U m=>j U `o⟩
 refine⟨b,some (nD h),some (.str Y),?_⟩;refine(eU (jQ (jm rfl))).trans ?_;refine(eU (jQ (jm (cW (aT rfl (aD rfl)) A)))).trans ?_;refine(eU j).trans ((eU i).trans ?_);refine(eU (jQ (yN (cW (aT rfl (aD rfl)) y) rfl))).trans ?_;exact eU (GO (aD rfl) (x U m))
abbrev R2(ns:List Int)(s a:Sc)(d:Str)(x4 x5 x6 x10:Option D):aI:=[some (IN ns),none,some s.st,some a.st,x4,x5,x6,some (nD s.n),some (nD s.m),some (.str d),x10]
theorem YS(g:List Int)(k:Nat)(u:k<=1000)(s a:Sc)(Y:List D)(d:Str)(v:gW (s.kd,Y) [.str "deal"]=.ok (.str d))(h l i:Option D):∃(j U:Option D),yM (R2 g s a d (some (nD k)) h l i) (s.kd,Y)=.nx (R2 g s a d (some (nD k)) h j U) (s.kd,Y):=by obtain⟨c,w⟩:=Cw g k u;obtain⟨Z,e,x,q⟩:=Q7 (o:=s.o) s.ok.tx Y c;refine⟨some Z,some e,?_⟩;unfold yM;refine(eU (jQ (yN (cW (aT (cW (aT (d:=IN g) rfl (aD (d:=nD k) rfl)) w) (aT (d:=nD s.n) rfl (aD (d:=nD s.m) rfl))) x) rfl))).trans ?_;have t:=dX (aP (f:=qZ (s.kd,Y) (gv 6)) (f':=ja (lI 10)) (r:=R2 g s a d (some (nD k)) h (some Z) (some e)) (rM (aD (d:=Z) rfl) q.said) (i9 (aD (d:=e) rfl) `s) (ne_of q.eq));have p:NW (s.kd,Y) _=.ok false:=(gK t).trans ((gK t).trans (dX (aP (a:=.str d) (b:=.str d) (rM (aD (d:=.str "deal") rfl) v) rfl (Fl d))));exact(eU (wQ p)).trans rfl
theorem Hg(g:List Int)(s a:Sc)(Z:List D)(d:Str)(l:gW (s.kd,Z) [.str "deal"]=.ok (.str d)):∀(i:List Nat)(x4 c f b:Option D),(∀k∈i,k<=1000)->∃(q p j U:Option D),iW 4 yM (i.map nD) (R2 g s a d x4 c f b) (s.kd,Z)=.nx (R2 g s a d q p j U) (s.kd,Z)
|[],x4,c,f,b,_=>⟨x4,c,f,b,rfl⟩
|k::i,x4,c,f,b,h=>by obtain⟨j,U,e⟩:=YS g k (h k h_) s a Z d l c f b;obtain⟨o,n,m,Y,t⟩:=Hg g s a Z d l i _ c j U fun z r=>h z (i_ _ r);exact⟨o,n,m,Y,(sw e).trans t⟩
theorem OM(a b:Nat):minD [nD a,nD b]=some (nD (min a b)):=by
 show some _=some _
 grind
theorem OL(a b:Nat):maxD [nD a,nD b]=some (nD (max a b)):=by
 show some _=some _
 grind
theorem Q5(i j:Int):kP [.int i,.int j]=if-(2^62)<=i/\i<2^62/\-(2^62)<=j/\j<2^62 then some (fZ i (j-i).toNat)else none:=rfl
theorem Ha(Y:a<=1000)(U:b<=1000):kP [nD a,nD b]=some (((x_ (b-a)).map fun i=>a+i).map nD):=by
 have e:((b:Int)-(a:Int)).toNat=b-a:=`o
 rw[Q5,Q_d ⟨`o,`o,`o,`o⟩,e,N_];unfold fZ;refine Q_g some (œ fun i _=>?_);show D.int ((a:Int)+(i:Int))=D.int ((a+i:Nat):Int);rw[Int.natCast_add]
theorem sc1:Scene [[0]] [some 0] none 1 1:=⟨`d,`d,`d,`d,rfl,fun U h=>by simp_all,⟨fun x h=>by simp at h;omega,fun h k x Z Y=>by have:=(rG Z).2;have:=(rG Y).2;simp at *;omega⟩,rfl,fun l h=>nomatch h⟩
noncomputable def S1:Sc:=⟨_,_,_,_,_,sc1⟩
theorem Zb:fj [[0]] [some 0] = "A*" := rfl
theorem Xg:AA [.str "A*"]=.ok S1.kd:=by have:=J7 sc1.tx;rw[Zb]at this;exact this
noncomputable abbrev r6:List (List Nat):=j_ 6 (x_ 6)
noncomputable abbrev o6:List (Option Nat):=j_ 6 none
theorem YZ:Txs r6 o6 6 6:=⟨`d,`d,`d,`d,rfl,fun U h=>by simp_all,⟨fun x h=>by simp at h,fun h k x Y Z=>by have:=rG Y;simp at this⟩,rfl⟩
theorem Za:("rows "++fj r6 o6:Str) = "rows A B C D E F; A B C D E F; A B C D E F; A B C D E F; A B C D E F; A B C D E F" := by kernel_rfl
def neP(a b:D):Option D:=match a,b with
|.tup [.int a,.int b],.tup [.int c,.int d]=>some (.bl (not (a==c&&b==d)))
|a,b=>neD a b
theorem Gr:dZ 60 (.tup [.int a,.int b]):=zb.mpr fun d U=>by
 rcases m_.mp U with rfl|U
 .trivial
 .rw[J_.mp U];trivial
theorem OR:neD=neP:=by
 funext a b;unfold neP;split
 .unfold neD;rw[zh rfl Gr Gr];unfold oj;simp[dy,zeM,ń,ĕ]
 .rfl
theorem FG:vN [kD r6 o6 none,cO ["3"]]=.ok (.str "1/6 1/6 1/6 1/6 1/6 1/6"):=by
 delta vN MN zB Kl Ds Lo LO Dt Lp LP
 rw[OR]
 kernel_rfl
def EQ:List D->Res D:=GK S1.kd
theorem main(p:List Int)(X:p.length<=63):EQ [.lst (p.map .int)]=.ok (.bl true):=by
 obtain⟨u,t,q,M⟩:=yA p 1 `d S1 S1 [] `d none none;obtain⟨w,t,q,L⟩:=yA p 2 `d u S1 [S1.kd] `s t q;obtain⟨j,t,q,K⟩:=yA p 3 `d w u [S1.kd,u.kd] `s t q;obtain⟨g,t,q,G⟩:=yA p 4 `d j w [S1.kd,u.kd,w.kd] `s t q;obtain⟨l,Q,P,O⟩:=g.ok.both;generalize F : [S1.kd,u.kd,w.kd]=c at G;obtain⟨A,z,y,Y,J⟩:=Hg p g j (c++[j.kd]) (pj l) (O _) ((x_ (max 6 (min p.length 63)-5)).map fun i=>5+i) (some (nD 4)) t q none (fun k T=>`g);have I:c.length=3:=by rw[<-F];rfl
 refine d5 (B:=yT S1.kd) (n:=11) ?_;unfold yT xE;have e:∀f:dW,f _ (S1.kd,[])=.rt (.bl true) (kD r6 o6 none,c++[j.kd])->(match f ((cS 11 [.lst (p.map .int)]).set 1 none) (S1.kd,[])with|.rt d _=>Out.rt d|_=>.stuck)=.rt (.bl true):=fun f h=>by rw[h]
 refine e _ ?_;have E:Rf (S1.kd,[]) (.str "undo") (dN "deed"):=rf QZ `q `q (.inl rfl) `k;refine(eU (wQ (dX (aP (f':=sA "deed") (rM (aD (d:=.str "undo") rfl) E.said) (i9 (aD (d:=dN "deed") (im (aT (d:=.str "deed") rfl (aD (d:=.non) rfl)) `s)) `s) (ne_of E.eq))))).trans ?_;refine(eU (jQ (jm (d:=S1.st) (im (aT (d:=WD [[0]]) (im (aD (d:=TN [0]) (im (aD (d:=nD 0) rfl) `d)) `d) (aT (d:=OD [some 0]) (im (aD (d:=nD 0) rfl) `d) (aD (d:=.non) rfl))) `d)))).trans ?_;refine(eU (jQ (jm (d:=S1.st) rfl))).trans ?_;refine(eU (r':=R1 p g j (some (nD 4)) t q) (w':=(g.kd,c++[j.kd])) ?_).trans ?_
 .subst F;exact(Hm (pP (aT (d:=nD 1) rfl (aD (d:=nD 5) rfl)) (Ha `d `d))).trans ((sw M).trans ((sw L).trans ((sw K).trans ((sw G).trans rfl))))
 obtain⟨x,R,Z⟩:∃x,di (WD g.rows) (.int 0)=some (TN x)/\lenD [TN x]=some (nD g.m):=by have N:=g.ok.ne;have W:=g.ok.row0;generalize g.rows=rows at *;cases rows with
 |nil=>exact Q_f rfl N
 |cons r rest=>exact⟨r,ixA_T0 _ _,by rw[jW];simp_all⟩
 have U:∀r:aI,eh r 2=.ok g.st->f2 (gv 2) (ci 0) di r=.ok (WD g.rows):=fun r h=>aP (a:=g.st) (b:=nD 0) h rfl (km (i:=0) rfl);refine(eU (jQ (jm (d:=nD g.n) (cU (aD (U _ rfl)) (by rw[jW,g.ok.rl]))))).trans ?_;refine(eU (jQ (jm (cU (aD (aP (b:=nD 0) (U _ rfl) rfl R)) Z)))).trans ?_;refine(eU (jQ (jm (cW (aD (cW (aT (U _ rfl) (aT (d:=OD g.owns) (aP (a:=g.st) (b:=nD 1) rfl rfl (km (i:=1) rfl)) (aD (cW (aD (d:=g.st) rfl) (UB g.ok))))) Q)) P)))).trans ?_;refine(eU (r':=R2 p g j (pj l) A z y Y) (w':=(g.kd,c++[j.kd])) ?_).trans ?_
 .exact(Hm (pP (aT (d:=nD 5) rfl (aD (cU (aT (d:=nD 6) rfl (aD (d:=nD (min p.length 63)) (cU (aT (d:=nD p.length) (cU (aD (d:=IN p) rfl) (jq _ _)) (aD (d:=nD 63) rfl)) (OM _ _)))) (OL _ _)))) (Ha `d `o))).trans J
 refine(eU (X6 (aT (d:=.str "undo") rfl (aD (O6 (s:=j) rfl))) (S9 (UU j.ok.tx)))).trans ?_;have H:=(JL (rows:=j.rows) (owns:=j.owns) (o:=j.o) YZ).2 c `o;rw[Za]at H;refine(eU (GO (d:=.str (fj r6 o6)) (aD `q) H)).trans ?_;have C:Rf (kD r6 o6 none,c++[j.kd]) (.str "lot 3") (dN "many"):=rf (show gW (kD r6 o6 none,_) [.str "lot 3"]=.exc (xD "TooMany" [])from iS (first := "lot") (ws:=["3"]) `q (rfl) (rfl) `q) `q `q (.inl rfl) `k;have v:jX (f2 (qZ (kD r6 o6 none,c++[j.kd]) (fun _=>Res.ok (D.str "lot 3"))) (sA "many") eqD) (f2 (my (kD r6 o6 none,c++[j.kd]) (aG (fun _=>Res.ok (D.str "eat 3")) aE) gW) (fun _=>Res.ok (D.str "1/6 1/6 1/6 1/6 1/6 1/6")) eqD) (R2 p g j (pj l) A z y Y)=.ok (.bl true):=by refine(pN (aP (f':=sA "many") (rM (aD (d:=.str "lot 3") rfl) C.said) (i9 (aD (d:=dN "many") (im (aT (d:=.str "many") rfl (aD (d:=.non) rfl)) `s)) `s) (by unfold eqD;rw[C.eq];rfl))).trans ?_;exact aP (rM (aD (d:=.str "eat 3") rfl) (Gz (first := "eat") `q (rfl) (rfl) FG)) rfl (by unfold eqD;rw[eqB_str,beq_self_eq_true];rfl)
 exact A8 (Xy v)
end Law
namespace Law
open PySem PySem.Spec PyProof.Rows L2 DL
theorem XM{K:W.Frag}(T:Txt P w K b)(A:Fun K "law" "law" yD e d)(Z:MethAt K "Desk" "undo" "Desk.undo" nc)(A_tell:MethAt K "Desk" "tell" "Desk.tell" mY)(g:MakeAt K b "Desk" "Desk" "Desk.__init__" oS)(U:QAt P w K b "QUESTIONS" fY)(Y:QAt P w K b "CHANGES" gz):FnOk P w K b base eN 12 e d BW (nQ K false [Md.sh] EQ):=by
 obtain⟨C,f,n,l,a,r⟩:=g.ex;have k:∀c,XN K "Desk" c->c=C:=fun c h=>by obtain⟨m,_,_,u,_⟩:=Z.ex;rw[u c h,u C a]
 have j:=Qa (base:=base) T a A_tell U Y (Qb T a Z) (HW T);have i:=TR (base:=base) T a A_tell U Y (TU T a Z) (P9 T) (HW T);exact P8 T A j i (Wc T j) (Wa T i) (TQ T a k g Xg)
end Law
end
open PySem PySem.W PyProof.Rows
namespace Law
open PySem PySem.Spec PyProof.Rows L2 DL
structure gr(K:W.Frag)(L:QL)(l:Addr)(x:Str)(c:Addr)(b:List a_):Prop where
 n:W.kitOne K (.type "NoneType") (.ref c)=some false
 k:L.all (fun q=>W.kitOne K (.ref q.2.1) (.ref c)==vt [x] q.1)=true
 z:(Value.ref c::b).contains (.ref l)=true
structure gw(K:W.Frag)(c:Addr)(X f:Str)(s:Stmt)(N g:Addr)(a b d e i j:a_)(o p:Option Addr)(q:Array (Option a_)):Prop where
 y:qu K c=some N
 z:jg K c N=true
 w:W.findIn K (.ref c) "__setattr__" = some (some (.builtin "object.__setattr__"))
 v:W.findIn K (.ref c) f=some none
 u:W.nsIn K N "__init__" = some (some (.ref g))
 t:W.keepIn K (.ref c)=true
 r:K.lookup g=some ⟨a,o,.func (W.fnOf "__init__" X (aM s) (aH s) (aA s) .none b d e p i j),q⟩
 n:W.codeIn K i X=true
 m:W.keepIn K (.ref g)=true
 l:W.typeIn K (.ref g)=some (.type "function")
theorem ix{l:List (Str×Z)}(h:l.map (·.1)=Y):∀nm,Y.contains nm=true->∃q∈l,q.1=nm:=fun nm k=>by subst h;simpa using ď.mp k
theorem Fj{K:W.Frag}(m:K.In h)(G:h.Ns M_ n){L:QL}(A:CQ K "TradeError" l X)(B:CQ K "TooMany" x T)(C:CQ K "NotSquare" v R)(D1:CQ K "NoDeed" u Q)(E:CQ K "NoLine" t S)(F:CQ K "NoRow" s J)(g:CQ K "NoOwn" r I)(i:CQ K "NoText" p H)(b:W.specialIn K (.builtin "object.__class__") "__get__" = some (some (.builtin "getset_descriptor.__get__")))(c:W.takesIn K (.builtin "object.__class__")=some true)(hL:L=YW.zip [(l,X),(x,T),(v,R),(u,Q),(t,S),(s,J),(r,I),(p,H)])(d:XT K l)(B2:gr K L l "TooMany" x T)(C2:gr K L l "NotSquare" v R)(D2:gr K L l "NoDeed" u Q)(E2:gr K L l "NoLine" t S)(F2:gr K L l "NoRow" s J)(g2:gr K L l "NoOwn" r I)(i2:gr K L l "NoText" p H)(B3:W.excIn K x gy "ValueError.__new__" = true)(C3:W.excIn K v gy "ValueError.__new__" = true)(D3:W.excIn K u gy "ValueError.__new__" = true)(E3:W.excIn K t gy "ValueError.__new__" = true)(F3:gw K s "NoRow.__init__" "hand" pR NzF gzF azF bzF dzF ezF izF jzF ozF pzF qzF)(g3:gw K r "NoOwn.__init__" "hand" pQ Nzg gzg azg bzg dzg ezg izg jzg ozg pzg qzg)(i3:gw K p "NoText.__init__" "at" pS Nzi gzi azi bzi dzi ezi izi jzi ozi pzi qzi)(U:W.kitOne K (.type "NoneType") (.type "ValueError")=some false)(Y:L.all (fun q=>W.kitOne K (.ref q.2.1) (.type "ValueError")==vt YW q.1)=true):ia P w K n:=by
 have y:L.map (·.1)=YW:=by rw[hL];rfl
 have z:ki (fun q:Str×Addr×List a_=>CF K q.1 q.2.1 q.2.2) L:=by rw[hL];exact⟨A.cf b c,B.cf b c,C.cf b c,D1.cf b c,E.cf b c,F.cf b c,g.cf b c,i.cf b c,trivial⟩
 have a:ki (fun q:Str×Addr×List a_=>(Value.ref q.2.1::q.2.2).contains (.ref l)=true) L:=by rw[hL];exact⟨by simp,B2.z,C2.z,D2.z,E2.z,F2.z,g2.z,i2.z,trivial⟩
 exact⟨⟨_,[],AE m G B.a B3,(B.cf b c).xn,W.mg_of m G B.a,pi y z B2.n B2.k⟩,⟨_,[],EO m G F.a F3.t F3.z F.o (nK F3.z F.o F3.w F3.v) F3.u (dG F3.r F3.n F3.m) F3.l YC (OZ (dG F3.r F3.n F3.m) (nK F3.z F.o F3.w F3.v) (W.mg_of m G A.a) d),(F.cf b c).xn,W.mg_of m G F.a,pi y z F2.n F2.k⟩,⟨_,[],EO m G g.a g3.t g3.z g.o (nK g3.z g.o g3.w g3.v) g3.u (dG g3.r g3.n g3.m) g3.l YB (OY (dG g3.r g3.n g3.m) (nK g3.z g.o g3.w g3.v) (W.mg_of m G A.a) d),(g.cf b c).xn,W.mg_of m G g.a,pi y z g2.n g2.k⟩,⟨_,[],EO m G i.a i3.t i3.z i.o (nK i3.z i.o i3.w i3.v) i3.u (dG i3.r i3.n i3.m) i3.l YH (Pa (dG i3.r i3.n i3.m) (nK i3.z i.o i3.w i3.v) (W.mg_of m G A.a) d),(i.cf b c).xn,W.mg_of m G i.a,pi y z i2.n i2.k⟩,⟨_,[],AE m G C.a C3,(C.cf b c).xn,W.mg_of m G C.a,pi y z C2.n C2.k⟩,⟨_,[],AE m G E.a E3,(E.cf b c).xn,W.mg_of m G E.a,pi y z E2.n E2.k⟩,⟨_,[],AE m G D1.a D3,(D1.cf b c).xn,W.mg_of m G D1.a,pi y z D2.n D2.k⟩,NF [("NoText",p,H)] (by simp;exact⟨i.cf b c,nK i3.z i.o i3.w i3.v⟩) (ix rfl),NF [("NoRow",s,J),("NoOwn",r,I)] (by simp;exact⟨⟨F.cf b c,nK F3.z F.o F3.w F3.v⟩,⟨g.cf b c,nK g3.z g.o g3.w g3.v⟩⟩) (ix rfl),pi y z U Y,⟨_,_,(A.cf b c).xa,W.mg_of m G A.a,XE L (fun q Z=>⟨z.mem q Z,a.mem q Z⟩) (ix y)⟩⟩
end Law
namespace Law
open PySem PySem.Spec PyProof.Rows L2 DL
structure hB(K:W.Frag)(x:Str)(c:Addr):Prop where
 a:W.nsIn K M_ x=some (some (.ref c))
 b:nL K c x=true
 d:lN K x c=true
 e:W.plainGet K c ā=true
 f:W.hasDictIn K c=true
 g:W.plainOver K c=true
 h:W.findIn K (.ref c) "__setattr__" = some (some (.builtin "object.__setattr__"))
 m:W.makesIn K c=true
 k:W.keepIn K (.ref c)=true
structure hD(K:W.Frag)(y X:Str)(s:Stmt)(c g:Addr)(a b d e i j:a_)(o p:Option Addr)(q:Array (Option a_)):Prop where
 u:W.findIn K (.ref c) y=some (some (.ref g))
 v:W.isFn K (.ref g)=true
 r:K.lookup g=some ⟨a,o,.func (W.fnOf y X (aM s) (aH s) (aA s) .none b d e p i j),q⟩
 n:W.codeIn K i X=true
 m:W.keepIn K (.ref g)=true
structure hI(K:W.Frag)(mg:Str->Option a_):Prop extends ib K mg where
 a:MakeAt K mg "Desk" "Desk" "Desk.__init__" oS
 c:MethAt K "Desk" "undo" "Desk.undo" nc
 d:MethAt K "Desk" "tell" "Desk.tell" mY
theorem hO{K:W.Frag}(H:OC K x c)(j:jo K c f):jf K f fun y=>[x].contains y:=vS [(x,c)] (by simp;exact⟨H,j⟩) fun v h=>by simpa using h
theorem Yd{K:W.Frag}(F:K.In h)(G:h.Ns M_ B)(Y:hB K "Kept" y)(U:hB K "Desk" u)(b:hD K "__init__" "Kept.__init__" pG y gzb azb bzb dzb ezb izb jzb ozb pzb qzb)(d:hD K "__init__" "Desk.__init__" oS u gzd azd bzd dzd ezd izd jzd ozd pzd qzd)(e:hD K "undo" "Desk.undo" nc u gze aze bze dze eze ize jze oze pze qze)(f:hD K "tell" "Desk.tell" mY u gzf azf bzf dzf ezf izf jzf ozf pzf qzf)(k:W.findIn K (.ref u) "kept" = some none)(l:W.findIn K (.ref y) "order" = some none)(m:W.findIn K (.ref y) "owns" = some none)(n:W.findIn K (.ref u) "past" = some none)(o:W.findIn K (.ref y) "wishes" = some none):hI K B:=by
 have z:=ND Y.b Y.d Y.e Y.f Y.g Y.h;have w:=ND U.b U.d U.e U.f U.g U.h;exact⟨⟨hO w k,hO z l,hO z m,hO w n,hO z o,NB z (W.mg_of F G Y.a) Y.m b.u b.v Y.k (dG b.r b.n b.m)⟩,NB w (W.mg_of F G U.a) U.m d.u d.v U.k (dG d.r d.n d.m),NC w e.u e.v (dG e.r e.n e.m),NC w f.u f.v (dG f.r f.n f.m)⟩
end Law
namespace PySem.W.Fast
local macro_rules|`(command|#check $s:str)=>do
 let rec go(l:List Char)(k n:Nat)(a:Array Lean.Syntax):=match l with
  |c::l=>do
   let n:=n*91+(if c.toNat>92 then c.toNat-36 else c.toNat-35)
   if k=9 then go l 0 0 (a.push (<-`(command|theorem $(Lean.mkIdent (.mkSimple s!"tw{n}")):ident:True:=⟨⟩))) else go l (k+1) n a
  |_=>return Lean.mkNullNode a
 go s.getString.toList 0 0 #[]
#check "Co.<cTOIR|JGbK0MMPN#.7kfKHQnI<61U,/:dkKlBBLkUga$TH@%~{vU(SO[J(RV^s1D{~(zRWo3:CXt'N|WH$'oM(/u(dW<,,E*FJO>.}vXkd@C^UaIdT1C%3q1>KcDPU#<'@YPp%VZ?r#</@yWb36,K^Sqz#h%J)I5+IR0:4G&tPt:#U,uJy1?1EZ<V@,7GDPDbwwc,.g&t/=C{v#rba6xq[$k.Mr(m^3UA&'bm-<.,A(P9^#L2i59,ODl?l<Il/'q$YC`<L]k/;Cz3j@vVTo`J('XE*l3cs)ve<#IU*prB'yDcBbpbeFwbR&{0xiQ>mv8r}O*'(L.px^~%#G^>K>v73s/=z7#X-@c@+IN(fxh$iV,)+7(V4H+M|&,-8[y7uWd*zBpUl@%Y4.>Jpc*wlF~Y0$A-U-o3Cgg@Crc1(SN{*'=]8ZT.X9i?=A,VFA?z&7p:qQY'*Gm?{+H3TpFKwBY;Dny0tRv%AN}is.%/&AL]CA?xkSV9KyU7M0kXB$nG$l_>b#^(.1zonjMm*?C0A;$8f'r='Ncmoghfw?&6}B/JT@{HLE8(^?:B>3]kDq6(=Yr6t3)t7'mlh'9ifBXv1F|IBF1s0_DR_5]m(U/oVFdHc7dQB3m>*E=c%1-%GT*%.bML$Bj~_LwQWS4]/q<#cE+LNc`r/)drBD.%X~m>V:Sc_s^C6&0voWpzPSbCP:uK_]`y;1fy}gkh9dJH/u:`H#VHC)3kL9EVO2_(QE6pkcMVx2q<v1,xP>a4`l/U~xn~J*8m^&nK<zkGX'PI+E&`O+d1A&xgPFOF_Knfu_}n_+stHW$~)+(1T(iWvR.me4$Y1qi&XS>&2=pYiMe`JIE*^;nmqBNJC`Xf2Ih'BIo66(1E^y-MK4swX7,F(M@'Z2K%rm48wLpYbP1POH?_7tVd7>^*:vOt1v3Mo.0afAAP/dH+J'X{L3*kI1[-fmA&Yk?*VD(T}dW<<'0P.?7VFu28<NLZK-Ksk9q$8C%;b)[C56)2Ip%x#0$gD/Uz4+A+,xvtqINFAA>`)a=k7z'7uA]RQYz/s'%q6:e*{d>0qK7[&L`2:AWbkbpck@2(~aw7N~7_s+:'Fs>v]cW)8bNpLG#0r,WB+3~5;#v@z~XpdGjd<;9t|{8~8gc1uDmp.#U<ZA@I2f3z=z,6v^r1CuM62C5;a{EDZec1ll#I{j&`wE)/FS[HBz:7e`dDG_,Ce*zti|iovP1=_2`A&GSK;5IRU6Z}LU3;]Yzr<F0+j&`1LeurLf34/}J6|tTmx2B=4nWAK}@EBZ@|9w~Bl9QC3KIB.X?C^1DZd-GSlE7BIe:0:vhGBs3.V>&2k@uj-iQzgX]An)12UYE?aCiKo:=D(;S6}]M0s$chfK9Bcrr_mYJI,XxWT[g}]HuqA#;-s{O-zC^TKGW9'KiuQU/SE2lEUfbT9+(R}E$QN.+Sp:y$38ZT$]j9$:^;GH,gm'E3D^R$Z_>I@>I_YXu=C|K>$',]nG+kj1A,O<0O~['2SCfo3cj8)JKB']G&vaMJ^eD3H5KfZHeR;~a7cO0@T>SIG.m9/?2{qhcj=o$G/|<qA2:eGCAzSn+?Ms=?jtO?TVjX8Cp9grUZz;fI7ss-eNLJJAVef]Ea3=19BzdfJRbNu#%5Q%E5oL,'~>K>6'8|2Hx[^yL[J>LB-fy5pUeMY3;U]0(*$`{*#dMS0GNSY+WW]FM`}|=#Lb8J7auYM4uj.}2BX4,3/80%+)UVsD_b0+I=v@j*D5tCW}:JL9k4h_3;x$c:w9}9|Rb6@EGSQ]JR5VeG1K8@pay#%@%q}4oR^aj+PM7dV]`HL;.&L_rW2$XD<FcDV([GG8_aL?z'O(P=3V*E$'t'I8ign,^_:T@,tUC:oy#f?KzTP,DLe}zKKw05ARi<]=X6](~M[k;&Sbw`+wBt~KuZeKI/SRx40,7]4D5ayFsJGWqsi<_9(,#[e.d-VBeE[9z}(/W/a&1):pH+T6rhm},GToq1zOYz)KN[w&s)]+P^Aqo'qp[6F/n*qMdhBCD5BJ_9I`{];VJQ^72%mmF)vPM%.dnk9%eTT1(e:=nDe<LH9c^jDzc%=7w_#|-C5XNM@FMO[47@cHK`g;efl8UK.4f]DjSRW6_d^;I|&kS#JL${yn&TC>s)+T0U|1*MquLCccD`iDdC,9^2kzkJL;fF[0XMs0R8|PRVg/i)}>&T]ZWjHL.9LY>v%,cKmdrgno:Ns1FQS>_i2w>Lel|qxt#Xx6r1),u2T}z(9;.Kl'|Wn=bX-6sx#YN/K`]$#N{#h?wB+i;S@*J=zrEo{sl?G(tY'mqV4_&MHtT0.*'cZCu0~$t*,iL=o%+%T|bM48fygB[?:Jv+zC?nQGjd5I)8KA]WVVq0o'08vJ3xHDRtN8JVh8O/&Q=GVd,:K1c.%x$a,qoI}]FhoflDCGLL2.0#U6/2,|kCOeO>W6GjE7>((?U4JlQG%Pt2(M(j+1-w@9^1-#q/f,~`B4OPywu)*C`'Un'[&:/i(?/IU(g}hk>+>)1{:rMFS<rC'F;m^yk*3oGA>~/@f7k_8DraaXYBKjyt,az2Z1U9p(.+&dfI;VB7<0t13<OiU9iso}9%IC<RNwH:J6_jW=m&?kwIiZ}C@-N}?'q__SWyH`>$;/Q>1)bS7)su/#560%{B%o7]djTlGM/#vF7[h0e*CC4((?8u+$#KV)k%L`@J|N2zP_NS(4MN4OyuQzuHr,to*j1X*3L$hrPZ`0[9Z9Ack{+F]M^C5yh]}Fw%rDyjL*uuzKm^v6ZbU=g(D{V7z|cI.I7zKb1J1Je%>;4VB^=V=;Xm|0QBr874IQls`*xq?IWz-04u^#z,I3|Is]t;M0NBeXzzRX*,N7XT[jX`sK(ePd~PCzHCQU[UxLg[u3Ge%Sr@kKC/E`p3zADZ+.3X}{//2O?M&=4OsCA~nEgL=XP;SFx65GIaX<XWw.piY38GTb]*mP6u&Pcsr-Qws?*@IZC%;*Xc<Ade1AUf=i6BTVr7r)WnMC|Z#2[E*o;7:tf#>My{+grvq>R=p3D{ynIA/QaO[&Gu&J9MV~v&t^yBI`>-4^|=_/|7(sP7-qU.0v*ulzP,m*-rhY4IfGPEF+lqK*6u{$z|;p=JhnwJ@w`.1>{O/#Nz%reBj'g-E:H_pDne7J0x@Us0/2X?kBxVV9K=8%s#HOVw97%&jP.I*,8d8L^I;gG2YS]25W>kj?>p|2%PQ[SIVJ)#`bI#Y?0bjDVmI./q{h1?+Cy-?P3@%<M]@i6ngCK&v~c])WLq,Dm#LGe8b|a2%dN=U9+o].eXtzi3%&WMle2y_D8gu%eYT2Ffx7a&i+:6K%eZLAI[DP%uK_C>]]bXY0k5yJs||]egi'Y@'%o$NB^K|Abdf2t@@i58wC71945+v5S(.&g={[L0@jP@Vrp,8>>:l?Xcn19CD#ZhJW4|e=X}RMUjc/,1=`U|c:<38'QShSPyn1R2snvPlVx8b([Ro?fm^={Kly*hLLY]35PJR7u1$XGEt|v{MG-,D2xdqyON#{:C)G6/;r|,k>Q}Ioo;9@1JV)um3nsY/GSzgC6/zR2ELVQx:/u+qJ;_5qS|Y)jH'ZWlN+XiuLkC?,erf$)0PcL1:j<el1cc-7t>A-Q6^=OCFiRBk$X]w2v+Sn_2ZI`Pg#KfUHdaomz@-[YDXKAl?gxfA1ATrAR[N{M=Kn3^mw~-v*OnKM'Ql4r;OFsdX-2e(4|FUv<6WnC:^zRn^-xl),3,}C(c=E]%aBy5@&[HH5xArb@z5/w5$l#;~hKax'7Mi)`R}|OIAmHsUbvX?0}|Z~}TWk]>H]74b0nEHEzDLQnky:(Jm3X3=a~7$34MC&)4Bq<6qKXpKSe)rBxC6vVfQ&n3_Y%:T'3y{)x,TM8@Zl=1mE5,XPN/C@QXl.wB#;a()`?T0w45M/@9Rp:@*tE/WH?TzlB75<@P81AQmTo$QtIJ*i3e:';`r&F&FwBM{ihR?<2w=A(cshHavw*?fo|d)YX$JJtYJ}y%Q8?Erq74LT+p-IVfU4D=M<LA~9&Jf6H3SLjF*i7FOO);RJ44K)h`IGX0YBNlzog4RuUU*RX|AN+yc@#DQp4'nK{j1+(K13x(1[W[|?o=Lk>ZB/b[VFEyLG48%GwFiP7m,;2Fa7-g&<1^Qt8)()[0<o;&T4s:U)a+F=l?X@29U=MZR+ulrLGtvIk9#;rxTpUf#2/p3n%*KW3CBrGu<%u]D:+<uheC(2a1T/?up&/1]5kVxR0-6eSE^:]:D6_qd>*sp{`MO<W4PxIZp'j(d.k[6VGK'JA29U?QXNTN2Ave]l1/cWjLt-)wE/rlU#3r/{'E'f*Cz;(003O?s6xkv#5;wzH>aC-YCB'-,D+h[b7)m}lF5P`>xscb47gi7RXRwv3=$t'.A-zNq$^Ga&_:MX*JVYuT|WR02B{&x8F7<K6?Ur.&G66G6/y4DRxbY;eL#c'sptkTk8Uzw9%v/GtIlqzet,J<rHGr(2RhrmFM70I7m|c3<.-TJ#VjL<cF.*|SK{{|L26&hkx(~?{L3{4bcVaxZEaLvyz<O=7$|GEmopQsb,bNl:hHH`CAz@yf%@~oq(FTch.?^P'0fTV}Z#M.R)L%PD{i,LnARque7M`6L*Je2QB-7ga1zY~X+U?&a<j}>/Vr=f5%X4C.-'+@8'raJ&3jJg6#1SX%O{>J4*b&7~1i3_:($xH)<+;.y((DtnJ5F_k4*tX?TcO.k@k3W2ywgf1?&@_Q3lrr2##6}'`P21z:&i0wzbLfgF'H9*z+Y3R./+QK96tR[-.{|cE@Am|09,TTmtO}]Aev.B{ICTZ(#vHuUCH?AH_$a%5n,=F8E8'g#-Vhw.=9N$eo3X&2)Ip[:eG?6@KIj$Q.#q>1$1eQGkd,G-][X9f)*tr5T1MdYuaMZ9#&=(ueYsKJdQ,{gqwYg(?Pax9xA=zI<q@Q4P1Tr6t%IaEUA;&@9)BH:NBTS3txZm4(8%`E9^fYNq^4F%STKzp_tAr)O(IAzncB33i37;Aq8jF*JIk|q[Wp?B;o]WpZjh>@CR0N&{2`z,]/N#L6P5_GIU(o#c&qn'SP|6h3@ZS>PZF2h<F[m2qs,yrbIyIC[,`>XV}Dz(5D(|G@~868i1JP]==@W8-fhpLFolmBE?uW*;3J.7DASc;{Vjk'7-|_FKU$*)PnoIq-,?&@K?Snoxm416bV_q:,tpp&ceV3wg-Jq7lQjNx7RX2KoXh[DZ/-XI#ZUVIS[L>(a(n@sLmGa<-GpfU|rIj(lD%7q]P*';S'Ckb{-dsJT-R<E7pc20xCBG*j#G^J}1$Uz<(-B'$m[iX$fTx0v)]rt<1_@04hi|,X/|XEOU.9SDm:#0N0$;mX:w#??D3LA.'-k>9%K6ZT3)/1TRhjqu3#8#WzdR?c09<0^14U4A'{qM8w4v`.?A<9_X5@eN>M74=&byTHtK7<K0:wG:<oa(]~&tLJ9/*K>WWCi#GhLKD&0$Ro*F|=2'`U2O]`i,'`Goqk,ai;rLR;VCC_p//}An=A},>4&oDY/RNKe1Y/?@4qYQYH{bTs,_xCs=Kq=b[*3215A3sdbWs]<,'LU/Sb]`.Cw+hWfxvIRB7ZP:/'Y?4DtEM>#eV5{Jt#ZHybdZ{)j$yEl<8@&?jq7X&4`3E,JStgvwIM,$mflEMez~A<%aGEq%U:3:j5k%t?aP`7JIaqSh.bM+f0xA+VB>%:5t9Z4'g9Z@dC}>8lv7)6`Z?=LWQ'?)nIp}K7-bN<=DOq^0-az.u?rEH~:i;80Yz30V.3t446:($)|GXJ-rOzI7gE--0?Y%@Qy@r4[H1Xr>($&%9]^-uomk}4NofTo5Z.pEQuI<+hEn$C{:?fu78c2M]z9`Nm=5+M6x<up<cX^(z6U_14jWB?`~Lml[q;C6t3/QDmV??*ig(S$9<*<=tbWWCPEm}Ch(G:X9y#<6x'fVu2p7>@9eFR1BCEi8X=Of{+e/v)P0pv^+[ht:^:$zQaZr:8jlj_QWp{oCT{/(gDjf1'*3-pYUPN^BE3]]?0ZkF$X--h{9jif4=x=T1^oa[9f#pj1>VN4#D@HCm]$^e2W@BTFGwV~,)82/0'5}g5pqavj(0~LM*12E`=6R)?Ys}:%*JqrG1{^5zwT`R<Uv~T*xxi-IDv#HBr_-+$VXj@l/-yT07:9gb)C`MJM^MNwvAvn3_Qw$@E]e(Ag4gvOj'j?(s&s(tjqDoH6%rdshG)/7b>K$xPp=0;G-Va-Aec@1oYOoM5,'}JmDi?R0(*E,k0U]5dF#[;04^adRkqh'vSR].l&J58*IJTcLW=B=]fbWA1E+3$#d6f-q+>HAnK@BCDhmi2xbYQL'5O?@@CPsg*tXsF#9/vrAEmbAOrQ@+ReeCAS}RL_#b4g$6`*emcote/546=KoGC;)`*x{07/,n5:QYlZ3GPBLz/$XQ#y(6Ac>f%&<xo[HGItz'FGocC_wlm7HloxH(xSxX(xA$Ku_Uvi7h]W,i)R~QP|Wn7[)|1oHh~^)-Ku{HR|&,B8I[o(X;^25JJ#,Uj6:P#Ve4dgm'qD#fr_2P)gWQ*cxA;rzXvw9KF[g9_sPR16PN<duV,[A=~*Z:^PG-7jC7eV9.R11L,YOfuG-%'^4=u%'2JT@Y+[vxw~Di?dF3?WSO^:B)9qqmp_d#3M4u(hX[B$E5)pvRtpyD1T13C_4bz(Liev[CvI2s#4EIVc1pJ1+'CO4@Wt`iF^jfYRZTxT?x_u5t;:UB.[N{A%`;&&Du/`FrQ7]X6)7`.2;&xn3]*'y`<pZ`68<-)W@2;OHW5:.*Pecl713cv$h`^V5n]6LzE<(.0USyl<).BMK+TPX+B0@J.o^T;0Va}08H&?5G8ypt;;1u`OX*Xu+o-,c`R@kL>89uqE}]e@Hw7,I5Xj~3D<SkwjfSw43{hoeSQ,(Q5Z>}U6Zoxo=Q*8uTV^;p-QU/vDmZU~M5cZs;[(;nAiel(,?`/=A*.2LJ1pEt=>b~mOA#/pL$Z7`^TDFP#dZm;nfY_}/I?V&?vJcwJ3PE_9Bv$(<]|`?@>{0q5H6$p^-/6hB79[t7)1D1A.U5v<=De(Mt/BBjILxB&c2GeL=~uH0f4gRxrHf66F)>-Qb[Ug@v(+kox1pu6sqq^dVr>>?+`DnJ^v;'/7OmX=xY:.)$F`j)'xWt+=#y1/u~<v3b~vS*S5K95AXscje5~;Kc%[&bLhzjL?x5eIC4`^0A@zBr9.h33+Ms*z`]hz6$h.Jw].:p46|xF<-w/o;pY?/O?R#^Jp0rNB^<qGM?:J0wJgcXC^RtI;FN4x7?}F_`0dw;>E+,9G9@Hz8XxsYaK(/$D{X~Nw%ByG.rSMEv50y:)0M'D:./PM0FLD/BJ7*.25]LLK*}g(G+Cfq{C$$S>m7DYI;i2^MfFo:7+=gqCNW&E8M&pT3,2ZY{6iU2<%P~:-qk`^$^w0eCGJ-;9A&?/^}w27+y+<zGqnGf,@0&uNsA'f;rm}`Z{*/.(3<pO6N.;>6V'Ar>}]X14*i{y1itk%$*[]:yrjih38o%}JlZ.,&ug`AVn.J7-,xm>p'tWv$J.bjqGjrZ2A*Ukwttz=.[3GvDN#8lDtsg?lkYIj@&*lu$H;9JIn+2ntu'kK3z:orS<}p8J]^ZvQejzV2v]dB*juRI(?z6^*rFYbBG+#>bH]0K-(bRXZ}6kC#Ar`kM?AP_;|M>;+.?^n3~d0r@#G-:=xahL)T];*5S|A~Zw3SA9g`,z-R~NT,&U4JOh'MqM9&K}lox'2LjF&Z;NejR+d^C3cadT@,PW754D$@66ADYu}v~Kz7s:C8+ZIhX7X(wNV.ZEBHomT5+5ZgQ6O`gsY:U1.6?>FML?SG|/E3fhIHj(v&%t&<+ut3w,99'z]?oCr4+D?}%/tRX?/ow`4Z9<A1NfVcQ1GKX53b&)]hYX]'zheC`'KTt35}.(O^XZ&>kkRU'Pv/z<&sy[S<0|5F8BEuk'~h.IuqMuRCSn8D]0:B_Tu{{2Z9nqgV@,?1:@>|qv3QG7k@7|Xj2SJ$1Sli'2sL-$#<w=k.Sq6Ic+6X5d`ZZ6~>~qUHu~^JNW3[7@t9i*u}TrDOmZu.`vI^de[>T,2i~g0tE;['2[QvB'I:5=L7sehf-aL9|q~&/2}lK4=3(YjZd2F/~6KG^MTBk0-Z*CVyz(y:S:(-@yJ8N:ydal(CU=T,+96/|9>ZH,vq}Et:~)m@}j6}eMQ]%DnL4$`4~1W?#B$/&|&YiC|:lDNr3-I51sl*z/uWw>,SFwORWn%DX?{kJU:@J+S8Ndjd{&l1}Ch9GE_*835I*L@?uR~$eH$v[uu~<F^=bysD01X*Ec3o'IxeC([00+IWvJQ;^H{b2'XHoJ4Yw_BztU});MI|@oco3GgBWRA4_}M7A$9l+2-083JKR7VdegqIgK3v~{yur#/[G4nIX8y2.RUp^RhSP-pQ@#3:2)GG<QrW{+Mi`#bQN;=qfxa22WKw>B#qXGUphP<T:uu:UtyU*qrXQ0lY,uTC9U%7){#xhIq7S9lG[Tr$21~5}8[-GiO+c-D?p+M/5^^2-czdA.Z5}K@m&(D_,E5>Dfl_u5T(i%>?SbI.334"
end PySem.W.Fast
set_option maxRecDepth 100000 in
set_option maxHeartbeats 0 in
theorem PySem.Challenge.cw_ringtrade_k46_lines_refused_holds : PySem.Challenge.rw_ringtrade_k46_lines_refused.Holds := by
 w_on; o_law; k_head; (case hw=>w_witness2)
 k_fill
 refine DL.Ye (l:=PySem.Challenge.rw_ringtrade_k46_lines_refused) (k:=12) (x := "_law_script") (F:=Law.EQ) rfl rfl ⟨rfl,by decide,by decide,rfl⟩ (fun w h Y=>PySem.W.kIn_of Y) Law.main ?C
 intro w mg fa h KX G hmg
 have a:Law.ia PySem.Challenge.rw_ringtrade_k46_lines_refused.prog w (L2.dR KX) mg:=by
  dsimp only [L2.dR]
  refine' Law.Fj KX G ?za ?zb ?zc ?zd ?ze ?zf ?zg ?zh ?zb1 ?zc1 ?zhL ?zd1 ?zi ?zj ?zk ?zl ?zm ?zn ?zo ?zp ?zq ?zr ?zs ?zt ?zu ?zv ?zw ?zx
  case za|zb|zc|zd|ze|zf|zg|zh=>exact ⟨by k_is,by exact rfl,by decide +kernel,by decide +kernel,by k_is,by k_is,by k_is,by kernel_rfl⟩
  case zb1|zc1=>k_is
  case zhL=>exact rfl
  case zd1=>exact ⟨by k_is,by kernel_rfl,by kernel_rfl⟩
  case zi|zj|zk|zl|zm|zn|zo=>exact ⟨by kernel_rfl,by kernel_rfl,by decide +kernel⟩
  case zp|zq|zr|zs|zw|zx=>kernel_rfl
  case zt|zu|zv=>exact ⟨by exact rfl,by kernel_rfl,by k_is,by k_is,by k_is,by k_is,by k_is,by k_is,by k_is,by k_is⟩
 have b:Law.hI (L2.dR KX) mg:=by
  dsimp only [L2.dR]
  refine' Law.Yd KX G ?za ?zb ?zc ?zd ?ze ?zf ?zg ?zh ?zi ?zj ?zk
  case za|zb=>exact ⟨by k_is,by kernel_rfl,by kernel_rfl,by kernel_rfl,by kernel_rfl,by kernel_rfl,by k_is,by kernel_rfl,by k_is⟩
  case zc|zd|ze|zf=>exact ⟨by k_is,by kernel_rfl,by k_is,by k_is,by k_is⟩
  case zg|zh|zi|zj|zk=>k_is
 have T:Law.Txt PySem.Challenge.rw_ringtrade_k46_lines_refused.prog w (L2.dR KX) mg:=by
  dsimp only [L2.dR]
  constructor
  all_goals first | (refine' PySem.W.mg_none_of KX G ?_; k_is) | (refine' DL.NG KX G ?azz ?lzz ?czz ?kzz; (case azz | lzz | czz | kzz=>k_is)) | (refine' DL.XZ KX G ?azz ?lzz ?tzz ?czz ?kzz; (case azz | lzz | tzz | czz | kzz=>k_is)) | (refine' DL.XG KX G ?zzz; (case zzz=>k_is)) | (refine' DL.XH KX G ?zzz; (case zzz=>k_is)) | (refine' DL.Xf KX G ?zzz ?lzz; (case zzz | lzz=>k_is)) | exact a | exact b.1
 have y2:DL.DefAt (L2.dR KX) mg "law" Law.yD:=by
  dsimp only [L2.dR]
  refine' DL.NG KX G ?azz ?lzz ?czz ?kzz; (case azz | lzz | czz | kzz=>k_is)
 have y3:DL.QAt PySem.Challenge.rw_ringtrade_k46_lines_refused.prog w (L2.dR KX) mg "QUESTIONS" Law.fY:=by
  dsimp only [L2.dR]
  refine' DL.NE [("rings",?tQ0,"answer_rings",?bQ0),("asks",?tQ1,"answer_asks",?bQ1),("deal",?tQ2,"answer_deal",?bQ2),("by",?tQ3,"answer_by",?bQ3),("of",?tQ4,"answer_of",?bQ4),("lot",?tQ5,"answer_lot",?bQ5),("eat",?tQ6,"answer_eat",?bQ6)] KX G ?zzz ?lzz ?ezz ?szz ?nzz
  case zzz|lzz=>k_is
  case ezz|szz=>exact rfl
  (case nzz=>refine ⟨?_,?_,?_,?_,?_,?_,?_,trivial⟩ <;> (dsimp only; k_is))
 have y4:DL.QAt PySem.Challenge.rw_ringtrade_k46_lines_refused.prog w (L2.dR KX) mg "CHANGES" Law.gz:=by
  dsimp only [L2.dR]
  refine' DL.NE [("rows",?tC0,"after_rows",?bC0),("own",?tC1,"after_own",?bC1),("none",?tC2,"after_none",?bC2),("order",?tC3,"after_order",?bC3)] KX G ?zzz ?lzz ?ezz ?szz ?nzz
  case zzz|lzz=>k_is
  case ezz|szz=>exact rfl
  (case nzz=>refine ⟨?_,?_,?_,?_,trivial⟩ <;> (dsimp only; k_is))
 refine DL.XJ hmg y2 (fun _ _ _ _ _ _ us hl=>match us,hl with | [_],_=>rfl) fun f fd Fn base=>?_
 exact Law.XM T Fn b.c b.d b.a y3 y4
end
