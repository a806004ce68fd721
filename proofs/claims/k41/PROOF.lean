import PyProof.Rows.All
import Wide.All
import OpenK.AllK
import Wide.FinOn
import Lean
import PyProof.EqAt
import PyProof.EqKinds
import PyProof.TupleCall
import PyProof.Rows.SetFrom
import KE.KSortTup
import PyProof.Draws
import PyProof.EnumMake
import PyProof.ListRange
import PyProof.Rows.EnumRows
import PyProof.SetRoads
import PyProof.Rows.MinMaxN
import PyProof.Rows.MaxTwoN
import PyProof.ZipIter
import KE.LcSums
import PySem.Challenge.RW_ringtrade_k41_papers_of_dealings
noncomputable section
open PySem renaming Value->a_,wpAny_bind->b_,Shared->f_,starEach->i_,wpAny_pure->o_,wpAny->u_,model->D_,Program->E_,World->T_,compareOp->Vs,Around->Vu,mainGlobals->Vv,sizeLine_eq->Vw,wpAny_field->VD,wpAny_mono->VG,FuncData->VV,wpAny_callSpecial?_slot->V7,assignEach->V_,foldedSetIterable->Wa,wpAny_newObj_type->Wb,mem_of_lookup->We,wpAny_pyIter_tuple->Wk,behindInMarks->Wo,excClassObj->Wx,wpAny_truthy_bool->Wz,wpAny_Call_Name_kw->WQ,wpAny_seqItems->WR,wpAny_setField_rec->WS,wpAny_passesOwn->WV,wpAny_holding->W2,attributeBase->W3,IsPair->W5,wpAny_isSubtype_exc->W_,binaryOp->Xa,cLine->Xb,wpAny_call_entry->Xc,scanBound->Xd,wpAny_setField->Xe,sysModules->Xh,codeAny_mono->Xi,wpAny_execs_nil->Xn,setFlight->Xq,wpAny_loadPart_at->Xu,NameKind->Xy,bootBuiltins->XB,swapsWith->XC,argBest->XJ,wpAny_standAt->XV,wpAny_loadPart'->X1,wpAny_call->X3,tupleKind_room_in1->X4,Scope->X7,keywordEach->X8,sliceBounds->X_,rawInt->Yb,bindArgs->Yc,plainObj_wpAny_Assign_Attribute->Yh,noteFrame->Yl,wpAny_typeOf_ref->Ym,holding->Yo,codeAny_call_builtin->Yr,wpAny_updateSeq_pair->Ys,evalEach->Yt,assign->Yv,letOwnedTupleGo->Yw,codeAny->YC,Builtin->YD,wpAny_loadPart->YH,call_meets->YK,IsZip->YN,wpAny_pyIter_enum->YZ,wpAny_comprehension_free->Y2,wpAny_onRaise->Y4,PassesOwn->Y7,backToKw->Y_,noFill_tuple_add->Za,concat_meets->Zg,IsPart->Zh,getItem->Zi,wpAny_typeOf->Zj,PlainAttrs->Zn,callerA->Zp,notedBy->Zr,isSubtype_type->ZH,compEnvC->ZK,tupleKind->ZQ,standAt->ZR,getMethod->ZS,valueAt->ZT,OwnTail->ZU,codeAny_forLoop_any->ZV,swapsWithSole->Z1,swappedStores->Z2,seq_tuple_add->Z3,Draws->Z4,pyIter->Z7,wpAny_rule->Qaa,Within->Qac,wpAny_assign_Name->Qae,CmpOp->Qaf,BindsTo->Qai,wpAny_sequenceKey->Qaj,slot_list_getitem->Qal,Keyword->Qam,wpAny_pyIter_list->Qao,relabel->Qap,pyNext->Qau,lastMarks->Qav,richCompare->QaD,seqIndex_of->QaE,atKey->QaF,wpAny_letGo->QaH,builtinsNs->QaQ,Model->QaR,wpAny_Name->QaS,Result->QaT,callWith->QaU,bindL->QaV,bindC->QaW,typeOf->QaX,call->QaY,boot_len->QaZ,closureFor->Qa0,field->Qa1,isInstance->Qa3
open PySem.Heap renaming get?_push_of_some->c_,lt_size->y_,get?_push_size->z_,get?_update_self->VO,get?_update_ne->VS,size_push->VU,get?_none_of_le->Xw,SameBut->YB,get?_update_other->Zm,FunFrames->ZJ,get?_push_at->Qar,MadeExcOf->Qa2
open List renaming getElem?_eq_getElem->d_,range->e_,length_map->g_,getElem?_set_ne->h_,getElem?_eq_some_iff->j_,mem_cons->m_,getElem?_map->n_,mem_cons_self->p_,size_toArray->q_,mem_range->r_,getD_eq_getElem?_getD->s_,mem_cons_of_mem->t_,getElem?_set_self->x_,map_map->A_,mem_map->C_,not_mem_nil->G_,map_append->H_,replicate->L_,Nodup->M_,getElem?_append_left->O_,mem_append_right->P_,length_cons->Q_,length_append->U_,mem_singleton->Vp,map_cons->Vq,find?_cons->Vt,map_congr_left->Vx,nodup_iff_pairwise_ne->Vy,length_take->Vz,getElem?_eq_none->VB,map->VE,length_drop->VI,nodup_range->VJ,idxOf_lt_length_of_mem->VN,getElem?_append_right->VP,nodup_cons->VQ,getElem_mem->VR,any_eq_true->V0,getElem_of_mem->V1,contains_iff_mem->V2,getElem?_replicate->V6,range_eq_range'->V9,take_of_length_le->Wc,mem_append->Wf,append_nil->Wg,drop_eq_getElem_cons->Wh,all_eq_true->Wl,length_erase_of_mem->Ws,lookup->Wv,range'->Ww,length_range->WC,filterMap_cons->WF,getElem?_range->WG,length_pos_iff->WH,length->WM,all_cons->WN,filter_cons->WP,length_replicate->WT,forIn_cons->WW,any_map->WY,nodup_append->WZ,pairwise_map->W0,lookup_cons->Xf,pairwise_cons->Xj,length_pos_of_mem->Xk,getElem_idxOf->Xl,mem_filter->Xm,any_cons->Xp,mem_of_mem_erase->Xs,ext_getElem?->Xv,mem_append_left->Xx,mem_erase_of_ne->Xz,range'_succ->XE,zipWith->XG,drop_length->XH,map_drop->XZ,of_mem_zip->X0,mem_filterMap->X2,contains_cons->X5,length_filter_eq_length_iff->Yg,length_singleton->Yi,take_append_drop->Yj,length_filter_le->Yk,map_take->Yp,mem_of_getElem?->Yq,mem_of_mem_take->Yu,foldl_cons->Yz,length_zipWith->YA,drop_zero->YR,getElem?_drop->YS,pairwise_iff_getElem->YT,take_sublist->YV,map_id->Y1,idxOf_lt_length_iff->Y6,getElem_map->Zc,length_eq_zero_iff->Ze,map_set->Zv,map_id'->Zw,length_set->Zx,range_succ->Zy,getElem?_zipWith->Zz,dropLast_eq_take->ZB,take_eq_take_iff->ZC,perm_append_comm->ZD,forIn_nil->ZO,erase_cons_tail->ZP,filter_eq_self->ZY,filter_sublist->Z0,find?_eq_none->Qab,map_nil->Qak,getElem?_inj->Qas,getElem_inj->Qat,zipIdx_cons->Qaz,length_nil->QaJ,map_const'->QaL,zipIdx_nil->QaN,idxOf_cons->QaP
open Bool renaming false_ne_true->k_,eq_iff_iff->R_,and_eq_true->Vr,not_eq_true'->Yf,or_true->Zq,false_or->Qbf,true_and->Qbh
open Nat renaming le_refl->w_,lt_of_lt_of_le->I_,ne_of_lt->J_,le_trans->VL,zero_le->VM,lt_irrefl->VY,lt_succ_self->Wi,mod_lt->Wm,ne_of_gt->Wn,lt_succ_of_lt->WB,min_eq_left->Xo,le_of_eq->XD,succ_le_succ->Zb,mod_eq_of_lt->Zd,lt_of_succ_lt_succ->Zt,sub_zero->Zu,le_succ->ZE,le_of_lt->Qad,zero_add->Qaq,min_le_right->Qaw
open Option.some renaming inj->B_,injEq->YU
open PySem.F renaming plainAttrs_list->F_,slot_list_index->VT,slot_list_append->V4,type_list_append->V5,type_list_index->V8,slot_tuple_index->Wp,slot_list_remove->Wq,type_list_remove->W6,plainAttrs_tuple->W7,type_tuple_index->W8,args_tuple_add_2->XY,entry_tuple_add->X9,slot_tuple_add->Yd,excBase_ValueError->YQ,slot_list_insert->Y3,store_ValueError->Y5
open PySem.Str renaming ofString->K_,empty->Y9
open PySem.PassesOwn renaming never->N_
open Array renaming getElem?_setIfInBounds_self_of_lt->S_,getElem?_eq_some_iff->VW,getElem?_toList->Xr,length_toList->XQ,toArray_toList->ZL,find?_toList->Z8,ext_getElem?->Z9,getElem_mem->Qan,toList->Qbj
open PySem.Obj renaming mapFields->VA,mapSeq->Zl,data_mapFields->Z_
open False renaming elim->VC
open PyProof.Rows renaming slot_tuple_getitem->VF,step_dedup->WE,callWith_type1->WK,envOfC->XS,AllBare->Ya,boot_isinstance->Yy,IntsAre->YW,subscriptTail_builtinR->Zk,firstMet->ZI
open PySem.Builtin.SmallTypes renaming nextOf->VH,ownedTupleIsFree->V3,ownedTupleHandOut->XU
open PySem.PyData renaming canLay0->VX,depth->Wd,eqvAll->Wu,depthAll->Yx,canLayAll0->YY,eqv->Zs,strOk->Qbl
open Option renaming map_some->VZ,isSome_map->YX,map_eq_some_iff->Zo,getD_none->Qax,map_none->QaM
open LawfulBEq renaming eq_of_beq->Wj
open Int renaming ofNat_inj->Wt,toNat_natCast->WX,toNat->Xg,natCast_nonneg->X6,le_refl->ZN,toNat_of_nonneg->ZZ,natCast_ediv->QaB
open PySem.Builtin.Str renaming occurrences->WA
open Function renaming comp_apply->WJ,comp_def->Y0
open PySem.Builtin.Slice renaming slicePlaces->WU,sliceAdjust->XM,sliceApplied->YI,slicePartIndex->QaI,sliceFields->Qa9
open PySem.Builtin.Tuple renaming tupleExact->W4,tupleItemsOf->YJ,tupleIsExact->YM
open List.Pairwise renaming imp_of_mem->W9
open Ne renaming symm->Xt
open PySem.Calls renaming callWith_builtin->Ye,Name_function_global->YG,evalArgs_plain->ZF
open PySem.Builtin.ObjectAttr renaming storeInDict->Yn,newKeyGuard->QaA
open PySem.Challenge renaming pw_ringtrade_k41_papers_of_dealings->YE,rw_ringtrade_k41_papers_of_dealings->YF
open PySem.Code renaming quiet_builtin->YL,isFrame->Qah,isGuard->Qbk
open PySem.W renaming findIn->YO
open PySem.Builtin.Range renaming rangeSize->Y8
open PySem.Around renaming under->Zf
open Std.Legacy.Range renaming forIn_eq_forIn_range'->ZG
open PySem.Flt renaming iter_list_->ZM
open PySem.EntryCells renaming newEntry->ZW
open PySem.Heap.SameBut renaming update->ZX
open PySem.SeqAt.EqAt renaming int_str->Z5,str_int->Z6
open PySem.Heap.Ns1 renaming of_empty->Qag
open PySem.MeetsSeq renaming EqGives->Qay
open Sum.inl renaming inj->QaC
open PySem.Shared renaming heap->QaG,TypeIs->Qbg
open PySem.Builtin.Frozenset renaming updateFrom->QaK
open PySem.Heap.Ns renaming of_isNs->QaO
open Eq renaming trans->Qa4
open PySem.EqMixed renaming eq_bool_str->Qa5,eq_str_bool->Qa6,ne_bool_str->Qa7,ne_str_bool->Qa8,eq_int_str->Qbb,eq_str_int->Qbc,ne_int_str->Qbd,ne_str_int->Qbe
open PySem.Value renaming isStrOf->Qba,isInt->Qbo
open PyProof.Rows.IsTup renaming new->Qbi
open PySem.SeqAt renaming shaped->Qbm
open PySem.argBest renaming eq_2->Qbn
open PySem.Walks renaming tuple->Qbp
open PySem.W.WShape renaming has->Qbq
set_option Elab.async false
set_option linter.all false
set_option maxRecDepth 100000
set_option maxHeartbeats 4000000
section
namespace L2
open PySem PySem.Spec PyProof.Rows
abbrev aY:=Sum Int Str
def nX:aY->a_->Bool
|.inl k,v=>Qbo k v
|.inr x,v=>Qba x v
def Db(w:T_):aY->Int
|.inl k=>hashInt k
|.inr x=>hashStr w x
theorem keyIs_shape:∀{k:aY}{v:a_},nX k v=true->(∃i t,k=Sum.inl i/\v=Value.int i t)\/(∃x t,k=Sum.inr x/\v=Value.str x t)
|.inl i,v,h=>by obtain⟨t,e⟩:=Value.isInt_shape (k:=i) (v:=v) h;exact .inl ⟨i,t,rfl,e⟩
|.inr x,v,h=>by obtain⟨t,e⟩:=Value.isStrOf_shape (x:=x) (v:=v) h;exact .inr ⟨x,t,rfl,e⟩
theorem PP(i:Int)(t:Tok):nX (.inl i) (.int i t)=true:=by simp[nX,Qbo]
theorem PQ(x:Str)(t:Tok):nX (.inr x) (.str x t)=true:=by simp[nX,Qba]
theorem L1(a b:Int):decide ((Sum.inl a:aY)=Sum.inl b)=(a==b):=by
 by_cases e:a=b
 .subst e;simp
 .have h:¬ (Sum.inl a:aY)=Sum.inl b:=fun q=>e (QaC q);rw[decide_eq_false h];exact(beq_eq_false_iff_ne.mpr e).symm
theorem LA(a b:Str):decide ((Sum.inr a:aY)=Sum.inr b)=decide (a=b):=by
 by_cases e:a=b
 .subst e;simp
 .have h:¬ (Sum.inr a:aY)=Sum.inr b:=fun q=>e (Sum.inr.inj q);rw[decide_eq_false h,decide_eq_false e]
theorem L3(a:Int)(b:Str):decide ((Sum.inl a:aY)=Sum.inr b)=false:=decide_eq_false (fun q=>nomatch q)
theorem L4(a:Str)(b:Int):decide ((Sum.inr a:aY)=Sum.inl b)=false:=decide_eq_false (fun q=>nomatch q)
def gW(prog:E_)(w:T_):PySem.KeyKind prog w aY where
 is:=nX
 hash:=Db w
 inj:=fun v a b ha hb=>by
  rcases keyIs_shape ha with⟨i,t,rfl,rfl⟩|⟨x,t,rfl,rfl⟩
  .rcases keyIs_shape hb with⟨j,u,rfl,e⟩|⟨y,u,rfl,e⟩
   .injection e with e1 _;rw[e1]
   .exact nomatch e
  .rcases keyIs_shape hb with⟨j,u,rfl,e⟩|⟨y,u,rfl,e⟩
   .exact nomatch e
   .injection e with e1 _;rw[e1]
 byValue:=fun k v h=>by rcases keyIs_shape h with⟨i,t,rfl,rfl⟩|⟨x,t,rfl,rfl⟩ <;> rfl
 pyHash:=fun hv h=>by
  rcases keyIs_shape hv with⟨i,t,rfl,rfl⟩|⟨x,t,rfl,rfl⟩
  .exact wpAny_pyHash_int h
  .exact wpAny_pyHash_str h
 eqBool:=fun hu hv h=>by
  rcases keyIs_shape hu with⟨i,t,rfl,rfl⟩|⟨x,t,rfl,rfl⟩
  .rcases keyIs_shape hv with⟨j,u,rfl,rfl⟩|⟨y,u,rfl,rfl⟩
   .rw[L1]at h;exact wpAny_eqBool_int h
   .rw[L3]at h;exact Z5 i t y u _ _ _ _ h
  .rcases keyIs_shape hv with⟨j,u,rfl,rfl⟩|⟨y,u,rfl,rfl⟩
   .rw[L4]at h;exact Z6 x t j u _ _ _ _ h
   .rw[LA]at h;exact wpAny_eqBool_str h
 «strs»:=fun k x t v h=>by
  rcases keyIs_shape h with⟨i,u,rfl,e⟩|⟨y,u,rfl,e⟩
  .exact nomatch e
  .injection e with e1 _
   subst e1;cases v <;> rfl
theorem Rp(prog:E_)(w:T_)(i:Int)(t:Tok):(gW prog w).is (.inl i) (.int i t)=true:=PP i t
theorem Rq(prog:E_)(w:T_)(x:Str)(t:Tok):(gW prog w).is (.inr x) (.str x t)=true:=PQ x t
inductive V where
 |non|bl (b:Bool)|int (i:Int)|str (x:Str)|byt (b:Array UInt8)|flt (b:UInt64)|ref (a:Addr)|ty (n:String)
 deriving DecidableEq
def aE:V->a_->Prop
|.non,u=>u=Value.none
|.bl b,u=>u=Value.bool b
|.int i,u=>∃t,u=Value.int i t
|.str x,u=>∃t,u=Value.str x t
|.byt b,u=>∃t,u=Value.bytes b t
|.flt b,u=>∃t,u=Value.float b t
|.ref a,u=>u=Value.ref a
|.ty n,u=>u=Value.type n
abbrev ar:List V->List a_->Prop:=Paired aE
theorem ar.length{xs:List V}{us:List a_}(r:ar xs us):xs.length=us.length:=Paired.length r
theorem ar.get:∀{xs:List V}{us:List a_}{i:Nat}{x:V},ar xs us->xs[i]? = some x->∃u,us[i]? = some u/\aE x u
|_,_,_,_,.nil,e=>by simp at e
|_,_,0,_,.cons r _,e=>by simp at e;subst e;exact⟨_,rfl,r⟩
|_,_,i+1,x,.cons _ t,e=>by obtain⟨u,h1,h2⟩:=ar.get (i:=i) (x:=x) t (by simpa using e);exact⟨u,by simpa using h1,h2⟩
theorem ar.set{x:V}{u:a_}(r:aE x u):∀{xs:List V}{us:List a_}(i:Nat),ar xs us->ar (xs.set i x) (us.set i u)
|_,_,_,.nil=>.nil
|_,_,0,.cons _ t=>.cons r t
|_,_,i+1,.cons q t=>.cons q (ar.set r i t)
theorem ar.append{xs ys:List V}{us ws:List a_}(h:ar xs us)(h':ar ys ws):ar (xs++ys) (us++ws):=by induction h with
|nil=>exact h'
|cons r _ ih=>exact .cons r ih
theorem ar.take:∀{xs:List V}{us:List a_}(n:Nat),ar xs us->ar (xs.take n) (us.take n)
|_,_,0,_=>.nil
|_,_,_+1,.nil=>.nil
|_,_,n+1,.cons r t=>.cons r (ar.take n t)
theorem ar.drop:∀{xs:List V}{us:List a_}(n:Nat),ar xs us->ar (xs.drop n) (us.drop n)
|_,_,0,r=>r
|_,_,_+1,.nil=>.nil
|_,_,n+1,.cons _ t=>ar.drop n t
def c8:Option V->Option a_->Prop
|some v,some u=>aE v u
|none,none=>True
|_,_=>False
def KV{κ:Type}:List (κ×V)->List (κ×a_)->Prop:=Paired fun(p:κ×V)(q:κ×a_)=>p.1=q.1/\aE p.2 q.2
def kV:aY->V
|.inl i=>.int i
|.inr x=>.str x
inductive HO where
 |lst (xs:List V)
 |tup (xs:List V)
 |dK (kvs:List (aY×V))|dT (kvs:List (List aY×V))
 |set (S:Int->Bool) (n:Nat)
 |ins (C dx:Addr) (fs:List (Str×V))
 |own (x:Addr)
 |xd (fs:List (Str×V))
 |met (f x:Addr)
 |rng (lo hi:Int)
 |frz (o:Obj) (u:HO)
 |tbl (ps:Array a_)
 |ext (φ:Heap->Prop)
abbrev Hp:=Addr->Option HO
def aD(H:Hp)(a:Addr)(o:HO):Hp:=fun b=>if b=a then some o else H b
theorem bX{H:Hp}{a:Addr}{o:HO}:aD H a o a=some o:=by unfold aD;rw[if_pos rfl]
theorem bg{H:Hp}{a b:Addr}{o:HO}(h:b≠a):aD H a o b=H b:=by unfold aD;rw[if_neg h]
theorem JI{H:Hp}{a b:Addr}{o u:HO}(h:H a=some o)(h':H b=some u)(d:o≠u):a≠b:=by intro e;subst e;rw[h]at h';exact d (B_ h')
theorem lN{H:Hp}{a b:Addr}{o:HO}(h:H a=some o)(h':H b=none):a≠b:=by intro e;subst e;rw[h]at h';cases h'
section
variable(P:E_)(w:T_)
def cp(H:Hp)(h:Heap)(a:Addr):HO->Prop
|.lst xs=>xs.length<=sizeLine/\∃(its:List a_)(n:Nat),ar xs its/\h.get? a=some { cls:=.type "list",data:=.seq its.toArray n }
|.tup xs=>xs.length<=sizeLine/\∃its:List a_,ar xs its/\IsTup h a its.toArray/\∃o,h.get? a=some o/\o.dict=none
|.dK kvs=>kvs.length<=sizeLine/\(a==Xh)=false/\∃vs,KV kvs vs/\h.DictOf (gW P w) a vs
| .dT kvs=>kvs.length<=sizeLine/\(a == Xh)=false/\∃xs:List (List aY × Addr × a_),
   Paired (fun(p:List aY×V)(q:List aY×Addr×a_)=>p.1=q.1/\H q.2.1=some (.tup (p.1.map kV))/\aE p.2 q.2.2) kvs xs /\∃o es ep,h.get? a=some o/\o.ExactDict/\o.data=.dict es ep/\es.toList=xs.map (entryOfKey (ZQ (gW P w)))/\(xs.map (·.1)).Nodup
|.set S n=>h.SetOf (intKind P w) a S n
| .ins C dx fs=>H dx=some (.own a)/\fs.length<=1000/\dx≠a/\h.get? a=some (W.instObj C dx) /\
   ∃mA,h.Ns1 dx mA/\(∀f,c8 (fs.lookup f) (mA f))/\Qac mA (fs.map (·.1))
|.own _=>∃o,h.get? a=some o
|.xd fs=>∃mA,h.Ns1 a mA/\∀f,c8 (fs.lookup f) (mA f)
|.rng lo hi=>∃t u v,h.get? a=some { cls:=.type "range",data:=.fields #[.int lo t,.int hi u,.int 1 v] }
|.frz o u=>h.get? a=some o/\cp H h a u
|.tbl ps=>h.get? a=some { cls:=.none,data:=.fields ps }
|.met f x=>h.get? a=some (W.methodObj (.ref f) (.ref x))
|.ext φ=>φ h/\(∃o,h.get? a=some o)/\∀h1 h2:Heap,φ h1->(∀o,h1.get? a=some o->h2.get? a=some o)->φ h2
def cS(H:Hp)(h:Heap):Prop:=∀a o,H a=some o->cp P w H h a o
end
variable{P:E_}{w:T_}{H H':Hp}{h h':Heap}{a:Addr}{o:HO}
theorem cp.lt(x:cp P w H h a o):a<h.objs.size:=by cases o with
|lst xs=>obtain⟨_,_,_,_,e⟩:=x;exact y_ e
|tup xs=>obtain⟨_,_,_,p,_⟩:=x;exact p.lt
|dK kvs=>obtain⟨_,_,_,_,o,_,_,e,_⟩:=x;exact y_ e
|dT kvs=>obtain⟨_,_,_,_,o,_,_,e,_⟩:=x;exact y_ e
|set S n=>obtain⟨o,_,_,_,e,_⟩:=x;exact y_ e
|ins C dx fs=>obtain⟨_,_,_,e,_⟩:=x;exact y_ e
|own y=>obtain⟨_,e⟩:=x;exact y_ e
|xd fs=>obtain⟨_,⟨_,_,_,e,_⟩,_⟩:=x;exact y_ e
|rng lo hi=>obtain⟨_,_,_,e⟩:=x;exact y_ e
|frz ob u=>obtain⟨e,_⟩:=x;exact y_ e
|tbl ps=>exact y_ (show h.get? a=some _ from x)
|met f y=>exact y_ (show h.get? a=some _ from x)
|ext φ=>obtain⟨_,⟨_,e⟩,_⟩:=x;exact y_ e
theorem Paired.mapP{α β:Type}{F G:α->β->Prop}{l₁:List α}{l₂:List β}(h:Paired F l₁ l₂)(f:∀a b,F a b->G a b):Paired G l₁ l₂:=by induction h with
|nil=>exact .nil
|cons r _ ih=>exact .cons (f _ _ r) ih
theorem cp.stay(x:cp P w H h a o)(k:∀b u,(b=a\/H b=some (.own a))->h.get? b=some u->h'.get? b=some u)(ho:∀b,H b=some (.own a)->H' b=some (.own a))(ht:∀b xs,H b=some (.tup xs)->H' b=some (.tup xs)):cp P w H' h' a o:=by induction o with
|lst xs=>obtain⟨z,its,n,r,e⟩:=x;exact⟨z,its,n,r,k _ _ (.inl rfl) e⟩
|tup xs=>obtain⟨z,its,r,⟨ob,e,c⟩,U,e2,c2⟩:=x;exact⟨z,its,r,⟨ob,k _ _ (.inl rfl) e,c⟩,U,k _ _ (.inl rfl) e2,c2⟩
|dK kvs=>obtain⟨z,y,vs,r,ob,es,ep,e,c⟩:=x;exact⟨z,y,vs,r,ob,es,ep,k _ _ (.inl rfl) e,c⟩
|dT kvs=>obtain⟨z,y,xs,r,ob,es,ep,e,c⟩:=x;exact⟨z,y,xs,Paired.mapP r fun p q z=>⟨z.1,ht _ _ z.2.1,z.2.2⟩,ob,es,ep,k _ _ (.inl rfl) e,c⟩
|set S n=>obtain⟨ob,es,ep,t,e,c⟩:=x;exact⟨ob,es,ep,t,k _ _ (.inl rfl) e,c⟩
|ins C dx fs=>obtain⟨d,z,ne,e,mA,⟨od,es,ep,e2,c⟩,r⟩:=x;exact⟨ho _ d,z,ne,k _ _ (.inl rfl) e,mA,⟨od,es,ep,k _ _ (.inr d) e2,c⟩,r⟩
|own y=>obtain⟨ob,e⟩:=x;exact⟨ob,k _ _ (.inl rfl) e⟩
|xd fs=>obtain⟨mA,⟨od,es,ep,e,c⟩,r⟩:=x;exact⟨mA,⟨od,es,ep,k _ _ (.inl rfl) e,c⟩,r⟩
|rng lo hi=>obtain⟨t,u,v,e⟩:=x;exact⟨t,u,v,k _ _ (.inl rfl) e⟩
|frz ob u ih=>obtain⟨e,q⟩:=x;exact⟨k _ _ (.inl rfl) e,ih q⟩
|tbl ps=>have e:h.get? a=some { cls:=.none,data:=.fields ps }:=x;show h'.get? a=some { cls:=.none,data:=.fields ps };exact k a _ (.inl rfl) e
|met f y=>have e:h.get? a=some (W.methodObj (.ref f) (.ref y)):=x;show h'.get? a=some (W.methodObj (.ref f) (.ref y));exact k a _ (.inl rfl) e
|ext φ=>obtain⟨p,⟨o,e⟩,st⟩:=x;exact⟨st _ _ p fun o q=>k _ _ (.inl rfl) q,⟨o,k _ _ (.inl rfl) e⟩,st⟩
theorem cS.lt(x:cS P w H h)(e:H a=some o):a<h.objs.size:=(x a o e).lt
theorem cS.fresh(x:cS P w H h)(e:h.objs.size<=a):H a=none:=by cases q:H a with
|none=>rfl
|some u=>exact absurd (I_ (x.lt q) e) (VY _)
theorem cS.kept(x:cS P w H h)(k:∀b u,h.get? b=some u->h'.get? b=some u):cS P w H h':=fun a o e=>(x a o e).stay (fun b u _ q=>k b u q) (fun _ q=>q) fun _ _ q=>q
theorem cS.laid(x:cS P w H h)(k:∀b u,h.get? b=some u->h'.get? b=some u)(hp:h.objs.size<=a)(new:cp P w (aD H a o) h' a o):cS P w (aD H a o) h':=fun b u e=>by
 have hn:=x.fresh hp;by_cases hb:b=a
 .subst hb;rw[bX]at e;cases e;exact new
 .rw[bg hb]at e;exact(x b u e).stay (fun c v _ q=>k c v q) (fun c q=>by rw[bg (lN q hn)];exact q) fun c xs q=>by rw[bg (lN q hn)];exact q
def Rd(H:Hp)(a:Addr)(u:HO):Prop:=H a=some u\/∃o,H a=some (.frz o u)
theorem Rd.ok{P:E_}{w:T_}{H:Hp}{h:Heap}{a:Addr}{u:HO}(r:Rd H a u)(x:cS P w H h):cp P w H h a u:=by
 rcases r with r|⟨o,r⟩
 .exact x a u r
 .obtain⟨_,q⟩:=x a _ r;exact q
def sE:Option HO->Prop
|some (.lst _)=>True
|some (.dK _)=>True
|some (.dT _)=>True
|some (.set _ _)=>True
|some (.ins _ _ _)=>True
|some (.ext _)=>True
|_=>False
section
variable{x e:Addr}{o':HO}
theorem cS.write(ok:cS P w H h)(mu:sE (H x))(he:e=x\/H e=some (.own x))(k:∀b u,b≠e->h.get? b=some u->h'.get? b=some u)(ac:∃u,h'.get? e=some u)(new:cp P w (aD H x o') h' x o'):cS P w (aD H x o') h':=fun b u q=>by
 have Y:∀c y,H c=some (.own y)->c≠x:=fun c y r z=>by subst z;rw[r]at mu;exact mu
 have Z:∀c xs,H c=some (.tup xs)->c≠x:=fun c xs r z=>by subst z;rw[r]at mu;exact mu
 by_cases hb:b=x
 .subst hb;rw[bX]at q;cases q;exact new
 .rw[bg hb]at q;by_cases U:b=e
  .have q':H b=some (.own x):=by
    rcases he with z|z
    .exact absurd (U.trans z) hb
    .rw[U];exact z
   rw[q]at q';cases q';obtain⟨v,hv⟩:=ac;exact⟨v,by rw[U];exact hv⟩
  .refine(ok b u q).stay (fun c v hc r=>k c v ?_ r) (fun c r=>by rw[bg (Y c b r)];exact r) fun c xs r=>by rw[bg (Z c xs r)];exact r
   rcases hc with rfl|hc
   .exact U
   .rintro rfl
    rcases he with z|z
    .exact Y c b hc z
    .rw[hc]at z;cases z;exact hb rfl
end
structure Un(fs ex:List Addr)(H H':Hp)(h h':Heap):Prop where
 keep:∀b o,h.get? b=some o->H b=none->b∉fs->b∉ex->h'.get? b=some o
 slot:∀b o,h.get? b=some o->H b=none->b∈fs->b∉ex->∃sl,h'.get? b=some { o with slots:=sl }
 free:∀b o,h.get? b=some o->H b=none->b∉ex->H' b=none
 there:∀b o,h.get? b=some o->b∉ex->∃o',h'.get? b=some o'
 tups:∀b xs,H b=some (.tup xs)->H' b=some (.tup xs)
 frzs:∀b o u,H b=some (.frz o u)->H' b=some (.frz o u)
 tbls:∀b ps,H b=some (.tbl ps)->∃more,H' b=some (.tbl (ps++more))
section
variable{fs fs' ex ex':List Addr}{H1 H2:Hp}{h1 h2:Heap}{x e:Addr}
theorem Un.any(u:Un fs ex H H1 h h1){b:Addr}{ob:Obj}(q:h.get? b=some ob)(n:H b=none)(hx:b∉ex):∃sl,h1.get? b=some { ob with slots:=sl }:=by
 by_cases hb:b∈fs
 .exact u.slot b ob q n hb hx
 .exact⟨ob.slots,u.keep b ob q n hb hx⟩
theorem Un.kept(k:∀b u,h.get? b=some u->h'.get? b=some u):Un fs ex H H h h':=⟨fun b ob q _ _ _=>k b ob q,fun b ob q _ _ _=>⟨ob.slots,k b ob q⟩,fun _ _ _ n _=>n,fun b ob q _=>⟨ob,k b ob q⟩,fun _ _ q=>q,fun _ _ _ q=>q,fun _ ps q=>⟨#[],by rw[q];simp⟩⟩
theorem Un.refl:Un fs ex H H h h:=Un.kept fun _ _ q=>q
theorem Un.laid(k:∀b u,h.get? b=some u->h'.get? b=some u)(hp:h.objs.size<=a)(hn:H a=none):Un fs ex H (aD H a o) h h' where
 keep:=fun b u q _ _ _=>k b u q
 slot:=fun b u q _ _ _=>⟨u.slots,k b u q⟩
 free:=fun b u q n _=>by rw[bg (J_ (I_ (y_ q) hp))];exact n
 there:=fun b u q _=>⟨u,k b u q⟩
 tups:=fun b xs q=>by rw[bg (lN q hn)];exact q
 frzs:=fun b u xs q=>by rw[bg (lN q hn)];exact q
 tbls:=fun b ps q=>⟨#[],by rw[bg (lN q hn),q];simp⟩
theorem Un.write(mu:sE (H x))(he:e=x\/H e=some (.own x))(k:∀b u,b≠e->h.get? b=some u->h'.get? b=some u)(Y:∃u,h'.get? e=some u):Un fs ex H (aD H x o) h h':=by
 have hx:∀b,H b=none->b≠x:=fun b n z=>by subst z;rw[n]at mu;exact mu
 have hb:∀b,H b=none->b≠e:=fun b n z=>by
  subst z;rcases he with r|r
  .exact hx b n r
  .rw[n]at r;cases r
 have hm:∀b u,H b=some u->¬ sE (some u)->b≠x:=fun b u q nm z=>by subst z;rw[q]at mu;exact nm mu
 refine⟨fun b u q n _ _=>k b u (hb b n) q,fun b u q n _ _=>⟨u.slots,k b u (hb b n) q⟩,fun b u q n _=>by rw[bg (hx b n)];exact n,fun b u q _=>?_,fun b xs q=>by rw[bg (hm b _ q fun z=>z)];exact q,fun b u xs q=>by rw[bg (hm b _ q fun z=>z)];exact q,fun b ps q=>⟨#[],by rw[bg (hm b _ q fun z=>z),q];simp⟩⟩;by_cases U:b=e
 .subst U;exact Y
 .exact⟨u,k b u U q⟩
end
def trk(h:Heap)(H:Hp):List Addr:=(e_ h.objs.size).filter fun a=>(H a).isSome
def gq(h:Heap)(H:Hp):Heap:=W.hideAll h (trk h H)
theorem PF(h:Heap)(H:Hp):(gq h H).objs.size=h.objs.size:=W.hideAll_size _ _
theorem Oj{h:Heap}{H:Hp}{b:Addr}{o:Obj}(e:h.get? b=some o)(n:H b=none):(gq h H).get? b=some o:=W.hideAll_get _ e fun hm=>by have q:(H b).isSome=true:=(Xm.mp hm).2;rw[n]at q;simp at q
theorem MW{h:Heap}{H:Hp}{b:Addr}{o:Obj}(e:(gq h H).get? b=some o):h.get? b=some o/\H b=none:=by have e':h.get? b=some o:=W.of_hideAll (trk h H) e;refine⟨e',?_⟩;cases q:H b with
|none=>rfl
|some x=>have hm:b∈trk h H:=Xm.mpr ⟨r_.mpr (y_ e'),by simp[q]⟩;have z:(gq h H).get? b=none:=W.hideAll_none (trk h H) hm;rw[z]at e;cases e
def uB(g h:Heap)(L:Addr):List (Addr×Obj):=(e_ h.objs.size).filterMap fun a=>if a=L\/(g.get? a).isSome=true then none else(h.get? a).map fun o=>(a,o)
theorem Im{g h:Heap}{L a:Addr}{o:Obj}(h1:a≠L)(h2:g.get? a=none)(h3:h.get? a=some o):(a,o)∈uB g h L:=X2.mpr ⟨a,r_.mpr (y_ h3),by simp[h1,h2,h3]⟩
theorem R4{g h:Heap}{L:Addr}{p:Addr×Obj}(hp:p∈uB g h L):p.1≠L/\g.get? p.1=none/\h.get? p.1=some p.2:=by
 obtain⟨b,_,e⟩:=X2.mp hp;split at e
 .cases e
 .rename_i hn;cases q:h.get? b with
 |none=>rw[q]at e;simp at e
 |some u=>rw[q]at e;simp only[VZ,YU]at e;subst e;refine⟨fun z=>hn (.inl z),?_,q⟩;show g.get? b=none;cases r:g.get? b with
  |none=>rfl
  |some v=>exact(hn (.inr (by simp[r]))).elim
def rest(g h:Heap)(L d:Addr):List (Addr×Obj):=(uB g h L).filter fun p=>decide (p.1≠d)
theorem Ov{g h:Heap}{L:Addr}:News g L h (uB g h L):=fun p hp=>let⟨a,b,c⟩:=R4 hp;⟨c,a,b⟩
structure Mod(K:W.Frag)(mg:Str->Option a_)(base:Heap):Prop where
 kin:K.In base
 glob:base.Ns Vv mg
 blt:∃mb,base.Ns QaQ mb/\∀x:Str,x≠"__name__"->mb x=XB x
 nolimit:base.NoLimit
structure Cx where
 prog:E_
 w:T_
 K:W.Frag
 mg:Str->Option a_
 base:Heap
 A:Vu
 N:List Str
 s₀:f_
 H₀:Hp
 env:Env
 outer:List Env
 stack:List Env
 ex:List Addr
 fn:Str->Bool
 calm:Bool
 pn:List (Addr×Obj)
 xe:a_->f_->Prop
def cV(l:List Env):List Addr:=l.filterMap (·.frame)
abbrev Cx.fs(X:Cx):List Addr:=cV X.outer
def iG(sc:X7)(x:Str):Prop:=sc.names.lookup x=some .local\/sc.names.lookup x=some .cell\/sc.names.lookup x=some .free
def j5(sc:X7)(x:Str):Prop:=sc.names.lookup x=some .local\/sc.names.lookup x=some .cell
theorem dh{sc:X7}{x:Str}(h:(match sc.names.lookup x with|some .local=>true|some .cell=>true|some .free=>true|_=>false)=true):iG sc x:=by
 revert h;unfold iG;split<;>intro h
 .exact .inl (by assumption)
 .exact .inr (.inl (by assumption))
 .exact .inr (.inr (by assumption))
 .cases h
def DB(env:Env)(h:Heap)(m:Str->Option a_)(x:Str)(u:a_):Prop:=(env.kindOf x=some .local/\m x=some u)\/((env.kindOf x=some .cell\/env.kindOf x=some .free)/\∃c,env.cells.lookup x=some c/\h.IsCell c (some u))
structure Cx.Ok(X:Cx):Prop where
 mod:Mod X.K X.mg X.base
 kind:X.env.scope.kind=.function
 glob:X.env.globals=Vv
 blt:X.env.builtins=QaQ
 above:X.s₀.heap.objs.size<=X.env.locals
 inj:∀x y c,X.env.cells.lookup x=some c->X.env.cells.lookup y=some c->x=y
 has:∀x,(X.env.kindOf x=some .cell\/X.env.kindOf x=some .free)->∃c,X.env.cells.lookup x=some c
 cab:∀x c,X.fn x=true->X.env.cells.lookup x=some c->X.s₀.heap.objs.size<=c
 hd:X.calm=true->X.A.handled=none
 frames:X.A.frames=some X.stack
 stk:X.stack=X.outer\/(X.stack=X.env::X.outer/\X.env.frame=some X.env.locals)
 exf:∀b∈X.ex,b≠X.env.locals/\∀x c,X.env.cells.lookup x=some c->c≠b
 bs:∀b o,X.base.get? b=some o->X.s₀.heap.get? b=some o/\X.H₀ b=none
 bsz:X.base.objs.size<=X.s₀.heap.objs.size
 noex:∀b o,X.base.get? b=some o->b∉X.ex
 exfs:∀b∈X.ex,b∉X.fs
 funs:X.s₀.heap.FunFrames X.base X.outer
 frf:∀b∈X.fs,X.H₀ b=none
structure Inv(X:Cx)(pz:List (Addr×Obj))(σ:List (Option V))(H:Hp)(s:f_):Prop where
 ok:X.Ok
 os:s.os=X.s₀.os
 bare:Ya s.gens
 base:Un X.fs X.ex X.H₀ H X.s₀.heap s.heap
 loc:∃m,s.heap.Ns X.env.locals m/\∀(i:Nat)(x:Str)(v:V),X.N[i]? = some x->σ[i]? = some (some v)->iG X.env.scope x->∃u,aE v u/\DB X.env s.heap m x u
 cell:∀x c,X.env.cells.lookup x=some c->∃v,s.heap.IsCell c v
 free:H X.env.locals=none
 freeC:∀x c,X.env.cells.lookup x=some c->H c=none
 pin:∀p∈X.pn++pz,s.heap.get? p.1=some p.2/\H p.1=none/\p.1≠X.env.locals/\p.1∉X.fs/\∀v,p.2.data≠.cell v
 hok:cS X.prog X.w H s.heap
 len:σ.length=X.N.length
variable{X:Cx}{pz:List (Addr×Obj)}{s:f_}
section
variable{σ:List (Option V)}
theorem Cx.Ok.nofr(ok:X.Ok){b:Addr}{o:Obj}(e:X.base.get? b=some o):b∉X.fs:=fun hb=>by have:=(ok.funs.mem hb).1;rw[e]at this;cases this
theorem Inv.bs(I:Inv X pz σ H s):∀b o,X.base.get? b=some o->s.heap.get? b=some o/\H b=none:=fun b o e=>⟨I.base.keep b o (I.ok.bs b o e).1 (I.ok.bs b o e).2 (I.ok.nofr e) (I.ok.noex b o e),I.base.free b o (I.ok.bs b o e).1 (I.ok.bs b o e).2 (I.ok.noex b o e)⟩
theorem Inv.bk(I:Inv X pz σ H s):∀b o,X.base.get? b=some o->s.heap.get? b=some o:=fun b o e=>(I.bs b o e).1
theorem Inv.mod(I:Inv X pz σ H s):Mod X.K X.mg X.base:=I.ok.mod
theorem Inv.kIn(I:Inv X pz σ H s):X.K.In s.heap:=I.ok.mod.kin.keeps I.bk
theorem Inv.fr(I:Inv X pz σ H s):∃m,Fr X.base X.env.locals s.heap m:=let⟨m,hn,_⟩:=I.loc
 ⟨m,hn,I.bk,VL I.ok.bsz I.ok.above⟩
theorem Inv.lt(I:Inv X pz σ H s):X.env.locals<s.heap.objs.size:=let⟨_,hn,_⟩:=I.loc;hn.lt
theorem Inv.sz(I:Inv X pz σ H s):X.s₀.heap.objs.size<=s.heap.objs.size:=VL I.ok.above (Qad I.lt)
theorem Inv.nofs(I:Inv X pz σ H s){a:Addr}(h:s.heap.objs.size<=a):a∉X.fs:=fun hb=>by obtain⟨_,o,ho,_⟩:=I.ok.funs.mem hb;exact absurd (I_ (y_ ho) (VL I.sz h)) (VY _)
theorem Inv.cne(I:Inv X pz σ H s):∀x c,X.env.cells.lookup x=some c->c≠X.env.locals:=fun x c e z=>by obtain⟨v,o,ho,hd⟩:=I.cell x c e;obtain⟨m,⟨o',es,ep,ho',U,_⟩,_⟩:=I.loc;rw[z,ho']at ho;cases ho;rw[U]at hd;cases hd
theorem Inv.funs(I:Inv X pz σ H s):s.heap.FunFrames X.base X.outer:=by
 have all:∀(l:List Env),(∀b∈cV l,b∈X.fs)->X.s₀.heap.FunFrames X.base l->s.heap.FunFrames X.base l:=by
  intro l
  induction l with
 |nil=>intro _ _;trivial
 |cons env r ih=>intro hs hl;obtain⟨hk,⟨L,o,hf,hn,ho,hd⟩,hr⟩:=hl;have hL:L∈X.fs:=hs L (by unfold cV;rw[WF,hf];exact p_);obtain⟨sl,e⟩:=I.base.slot L o ho (I.ok.frf L hL) hL fun z=>I.ok.exfs L z hL;exact⟨hk,⟨L,_,hf,hn,e,hd⟩,ih (fun b hb=>hs b (by unfold cV;rw[WF,hf];exact t_ _ hb)) hr⟩
 exact all X.outer (fun _ hb=>hb) I.ok.funs
theorem Inv.stack(I:Inv X pz σ H s):s.heap.FunFrames X.base X.stack:=by
 rcases I.ok.stk with e|⟨e,hf⟩
 .rw[e];exact I.funs
 .rw[e];obtain⟨m,hn,_⟩:=I.loc;refine .cons (by rw[I.ok.kind];decide) hf hn ?_ I.funs;exact Xw (VL I.ok.bsz I.ok.above)
theorem Inv.stkSub(I:Inv X pz σ H s):∀b∈cV X.stack,b∈X.env.locals::X.fs:=fun b hb=>by
 rcases I.ok.stk with e|⟨e,hf⟩
 .rw[e]at hb;exact t_ _ hb
 .rw[e]at hb;unfold cV at hb;rw[WF,hf]at hb;exact hb
theorem Inv.stkFree(I:Inv X pz σ H s):∀b∈cV X.stack,H b=none:=fun b hb=>by
 rcases m_.mp (I.stkSub b hb)with e|hb
 .rw[e];exact I.free
 .obtain⟨_,o,ho,_⟩:=I.ok.funs.mem hb;exact I.base.free b o ho (I.ok.frf b hb) fun z=>I.ok.exfs b z hb
theorem Inv.step{g':Array GenState}{t':Nat}{d':Drawn}{ch:List Addr}(I:Inv X pz σ H s)(U:∀b∈ch,(b∈X.ex\/X.s₀.heap.objs.size<=b)/\b≠X.env.locals/\(∀x c,X.env.cells.lookup x=some c->c≠b)/\∀p∈X.pn++pz,p.1≠b)(keep:∀b o,b≠X.env.locals->b∉X.fs->b∉ch->s.heap.get? b=some o->H b=none->h'.get? b=some o)(slot:∀b o,b≠X.env.locals->b∈X.fs->b∉ch->s.heap.get? b=some o->H b=none->∃sl,h'.get? b=some { o with slots:=sl })(free:∀b o,b∉ch->s.heap.get? b=some o->H b=none->H' b=none)(there:∀b o,b∉ch->s.heap.get? b=some o->∃o',h'.get? b=some o')(tups:∀b xs,H b=some (.tup xs)->H' b=some (.tup xs))(frzs:∀b o u,H b=some (.frz o u)->H' b=some (.frz o u))(tbls:∀b ps,H b=some (.tbl ps)->∃more,H' b=some (.tbl (ps++more)))(ns:∀m,s.heap.Ns X.env.locals m->h'.Ns X.env.locals m)(hok:cS X.prog X.w H' h')(hg:Ya g'):Inv X pz σ H' { s with heap:=h',gens:=g',drawn:=d',toks:=t' }:=by
 have ad:∀b o,X.s₀.heap.get? b=some o->b≠X.env.locals:=fun b o e=>J_ (I_ (y_ e) I.ok.above);have ac:∀b o,X.s₀.heap.get? b=some o->b∉X.ex->b∉ch:=fun b o e hx hb=>by
  rcases(U b hb).1 with z|z
  .exact hx z
  .exact absurd (I_ (y_ e) z) (VY _)
 have Z:∀x c,X.env.cells.lookup x=some c->∀v,s.heap.IsCell c v->h'.IsCell c v:=fun x c e v ⟨o,ho,hd⟩=>by
  have Y:c∉ch:=fun z=>(U c z).2.2.1 x c e rfl;by_cases hc:c∈X.fs
  .obtain⟨sl,q⟩:=slot c o (I.cne x c e) hc Y ho (I.freeC x c e);exact⟨_,q,hd⟩
  .exact⟨o,keep c o (I.cne x c e) hc Y ho (I.freeC x c e),hd⟩
 refine⟨I.ok,I.os,hg,⟨fun b o e n hb hx=>?_,fun b o e n hb hx=>?_,fun b o e n hx=>?_,fun b o e hx=>?_,fun b xs e=>tups b xs (I.base.tups b xs e),fun b o xs e=>frzs b o xs (I.base.frzs b o xs e),fun b ps e=>?_⟩,?_,fun x c e=>?_,?_,fun x c e=>?_,fun p hp=>?_,hok,I.len⟩
 .exact keep b o (ad b o e) hb (ac b o e hx) (I.base.keep b o e n hb hx) (I.base.free b o e n hx)
 .obtain⟨sl,e1⟩:=I.base.slot b o e n hb hx;obtain⟨ld,e2⟩:=slot b _ (ad b o e) hb (ac b o e hx) e1 (I.base.free b o e n hx);exact⟨ld,e2⟩
 .obtain⟨o',e1⟩:=I.base.there b o e hx;exact free b o' (ac b o e hx) e1 (I.base.free b o e n hx)
 .obtain⟨o',e1⟩:=I.base.there b o e hx;exact there b o' (ac b o e hx) e1
 .obtain⟨m1,e1⟩:=I.base.tbls b ps e;obtain⟨m2,e2⟩:=tbls b _ e1;exact⟨m1++m2,by rw[e2,Array.append_assoc]⟩
 .obtain⟨m,hn,hl⟩:=I.loc;refine⟨m,ns m hn,fun i x v e1 e2 e3=>?_⟩;obtain⟨u,r,l⟩:=hl i x v e1 e2 e3;refine⟨u,r,?_⟩;rcases l with l|⟨k,c,e,z⟩
  .exact .inl l
  .exact .inr ⟨k,c,e,Z x c e _ z⟩
 .obtain⟨v,z⟩:=I.cell x c e;exact⟨v,Z x c e v z⟩
 .obtain⟨m,⟨o,_,_,ho,_⟩,_⟩:=I.loc;exact free _ o (fun z=>(U _ z).2.1 rfl) ho I.free
 .obtain⟨v,o,ho,hd⟩:=I.cell x c e;exact free c o (fun z=>(U c z).2.2.1 x c e rfl) ho (I.freeC x c e)
 .obtain⟨e,n,ne,nf,d⟩:=I.pin p hp;have Y:p.1∉ch:=fun z=>(U p.1 z).2.2.2 p hp rfl;exact⟨keep p.1 p.2 ne nf Y e n,free p.1 p.2 Y e n,ne,nf,d⟩
theorem Inv.un{t':Nat}(I:Inv X pz σ H s)(u:Un X.fs [] H H' s.heap h')(hok:cS X.prog X.w H' h'):Inv X pz σ H' { s with heap:=h',toks:=t' }:=by obtain⟨m,⟨o,es,ep,ho,r⟩,_⟩:=id I.loc;obtain⟨sl,hL⟩:=u.any ho I.free (by simp);exact I.step (g':=s.gens) (d':=s.drawn) (ch:=[]) (fun _ z=>nomatch z) (fun b o _ hb _ e n=>u.keep b o e n hb (by simp)) (fun b o _ hb _ e n=>u.slot b o e n hb (by simp)) (fun b o _ e n=>u.free b o e n (by simp)) (fun b o _ e=>u.there b o e (by simp)) u.tups u.frzs u.tbls (fun m' hm=>by obtain⟨o',U,Y,ho',r'⟩:=hm;rw[ho]at ho';cases ho';exact⟨_,U,Y,hL,r'⟩) hok I.bare
theorem Inv.call{g':Array GenState}{t':Nat}{d':Drawn}{ch:List Addr}(I:Inv X pz σ H s)(u:Un (cV X.stack) ch H H' s.heap h')(hok:cS X.prog X.w H' h')(hg:Ya g')(U:∀b∈ch,(b∈X.ex\/X.s₀.heap.objs.size<=b)/\b≠X.env.locals/\(∀x c,X.env.cells.lookup x=some c->c≠b)/\∀p∈X.pn++pz,p.1≠b):Inv X pz σ H' { s with heap:=h',gens:=g',drawn:=d',toks:=t' }:=by obtain⟨m,⟨o,es,ep,ho,r⟩,_⟩:=id I.loc;obtain⟨sl,hL⟩:=u.any ho I.free fun z=>(U _ z).2.1 rfl;exact I.step (ch:=ch) U (fun b o hL hb hc e n=>u.keep b o e n (fun z=>(m_.mp (I.stkSub b z)).elim hL hb) hc) (fun b o _ _ hc e n=>u.any e n hc) (fun b o hc e n=>u.free b o e n hc) (fun b o hc e=>u.there b o e hc) u.tups u.frzs u.tbls (fun m' hm=>by obtain⟨o',Z,Y,ho',r'⟩:=hm;rw[ho]at ho';cases ho';exact⟨_,Z,Y,hL,r'⟩) hok hg
theorem Inv.turned{t':Nat}{it:Addr}(I:Inv X pz σ H s)(k:∀b o,b≠it->s.heap.get? b=some o->h'.get? b=some o)(hn:H it=none)(hL:it≠X.env.locals)(h1:it∈X.ex\/X.s₀.heap.objs.size<=it)(h2:∀x c,X.env.cells.lookup x=some c->c≠it)(h3:∀p∈X.pn++pz,p.1≠it):Inv X pz σ H { s with heap:=h',toks:=t' }:=by
 have U:∀b u,H b=some u->b≠it:=fun b u e z=>by rw[z,hn]at e;cases e
 refine I.step (g':=s.gens) (d':=s.drawn) (ch:=[it]) (fun b hb=>?_) (fun b o _ _ hc e _=>k b o (fun z=>hc (by simp[z])) e) (fun b o _ _ hc e _=>⟨o.slots,k b o (fun z=>hc (by simp[z])) e⟩) (fun _ _ _ _ n=>n)
  (fun b o hc e=>⟨o,k b o (fun z=>hc (by simp[z])) e⟩) (fun _ _ e=>e) (fun _ _ _ e=>e) (fun b ps e=>⟨#[],by rw[e];simp⟩) (fun m hm=>?_) (fun b u e=>?_) I.bare
 .have e:b=it:=by simpa using hb
  subst e;exact⟨h1,hL,h2,h3⟩
 .obtain⟨o,es,ep,ho,r⟩:=hm;exact⟨o,es,ep,k _ o (Xt hL) ho,r⟩
 .refine(I.hok b u e).stay (fun c v hc q=>k c v ?_ q) (fun _ q=>q) fun _ _ q=>q;rcases hc with z|z
  .rw[z];exact U b u e
  .exact U c _ z
theorem Inv.tok(I:Inv X pz σ H s)(t:Nat):Inv X pz σ H { s with toks:=t }:=I.un (h':=s.heap) (t':=t) Un.refl I.hok
theorem Inv.kept{t':Nat}(I:Inv X pz σ H s)(k:∀b u,s.heap.get? b=some u->h'.get? b=some u):Inv X pz σ H { s with heap:=h',toks:=t' }:=I.un (Un.kept k) (I.hok.kept k)
theorem Inv.laid{a:Addr}{o:HO}{t':Nat}(I:Inv X pz σ H s)(k:∀b u,s.heap.get? b=some u->h'.get? b=some u)(hp:s.heap.objs.size<=a)(new:cp X.prog X.w (aD H a o) h' a o):Inv X pz σ (aD H a o) { s with heap:=h',toks:=t' }:=I.un (Un.laid k hp (I.hok.fresh hp)) (I.hok.laid k hp new)
theorem Inv.write{x e:Addr}{o:HO}{t':Nat}(I:Inv X pz σ H s)(mu:sE (H x))(he:e=x\/H e=some (.own x))(k:∀b u,b≠e->s.heap.get? b=some u->h'.get? b=some u)(z:∃u,h'.get? e=some u)(new:cp X.prog X.w (aD H x o) h' x o):Inv X pz σ (aD H x o) { s with heap:=h',toks:=t' }:=I.un (Un.write mu he k z) (I.hok.write mu he k z new)
theorem Inv.pins_of{pins':List (Addr×Obj)}(I:Inv X pz σ H s)(h:∀p∈pins',s.heap.get? p.1=some p.2/\H p.1=none/\p.1≠X.env.locals/\p.1∉X.fs/\∀v,p.2.data≠.cell v):Inv X pins' σ H s:=⟨I.ok,I.os,I.bare,I.base,I.loc,I.cell,I.free,I.freeC,fun p hp=>(Wf.mp hp).elim (fun z=>I.pin p (Xx _ z)) (h p),I.hok,I.len⟩
theorem GW{N:List Str}(hN:N.Nodup){i j:Nat}{x:Str}(a:N[i]? = some x)(b:N[j]? = some x):i=j:=by obtain⟨h1,e1⟩:=j_.mp a;obtain⟨h2,e2⟩:=j_.mp b;exact(Qat hN).mp (e1.trans e2.symm)
theorem Hr{M:QaR}{A:Vu}{E:a_->f_->Prop}{i:Nat}{x:Str}{v:V}{u:a_}{Q:Unit->f_->Prop}(I:Inv X pz σ H s)(hN:X.N.Nodup)(hi:X.N[i]? = some x)(hx:j5 X.env.scope x)(r:aE v u)(h:∀s',Inv X pz (σ.set i (some v)) H s'->(∃a,YB a s.heap s'.heap/\(a=X.env.locals\/X.env.cells.lookup x=some a))->Q () s')(hf:X.fn x=true\/X.env.scope.names.lookup x=some .local:=by first|exact .inl rfl|exact .inr rfl|assumption):u_ M A (storeName X.env x u) Q E s:=by
 obtain⟨m,hn,hl⟩:=id I.loc;have Id:(X.env.scope.kind==.class || (X.env.scope.kind==.module&&X.env.locals != X.env.globals))=false:=by rw[I.ok.kind];rfl
 have BT:i<σ.length:=by rw[I.len];exact(j_.mp hi).1
 have cne:=I.cne;have U:∀{a:Addr}{h':Heap},(∃o,s.heap.get? a=some o/\H a=none)->YB a s.heap h'->cS X.prog X.w H h':=fun{a h'} ha hs b ob e=>by
  obtain⟨_,_,Y⟩:=ha;refine(I.hok b ob e).stay (fun c w' hc q=>(hs.2 c ?_).trans q) (fun _ q=>q) fun _ _ q=>q
  rintro rfl
  rcases hc with rfl|hc
  .rw[Y]at e;cases e
  .rw[Y]at hc;cases hc
 rcases hx with hk|hk
 .refine wpAny_storeName_local hk hn (fun h' IO hs=>?_) Id;obtain⟨oL,_,_,KK,_⟩:=id hn;refine h _ ⟨I.ok,I.os,I.bare,⟨fun b o e n hb hx=>?_,fun b o e n hb hx=>?_,I.base.free,fun b o e hx=>?_,I.base.tups,I.base.frzs,I.base.tbls⟩,⟨_,IO,fun j y v' e1 e2 e3=>?_⟩,fun y c e=>?_,I.free,I.freeC,fun p hp=>?_,U ⟨oL,KK,I.free⟩ hs,by simpa using I.len⟩ ⟨_,hs,.inl rfl⟩
  .exact(hs.2 b (J_ (I_ (y_ e) I.ok.above))).trans (I.base.keep b o e n hb hx)
  .obtain⟨sl,e1⟩:=I.base.slot b o e n hb hx;exact⟨sl,(hs.2 b (J_ (I_ (y_ e) I.ok.above))).trans e1⟩
  .obtain⟨o',e1⟩:=I.base.there b o e hx;exact⟨o',(hs.2 b (J_ (I_ (y_ e) I.ok.above))).trans e1⟩
  .by_cases hj:j=i
   .subst hj;rw[hi]at e1;cases e1;rw[x_ BT]at e2;cases e2;exact⟨u,r,.inl ⟨hk,by simp⟩⟩
   .rw[h_ (Xt hj)]at e2;obtain⟨u',r',q⟩:=hl j y v' e1 e2 e3;refine⟨u',r',?_⟩;rcases q with⟨k,e⟩|⟨k,c,e,z⟩
    .refine .inl ⟨k,?_⟩;have:y≠x:=fun e=>hj (GW hN e1 (e▸hi));simp[this,e]
    .exact .inr ⟨k,c,e,z.sameBut hs (cne y c e)⟩
  .obtain⟨w',z⟩:=I.cell y c e;exact⟨w',z.sameBut hs (cne y c e)⟩
  .obtain⟨e,n,ne,nf,d⟩:=I.pin p hp;exact⟨(hs.2 p.1 ne).trans e,n,ne,nf,d⟩
 .have Z:X.fn x=true:=by
   rcases hf with z|z
   .exact z
   .rw[z]at hk;cases hk
  obtain⟨c,hc⟩:=I.ok.has x (.inl hk);obtain⟨w',z⟩:=I.cell x c hc;refine wpAny_storeName_cell I.ok.kind hk hc z (fun h' ad hs=>?_);obtain⟨oc,ac,Cl⟩:=id z;refine h { s with heap:=h' } ⟨I.ok,I.os,I.bare,⟨fun b o e n hb hx=>?_,fun b o e n hb hx=>?_,I.base.free,fun b o e hx=>?_,I.base.tups,I.base.frzs,I.base.tbls⟩,⟨m,hn.sameBut hs (Xt (cne x c hc)),fun j y v' e1 e2 e3=>?_⟩,fun y c' e=>?_,I.free,I.freeC,fun p hp=>?_,U ⟨oc,ac,I.freeC x c hc⟩ hs,by simpa using I.len⟩ ⟨c,hs,.inr hc⟩
  .exact(hs.2 b (J_ (I_ (y_ e) (I.ok.cab x c Z hc)))).trans (I.base.keep b o e n hb hx)
  .obtain⟨sl,e1⟩:=I.base.slot b o e n hb hx;exact⟨sl,(hs.2 b (J_ (I_ (y_ e) (I.ok.cab x c Z hc)))).trans e1⟩
  .obtain⟨o',e1⟩:=I.base.there b o e hx;exact⟨o',(hs.2 b (J_ (I_ (y_ e) (I.ok.cab x c Z hc)))).trans e1⟩
  .by_cases hj:j=i
   .subst hj;rw[hi]at e1;cases e1;rw[x_ BT]at e2;cases e2;exact⟨u,r,.inr ⟨.inl hk,c,hc,ad⟩⟩
   .rw[h_ (Xt hj)]at e2;obtain⟨u',r',q⟩:=hl j y v' e1 e2 e3;refine⟨u',r',?_⟩;rcases q with q|⟨k,c',e,z'⟩
    .exact .inl q
    .refine .inr ⟨k,c',e,z'.sameBut hs ?_⟩
     rintro rfl
     exact hj (GW hN e1 (I.ok.inj _ _ _ e hc▸hi))
  .by_cases ld:c'=c
   .subst ld;exact⟨_,ad⟩
   .obtain⟨w2,z2⟩:=I.cell y c' e;exact⟨w2,z2.sameBut hs ld⟩
  .obtain⟨e,n,ne,nf,d⟩:=I.pin p hp;refine⟨(hs.2 p.1 ?_).trans e,n,ne,nf,d⟩;intro q;rw[q,ac]at e;have q':oc=p.2:=B_ e;exact d w' (by rw[<-q'];exact Cl)
theorem GG{M:QaR}{A:Vu}{E:a_->f_->Prop}{i:Nat}{x:Str}{v:V}{u:a_}{Q:Unit->f_->Prop}(I:Inv X pz σ H s)(hN:X.N.Nodup)(hi:X.N[i]? = some x)(hx:j5 X.env.scope x)(r:aE v u)(h:∀s',Inv X pz (σ.set i (some v)) H s'->Q () s')(hf:X.fn x=true\/X.env.scope.names.lookup x=some .local:=by first|exact .inl rfl|exact .inr rfl|assumption):u_ M A (storeName X.env x u) Q E s:=Hr I hN hi hx r (fun s' I' _=>h s' I') hf
theorem Inv.call'{s':f_}{ch:List Addr}(I:Inv X pz σ H s)(ho:s'.os=s.os)(u:Un (cV X.stack) ch H H' s.heap s'.heap)(hok:cS X.prog X.w H' s'.heap)(hg:Ya s'.gens)(z:∀b∈ch,(b∈X.ex\/X.s₀.heap.objs.size<=b)/\b≠X.env.locals/\(∀x c,X.env.cells.lookup x=some c->c≠b)/\∀p∈X.pn++pz,p.1≠b):Inv X pz σ H' s':=by obtain⟨h',g',d',t',o'⟩:=s';have e:o'=s.os:=ho;subst e;exact I.call (g':=g') (t':=t') (d':=d') u hok hg z
end
abbrev XK:=a_->Option Addr->Hp->Prop
abbrev St:=List (Option V)
abbrev VK:=V->Hp->Prop
abbrev TE:=St->Hp->VK->Prop
abbrev TT:=St->Hp->(Bool->Hp->Prop)->Prop
abbrev TA:=St->Hp->(List V->Hp->Prop)->Prop
structure Ends where
 nx:St->Hp->Prop
 rt:VK
 bk:St->Hp->Prop:=fun _ _=>False
 ct:St->Hp->Prop:=fun _ _=>False
abbrev TS:=Ends->St->Hp->Prop
def EP(X:Cx)(pz:List (Addr×Obj))(σ:St)(Q:VK)(u:a_)(s':f_):Prop:=∃v H',Inv X pz σ H' s'/\aE v u/\Q v H'
def TP(X:Cx)(pz:List (Addr×Obj))(σ:St)(Q:Bool->Hp->Prop)(b:Bool)(s':f_):Prop:=∃H',Inv X pz σ H' s'/\Q b H'
def AP(X:Cx)(pz:List (Addr×Obj))(σ:St)(Q:List V->Hp->Prop)(us:List a_)(s':f_):Prop:=∃vs H',Inv X pz σ H' s'/\ar vs us/\Q vs H'
def SP(X:Cx)(pz:List (Addr×Obj))(D:Ends)(f:Flow)(s':f_):Prop:=match f with
|.next=>∃σ' H',Inv X pz σ' H' s'/\D.nx σ' H'
|.brk=>∃σ' H',Inv X pz σ' H' s'/\D.bk σ' H'
|.cont=>∃σ' H',Inv X pz σ' H' s'/\D.ct σ' H'
|.ret u=>∃v σ' H',Inv X pz σ' H' s'/\aE v u/\D.rt v H'
def PE(X:Cx)(e:Expr)(t:TE):Prop:=∀(pz:List (Addr×Obj))(s:f_)(σ:St)(H:Hp)(Q:VK),Inv X pz σ H s->t σ H Q->u_ (D_ X.prog X.w) X.A (eval e X.env) (EP X pz σ Q) X.xe s
def PT(X:Cx)(e:Expr)(t:TT):Prop:=∀(pz:List (Addr×Obj))(s:f_)(σ:St)(H:Hp)(Q:Bool->Hp->Prop),Inv X pz σ H s->t σ H Q->u_ (D_ X.prog X.w) X.A (isTrue e X.env (eval e X.env)) (TP X pz σ Q) X.xe s
def PW(X:Cx)(e:Expr)(t:TT):Prop:=∀(whole:Sem a_)(pz:List (Addr×Obj))(s:f_)(σ:St)(H:Hp)(Q:Bool->Hp->Prop),Inv X pz σ H s->t σ H Q->u_ (D_ X.prog X.w) X.A (isTrue e X.env whole) (TP X pz σ Q) X.xe s
theorem PW.pt{X:Cx}{e:Expr}{t:TT}(h:PW X e t):PT X e t:=h _
def PA(X:Cx)(es:List Expr)(t:TA):Prop:=∀(pos:Pos)(pz:List (Addr×Obj))(s:f_)(σ:St)(H:Hp)(Q:List V->Hp->Prop),Inv X pz σ H s->t σ H Q->u_ (D_ X.prog X.w) X.A (spliced (backTo pos (i_ es X.env))) (AP X pz σ Q) X.xe s
def PS(X:Cx)(st:Stmt)(t:TS):Prop:=∀(pz:List (Addr×Obj))(s:f_)(σ:St)(H:Hp)(D:Ends),Inv X pz σ H s->t D σ H->u_ (D_ X.prog X.w) X.A (exec st X.env) (SP X pz D) X.xe s
def dD(X:Cx)(st:List Stmt)(t:TS):Prop:=∀(pz:List (Addr×Obj))(s:f_)(σ:St)(H:Hp)(D:Ends),Inv X pz σ H s->t D σ H->u_ (D_ X.prog X.w) X.A (execs st X.env) (SP X pz D) X.xe s
theorem aX{α:Type}{t:Sem α}{Q Q':α->f_->Prop}{M:QaR}{A:Vu}{E:a_->f_->Prop}{s:f_}(h:u_ M A t Q E s)(hQ:∀a s,Q a s->Q' a s):u_ M A t Q' E s:=VG h hQ fun _ _ x=>x
variable{b:Expr}{ta tb:TE}{pos:Pos}
section
def kT(i:Nat):TE:=fun σ H Q=>∃v,σ[i]? = some (some v)/\Q v H
def tC(v:V):TE:=fun _ H Q=>Q v H
theorem jD{i:Nat}{x:Str}{pos:Pos}(hN:X.N[i]? = some x)(hv:iG X.env.scope x)(hd:(x==("__debug__" : Str))=false:=by decide)(z:(x==("__classdict__" : Str))=false:=by decide):PE X (.Name x pos) (kT i):=by
 intro pz s σ H Q I h;obtain⟨v,e,h⟩:=h;obtain⟨m,hn,hl⟩:=I.loc;obtain⟨u,r,l⟩:=hl i x v hN e hv;have fin:EP X pz σ Q u s:=⟨v,H,I,r,h⟩
 rcases l with⟨hk,hm⟩|⟨hk,c,hc,hcell⟩
 .exact QaS (wpAny_loadName_local I.ok.kind hk hn hm fin) hd
 .rcases hk with hk|hk
  .exact QaS (wpAny_loadName_cell I.ok.kind hk hc hcell fin) hd
  .exact QaS (wpAny_loadName_free I.ok.kind hk hc hcell fin z) hd
theorem Lm{i j pos}:PE X (.Constant (.int i) j pos) (tC (.int i)):=fun _ _ _ H _ I h=>wpAny_Constant_int ⟨.int i,H,I.tok _,⟨_,rfl⟩,h⟩
theorem JN{b j pos}:PE X (.Constant (.bool b) j pos) (tC (.bl b)):=fun _ _ _ H _ I h=>Constant_bool ⟨.bl b,H,I,rfl,h⟩
theorem Lo{j pos}:PE X (.Constant .none j pos) (tC .non):=fun _ _ _ H _ I h=>Constant_none ⟨.non,H,I,rfl,h⟩
theorem Fa{x j pos}:PE X (.Constant (.str x) j pos) (tC (.str x)):=fun _ _ _ H _ I h=>Calls.Constant_str ⟨.str x,H,I.tok _,⟨_,rfl⟩,h⟩
def Gl(X:Cx)(x:Str):Prop:=X.env.kindOf x=some .globalImplicit
theorem mH{E:a_->f_->Prop}{pz:List (Addr×Obj)}{s:f_}{σ:St}{H:Hp}{x:Str}{u:a_}{pos:Pos}{Q:a_->f_->Prop}(I:Inv X pz σ H s)(hg:Gl X x)(hm:X.mg x=some u)(h:Q u s)(hd:(x==("__debug__" : Str))=false:=by decide):u_ (D_ X.prog X.w) X.A (eval (.Name x pos) X.env) Q E s:=YG I.ok.kind hg (Calls.loadGlobal_global (by rw[I.ok.glob];exact I.mod.glob.keeps I.bk) hm h) hd
theorem oE{E:a_->f_->Prop}{pz:List (Addr×Obj)}{s:f_}{σ:St}{H:Hp}{x:Str}{u:a_}{pos:Pos}{Q:a_->f_->Prop}(I:Inv X pz σ H s)(hg:Gl X x)(hm:X.mg x=none)(hv:XB x=some u)(h:Q u s)(hn:x≠"__name__" := by decide)(hd:(x==("__debug__" : Str))=false:=by decide):u_ (D_ X.prog X.w) X.A (eval (.Name x pos) X.env) Q E s:=by obtain⟨mb,h1,h2⟩:=I.mod.blt;exact YG I.ok.kind hg (Calls.loadGlobal_builtin (by rw[I.ok.glob];exact I.mod.glob.keeps I.bk) hm (by rw[I.ok.blt];exact h1.keeps I.bk) ((h2 x hn).trans hv) h) hd
theorem N4{x:Str}{v:V}{u:a_}{pos:Pos}(hg:Gl X x)(hm:X.mg x=some u)(r:aE v u)(hd:(x==("__debug__" : Str))=false:=by decide):PE X (.Name x pos) (tC v):=fun _ _ _ H _ I h=>mH I hg hm ⟨v,H,I,r,h⟩ hd
theorem NZ{x:Str}{v:V}{u:a_}{pos:Pos}(hg:Gl X x)(hm:X.mg x=none)(hv:XB x=some u)(r:aE v u)(hn:x≠"__name__" := by decide)(hd:(x==("__debug__" : Str))=false:=by decide):PE X (.Name x pos) (tC v):=fun _ _ _ H _ I h=>oE I hg hm hv ⟨v,H,I,r,h⟩ hn hd
variable{a:Expr}
def tB(t:TE):TT:=fun σ H Q=>t σ H fun x H1=>∃c,x=.bl c/\Q c H1
variable{tA tB':TT}{rest:List Expr}
def CM(t u:TT):TT:=fun σ H Q=>t σ H fun c H1=>if c=true then u σ H1 Q else Q false H1
def SH(t u:TT):TT:=fun σ H Q=>t σ H fun c H1=>if c=true then Q true H1 else u σ H1 Q
def CC(t:TT):TT:=fun σ H Q=>t σ H fun c H1=>Q (! c) H1
theorem NM(ha:PT X a tA):PW X (.BoolOp .And [a] pos) tA:=by intro wh pz s σ H Q I h;refine isTrue_and (aX (ha pz s σ H Q I h) fun c s1 e=>?_);cases c with
|true=>exact isTrue_and_nil e
|false=>exact e
theorem MN(ha:PT X a tA):PW X (.BoolOp .Or [a] pos) tA:=by intro wh pz s σ H Q I h;refine isTrue_or (aX (ha pz s σ H Q I h) fun c s1 e=>?_);cases c with
|false=>exact isTrue_or_nil e
|true=>exact e
theorem MM(ha:PT X a tA)(hb:PW X (.BoolOp .And (b::rest) pos) tB'):PW X (.BoolOp .And (a::b::rest) pos) (CM tA tB'):=by intro wh pz s σ H Q I h;refine isTrue_and (aX (ha pz s σ H _ I h) fun c s1 ⟨H1,I1,q1⟩=>?_);cases c with
|true=>exact hb wh pz s1 σ H1 Q I1 q1
|false=>exact⟨H1,I1,q1⟩
theorem JT(ha:PT X a tA)(hb:PW X (.BoolOp .Or (b::rest) pos) tB'):PW X (.BoolOp .Or (a::b::rest) pos) (SH tA tB'):=by intro wh pz s σ H Q I h;refine isTrue_or (aX (ha pz s σ H _ I h) fun c s1 ⟨H1,I1,q1⟩=>?_);cases c with
|true=>exact⟨H1,I1,q1⟩
|false=>exact hb wh pz s1 σ H1 Q I1 q1
theorem MK(ha:PT X a tA):PT X (.UnaryOp .Not a pos) (CC tA):=by intro pz s σ H Q I h;exact isTrue_not (ha pz s σ H (fun c H1=>Q (! c) H1) I h)
def K4(ta tb:TE):TE:=fun σ H Q=>ta σ H fun x H1=>∃c,x=.bl c/\if c=true then tb σ H1 Q else Q (.bl false) H1
def K8(ta:TE):TE:=fun σ H Q=>ta σ H fun x H1=>∃c,x=.bl c/\Q (.bl (! c)) H1
theorem Lq{op}{t:TE}(h:PE X a t):PE X (.BoolOp op [a] pos) t:=fun pz s σ H Q I hw=>BoolOp_one (h pz s σ H Q I hw)
theorem Lh(ha:PE X a ta)(hb:PE X (.BoolOp .And (b::rest) pos) tb):PE X (.BoolOp .And (a::b::rest) pos) (K4 ta tb):=by intro pz s σ H Q I h;refine BoolOp_and (aX (ha pz s σ H _ I h) fun v s1 ⟨x,H1,I1,r1,q1⟩=>?_);obtain⟨c,rfl,q1⟩:=q1;cases r1;refine Wz ?_;cases c with
|true=>exact hb pz s1 σ H1 Q I1 q1
|false=>exact⟨.bl false,H1,I1,rfl,q1⟩
theorem Lp(ha:PE X a ta):PE X (.UnaryOp .Not a pos) (K8 ta):=by intro pz s σ H Q I h;refine UnaryOp_ (aX (ha pz s σ H _ I h) fun v s1 ⟨x,H1,I1,r1,q1⟩=>?_);obtain⟨c,rfl,q1⟩:=q1;cases r1;exact not_of (Wz ⟨.bl (! c),H1,I1,rfl,q1⟩)
def SK(t:TT)(ta tb:TE):TE:=fun σ H Q=>t σ H fun c H1=>if c=true then ta σ H1 Q else tb σ H1 Q
theorem O9{c:Expr}(hc:PT X c tA)(ha:PE X a ta)(hb:PE X b tb):PE X (.IfExp c a b pos) (SK tA ta tb):=by intro pz s σ H Q I h;refine wpAny_IfExp (aX (hc pz s σ H _ I h) fun d s1 ⟨H1,I1,q1⟩=>?_);cases d with
|true=>exact ha pz s1 σ H1 Q I1 q1
|false=>exact hb pz s1 σ H1 Q I1 q1
end
def bM(K:W.Frag)(H:Hp)(a:Addr)(xs:List V):Prop:=Rd H a (.lst xs) \/∃(o:Obj)(its:Array a_)(n:Nat),K.lookup a=some o/\o.cls=.type "list"/\o.dict=none/\o.data=.seq its n/\its.size<=sizeLine/\ar xs its.toList
def cJ(K:W.Frag)(H:Hp)(a:Addr)(xs:List V):Prop:=Rd H a (.tup xs) \/∃(o:Obj)(its:Array a_)(n:Nat),K.lookup a=some o/\o.cls=.type "tuple"/\o.data=.seq its n/\its.size<=sizeLine/\ar xs its.toList
def Ds:a_->Option V
|.none=>some .non
|.bool b=>some (.bl b)
|.int i _=>some (.int i)
|.str x _=>some (.str x)
|.bytes b _=>some (.byt b)
|.float b _=>some (.flt b)
|.ref a=>some (.ref a)
|.type n=>some (.ty n)
|_=>none
theorem aE.abs{x:V}{u:a_}(r:aE x u):Ds u=some x:=by cases x with
|non=>cases r;rfl
|bl _=>cases r;rfl
|int _=>obtain⟨t,rfl⟩:=r;rfl
|str _=>obtain⟨t,rfl⟩:=r;rfl
|byt _=>obtain⟨t,rfl⟩:=r;rfl
|flt _=>obtain⟨t,rfl⟩:=r;rfl
|ref _=>cases r;rfl
|ty _=>cases r;rfl
theorem aE.inj{x y:V}{u:a_}(r:aE x u)(q:aE y u):x=y:=B_ (r.abs.symm.trans q.abs)
theorem ar.inj{xs ys:List V}{us:List a_}(h:ar xs us)(h':ar ys us):xs=ys:=by induction h generalizing ys with
|nil=>cases h';rfl
|cons r t ih=>cases h' with
 |cons r' t'=>rw[r.inj r',ih t']
variable{σ:St}
section
variable{xs ys:List V}
theorem bM.of{K:W.Frag}(h:H a=some (.lst xs)):bM K H a xs:=.inl (.inl h)
theorem Inv.list(I:Inv X pz σ H s)(h:bM X.K H a xs):∃its:List a_,ar xs its/\PlainL s.heap a its.toArray/\xs.length<=sizeLine:=by
 rcases h with h|⟨o,its,n,hk,hc,hd,hs,hz,r⟩
 .obtain⟨z,its,n,r,e⟩:=h.ok I.hok;exact⟨its,r,⟨_,n,e,rfl,rfl,rfl⟩,z⟩
 .refine⟨its.toList,r,⟨o,n,I.kIn a o hk,hc,hd,by simpa using hs⟩,?_⟩;have e:=r.length;simp only[XQ]at e;omega
theorem Inv.tuple(I:Inv X pz σ H s)(h:cJ X.K H a xs):∃its:List a_,ar xs its/\IsTup s.heap a its.toArray/\xs.length<=sizeLine:=by
 rcases h with h|⟨o,its,n,hk,hc,hs,hz,r⟩
 .obtain⟨z,its,r,p,_⟩:=h.ok I.hok;exact⟨its,r,p,z⟩
 .refine⟨its.toList,r,⟨o,I.kIn a o hk,hc,n,by simpa using hs⟩,?_⟩;have e:=r.length;simp only[XQ]at e;omega
theorem Inv.list_inj(I:Inv X pz σ H s)(h:bM X.K H a xs)(h':bM X.K H a ys):xs=ys:=by
 obtain⟨its,r,⟨o,n,e,_,_,d⟩,_⟩:=I.list h;obtain⟨its',r',⟨o',n',e',_,_,d'⟩,_⟩:=I.list h';rw[e]at e';cases e';rw[d]at d';injection d' with d1 _
 have:its=its':=by simpa using congrArg Qbj d1
 subst this;exact r.inj r'
theorem Inv.tuple_inj(I:Inv X pz σ H s)(h:cJ X.K H a xs)(h':cJ X.K H a ys):xs=ys:=by
 obtain⟨its,r,⟨o,e,_,n,d⟩,_⟩:=I.tuple h;obtain⟨its',r',⟨o',e',_,n',d'⟩,_⟩:=I.tuple h';rw[e]at e';cases e';rw[d]at d';injection d' with d1 _
 have:its=its':=by simpa using congrArg Qbj d1
 subst this;exact r.inj r'
end
abbrev Cx.wish(X:Cx)(E:a_->f_->Prop):Cx:={ X with xe:=E }
abbrev Cx.nox(X:Cx):Cx:=X.wish fun _ _=>False
theorem Cx.Ok.wish{X:Cx}(ok:X.Ok)(E:a_->f_->Prop):(X.wish E).Ok:=⟨ok.mod,ok.kind,ok.glob,ok.blt,ok.above,ok.inj,ok.has,ok.cab,ok.hd,ok.frames,ok.stk,ok.exf,ok.bs,ok.bsz,ok.noex,ok.exfs,ok.funs,ok.frf⟩
theorem Cx.Ok.unwish{X:Cx}{E:a_->f_->Prop}(ok:(X.wish E).Ok):X.Ok:=⟨ok.mod,ok.kind,ok.glob,ok.blt,ok.above,ok.inj,ok.has,ok.cab,ok.hd,ok.frames,ok.stk,ok.exf,ok.bs,ok.bsz,ok.noex,ok.exfs,ok.funs,ok.frf⟩
variable{E:a_->f_->Prop}
theorem Inv.wish(I:Inv X pz σ H s)(E:a_->f_->Prop):Inv (X.wish E) pz σ H s:=⟨I.ok.wish E,I.os,I.bare,I.base,I.loc,I.cell,I.free,I.freeC,I.pin,I.hok,I.len⟩
theorem Inv.unwish(I:Inv (X.wish E) pz σ H s):Inv X pz σ H s:=⟨I.ok.unwish,I.os,I.bare,I.base,I.loc,I.cell,I.free,I.freeC,I.pin,I.hok,I.len⟩
theorem SP.unwish{D:Ends}{f:Flow}{s':f_}(h:SP (X.wish E) pz D f s'):SP X pz D f s':=by cases f with
|next=>obtain⟨σ',H',I,q⟩:=h;exact⟨σ',H',I.unwish,q⟩
|brk=>obtain⟨σ',H',I,q⟩:=h;exact⟨σ',H',I.unwish,q⟩
|cont=>obtain⟨σ',H',I,q⟩:=h;exact⟨σ',H',I.unwish,q⟩
|ret u=>obtain⟨v,σ',H',I,r,q⟩:=h;exact⟨v,σ',H',I.unwish,r,q⟩
theorem dD.nox{st:List Stmt}{t:TS}(h:dD X.nox st t):dD X st t:=fun pz s σ H D I hw=>VG (h pz s σ H D (I.wish _) hw) (fun _ _ q=>q.unwish) fun _ _ z=>VC z
variable{e:Expr}{te:TE}
section
variable{st:Stmt}{rest:List Stmt}{t u:TS}
def K7:TS:=fun D σ H=>D.nx σ H
def rM(t u:TS):TS:=fun D σ H=>t { D with nx:=u D } σ H
theorem FZ:dD X [] K7:=fun _ _ σ H _ I h=>Xn ⟨σ,H,I,h⟩
theorem Ax(h1:PS X st t)(h2:dD X rest u):dD X (st::rest) (rM t u):=by intro pz s σ H D I h;refine wpAny_execs_cons (aX (h1 pz s σ H { D with nx:=u D } I h) fun f s1 q=>?_);cases f with
|next=>obtain⟨σ',H',I',q⟩:=q;exact h2 pz s1 σ' H' D I' q
|ret v=>exact q
|brk=>exact q
|cont=>exact q
theorem NJ(h1:PS X st t):dD X [st] t:=by intro pz s σ H D I h;refine wpAny_execs_cons (aX (h1 pz s σ H D I h) fun f s1 q=>?_);cases f with
|next=>exact Xn q
|ret v=>exact q
|brk=>exact q
|cont=>exact q
theorem Inv.quiet{pz:List (Addr×Obj)}{σ:St}{H:Hp}{s:f_}(I:Inv X pz σ H s):interactive X.env=false:=by simp[interactive,I.ok.kind]
def Ek(te:TE):TS:=fun D σ H=>te σ H fun _ H1=>D.nx σ H1
theorem tY(he:PE X e te)(hs:XC e none pos.line X.env=pure false:=by rfl):PS X (.Expr e pos) (Ek te):=by intro pz s σ H D I h;exact wpAny_Expr_any (aX (he pz s σ H _ I h) fun v s1 ⟨x,H1,I1,r1,q1⟩=>⟨σ,H1,I1,q1⟩) I.quiet hs
def CB(te:TE):TS:=fun D σ H=>te σ H D.rt
theorem Fc(he:PE X e te):PS X (.Return (some e) pos) (CB te):=by intro pz s σ H D I h;exact wpAny_Return_some (aX (he pz s σ H _ I h) fun v s1 ⟨x,H1,I1,r1,q1⟩=>⟨x,σ,H1,I1,r1,q1⟩)
def CI(c:TT)(t u:TS):TS:=fun D σ H=>c σ H fun b H1=>if b=true then t D σ H1 else u D σ H1
theorem JR{c:Expr}{a b:List Stmt}{tc:TT}(hc:PT X c tc)(ha:dD X a t)(hb:dD X b u):PS X (.If c a b pos) (CI tc t u):=by intro pz s σ H D I h;refine wpAny_If (aX (hc pz s σ H _ I h) fun d s1 ⟨H1,I1,q1⟩=>?_);cases d with
|true=>exact ha pz s1 σ H1 D I1 q1
|false=>exact hb pz s1 σ H1 D I1 q1
def E3:TS:=fun _ _ _=>False
theorem Pd:PS X st E3:=fun _ _ _ _ _ _ h=>h.elim
theorem Qc{sts:List Stmt}:dD X sts E3:=fun _ _ _ _ _ _ h=>h.elim
end
abbrev TG:=V->St->Hp->(St->Hp->Prop)->Prop
abbrev kz:=List V->St->Hp->(St->Hp->Prop)->Prop
def PG(X:Cx)(target:Expr)(t:TG):Prop:=∀(pz:List (Addr×Obj))(s:f_)(σ:St)(H:Hp)(v:V)(u:a_)(Q:St->Hp->Prop),Inv X pz σ H s->aE v u->t v σ H Q ->u_ (D_ X.prog X.w) X.A (Yv target X.env u) (fun _ s'=>∃σ' H',Inv X pz σ' H' s'/\Q σ' H') X.xe s
def j0(X:Cx)(ts:List Expr)(t:kz):Prop:=∀(pz:List (Addr×Obj))(s:f_)(σ:St)(H:Hp)(vs:List V)(us:List a_)(Q:St->Hp->Prop),Inv X pz σ H s->ar vs us->t vs σ H Q ->u_ (D_ X.prog X.w) X.A (assignInOrder ((V_ ts X.env).map (·.2)) us) (fun _ s'=>∃σ' H',Inv X pz σ' H' s'/\Q σ' H') X.xe s
abbrev lu:=V->V->V->Hp->(Hp->Prop)->Prop
def gU(X:Cx)(t:lu):Prop:=∀(pz:List (Addr×Obj))(s:f_)(σ:St)(H:Hp)(o i v:V)(ov iv u:a_)(Q:Hp->Prop),Inv X pz σ H s->aE o ov->aE i iv->aE v u->t o i v H Q ->u_ (D_ X.prog X.w) X.A (setItem ov iv u) (fun _ s'=>∃H',Inv X pz σ H' s'/\Q H') X.xe s
def DP(i:Nat):TG:=fun v σ H Q=>Q (σ.set i (some v)) H
theorem N7{i:Nat}{x:Str}(hN:X.N.Nodup)(hi:X.N[i]? = some x)(hx:j5 X.env.scope x)(hf:X.fn x=true\/X.env.scope.names.lookup x=some .local:=by first|exact .inl rfl|exact .inr rfl|assumption):PG X (.Name x pos) (DP i):=by intro pz s σ H v u Q I r h;exact Qae (GG I hN hi hx r (fun s' I'=>⟨_,H,I',h⟩) hf)
def Dh:kz:=fun vs σ H Q=>vs=[]/\Q σ H
def Ki(t:TG)(u:kz):kz:=fun vs σ H Q=>∃v r,vs=v::r/\t v σ H fun σ' H'=>u r σ' H' Q
theorem N8:j0 X [] Dh:=by intro pz s σ H vs us Q I r h;obtain⟨e,h⟩:=h;subst e;cases r;exact assignInOrder_nil ⟨σ,H,I,h⟩
theorem Pb{e:Expr}{es:List Expr}{t:TG}{u:kz}(h1:PG X e t)(h2:j0 X es u)(hs:(V_ (e::es) X.env).map (·.2)=Yv e X.env::(V_ es X.env).map (·.2):=by rfl):j0 X (e::es) (Ki t u):=by intro pz s σ H vs us Q I r h;obtain⟨v,vr,e1,h⟩:=h;subst e1;cases r with
|cons r rr=>rw[hs];refine assignInOrder_cons (aX (h1 pz s σ H _ _ _ I r h) fun _ s1 ⟨σ1,H1,I1,q1⟩=>?_);exact h2 pz s1 σ1 H1 _ _ Q I1 rr q1
def Df(K:W.Frag)(n:Nat)(t:kz):TG:=fun v σ H Q=>∃a xs,v=.ref a/\cJ K H a xs/\xs.length=n/\t xs σ H Q
theorem Lu{es:List Expr}{k:Nat}{t:kz}{n:Nat}(hc:X.calm=true)(h:j0 X es t)(hn:(V_ es X.env).length=n:=by rfl)(z:(V_ es X.env).findIdx? (·.1)=none:=by rfl):PG X (.Tuple es k pos) (Df X.K n t):=by intro pz s σ H v u Q I r hw;obtain⟨a,xs,e1,hq,hl,hw⟩:=hw;subst e1;cases r;obtain⟨its,rv,ht,hz⟩:=I.tuple hq;refine assign_Tuple_tuple (I.ok.hd hc) ht (by simp[hn,<-hl,rv.length]) z fun h' hx=>?_;have I1:Inv X pz σ H { s with heap:=h' }:=I.kept (t':=s.toks) fun b o e=>hx b o (J_ (y_ e)) e;exact h pz _ σ H xs _ Q I1 (by simpa using rv) hw
def Dg(to ti:TE)(t:lu):TG:=fun v σ H Q=>to σ H fun o H1=>ti σ H1 fun i H2=>t o i v H2 fun H3=>Q σ H3
theorem Ls{o i:Expr}{to ti:TE}{t:lu}(ho:PE X o to)(hi:PE X i ti)(hs:gU X t)(ha:∀v,Yv (.Subscript o i pos) X.env v=(do
   let ov <-Yo [v] (eval o X.env);let iv <-Yo [v,ov] (eval i X.env)
   ZR pos
   Yo [v,ov,iv] (setItem ov iv v)
   release [v,ov,iv] []):=by intro _;rfl):PG X (.Subscript o i pos) (Dg to ti t):=by intro pz s σ H v u Q I r h;rw[ha];refine b_ (W2 (aX (ho pz s σ H _ I h) fun ov s1 ⟨x,H1,I1,r1,q1⟩=>?_));refine b_ (W2 (aX (hi pz s1 σ H1 _ I1 q1) fun iv s2 ⟨y,H2,I2,r2,q2⟩=>?_));refine b_ (XV (b_ (W2 (aX (hs pz s2 σ H2 x y v ov iv u _ I2 r1 r2 r q2) fun _ s3 ⟨H3,I3,q3⟩=>?_))));exact wpAny_release ⟨σ,H3,I3,q3⟩
def rP(te:TE)(g:TG):TS:=fun D σ H=>te σ H fun x H1=>g x σ H1 D.nx
theorem Fb{tg e:Expr}{te:TE}{g:TG}(he:PE X e te)(hg:PG X tg g)(hs:Z1 [tg] e pos.line X.env=pure false:=by rfl)(hw:Z2 [tg] e X.env=pure none:=by rfl)(h1:(V_ [tg] X.env).map (·.2)=[Yv tg X.env]:=by rfl):PS X (.Assign [tg] e pos) (rP te g):=by intro pz s σ H D I h;refine wpAny_Assign_stores (aX (he pz s σ H _ I h) fun v s1 ⟨x,H1,I1,r1,q1⟩=>?_) hs hw;rw[h1];exact aX (hg pz s1 σ H1 x v _ I1 r1 q1) fun _ s2 q=>q
theorem Fd{i:Nat}{x:Str}{e:Expr}{te:TE}{pos':Pos}(hN:X.N.Nodup)(hi:X.N[i]? = some x)(hx:j5 X.env.scope x)(he:PE X e te)(hs:XC e (some (.Name x pos')) pos.line X.env=pure false:=by rfl)(hf:X.fn x=true\/X.env.scope.names.lookup x=some .local:=by first|exact .inl rfl|exact .inr rfl|assumption):PS X (.Assign [.Name x pos'] e pos) (rP te (DP i)):=by intro pz s σ H D I h;refine wpAny_Assign_Name (aX (he pz s σ H _ I h) fun v s1 ⟨y,H1,I1,r1,q1⟩=>?_) hs;exact GG I1 hN hi hx r1 (fun s2 I2=>⟨_,H1,I2,q1⟩) hf
def Ma(c:TT)(tb:TS):TS:=fun D σ H=>∃W:Nat->St->Hp->Prop,(∃m,W m σ H)/\∀m σ H,W m σ H ->c σ H fun b H1=>if b=true then ∃N:St->Hp->Prop,(∀σ' H',N σ' H'->∃m',m'<m/\W m' σ' H')/\tb { D with nx:=N,ct:=N,bk:=D.nx } σ H1 else D.nx σ H1
theorem Pe{c:Expr}{body:List Stmt}{tc:TT}{tb:TS}(hp:Y7 (D_ X.prog X.w) X.A X.env X.xe)(hc:PT X c tc)(hb:dD X body tb):PS X (.While c body [] pos) (Ma tc tb):=by
 intro pz s σ H D I h;obtain⟨W,⟨m0,w0⟩,z⟩:=h;refine wpAny_While (codeAny_whileLoop (fun n s'=>∃σ' H',Inv X pz σ' H' s'/\W n σ' H') ?_ m0 ⟨σ,H,I,w0⟩)
 rintro n s1 ⟨σ1,H1,I1,w1⟩
 refine WV hp (aX (hc pz s1 σ1 H1 _ I1 (z n σ1 H1 w1)) fun b s2 ⟨H2,I2,q2⟩=>?_);cases b with
|true=>obtain⟨N,hN,q2⟩:=q2;rw[if_pos rfl];refine WV hp (aX (hb pz s2 σ1 H2 _ I2 q2) fun f s3 q3=>?_);cases f with
 |next=>obtain⟨σ3,H3,I3,n3⟩:=q3;obtain⟨m',hm,w3⟩:=hN σ3 H3 n3;exact⟨m',hm,σ3,H3,I3,w3⟩
 |cont=>obtain⟨σ3,H3,I3,n3⟩:=q3;obtain⟨m',hm,w3⟩:=hN σ3 H3 n3;exact⟨m',hm,σ3,H3,I3,w3⟩
 |brk=>exact q3
 |ret v=>exact q3
|false=>rw[if_neg k_];exact Xn ⟨σ1,H2,I2,q2⟩
structure It where
 go:Nat->Hp->Prop
 yld:Nat->Hp->V->Hp->Prop
 stop:Nat->Hp->Prop
def dC(X:Cx)(pz:List (Addr×Obj))(H:Hp)(b:Addr):Prop:=H b=none/\b≠X.env.locals/\b∉X.fs/\(b∈X.ex\/X.s₀.heap.objs.size<=b)/\(∀x c,X.env.cells.lookup x=some c->c≠b)/\∀p∈X.pn++pz,p.1≠b
theorem Inv.fpOk{X:Cx}{pz:List (Addr×Obj)}{σ:St}{H H':Hp}{s:f_}{b:Addr}(I:Inv X pz σ H s)(hb:s.heap.objs.size<=b)(hn:H' b=none):dC X pz H' b:=by
 refine⟨hn,Wn (I_ I.lt hb),I.nofs hb,.inr (VL I.sz hb),fun x c e z=>?_,fun p hp z=>?_⟩
 .obtain⟨v,q⟩:=I.cell x c e;exact absurd (I_ q.lt (by rw[z];exact hb)) (VY _)
 .exact absurd (I_ (y_ (I.pin p hp).1) (by rw[z];exact hb)) (VY _)
structure Turn(P:E_)(w:T_)(K:W.Frag)(tg:Expr)(J:It)(fp:List Addr)(it:Addr)(tn:Nat->Heap->Prop):Prop where
 mem:it∈fp
 obj:∀i h,tn i h->∀b∈fp,∃o,h.get? b=some o/\∀v,o.data≠.cell v
 keep:∀i h h',tn i h->(∀b∈fp,∀o,h.get? b=some o->h'.get? b=some o)->tn i h'
 item:∀(X:Cx),X.prog=P->X.w=w->X.K=K->X.calm=true->∀(i:Nat)(pz:List (Addr×Obj))(s:f_)(σ:St)(H:Hp)(E:a_->f_->Prop),Inv X pz σ H s->(∀b∈fp,dC X pz H b)->tn i s.heap->J.go i H ->u_ (D_ P w) X.A (Qau (.ref it)) (fun r s1=>∃u,r=some u /\u_ (D_ P w) X.A (Yw tg (.ref it) u) (fun _ s2=>∃x H',Inv X pz σ H' s2/\aE x u/\J.yld i H x H'/\tn (i+1) s2.heap/\∀b∈fp,H' b=none) E s1) E s
 done:∀(X:Cx),X.prog=P->X.w=w->X.K=K->X.calm=true->∀(i:Nat)(pz:List (Addr×Obj))(s:f_)(σ:St)(H:Hp)(E:a_->f_->Prop),Inv X pz σ H s->(∀b∈fp,dC X pz H b)->tn i s.heap->J.stop i H ->u_ (D_ P w) X.A (Qau (.ref it)) (fun r s1=>r=none/\Inv X pz σ H s1) E s
 self:∀(A:Vu)(i:Nat)(s:f_)(Q:a_->f_->Prop)(E:a_->f_->Prop),tn i s.heap->Q (.ref it) s->u_ (D_ P w) A (Z7 (.ref it)) Q E s
abbrev TI:=St->Hp->(It->Hp->Prop)->Prop
def Jy(X:Cx)(pz:List (Addr×Obj))(σ:St)(tg:Expr)(R:It->Hp->Prop)(itv:a_)(s2:f_):Prop:=∃(it:Addr)(fp:List Addr)(tn:Nat->Heap->Prop)(J:It)(H':Hp),itv=.ref it/\Inv X pz σ H' s2/\Turn X.prog X.w X.K tg J fp it tn/\tn 0 s2.heap/\(∀b∈fp,dC X pz H' b)/\R J H'
def PI(X:Cx)(tg iter:Expr)(wi:TI):Prop:=∀(pz:List (Addr×Obj))(s:f_)(σ:St)(H:Hp)(R:It->Hp->Prop),Inv X pz σ H s->wi σ H R ->u_ (D_ X.prog X.w) X.A (eval iter X.env) (fun v s1=>u_ (D_ X.prog X.w) X.A (Z7 v) (Jy X pz σ tg R) X.xe s1) X.xe s
theorem yF{M:QaR}{A:Vu}{E:a_->f_->Prop}{s:f_}{tg:Expr}{it:Addr}{u:a_}{o:Obj}{n:String}{vs:Array a_}{Q:Unit->f_->Prop}(ho:s.heap.get? it=some o)(hc:o.cls=.type n)(hd:o.data=.fields vs)(hn : ["enumerate","zip","dict_itemiterator","dict_reverseitemiterator","odict_iterator","itertools.zip_longest","itertools.pairwise"].contains n=false)(hQ:Q () s):u_ M A (Yw tg (.ref it) u) Q E s:=by
  unfold Yw;cases tg <;> first
    |exact o_ hQ
    |(cases u <;> first
        |exact o_ hQ
        | (refine b_ (wpAny_load ho ?_)
           rw[hc,hd];show u_ M A (if (["enumerate","zip","dict_itemiterator","dict_reverseitemiterator","odict_iterator","itertools.zip_longest","itertools.pairwise"].contains n&&vs[0]? == some (Yb _))=true then _ else _) Q E s;rw[if_neg (by intro h;rw[hn,Bool.false_and]at h;cases h)];exact o_ hQ))
def sH(K:W.Frag)(a:Addr):It:=⟨fun i H=>∃xs x,bM K H a xs/\xs[i]? = some x,fun i H x H'=>H'=H/\∀xs,bM K H a xs->xs[i]? = some x,fun i H=>∃xs,bM K H a xs/\xs.length<=i⟩
def DC(K:W.Frag)(a:Addr):It:=⟨fun i H=>∃xs x,cJ K H a xs/\xs[i]? = some x,fun i H x H'=>H'=H/\∀xs,cJ K H a xs->xs[i]? = some x,fun i H=>∃xs,cJ K H a xs/\xs.length<=i⟩
def xJ(lo:Int)(n:Nat):It:=⟨fun i _=>i<n,fun i H x H'=>H'=H/\x=.int (lo+i),fun i _=>n<=i⟩
theorem QN{P:E_}{w:T_}{K:W.Frag}{tg:Expr}(a it:Addr):Turn P w K tg (sH K a) [it] it (fun i h=>h.IsListIter it a i) where
 mem:=by simp
 obj:=fun i h st b hb=>by
  have e:b=it:=by simpa using hb
  subst e;obtain⟨o,e,c,d⟩:=st;exact⟨o,e,fun v z=>by rw[d]at z;cases z⟩
 keep:=fun i h h' st k=>st.at fun o e=>k it (by simp) o e
 item:=by intro X hP hw hK hc i pz s σ H E I hf st hg;subst hP hw hK;obtain⟨xs,x,hq,hx⟩:=hg;obtain⟨its,rv,p,hz⟩:=I.list hq;obtain⟨u,hu,ru⟩:=rv.get hx;obtain⟨f0,f1,f2,f3,f4,f5⟩:=hf it (by simp);refine wpAny_pyNext_list_item st p.isList (x:=u) (by simpa using hu) fun h' st' sb=>?_;have I1:Inv X pz σ H { s with heap:=h' }:=I.turned (t':=s.toks) (fun b o hb e=>(sb.2 b hb).trans e) f0 f1 f3 f4 f5;obtain⟨o,e,c,d⟩:=id st';exact⟨u,rfl,yF (s:={ s with heap:=h' }) e c d (by decide) ⟨x,H,I1,ru,⟨rfl,fun ys hy=>by rw[I.list_inj hy hq];exact hx⟩,st',fun b hb=>(hf b hb).1⟩⟩
 done:=by intro X hP hw hK hc i pz s σ H E I hf st hg;subst hP hw hK;obtain⟨xs,hq,hx⟩:=hg;obtain⟨its,rv,p,hz⟩:=I.list hq;obtain⟨f0,f1,f2,f3,f4,f5⟩:=hf it (by simp);have hl:=rv.length;exact wpAny_pyNext_list_end (I.ok.hd hc) st p.isList (by simp;omega) fun h' eb=>⟨rfl,I.turned (t':=s.toks) (fun b o hb e=>eb b o hb e) f0 f1 f3 f4 f5⟩
 self:=fun _ _ _ _ _ st h=>wpAny_pyIter_listiter st h
theorem Rc{P:E_}{w:T_}{K:W.Frag}{tg:Expr}(a it:Addr):Turn P w K tg (DC K a) [it] it (fun i h=>h.IsTupleIter it a i) where
 mem:=by simp
 obj:=fun i h st b hb=>by
  have e:b=it:=by simpa using hb
  subst e;obtain⟨o,e,c,d⟩:=st;exact⟨o,e,fun v z=>by rw[d]at z;cases z⟩
 keep:=fun i h h' st k=>st.at fun o e=>k it (by simp) o e
 item:=by intro X hP hw hK hc i pz s σ H E I hf st hg;subst hP hw hK;obtain⟨xs,x,hq,hx⟩:=hg;obtain⟨its,rv,p,hz⟩:=I.tuple hq;obtain⟨u,hu,ru⟩:=rv.get hx;obtain⟨f0,f1,f2,f3,f4,f5⟩:=hf it (by simp);refine wpAny_pyNext_tuple_item st (show s.heap.IsTuple a its.toArray from p) (x:=u) (by simpa using hu) fun h' st' sb=>?_;have I1:Inv X pz σ H { s with heap:=h' }:=I.turned (t':=s.toks) (fun b o hb e=>(sb.2 b hb).trans e) f0 f1 f3 f4 f5;obtain⟨o,e,c,d⟩:=id st';exact⟨u,rfl,yF (s:={ s with heap:=h' }) e c d (by decide) ⟨x,H,I1,ru,⟨rfl,fun ys hy=>by rw[I.tuple_inj hy hq];exact hx⟩,st',fun b hb=>(hf b hb).1⟩⟩
 done:=by intro X hP hw hK hc i pz s σ H E I hf st hg;subst hP hw hK;obtain⟨xs,hq,hx⟩:=hg;obtain⟨its,rv,p,hz⟩:=I.tuple hq;obtain⟨f0,f1,f2,f3,f4,f5⟩:=hf it (by simp);have hl:=rv.length;exact wpAny_pyNext_tuple_end (I.ok.hd hc) st (show s.heap.IsTuple a its.toArray from p) (by simp;omega) fun h' eb=>⟨rfl,I.turned (t':=s.toks) (fun b o hb e=>eb b o hb e) f0 f1 f3 f4 f5⟩
 self:=fun _ _ _ _ _ st h=>wpAny_pyIter_tupleiter st h
theorem Rb{P:E_}{w:T_}{K:W.Frag}{tg:Expr}(it:Addr)(lo:Int)(n:Nat):Turn P w K tg (xJ lo n) [it] it (fun i h=>IsRangeIter h it (lo+(i:Nat)*1) ((n:Int)-(i:Nat)) 1) where
 mem:=by simp
 obj:=fun i h st b hb=>by
  have e:b=it:=by simpa using hb
  subst e;exact⟨_,st,fun v z=>by have z':Data.fields _=Data.cell v:=z;cases z'⟩
 keep:=fun i h h' st k=>k it (by simp) _ st
 item:=by intro X hP hw hK hc i pz s σ H E I hf st hg;subst hP hw hK;obtain⟨f0,f1,f2,f3,f4,f5⟩:=hf it (by simp);have W:=Walks.range (prog:=X.prog) (w:=X.w) (I.ok.hd hc) it lo 1 n;refine W.item i s _ _ hg st fun v h' tk hv st' kk=>?_;obtain⟨t,rfl⟩:=hv;have I1:Inv X pz σ H { s with heap:=h',toks:=tk }:=I.turned (fun b o hb e=>kk b o (by simpa using hb) e) f0 f1 f3 f4 f5;refine⟨_,rfl,yF (s:={ s with heap:=h',toks:=tk }) (n := "range_iterator") st' rfl rfl (by decide) ⟨.int (lo+i),H,I1,⟨t,?_⟩,⟨rfl,rfl⟩,st',fun b hb=>(hf b hb).1⟩⟩;rw[Int.mul_one]
 done:=by intro X hP hw hK hc i pz s σ H E I hf st hg;subst hP hw hK;obtain⟨f0,f1,f2,f3,f4,f5⟩:=hf it (by simp);exact wpAny_pyNext_range_end (I.ok.hd hc) st (by have:n<=i:=hg;omega) fun h' eb=>⟨rfl,I.turned (t':=s.toks) (fun b o hb e=>eb b o hb e) f0 f1 f3 f4 f5⟩
 self:=fun _ _ _ _ _ st h=>wpAny_pyIter_rangeiter st h
section
variable{tg:Expr}
theorem Pl{pz:List (Addr×Obj)}{σ:St}{H:Hp}{s:f_}{R:It->Hp->Prop}{E:a_->f_->Prop}{lo hi:Int}{t u v:Tok}{tk:Nat}(I:Inv X pz σ H s)(h1 : -(2^62)<=lo)(h2:lo<2^62)(h3 : -(2^62)<=hi)(h4:hi<2^62)(q:R (xJ lo (hi-lo).toNat) H):u_ (D_ X.prog X.w) X.A (Z7 (.ref s.heap.objs.size)) (Jy X pz σ tg R) E { s with heap:=s.heap.push { cls:=.type "range",data:=.fields #[.int lo t,.int hi u,.int 1 v] },toks:=tk }:=by
 refine wpAny_pyIter_range (IsRange.new ..) (small_one h1 h2 h3 h4) ?_;have I1:Inv X pz σ H { s with heap:=s.heap.push { cls:=.type "range",data:=.fields #[.int lo t,.int hi u,.int 1 v] },toks:=tk }:=I.kept fun b o e=>c_ _ e;refine⟨(s.heap.push { cls:=.type "range",data:=.fields #[.int lo t,.int hi u,.int 1 v] }).objs.size,[(s.heap.push { cls:=.type "range",data:=.fields #[.int lo t,.int hi u,.int 1 v] }).objs.size],_,_,H,rfl,I1.kept (t':=tk) fun b o e=>c_ _ e,Rb _ lo (hi-lo).toNat,?_,fun b hb=>?_,q⟩
 .have e1:lo+((0:Nat):Int)*1=lo:=by simp
  have e2:(((hi-lo).toNat:Nat):Int)-((0:Nat):Int)=Y8 lo hi 1:=by rw[rangeSize_one];split <;> omega
  show IsRangeIter _ _ (lo+((0:Nat):Int)*1) ((((hi-lo).toNat:Nat):Int)-((0:Nat):Int)) 1;rw[e1,e2];exact z_ _ rfl
 .have e:b=(s.heap.push { cls:=.type "range",data:=.fields #[.int lo t,.int hi u,.int 1 v] }).objs.size:=by simpa using hb
  subst e;exact I1.fpOk (w_ _) (I1.hok.fresh (w_ _))
def Kj(ta:TA):TI:=fun σ H R=>ta σ H fun vs H1=>∃j:Int,vs=[.int j]/\-(2^62)<=j/\j<2^62/\R (xJ 0 j.toNat) H1
theorem Qa{a:Expr}{ta:TA}{p pos:Pos}(hg:Gl X "range")(hm:X.mg "range" = none)(ha:PA X [a] ta)(hs:i_ [a] X.env=[(false,eval a X.env)]:=by rfl):PI X tg (.Call (.Name "range" p) [a] [] pos) (Kj ta):=by intro pz s σ H R I h;refine Call_ (oE I hg hm boot_range (WK (aX (ha pos pz s σ H _ I h) fun us s1 ⟨vs,H1,I1,r1,q1⟩=>?_) hs rfl));obtain⟨j,e,q1,q2,q⟩:=q1;subst e;cases r1 with
|cons r rr=>cases rr;obtain⟨t,rfl⟩:=r;exact call_range_1 (Pl I1 (by omega) (by omega) q1 q2 (by simpa using q))
def rO(wi:TI)(g:TG)(tb:TS):TS:=fun D σ H=>wi σ H fun J H1=>∃W:Nat->Nat->St->Hp->Prop,(∃m,W 0 m σ H1)/\∀i m σ H,W i m σ H ->(J.stop i H/\D.nx σ H)\/(J.go i H/\∃N:St->Hp->Prop,(∀σ' H',N σ' H'->∃m',m'<m/\W (i+1) m' σ' H')/\∀x H',J.yld i H x H'->g x σ H' fun σ2 H2=>tb { D with nx:=N,ct:=N,bk:=D.nx } σ2 H2)
def oG(fp:List Addr)(h:Heap):List (Addr×Obj):=fp.filterMap fun b=>(h.get? b).map fun o=>(b,o)
theorem ph{fp:List Addr}{h:Heap}{b:Addr}{o:Obj}(hb:b∈fp)(e:h.get? b=some o):(b,o)∈oG fp h:=X2.mpr ⟨b,hb,by rw[e];rfl⟩
theorem Qh{fp:List Addr}{h:Heap}{p:Addr×Obj}(hp:p∈oG fp h):p.1∈fp/\h.get? p.1=some p.2:=by obtain⟨b,hb,e⟩:=X2.mp hp;cases q:h.get? b with
|none=>rw[q]at e;cases e
|some o=>rw[q]at e;have e':(b,o)=p:=B_ e;subst e';exact⟨hb,q⟩
theorem Inv.pinned{pz:List (Addr×Obj)}{σ:St}{H:Hp}{s:f_}{fp:List Addr}(I:Inv X pz σ H s)(hf:∀b∈fp,dC X pz H b)(ho:∀b∈fp,∃o,s.heap.get? b=some o/\∀v,o.data≠.cell v):Inv X (pz++oG fp s.heap) σ H s:=I.pins_of fun p hp=>(Wf.mp hp).elim (fun z=>I.pin p (P_ _ z)) fun z=>by obtain⟨hb,e⟩:=Qh z;obtain⟨f0,f1,f2,_⟩:=hf p.1 hb;obtain⟨o,e',d⟩:=ho p.1 hb;rw[e]at e';cases e';exact⟨e,f0,f1,f2,d⟩
theorem Inv.unpinned{pz pl:List (Addr×Obj)}{σ:St}{H:Hp}{s:f_}(I:Inv X (pz++pl) σ H s):Inv X pz σ H s:=I.pins_of fun p hp=>I.pin p (P_ _ (Xx _ hp))
theorem zJ{iter:Expr}{body:List Stmt}{wi:TI}{g:TG}{tb:TS}{pos:Pos}(hp:Y7 (D_ X.prog X.w) X.A X.env X.xe)(hc:X.calm=true)(hi:PI X tg iter wi)(hg:PG X tg g)(hb:dD X body tb)(hs:∀x,Wa iter X.env x=pure x:=by intro _;rfl):PS X (.For tg iter body [] pos) (rO wi g tb):=by
 intro pz s σ H D I h;refine wpAny_For (aX (hi pz s σ H _ I h) fun v s1 h1=>aX h1 fun itv s2 h2=>?_) hs;obtain⟨it,fp,tn,J,H2,e,I2,T,ac,f2,W,⟨m0,w0⟩,Y⟩:=h2;subst e;have U:∀{H':Hp},(∀b∈fp,H' b=none)->∀b∈fp,dC X pz H' b:=fun hn b hb=>⟨hn b hb,(f2 b hb).2⟩
 refine ZV (fun n s'=>∃i σ' H',Inv X pz σ' H' s'/\tn i s'.heap/\(∀b∈fp,H' b=none)/\W i n σ' H') ?_ m0 ⟨0,σ,H2,I2,ac,fun b hb=>(f2 b hb).1,w0⟩
 rintro n s3 ⟨i,σ3,H3,I3,st3,fr3,w3⟩
 rcases Y i n σ3 H3 w3 with⟨stop,qn⟩|⟨go,N,hN,step⟩
 .refine WV hp (aX (T.done X rfl rfl rfl hc i pz s3 σ3 H3 X.xe I3 (U fr3) st3 stop) fun r s4 ⟨hr,I4⟩=>?_);subst hr;exact Xn ⟨σ3,H3,I4,qn⟩
 .refine WV hp (aX (T.item X rfl rfl rfl hc i pz s3 σ3 H3 X.xe I3 (U fr3) st3 go) fun r s4 ⟨u,hr,h4⟩=>?_);subst hr;refine WV hp (aX h4 fun _ s5 ⟨x,H5,I5,r5,y5,st5,fr5⟩=>?_);have Z:=I5.pinned (U fr5) (T.obj _ _ st5);refine WV hp (aX (hg _ s5 σ3 H5 x u _ Z r5 (step x H5 y5)) fun _ s6 ⟨σ6,H6,I6,q6⟩=>?_);refine WV hp (aX (hb _ s6 σ6 H6 _ I6 q6) fun f s7 q7=>?_);have again:∀{z:St}{H7:Hp},Inv X (pz++oG fp s5.heap) z H7 s7->N z H7->∃m,m<n/\∃i σ' H',Inv X pz σ' H' s7/\tn i s7.heap/\(∀b∈fp,H' b=none)/\W i m σ' H':=fun{z H7} I7 n7=>by obtain⟨m',hm,w7⟩:=hN z H7 n7;refine⟨m',hm,i+1,z,H7,I7.unpinned,T.keep _ _ _ st5 fun b hb o e=>(I7.pin (b,o) (P_ _ (P_ _ (ph hb e)))).1,fun b hb=>?_,w7⟩;obtain⟨o,e,d⟩:=T.obj _ _ st5 b hb;exact(I7.pin (b,o) (P_ _ (P_ _ (ph hb e)))).2.1
  cases f with
 |next=>obtain⟨z,H7,I7,n7⟩:=q7;exact again I7 n7
 |cont=>obtain⟨z,H7,I7,n7⟩:=q7;exact again I7 n7
 |brk=>obtain⟨z,H7,I7,q7⟩:=q7;exact⟨z,H7,I7.unpinned,q7⟩
 |ret v=>obtain⟨x7,z,H7,I7,r7,q7⟩:=q7;exact⟨x7,z,H7,I7.unpinned,r7,q7⟩
end
abbrev R2:=V->V->Hp->VK->Prop
def bx(X:Cx)(f:a_->a_->Sem a_)(r:R2):Prop:=∀(pz:List (Addr×Obj))(s:f_)(σ:St)(H:Hp)(x y:V)(v u:a_)(Q:VK),Inv X pz σ H s->aE x v->aE y u->r x y H Q ->u_ (D_ X.prog X.w) X.A (f v u) (EP X pz σ Q) X.xe s
def Du(X:Cx)(f:a_->Sem a_)(r:V->Hp->VK->Prop):Prop:=∀(pz:List (Addr×Obj))(s:f_)(σ:St)(H:Hp)(x:V)(v:a_)(Q:VK),Inv X pz σ H s->aE x v->r x H Q ->u_ (D_ X.prog X.w) X.A (f v) (EP X pz σ Q) X.xe s
def eY(X:Cx)(f:a_)(r:List V->Hp->VK->Prop):Prop:=∀(pz:List (Addr×Obj))(s:f_)(σ:St)(H:Hp)(xs:List V)(us:List a_)(Q:VK),Inv X pz σ H s->ar xs us->r xs H Q ->u_ (D_ X.prog X.w) X.A (call f us) (EP X pz σ Q) X.xe s
def Dv(X:Cx)(r:V->Hp->(Bool->Hp->Prop)->Prop):Prop:=∀(pz:List (Addr×Obj))(s:f_)(σ:St)(H:Hp)(x:V)(v:a_)(Q:Bool->Hp->Prop),Inv X pz σ H s->aE x v->r x H Q ->u_ (D_ X.prog X.w) X.A (truthy v) (TP X pz σ Q) X.xe s
def pF(r:R2)(ta tb:TE):TE:=fun σ H Q=>ta σ H fun x H1=>tb σ H1 fun y H2=>r x y H2 Q
def Sy(r:V->Hp->VK->Prop)(ta:TE):TE:=fun σ H Q=>ta σ H fun x H1=>r x H1 Q
def rI(C:Int->Int->Prop)(g:Int->Int->V):R2:=fun x y H Q=>∃i j,x=.int i/\y=.int j/\C i j/\Q (g i j) H
def jO(g:Int->Int->V):R2:=fun x y H Q=>∃i j,x=.int i/\y=.int j/\Q (g i j) H
def rU(g:Int->V):V->Hp->VK->Prop:=fun x H Q=>∃i,x=.int i/\Q (g i) H
variable{c:Expr}{tc:TE}
section
variable{a:Expr}
theorem nK(ha:PE X a ta)(hb:PE X b tb){pz:List (Addr×Obj)}{s:f_}{σ:St}{H:Hp}{R:V->V->Hp->Prop}(I:Inv X pz σ H s)(h:ta σ H fun x H1=>tb σ H1 fun y H2=>R x y H2){Q:a_->f_->Prop}{f:a_->a_->Sem a_}(hf:∀v u s2 x y H2,Inv X pz σ H2 s2->aE x v->aE y u->R x y H2->u_ (D_ X.prog X.w) X.A (f v u) Q X.xe s2):u_ (D_ X.prog X.w) X.A (eval a X.env) (fun v s₁=>u_ (D_ X.prog X.w) X.A (eval b X.env) (fun u s₂=>u_ (D_ X.prog X.w) X.A (f v u) Q X.xe s₂) X.xe s₁) X.xe s:=by refine aX (ha pz s σ H _ I h) fun v s1 ⟨x,H1,I1,r1,q1⟩=>?_;refine aX (hb pz s1 σ H1 _ I1 q1) fun u s2 ⟨y,H2,I2,r2,q2⟩=>?_;exact hf v u s2 x y H2 I2 r1 r2 q2
theorem D8{op:Operator}{r:R2}(ho:bx X (Xa op) r)(ha:PE X a ta)(hb:PE X b tb):PE X (.BinOp a op b pos) (pF r ta tb):=by intro pz s σ H Q I h;exact wpAny_BinOp (nK ha hb I h fun v u s2 x y H2 I2 rx ry q=>ho pz s2 σ H2 x y v u Q I2 rx ry q)
theorem JQ{op:UnaryOp}{r:V->Hp->VK->Prop}(ho:Du X (unaryOp op) r)(ha:PE X a ta):PE X (.UnaryOp op a pos) (Sy r ta):=by intro pz s σ H Q I h;exact UnaryOp_ (aX (ha pz s σ H _ I h) fun v s1 ⟨x,H1,I1,r1,q1⟩=>ho pz s1 σ H1 x v Q I1 r1 q1)
theorem xG{f:a_->a_->Sem a_}{C:Int->Int->Prop}{g:Int->Int->Int}(z:∀(i j:Int)(t u:Tok)(s:f_)(Q:a_->f_->Prop)(E:a_->f_->Prop),C i j->Q (.int (g i j) s.toks) { s with toks:=s.toks+1 }->u_ (D_ X.prog X.w) X.A (f (.int i t) (.int j u)) Q E s):bx X f (rI C fun i j=>.int (g i j)):=by intro pz s σ H x y v u Q I rx ry h;obtain⟨i,j,rfl,rfl,hc,q⟩:=h;obtain⟨t,rfl⟩:=rx;obtain⟨t',rfl⟩:=ry;exact z i j t t' s _ _ hc ⟨.int (g i j),H,I.tok _,⟨_,rfl⟩,q⟩
theorem sm{f:a_->a_->Sem a_}{g:Int->Int->Int}(z:∀(i j:Int)(t u:Tok)(s:f_)(Q:a_->f_->Prop)(E:a_->f_->Prop),Q (.int (g i j) s.toks) { s with toks:=s.toks+1 }->u_ (D_ X.prog X.w) X.A (f (.int i t) (.int j u)) Q E s):bx X f (jO fun i j=>.int (g i j)):=by intro pz s σ H x y v u Q I rx ry h;obtain⟨i,j,rfl,rfl,q⟩:=h;obtain⟨t,rfl⟩:=rx;obtain⟨t',rfl⟩:=ry;exact z i j t t' s _ _ ⟨.int (g i j),H,I.tok _,⟨_,rfl⟩,q⟩
theorem lf{f:a_->a_->Sem a_}{g:Int->Int->Bool}(z:∀(i j:Int)(t u:Tok)(s:f_)(Q:a_->f_->Prop)(E:a_->f_->Prop),Q (.bool (g i j)) s->u_ (D_ X.prog X.w) X.A (f (.int i t) (.int j u)) Q E s):bx X f (jO fun i j=>.bl (g i j)):=by intro pz s σ H x y v u Q I rx ry h;obtain⟨i,j,rfl,rfl,q⟩:=h;obtain⟨t,rfl⟩:=rx;obtain⟨t',rfl⟩:=ry;exact z i j t t' s _ _ ⟨.bl (g i j),H,I,rfl,q⟩
def ip(i j:Int):Prop:=0<j/\j<1073741824
def jb(i j:Int):Prop:=0<=j/\j<=1000000/\i.natAbs<2^64
def io(i j:Int):Prop:=(-(2^64)<i/\i<2^64)\/(-(2^64)<j/\j<2^64)
theorem io.ok{i j:Int}(h:io i j):IntMulOk i j:=by
 rcases h with⟨h1,h2⟩|⟨h1,h2⟩
 .exact .of_left (intBits_le_64 h1 h2)
 .exact .of_right (intBits_le_64 h1 h2)
theorem E9:bx X (Xa .Add) (jO fun i j=>.int (i+j)):=sm fun _ _ _ _ _ _ _ q=>add_int q
theorem Lb:bx X (Xa .Sub) (jO fun i j=>.int (i-j)):=sm fun _ _ _ _ _ _ _ q=>sub_int q
theorem LS:bx X (Xa .Mult) (rI io fun i j=>.int (i*j)):=xG fun _ _ _ _ _ _ _ hc q=>mul_int q hc.ok
theorem M3:bx X (Xa .FloorDiv) (rI ip fun i j=>.int (i/j)):=xG fun i j _ _ _ _ _ hc q=>by have h1:(0:Int)<j:=hc.1;have h2:j<1073741824:=hc.2;exact floordiv_int (by omega) (by rw[Int.fdiv_eq_ediv_of_nonneg i (by omega)];exact q) (.inl (PyProof.noPylong_small (by omega)))
theorem LR:bx X (Xa .Mod) (rI (fun _ j=>0<j) fun i j=>.int (i%j)):=xG fun i j _ _ _ _ _ hc q=>by have h1:(0:Int)<j:=hc;exact mod_int' (by omega) (by rw[Int.fmod_eq_emod_of_nonneg i (by omega)];exact q)
theorem La:bx X (Xa .Pow) (rI jb fun i j=>.int (i^j.toNat)):=xG fun _ _ _ _ _ _ _ hc q=>pow_int_small hc.1 hc.2.1 hc.2.2 q
theorem Sx{f:a_->Sem a_}{g:Int->Int}(z:∀(i:Int)(t:Tok)(s:f_)(Q:a_->f_->Prop)(E:a_->f_->Prop),Q (.int (g i) s.toks) { s with toks:=s.toks+1 }->u_ (D_ X.prog X.w) X.A (f (.int i t)) Q E s):Du X f (rU fun i=>.int (g i)):=by intro pz s σ H x v Q I rx h;obtain⟨i,rfl,q⟩:=h;obtain⟨t,rfl⟩:=rx;exact z i t s _ _ ⟨.int (g i),H,I.tok _,⟨_,rfl⟩,q⟩
theorem Mg:Du X (unaryOp .USub) (rU fun i=>.int (-i)):=Sx fun _ _ _ _ _ q=>neg_int q
end
def kZ:V->V->Bool
|.non,.non=>true|.non,.int _=>true|.int _,.non=>true|.non,.bl _=>true|.bl _,.non=>true|.non,.str _=>true|.str _,.non=>true
|.int _,.int _=>true|.bl _,.bl _=>true|.str _,.str _=>true|.byt _,.byt _=>true
|.int _,.str _=>true|.str _,.int _=>true|.bl _,.str _=>true|.str _,.bl _=>true
|_,_=>false
def Js:R2:=fun x y H Q=>kZ x y=true/\Q (.bl (decide (x=y))) H
def Jr:R2:=fun x y H Q=>kZ x y=true/\Q (.bl (! decide (x=y))) H
theorem z8{i j:Int}:decide (V.int i=V.int j)=(i==j):=by rw[R_];simp
theorem zE{i j:Bool}:decide (V.bl i=V.bl j)=(i==j):=by rw[R_];simp
theorem Al{i j:Str}:decide (V.str i=V.str j)=(i==j):=by rw[R_];simp
theorem Fz{i j:Array UInt8}:decide (V.byt i=V.byt j)=(i.toList==j.toList):=by rw[R_];cases i;cases j;simp
section
variable{a:Expr}
theorem db{pz:List (Addr×Obj)}{σ:St}{H:Hp}{s:f_}{Q:VK}{k k':Bool}(I:Inv X pz σ H s)(q:Q (.bl k) H)(e:k=k'):EP X pz σ Q (.bool k') s:=by subst e;exact⟨.bl k,H,I,rfl,q⟩
theorem Eg:bx X (Vs .Eq) Js:=by intro pz s σ H x y v u Q I rx ry h;obtain⟨hs,q⟩:=h;cases x with
|non=>cases rx;cases y with
 |non=>cases ry;exact PySem.EqNone.eq_none_none (db I q (by simp))
 |bl j=>cases ry;exact PySem.EqNone.eq_none_bool (db I q (by simp))
 |int j=>obtain⟨t',rfl⟩:=ry;exact PySem.EqNone.eq_none_int (db I q (by simp))
 |str j=>obtain⟨t',rfl⟩:=ry;exact PySem.EqNone.eq_none_str (db I q (by simp))
 |_=>exact absurd (show false=true from hs) k_
|bl i=>cases rx;cases y with
 |non=>cases ry;exact PySem.EqNone.eq_bool_none (db I q (by simp))
 |bl j=>cases ry;exact eq_bool (db I q zE)
 |str j=>obtain⟨t',rfl⟩:=ry;exact Qa5 (db I q (by simp))
 |_=>exact absurd (show false=true from hs) k_
|int i=>obtain⟨t,rfl⟩:=rx;cases y with
 |non=>cases ry;exact PySem.EqNone.eq_int_none (db I q (by simp))
 |int j=>obtain⟨t',rfl⟩:=ry;exact eq_int (db I q z8)
 |str j=>obtain⟨t',rfl⟩:=ry;exact Qbb (db I q (by simp))
 |_=>exact absurd (show false=true from hs) k_
|str i=>obtain⟨t,rfl⟩:=rx;cases y with
 |non=>cases ry;exact PySem.EqNone.eq_str_none (db I q (by simp))
 |bl j=>cases ry;exact Qa6 (db I q (by simp))
 |int j=>obtain⟨t',rfl⟩:=ry;exact Qbc (db I q (by simp))
 |str j=>obtain⟨t',rfl⟩:=ry;exact eq_str (db I q Al)
 |_=>exact absurd (show false=true from hs) k_
|byt i=>obtain⟨t,rfl⟩:=rx;cases y with
 |byt j=>obtain⟨t',rfl⟩:=ry;exact W.eq_bytes (db I q Fz)
 |_=>exact absurd (show false=true from hs) k_
|_=>cases y <;> exact absurd (show false=true from hs) k_
theorem D6:bx X (Vs .NotEq) Jr:=by intro pz s σ H x y v u Q I rx ry h;obtain⟨hs,q⟩:=h;cases x with
|non=>cases rx;cases y with
 |non=>cases ry;exact PySem.EqNone.ne_none_none (db I q (by simp))
 |bl j=>cases ry;exact PySem.EqNone.ne_none_bool (db I q (by simp))
 |int j=>obtain⟨t',rfl⟩:=ry;exact PySem.EqNone.ne_none_int (db I q (by simp))
 |str j=>obtain⟨t',rfl⟩:=ry;exact PySem.EqNone.ne_none_str (db I q (by simp))
 |_=>exact absurd (show false=true from hs) k_
|bl i=>cases rx;cases y with
 |non=>cases ry;exact PySem.EqNone.ne_bool_none (db I q (by simp))
 |bl j=>cases ry;exact ne_bool (db I q (congrArg not zE))
 |str j=>obtain⟨t',rfl⟩:=ry;exact Qa7 (db I q (by simp))
 |_=>exact absurd (show false=true from hs) k_
|int i=>obtain⟨t,rfl⟩:=rx;cases y with
 |non=>cases ry;exact PySem.EqNone.ne_int_none (db I q (by simp))
 |int j=>obtain⟨t',rfl⟩:=ry;exact ne_int (db I q (congrArg not z8))
 |str j=>obtain⟨t',rfl⟩:=ry;exact Qbd (db I q (by simp))
 |_=>exact absurd (show false=true from hs) k_
|str i=>obtain⟨t,rfl⟩:=rx;cases y with
 |non=>cases ry;exact PySem.EqNone.ne_str_none (db I q (by simp))
 |bl j=>cases ry;exact Qa8 (db I q (by simp))
 |int j=>obtain⟨t',rfl⟩:=ry;exact Qbe (db I q (by simp))
 |str j=>obtain⟨t',rfl⟩:=ry;exact ne_str (db I q (congrArg not Al))
 |_=>exact absurd (show false=true from hs) k_
|byt i=>obtain⟨t,rfl⟩:=rx;cases y with
 |byt j=>obtain⟨t',rfl⟩:=ry;exact W.ne_bytes (db I q (congrArg not Fz))
 |_=>exact absurd (show false=true from hs) k_
|_=>cases y <;> exact absurd (show false=true from hs) k_
theorem tj:bx X (Vs .Lt) (jO fun i j=>.bl (decide (i<j))):=lf fun _ _ _ _ _ _ _ q=>lt_int q
theorem Ei:bx X (Vs .LtE) (jO fun i j=>.bl (decide (i<=j))):=lf fun _ _ _ _ _ _ _ q=>le_int q
theorem Eh:bx X (Vs .Gt) (jO fun i j=>.bl (decide (j<i))):=lf fun _ _ _ _ _ _ _ q=>gt_int q
theorem JM:bx X (Vs .GtE) (jO fun i j=>.bl (decide (j<=i))):=lf fun _ _ _ _ _ _ _ q=>ge_int q
theorem Qo:bx X (Vs .In) (fun x y H Q=>∃i j,x=.str i/\y=.str j/\Q (.bl (!(WA j i 0 j.length 1).isEmpty)) H):=by intro pz s σ H x y v u Q I rx ry h;obtain⟨i,j,rfl,rfl,q⟩:=h;obtain⟨t,rfl⟩:=rx;obtain⟨t',rfl⟩:=ry;exact in_str (db I q rfl)
theorem LO:bx X (Vs .Is) (fun x y H Q=>y=.non/\Q (.bl (decide (x=.non))) H):=by
 intro pz s σ H x y v u Q I rx ry h;obtain⟨rfl,q⟩:=h;cases ry;refine is_none_gen (db I q ?_);cases x <;> first
  |(cases rx;rfl)
  |(obtain⟨t,rfl⟩:=rx;rfl)
theorem M5:bx X (Vs .IsNot) (fun x y H Q=>y=.non/\Q (.bl (! decide (x=.non))) H):=by
 intro pz s σ H x y v u Q I rx ry h;obtain⟨rfl,q⟩:=h;cases ry;refine isnot_none_gen (db I q ?_);cases x <;> first
  |(cases rx;rfl)
  |(obtain⟨t,rfl⟩:=rx;rfl)
theorem bx.or{f:a_->a_->Sem a_}{r r':R2}(h:bx X f r)(h':bx X f r'):bx X f (fun x y H Q=>r x y H Q\/r' x y H Q):=by
 intro pz s σ H x y v u Q I rx ry q;rcases q with q|q
 .exact h pz s σ H x y v u Q I rx ry q
 .exact h' pz s σ H x y v u Q I rx ry q
theorem jC(b:Expr){op:Qaf}(h:op≠.In:=by decide)(h2:op≠.NotIn:=by decide):Wo op b=false:=by
 have e1:(op==CmpOp.In)=false:=by cases op <;> first|rfl|exact absurd rfl h
 have e2:(op==CmpOp.NotIn)=false:=by cases op <;> first|rfl|exact absurd rfl h2
 cases b <;> simp[Wo,e1,e2]
theorem N3{op:Qaf}{r:R2}(ho:bx X (Vs op) r)(ha:PE X a ta)(hb:PE X b tb)(hm:Wo op b=false):PE X (.Compare a [op] [b] pos) (pF r ta tb):=by intro pz s σ H Q I h;exact wpAny_Compare1 (nK ha hb I h fun v u s2 x y H2 I2 rx ry q=>ho pz s2 σ H2 x y v u Q I2 rx ry q) hm
def Em(t:TE):TT:=fun σ H Q=>t σ H fun x H'=>∃k,x=.bl k/\Q k H'
theorem NK{op:Qaf}{r:R2}(ho:bx X (Vs op) r)(ha:PE X a ta)(hb:PE X b tb)(hm:Wo op b=false):PT X (.Compare a [op] [b] pos) (Em (pF r ta tb)):=by intro pz s σ H Q I h;refine wpAny_isTrue_Compare1 (aX (ha pz s σ H _ I h) fun v s1 ⟨x,H1,I1,r1,q1⟩=>aX (hb pz s1 σ H1 _ I1 q1) fun u s2 ⟨y,H2,I2,r2,q2⟩=>aX (ho pz s2 σ H2 x y v u _ I2 r1 r2 q2) fun c s3 ⟨z,H3,I3,r3,k,e,q3⟩=>?_) hm;subst e;cases r3;exact Wz ⟨H3,I3,q3⟩
def zQ(r r':R2)(ta tb tc:TE):TE:=fun σ H Q=>ta σ H fun x H1=>tb σ H1 fun y H2=>r x y H2 fun z H3=>∃k,z=.bl k /\(if k=true then tc σ H3 fun w' H4=>r' y w' H4 Q else Q (.bl false) H3)
theorem O7{op U:Qaf}{r r':R2}(ho:bx X (Vs op) r)(ho':bx X (Vs U) r')(ha:PE X a ta)(hb:PE X b tb)(hc:PE X c tc)(hm:Qav [op,U] [b,c]=false:=by with_unfolding_all rfl):PE X (.Compare a [op,U] [b,c] pos) (zQ r r' ta tb tc):=by intro pz s σ H Q I h;refine Compare_chain (aX (ha pz s σ H _ I h) fun v s1 ⟨x,H1,I1,r1,q1⟩=>chain_link (aX (hb pz s1 σ H1 _ I1 q1) fun u s2 ⟨y,H2,I2,r2,q2⟩=>aX (ho pz s2 σ H2 x y v u _ I2 r1 r2 q2) fun d s3 ⟨z,H3,I3,r3,k,e,q3⟩=>?_)) hm;subst e;cases r3;refine Wz ?_;cases k with
|false=>exact ite_ff ⟨.bl false,H3,I3,rfl,q3⟩
|true=>exact ite_tt (chain_last (aX (hc pz s3 σ H3 _ I3 q3) fun w' s4 ⟨z',H4,I4,r4,q4⟩=>ho' pz s4 σ H4 y z' u w' Q I4 r2 r4 q4))
theorem Pf{op U:Qaf}{r r':R2}(ho:bx X (Vs op) r)(ho':bx X (Vs U) r')(ha:PE X a ta)(hb:PE X b tb)(hc:PE X c tc)(hm:Qav [op,U] [b,c]=false:=by with_unfolding_all rfl):PT X (.Compare a [op,U] [b,c] pos) (Em (zQ r r' ta tb tc)):=by intro pz s σ H Q I h;refine isTrue_chain (aX (ha pz s σ H _ I h) fun v s1 ⟨x,H1,I1,r1,q1⟩=>test_link (aX (hb pz s1 σ H1 _ I1 q1) fun u s2 ⟨y,H2,I2,r2,q2⟩=>aX (ho pz s2 σ H2 x y v u _ I2 r1 r2 q2) fun d s3 ⟨z,H3,I3,r3,k,e,q3⟩=>?_)) hm;subst e;cases r3;refine Wz ?_;cases k with
|false=>obtain⟨k',e',q'⟩:=q3;cases e';exact ite_ff ⟨H3,I3,q'⟩
|true=>refine ite_tt (test_last (aX (hc pz s3 σ H3 _ I3 q3) fun w' s4 ⟨z',H4,I4,r4,q4⟩=>aX (ho' pz s4 σ H4 y z' u w' _ I4 r2 r4 q4) fun d' s5 ⟨z2,H5,I5,r5,k2,e2,q5⟩=>?_));subst e2;cases r5;exact Wz ⟨H5,I5,q5⟩
def nN(K:W.Frag)(x:V)(H:Hp)(k:Bool):Prop:=match x with
|.non=>k=false
|.bl b=>k=b
|.int i=>k=(i != 0)
|.str y=>y.length<=sizeLine/\k=((y.length:Int) != 0)
|.byt y=>y.size<=sizeLine/\k=((y.size:Int) != 0)
|.ref p=>(∃xs,bM K H p xs/\k = ! xs.isEmpty)\/(∃xs,cJ K H p xs/\k = ! xs.isEmpty)\/∃kvs,Rd H p (.dK kvs)/\k = ! kvs.isEmpty
|_=>False
theorem Qw{κ:Type}{kvs:List (κ×V)}{vs:List (κ×a_)}(r:KV kvs vs):(! vs.isEmpty) = ! kvs.isEmpty:=by cases r <;> rfl
theorem HS{xs:List V}{its:List a_}(r:ar xs its):(! its.toArray.isEmpty) = ! xs.isEmpty:=by cases r <;> simp
theorem oF:(sizeLine:Nat)<2^63:=by rw[Vw];decide
theorem Mb:Dv X (fun x H Q=>∃k,nN X.K x H k/\Q k H):=by intro pz s σ H x v Q I rx h;obtain⟨k,e,q⟩:=h;have hl:=oF;have hs:sizeLine=16777216:=Vw;cases x with
|non=>cases rx;have e':k=false:=e;subst e';exact truthy_none ⟨H,I,q⟩
|bl b=>cases rx;have e':k=b:=e;subst e';exact Wz ⟨H,I,q⟩
|int i=>obtain⟨t,rfl⟩:=rx;have e':k=(i != 0):=e;subst e';exact PySem.P.truthy_int ⟨H,I,q⟩
|str y=>obtain⟨t,rfl⟩:=rx;obtain⟨hy,e'⟩:y.length<=sizeLine/\k=((y.length:Int) != 0):=e;subst e';exact PySem.P.truthy_str (by omega) ⟨H,I.tok _,q⟩
|byt y=>obtain⟨t,rfl⟩:=rx;obtain⟨hy,e'⟩:y.size<=sizeLine/\k=((y.size:Int) != 0):=e;subst e';exact W.truthy_bytes (by omega) ⟨H,I.tok _,q⟩
|ref p=>
  cases rx;have e':(∃xs,bM X.K H p xs/\k = ! xs.isEmpty)\/(∃xs,cJ X.K H p xs/\k = ! xs.isEmpty)\/∃kvs,Rd H p (.dK kvs)/\k = ! kvs.isEmpty:=e;rcases e' with⟨xs,hx,e'⟩|⟨xs,hx,e'⟩|⟨kvs,hx,e'⟩
  .subst e';obtain⟨its,r,pl,hz⟩:=I.list hx;have hlen:=r.length;exact wpAny_truthy_list pl.isList (by simp only[q_];omega) ⟨H,I.tok _,by rw[HS r];exact q⟩
  .subst e';obtain⟨its,r,pl,hz⟩:=I.tuple hx;have hlen:=r.length;exact truthy_tuple pl (by simp only[q_];omega) ⟨H,I.tok _,by rw[HS r];exact q⟩
  .subst e';obtain⟨hz,hS,vs,r,m⟩:kvs.length<=sizeLine/\(p==Xh)=false/\∃vs,KV kvs vs/\s.heap.DictOf (gW X.prog X.w) p vs:=hx.ok I.hok;have hlen:kvs.length=vs.length:=Paired.length r;exact wpAny_truthy_dict hS m (by omega) ⟨H,I.tok _,by rw[Qw r];exact q⟩
|_=>exact(show False from e).elim
theorem Pg(ha:PE X a ta)(he:∀whole,isTrue a X.env whole=(do let v <-whole;ZR a.pos;Yo [v] (truthy v))):PT X a (fun σ H Q=>ta σ H fun x H'=>∃k,nN X.K x H' k/\Q k H'):=by intro pz s σ H Q I h;exact isTrue_plain (aX (ha pz s σ H _ I h) fun v s1 ⟨x,H1,I1,r1,q1⟩=>Mb pz s1 σ H1 x v Q I1 r1 q1) (he _)
theorem HV:bx X (Xa .Add) (fun x y H Q=>∃i j,x=.str i/\y=.str j/\i.length+j.length<=sizeLine/\Q (.str (i++j)) H):=by intro pz s σ H x y v u Q I rx ry h;obtain⟨i,j,rfl,rfl,hz,q⟩:=h;obtain⟨t,rfl⟩:=rx;obtain⟨t',rfl⟩:=ry;exact add_str (fun t' tk=>⟨.str (i++j),H,I.tok _,⟨_,rfl⟩,q⟩) hz
theorem gV{x:V}{us:List a_}(r:ar [x] us):∃u,us=[u]/\aE x u:=by cases r with
|cons r1 r2=>cases r2;exact⟨_,rfl,r1⟩
theorem tf{x y:V}{us:List a_}(r:ar [x,y] us):∃u w',us=[u,w']/\aE x u/\aE y w':=by cases r with
|cons r1 r2=>cases r2 with
 |cons r3 r4=>cases r4;exact⟨_,_,rfl,r1,r3⟩
def sG(K:W.Frag)(x:V)(H:Hp)(n:Nat):Prop:=match x with
|.str y=>y.length<=sizeLine/\n=y.length
|.byt y=>y.size<=sizeLine/\n=y.size
|.ref p=>(∃xs,bM K H p xs/\n=xs.length)\/∃xs,cJ K H p xs/\n=xs.length
|_=>False
theorem Oc:eY X (.builtin "len") (fun xs H Q=>∃x n,xs=[x]/\sG X.K x H n/\Q (.int n) H):=by intro pz s σ H xs us Q I r h;obtain⟨x,n,rfl,e,q⟩:=h;obtain⟨u,rfl,rx⟩:=gV r;have hl:=oF;have hs:sizeLine=16777216:=Vw;cases x with
|str y=>obtain⟨t,rfl⟩:=rx;obtain⟨hy,e'⟩:y.length<=sizeLine/\n=y.length:=e;subst e';exact len_str (by omega) ⟨.int _,H,I.tok _,⟨_,rfl⟩,q⟩
|byt y=>obtain⟨t,rfl⟩:=rx;obtain⟨hy,e'⟩:y.size<=sizeLine/\n=y.size:=e;subst e';exact W.len_bytes (by omega) ⟨.int _,H,I.tok _,⟨_,rfl⟩,q⟩
|ref p=>
  cases rx;have e':(∃xs,bM X.K H p xs/\n=xs.length)\/∃xs,cJ X.K H p xs/\n=xs.length:=e;rcases e' with⟨xs,hx,e'⟩|⟨xs,hx,e'⟩
  .subst e';obtain⟨its,r',pl,hz⟩:=I.list hx;have hlen:=r'.length;exact Calls.call_len_list pl.isList (by simp only[q_];omega) ⟨.int xs.length,H,I.tok _,⟨_,by simp only[q_];rw[hlen]⟩,q⟩
  .subst e';obtain⟨its,r',pl,hz⟩:=I.tuple hx;have hlen:=r'.length;exact len_tuple pl (by simp only[q_];omega) ⟨.int xs.length,H,I.tok _,⟨_,by simp only[q_];rw[hlen]⟩,q⟩
|_=>exact(show False from e).elim
end
structure ObjM(h:Heap)(x dx C:Addr)(mA:Str->Option a_):Prop where
 obj:h.get? x=some (W.instObj C dx)
 ns:h.Ns1 dx mA
 ne:dx≠x
theorem Qt{h:Heap}{dx:Addr}{mA:Str->Option a_}(n:h.Ns1 dx mA):∃od,h.get? dx=some od/\∀name,W.lookIn name od=some (mA name):=by
 obtain⟨o,es,ep,ho,hd,hk,_,hm⟩:=n;refine⟨o,ho,fun name=>?_⟩;have e:=hm name;unfold nsFind findBy at e;rw[<-Z8]at e;unfold W.lookIn;rw[hd]
 dsimp only
 split
 .rename_i y q;rw[q]at e;exact congrArg some e
 .rename_i q;rw[q]at e;have a:es.toList.any (·.refKey)=false:=by rw[List.any_eq_false];intro y hy;obtain⟨z,t,U⟩:=hk y (Array.mem_toList_iff.mp hy);simp[DictEntry.refKey,U]
  have a':¬ es.toList.any (·.refKey)=true:=by rw[a];exact k_
  rw[if_neg a'];exact congrArg some e
theorem ObjM.look{h:Heap}{x dx C:Addr}{mA:Str->Option a_}(I:ObjM h x dx C mA):∃od,W.InstAt h x (W.instObj C dx) C (some od)/\∀name,W.lookIn name od=some (mA name):=let⟨od,ho,hl⟩:=Qt I.ns
 ⟨od,⟨I.obj,rfl,rfl,ho⟩,hl⟩
variable{A:Vu}{dx C f:Addr}
section
variable{prog:E_}{K:W.Frag}{x:Addr}{mA:Str->Option a_}{name:Str}{v:a_}
theorem Nf{z:Bool}{Q:a_->f_->Prop}(X:K.In s.heap)(I:ObjM s.heap x dx C mA)(hg:W.plainGet K C name=true)(hh:W.hasDictIn K C=true)(ha:W.findIn K (.ref C) name=some none)(hv:mA name=some v)(U:W.handedIn v=true)(h:Q v { s with toks:=s.toks+1 }):u_ (D_ prog w) A (getAttr (.ref x) name z) Q E s:=by obtain⟨od,J,hl⟩:=I.look;exact W.get_value X J (W.plainGet_of hg).1 (W.findObj_own hh ha rfl (by rw[hl,hv])) U h
theorem Oi{pl:Sem Bool}{Q:a_×List a_->f_->Prop}(X:K.In s.heap)(I:ObjM s.heap x dx C mA)(hg:W.plainGet K C name=true)(hf:W.findIn K (.ref C) name=some (some (.ref f)))(ht:W.isFn K (.ref f)=true)(hv:mA name=none)(h:Q (.ref f,[.ref x]) s):u_ (D_ prog w) A (ZS (.ref x) name pl) Q E s:=by obtain⟨od,J,hl⟩:=I.look;exact W.method_fn X J (W.plainGet_of hg).1 (W.plainGet_of hg).2 hf (beq_iff_eq.mp ht) (by show(W.lookIn name od).map (·.isSome)=some false;rw[hl,hv];rfl) h
theorem NW{ns:List Str}{Q:Unit->f_->Prop}(X:K.In s.heap)(I:ObjM s.heap x dx C mA)(hs:W.findIn K (.ref C) "__setattr__" = some (some (.builtin "object.__setattr__")))(hp:W.plainOver K C=true)(ht:W.takerIn K C name=some none)(hh:W.hasDictIn K C=true)(hw:Qac mA ns)(hsz:ns.length<=sizeLine)(h:∀h',ObjM h' x dx C (fun y=>if y=name then some v else mA y)->YB dx s.heap h'->Q () { s with heap:=h',toks:=s.toks+2 }):u_ (D_ prog w) A (setAttr (.ref x) name v) Q E s:=by obtain⟨od,J,hl⟩:=I.look;refine W.set_plain X J hs (W.osa_open (s:={ s with toks:=s.toks+1 }) (r:=none) X J hp ht fun b=>?_);obtain⟨cd,hc,ad⟩:=W.any_some hh;have hx:s.heap.get? x=some ⟨.ref C,some dx,.plain,#[]⟩:=I.obj;refine b_ (o_ (b_ (b_ (YH hx (b_ (W.Looks.here (s:={ s with toks:=s.toks+1 }) (W.looks_clsIn X hc) ?_))))));rw[ad];refine o_ (a:=some dx) (b_ (o_ (b_ ?_)));refine wpAny_nsSet1 (s:={ s with toks:=s.toks+1 }) I.ns fun h' z U=>?_;obtain⟨oD,BT,ld,Z,Y,ac⟩:=z.count (PySem.Within.cons name v hw);refine b_ (wpAny_lookBehind Z (by rw[Y];exact pastItsLine_dict (VL ac (by rw[Q_];omega))) ?_);exact o_ (h _ ⟨(U.2 _ (Xt I.ne)).trans I.obj,z,I.ne⟩ U)
theorem Os{R:QaT->f_->Prop}{vs:List a_}{kw:List (Str×a_)}(X:K.In s.heap)(hm:W.makesIn K C=true)(hi:W.findIn K (.ref C) "__init__" = some (some (.ref f)))(hf:W.typeIn K (.ref f)=some (.type "function"))(h:YC (D_ prog w) (A.under (.builtin "type.__call__" ⟨.ref C::vs,kw⟩)) (.call (.ref f) ⟨.ref (s.heap.objs.size+1)::vs,kw⟩) (W.InitBack (s.heap.objs.size+1) R)
   { s with heap:=(s.heap.push W.emptyDict).push (W.instObj C s.heap.objs.size) }):YC (D_ prog w) A (.call (.ref C) ⟨vs,kw⟩) R s:=by obtain⟨hh,g,d,t,os⟩:=s;exact W.make_core (W.makes_of X hm) (W.looks_findIn X hi) (fun self=>W.bind_fn X self hf) (.inl rfl) h
end
def putF(f:Str)(v:V):List (Str×V)->List (Str×V)
|[]=>[(f,v)]
|(g,x)::r=>if g=f then(g,v)::r else(g,x)::putF f v r
theorem Il(f g:Str)(v:V):∀fs:List (Str×V),(putF f v fs).lookup g=if g=f then some v else fs.lookup g
|[]=>by
  show Wv g [(f,v)]=_;by_cases h:g=f
  .have hb:(g==f)=true:=beq_iff_eq.mpr h;simp only[Wv,hb,if_pos h]
  .have hb:(g==f)=false:=beq_eq_false_iff_ne.mpr h;simp only[Wv,hb,if_neg h]
|(k,x)::r=>by
  have ih:=Il f g v r;rw[show putF f v ((k,x)::r)=(if k=f then(k,v)::r else(k,x)::putF f v r)from rfl];by_cases hk:k=f
  .rw[if_pos hk];by_cases h:g=k
   .have hb:(g==k)=true:=beq_iff_eq.mpr h;simp only[Wv,hb,if_pos (h.trans hk)]
   .have hb:(g==k)=false:=beq_eq_false_iff_ne.mpr h;simp only[Wv,hb,if_neg (fun e:g=f=>h (e.trans hk.symm))]
  .rw[if_neg hk];by_cases h:g=k
   .have hb:(g==k)=true:=beq_iff_eq.mpr h;simp only[Wv,hb,if_neg (fun e:g=f=>hk (h.symm.trans e))]
   .have hb:(g==k)=false:=beq_eq_false_iff_ne.mpr h;simp only[Wv,hb];exact ih
theorem AF(f:Str)(v:V):∀fs:List (Str×V),f∈(putF f v fs).map (·.1)/\∀g,g∈fs.map (·.1)->g∈(putF f v fs).map (·.1)
|[]=>⟨by simp[putF],fun g h=>by simp at h⟩
|(k,x)::r=>by
  obtain⟨i1,i2⟩:=AF f v r;rw[show putF f v ((k,x)::r)=(if k=f then(k,v)::r else(k,x)::putF f v r)from rfl];by_cases hk:k=f
  .rw[if_pos hk];subst hk;exact⟨by simp,fun g h=>by simpa using h⟩
  .rw[if_neg hk];refine⟨?_,fun g h=>?_⟩
   .rw[Vq];exact t_ _ i1
   .rw[Vq]at h ⊢;rcases m_.mp h with e|e
    .exact List.mem_cons.mpr (.inl e)
    .exact t_ _ (i2 g e)
theorem Ij(f:Str)(v:V):∀fs:List (Str×V),(putF f v fs).length<=fs.length+1
|[]=>by simp[putF]
|(k,x)::r=>by
  have ih:=Ij f v r;rw[show putF f v ((k,x)::r)=(if k=f then(k,v)::r else(k,x)::putF f v r)from rfl];by_cases hk:k=f
  .rw[if_pos hk,Q_,Q_];omega
  .rw[if_neg hk,Q_,Q_];omega
theorem c8.some_of{v:V}{o:Option a_}(r:c8 (some v) o):∃u,o=some u/\aE v u:=by cases o with
|none=>exact(show False from r).elim
|some u=>exact⟨u,rfl,r⟩
theorem c8.none_of{o:Option a_}(r:c8 none o):o=none:=by cases o with
|none=>rfl
|some u=>exact(show False from r).elim
theorem PD{v:V}{u:a_}(r:aE v u):W.handedIn u=true:=by cases v with
|non=>cases(show u=Value.none from r);rfl
|bl b=>cases(show u=Value.bool b from r);rfl
|int i=>obtain⟨t,e⟩:=(show ∃t,u=Value.int i t from r);cases e;rfl
|str x=>obtain⟨t,e⟩:=(show ∃t,u=Value.str x t from r);cases e;rfl
|byt b=>obtain⟨t,e⟩:=(show ∃t,u=Value.bytes b t from r);cases e;rfl
|flt b=>obtain⟨t,e⟩:=(show ∃t,u=Value.float b t from r);cases e;rfl
|ref a=>cases(show u=Value.ref a from r);rfl
|ty n=>cases(show u=Value.type n from r);rfl
section
variable{fs fs':List (Str×V)}
theorem tX(hok:cS P w H h)(e:H a=some (.ins C dx fs)):∃mA,ObjM h a dx C mA/\(∀f,c8 (fs.lookup f) (mA f))/\Qac mA (fs.map (·.1))/\fs.length<=1000/\H dx=some (.own a):=by
 obtain⟨d,z,ne,ob,mA,n,r,q⟩:=(show cp P w H h a (.ins C dx fs)from hok a _ e)
 exact⟨mA,⟨ob,n,ne⟩,r,q,z,d⟩
end
structure Cls(K:W.Frag)(C:Addr):Prop where
 pg:W.plainGet K C Y9=true
 hd:W.hasDictIn K C=true
 po:W.plainOver K C=true
 sa:W.findIn K (.ref C) "__setattr__" = some (some (.builtin "object.__setattr__"))
theorem Cls.get{K:W.Frag}{C:Addr}(c:Cls K C)(f:Str):W.plainGet K C f=true:=c.pg
def kE(K:W.Frag)(C:Addr)(f:Str):Prop:=W.findIn K (.ref C) f=some none
theorem kE.taker{K:W.Frag}{C:Addr}{f:Str}(n:kE K C f):W.takerIn K C f=some none:=by unfold W.takerIn;rw[show W.findIn K (.ref C) f=some none from n];rfl
structure Meth(K:W.Frag)(C:Addr)(m:Str)(f:Addr):Prop where
 at_:W.findIn K (.ref C) m=some (some (.ref f))
 fn:W.isFn K (.ref f)=true
 kp:W.keepIn K (.ref f)=true
section
variable{fs:List (Str×V)}{f:Str}{v:V}
theorem Qu{b:Bool}{Q:a_->f_->Prop}(I:Inv X pz σ H s)(e:H a=some (.ins C dx fs))(c:Cls X.K C)(n:kE X.K C f)(l:fs.lookup f=some v)(h:∀u s',Inv X pz σ H s'->aE v u->Q u s'):u_ (D_ X.prog X.w) A (getAttr (.ref a) f b) Q E s:=by obtain⟨mA,O,r,_,_,_⟩:=tX I.hok e;obtain⟨u,hu,ru⟩:=c8.some_of (v:=v) (o:=mA f) (by rw[<-l];exact r f);exact Nf I.kIn O (c.get f) c.hd n hu (PD ru) (h u _ (I.tok _) ru)
theorem Qv{m:Str}{g:Addr}{pl:Sem Bool}{Q:a_×List a_->f_->Prop}(I:Inv X pz σ H s)(e:H a=some (.ins C dx fs))(c:Cls X.K C)(k:Meth X.K C m g)(l:fs.lookup m=none)(h:Q (.ref g,[.ref a]) s):u_ (D_ X.prog X.w) A (ZS (.ref a) m pl) Q E s:=by obtain⟨mA,O,r,_,_,_⟩:=tX I.hok e;have hn:mA m=none:=c8.none_of (by rw[<-l];exact r m);exact Oi I.kIn O (c.get m) k.at_ k.fn hn h
theorem Q9{y:V}{u:a_}{Q:Unit->f_->Prop}(I:Inv X pz σ H s)(e:H a=some (.ins C dx fs))(c:Cls X.K C)(n:kE X.K C f)(hl:fs.length<1000)(ry:aE y u)(h:∀s',Inv X pz σ (aD H a (.ins C dx (putF f y fs))) s'->Q () s'):u_ (D_ X.prog X.w) A (setAttr (.ref a) f u) Q E s:=by
 obtain⟨mA,O,r,wi,_,ho⟩:=tX I.hok e;have hz:(fs.map (·.1)).length<=sizeLine:=by rw[g_,Vw];omega
 refine NW I.kIn O c.sa c.po n.taker c.hd wi hz fun h' O' sb=>h _ ?_;have hd:∃o,h'.get? dx=some o:=let⟨o,_,_,e',_⟩:=O'.ns;⟨o,e'⟩;refine I.write (x:=a) (e:=dx) (by rw[e];exact True.intro) (.inr ho) (fun b q hb z=>(sb.2 b hb).trans z) hd ?_;refine⟨by rw[bg O.ne];exact ho,?_,O.ne,O'.obj,_,O'.ns,fun g=>?_,fun g hg=>?_⟩
 .have:=Ij f y fs;omega
 .show c8 ((putF f y fs).lookup g) (if g=f then some u else mA g);rw[Il];by_cases q:g=f
  .rw[if_pos q,if_pos q];exact ry
  .rw[if_neg q,if_neg q];exact r g
 .by_cases q:g=f
  .rw[q];exact(AF f y fs).1
  .refine(AF f y fs).2 g (wi g fun z=>hg ?_);show(if g=f then some u else mA g)=none;rw[if_neg q];exact z
theorem Inv.made(I:Inv X pz σ H s):Inv X pz σ (aD (aD H s.heap.objs.size (.own (s.heap.objs.size+1))) (s.heap.objs.size+1) (.ins C s.heap.objs.size []))
  { s with heap:=(s.heap.push W.emptyDict).push (W.instObj C s.heap.objs.size) }:=by
 have e1:(s.heap.push W.emptyDict).get? s.heap.objs.size=some W.emptyDict:=z_ s.heap rfl;have e2:((s.heap.push W.emptyDict).push (W.instObj C s.heap.objs.size)).get? (s.heap.objs.size+1)=some (W.instObj C s.heap.objs.size):=by have:=z_ (s.heap.push W.emptyDict) (o:=W.instObj C s.heap.objs.size) rfl;rwa[VU]at this
 have e3:(s.heap.push W.emptyDict).Ns s.heap.objs.size (fun _=>none):=⟨W.emptyDict,#[],_,e1,rfl,(fun e he=>absurd he (by simp)),fun _=>rfl⟩
 have I1:=I.laid (a:=s.heap.objs.size) (o:=.own (s.heap.objs.size+1)) (h':=s.heap.push W.emptyDict) (t':=s.toks) (fun b u q=>c_ _ q) (w_ _) ⟨_,e1⟩;refine I1.laid (a:=s.heap.objs.size+1) (o:=.ins C s.heap.objs.size []) (t':=s.toks) (fun b u q=>c_ _ q) (XD (VU _ _)) ?_;have ne:s.heap.objs.size≠s.heap.objs.size+1:=J_ (Wi _);refine⟨by rw[bg ne,bX],VM _,ne,e2,fun _=>none,(Qag e3).at fun o q=>c_ _ q,fun _=>True.intro,fun y hy=>absurd rfl hy⟩
theorem Nn{prog:E_}{w:T_}{env:Env}{e:Expr}{f:Str}{pos:Pos}{s:f_}{Q:a_->f_->Prop}(hb:W3 e f env (eval e env)=eval e env)(h:u_ (D_ prog w) A (eval e env) (fun o s₁=>u_ (D_ prog w) A (getAttr o f true) Q E s₁) E s):u_ (D_ prog w) A (eval (.Attribute e f pos) env) Q E s:=Attribute_any_ h (by rw[arm_eval_Attribute,hb])
end
def CJ(K:W.Frag)(ta:TE)(f:Str):TE:=fun σ H Q=>ta σ H fun x H1=>∃a C dx fs v,x=.ref a/\H1 a=some (.ins C dx fs)/\Cls K C/\kE K C f/\fs.lookup f=some v/\Q v H1
def CS(K:W.Frag)(ta tv:TE)(f:Str):TS:=fun D σ H=>tv σ H fun y H1=>ta σ H1 fun x H2=>∃a C dx fs,x=.ref a/\H2 a=some (.ins C dx fs)/\Cls K C/\kE K C f/\fs.length<1000 /\D.nx σ (aD H2 a (.ins C dx (putF f y fs)))
section
variable{o value:Expr}{f:Str}{pos' tpos:Pos}{tv:TE}
theorem Lj(he:PE X e ta)(hb:W3 e f X.env (eval e X.env)=eval e X.env):PE X (.Attribute e f pos) (CJ X.K ta f):=by intro pz s σ H Q I h;refine Nn hb (aX (he pz s σ H _ I h) fun u s1 ⟨x,H1,I1,rx,a,C,dx,fs,v,ex,ea,c,n,l,q⟩=>?_);subst ex;obtain rfl:u=Value.ref a:=rx;exact Qu I1 ea c n l fun u' s2 I2 ru=>⟨v,H1,I2,ru,q⟩
theorem MJ(ha:PE X o ta)(hv:PE X value tv)(hs:XC value (some (.Attribute o f pos')) pos.line X.env=pure false):PS X (.Assign [.Attribute o f pos'] value pos) (CS X.K ta tv f):=by intro pz s σ H D I h;refine Yh (aX (hv pz s σ H _ I h) fun u s1 ⟨y,H1,I1,ry,q⟩=>aX (ha pz s1 σ H1 _ I1 q) fun ov s2 ⟨x,H2,I2,rx,a,C,dx,fs,ex,ea,c,n,l,q2⟩=>?_) hs;subst ex;obtain rfl:ov=Value.ref a:=rx;exact Q9 I2 ea c n l ry fun s3 I3=>⟨σ,_,I3,q2⟩
theorem Ro{pl:Sem Bool}{m:Str}{apos:Pos}{args:List Expr}{pz:List (Addr×Obj)}{s:f_}{σ:St}{H:Hp}{Q:a_->f_->Prop}{te:TE}(he:PE X e te)(I:Inv X pz σ H s)(h:te σ H fun x H1=>∃a C dx fs g,x=.ref a/\H1 a=some (.ins C dx fs)/\Cls X.K C/\Meth X.K C m g/\fs.lookup m=none /\∀s1,Inv X pz σ H1 s1->u_ (D_ X.prog X.w) X.A (QaU pos (.ref g) [.ref a] (backTo pos (i_ args X.env)) (Y_ pos (X8 [] X.env))) Q X.xe s1)(ht:eval (.Call (.Attribute e m apos) args [] pos) X.env=(do
   let ov <-eval e X.env
   ZR apos.atName
   let(f,first) <-Yo [ov] (ZS ov m pl)
   QaU pos f first (backTo pos (i_ args X.env)) (Y_ pos (X8 [] X.env)))):u_ (D_ X.prog X.w) X.A (eval (.Call (.Attribute e m apos) args [] pos) X.env) Q X.xe s:=by refine W.methodCall_KW (pl:=pl) (aX (he pz s σ H _ I h) fun u s1 ⟨x,H1,I1,rx,a,C,dx,fs,g,ex,ea,c,k,l,q⟩=>?_) ht;subst ex;obtain rfl:u=Value.ref a:=rx;exact Qv I1 ea c k l (q s1 I1)
end
section
variable{Q:a_->f_->Prop}{c:a_}{b:Bool}
inductive TyOf(K:W.Frag)(H:Hp):V->a_->Prop where
 |non:TyOf K H .non (.type "NoneType")
 |bl (x:Bool):TyOf K H (.bl x) (.type "bool")
 |int (i:Int):TyOf K H (.int i) (.type "int")
 |str (x:Str):TyOf K H (.str x) (.type "str")
 |flt (x:UInt64):TyOf K H (.flt x) (.type "float")
 |lst {a:Addr} {xs:List V} (e:H a=some (.lst xs)):TyOf K H (.ref a) (.type "list")
 |frz {a:Addr} {o:Obj} {xs:List V} (e:H a=some (.frz o (.lst xs))):TyOf K H (.ref a) (.type "list")
 |tup {a:Addr} {xs:List V} (e:H a=some (.tup xs)):TyOf K H (.ref a) (.type "tuple")
 |dK {a:Addr} {kvs:List (aY×V)} (e:H a=some (.dK kvs)):TyOf K H (.ref a) (.type "dict")
 |dT {a:Addr} {kvs:List (List aY×V)} (e:H a=some (.dT kvs)):TyOf K H (.ref a) (.type "dict")
 | ins {a C dx:Addr} {fs:List (Str × V)} (e:H a=some (.ins C dx fs)) (cl:Cls K C) (ha:W.findIn K (.ref C) "__class__" = some (some (.builtin "object.__class__")))
   (hn:W.specialIn K (.builtin "object.__class__") "__get__" = some (some (.builtin "getset_descriptor.__get__"))) (htk:W.takesIn K (.builtin "object.__class__")=some true)
   (hm:W.mroIn K C (.type "object")=some true):TyOf K H (.ref a) (.ref C)
theorem PM{x:V}{u t:a_}(I:Inv X pz σ H s)(rx:aE x u)(ty:TyOf X.K H x t)(e:W.kitOne X.K t c=some b)(h:∀tk,Q (.bool b) { s with toks:=tk }):u_ (D_ X.prog X.w) A (call (.builtin "isinstance") [u,c]) Q E s:=by cases ty with
|non=>cases(show u=Value.none from rx);exact W.kia_one W.kitx_none I.kIn True.intro e (fun z=>nomatch z) h
|bl y=>cases(show u=Value.bool y from rx);exact W.kia_one W.kitx_bool I.kIn True.intro e (fun z=>nomatch z) h
|int i=>obtain⟨t,q⟩:=(show ∃t,u=Value.int i t from rx);cases q;exact W.kia_one W.kitx_int I.kIn True.intro e (fun z=>nomatch z) h
|str y=>obtain⟨t,q⟩:=(show ∃t,u=Value.str y t from rx);cases q;exact W.kia_one W.kitx_str I.kIn True.intro e (fun z=>nomatch z) h
|flt y=>obtain⟨t,q⟩:=(show ∃t,u=Value.float y t from rx);cases q;exact W.kia_one W.kitx_float I.kIn True.intro e (fun z=>nomatch z) h
|@lst a xs ea=>
  cases(show u=Value.ref a from rx);obtain⟨_,_,n,_,h1⟩:=(show cp X.prog X.w H s.heap a (.lst xs)from I.hok a _ ea)
  exact W.kia_one W.kitx_list I.kIn ⟨_,h1,rfl⟩ e (fun z=>nomatch z) h
|@frz a ob xs ea=>
  cases(show u=Value.ref a from rx);obtain⟨_,_,_,n,_,h1⟩:=(show cp X.prog X.w H s.heap a (.frz ob (.lst xs))from I.hok a _ ea)
  exact W.kia_one W.kitx_list I.kIn ⟨_,h1,rfl⟩ e (fun z=>nomatch z) h
|@tup a xs ea=>
  cases(show u=Value.ref a from rx);obtain⟨_,_,_,p,_⟩:=(show cp X.prog X.w H s.heap a (.tup xs)from I.hok a _ ea)
  obtain⟨o,h1,h2,_⟩:=p;exact W.kia_one W.kitx_tuple I.kIn ⟨o,h1,h2⟩ e (fun z=>nomatch z) h
|@dK a kvs ea=>
  cases(show u=Value.ref a from rx);obtain⟨_,_,vs,_,p⟩:=(show cp X.prog X.w H s.heap a (.dK kvs)from I.hok a _ ea)
  obtain⟨o,es,ep,h1,h2,_⟩:=p;exact W.kia_one W.kitx_dict I.kIn ⟨o,h1,h2.1⟩ e (fun z=>nomatch z) h
|@dT a kvs ea=>
  cases(show u=Value.ref a from rx);obtain⟨_,_,xs,_,o,es,ep,h1,h2,_⟩:=(show cp X.prog X.w H s.heap a (.dT kvs)from I.hok a _ ea)
  exact W.kia_one W.kitx_dict I.kIn ⟨o,h1,h2.1⟩ e (fun z=>nomatch z) h
|@ins a C dx fs ea cl ha hn htk hm=>cases(show u=Value.ref a from rx);obtain⟨mA,O,_⟩:=tX I.hok ea;obtain⟨od,J,_⟩:=O.look;exact W.kia_one (W.kitx_own (cl.get _) cl.hd ha hn htk hm) I.kIn J e (fun z=>nomatch z) h
end
structure Room(k:Nat)(A:Vu):Prop where
 hd:A.handled=none
 dp:A.depth+3*k+5<recursionLimit
 un:A.units+16*k+200<Xb
 gd:A.guards=some []
theorem Room.mono{j k:Nat}{A:Vu}(r:Room k A)(h:j<=k):Room j A:=⟨r.hd,by have:=r.dp;omega,by have:=r.un;omega,r.gd⟩
theorem Room.deeper{k:Nat}{A:Vu}(r:Room (k+1) A)(env:Env):Room k (A.deeper env):=⟨r.hd,by have:=r.dp;show A.depth+1+3*k+5<_;omega,by have:=r.un;show A.units+3+16*k+200<_;omega,r.gd⟩
theorem Qx{A:Vu}{C:Addr}{us:List a_}{kw:List (Str×a_)}:(A.under (.builtin "type.__call__" ⟨.ref C::us,kw⟩)).depth=A.depth+1:=by first|rfl|simp[Zf,Code.weight,Code.isCreation,Qbk,Code.isCaller,Code.frames,Qah,guardIds]
theorem Qy{A:Vu}{C:Addr}{us:List a_}{kw:List (Str×a_)}:(A.under (.builtin "type.__call__" ⟨.ref C::us,kw⟩)).units=A.units+1:=by first|rfl|simp[Zf,Code.cUnits,Code.frames,Qah]
theorem Room.make{k:Nat}{A:Vu}(r:Room (k+1) A)(C:Addr)(us:List a_)(kw:List (Str×a_)):Room k (A.under (.builtin "type.__call__" ⟨.ref C::us,kw⟩)):=⟨r.hd,by have:=r.dp;rw[Qx];omega,by have:=r.un;rw[Qy];omega,(by have:=r.gd;first|exact this|(simp[Zf,Qbk,guardIds];exact this))⟩
theorem Room.depth{k:Nat}{A:Vu}(r:Room k A):A.depth<recursionLimit:=by have:=r.dp;omega
theorem Room.units{k:Nat}{A:Vu}(r:Room k A):A.units+64<Xb:=by have:=r.un;omega
def rN:TA:=fun _ H Q=>Q [] H
def yT(ta:TE)(tr:TA):TA:=fun σ H Q=>ta σ H fun x H1=>tr σ H1 fun xs H2=>Q (x::xs) H2
variable{t:TA}{es:List Expr}
theorem jk:PA X [] rN:=fun _ _ _ _ H Q I h=>Calls.spliced_nil ⟨[],H,I,.nil,h⟩
theorem gJ(ha:PE X e te)(hr:PA X es t)(hs:i_ (e::es) X.env=(false,eval e X.env)::i_ es X.env:=by rfl):PA X (e::es) (yT te t):=by intro pos pz s σ H Q I h;rw[hs];show u_ _ _ (spliced ((false,eval e X.env)::backTo pos (i_ es X.env))) _ _ s;refine Calls.spliced_cons (aX (ha pz s σ H _ I h) fun u s1 ⟨x,H1,I1,r1,q1⟩=>?_);exact aX (hr pos pz s1 σ H1 _ I1 q1) fun us s2 ⟨xs,H2,I2,r2,q2⟩=>⟨x::xs,H2,I2,.cons r1 r2,q2⟩
def CA(t:TA):TE:=fun σ H Q=>t σ H fun xs H1=>xs.length<=sizeLine/\∀p,H1 p=none->Q (.ref p) (aD H1 p (.tup xs))
def CD(t:TA):TE:=fun σ H Q=>t σ H fun xs H1=>xs.length<=sizeLine/\∀p,H1 p=none->Q (.ref p) (aD H1 p (.lst xs))
theorem Lr{x1}(h:PA X es t):PE X (.Tuple es x1 pos) (CA t):=by intro pz s σ H Q I hq;refine wpAny_Tuple_spliced (aX (h pos pz s σ H _ I hq) fun us s1 ⟨xs,H1,I1,r,z,q⟩=>⟨by rw[<-r.length];exact z,?_⟩);have hf:H1 s1.heap.objs.size=none:=I1.hok.fresh (w_ _);refine⟨.ref s1.heap.objs.size,aD H1 s1.heap.objs.size (.tup xs),I1.laid (t':=s1.toks) (fun b u e=>c_ _ e) (w_ _) ?_,rfl,q _ hf⟩;exact⟨z,us,r,⟨_,z_ _ rfl,rfl,_,rfl⟩,_,z_ _ rfl,rfl⟩
theorem Ln(h:PA X es t):PE X (.List es pos) (CD t):=by intro pz s σ H Q I hq;refine wpAny_List_spliced (aX (h pos pz s σ H _ I hq) fun us s1 ⟨xs,H1,I1,r,z,q⟩=>⟨by rw[<-r.length];exact z,?_⟩);have hf:H1 s1.heap.objs.size=none:=I1.hok.fresh (w_ _);refine⟨.ref s1.heap.objs.size,aD H1 s1.heap.objs.size (.lst xs),I1.laid (t':=s1.toks) (fun b u e=>c_ _ e) (w_ _) ?_,rfl,q _ hf⟩;exact⟨z,us,0,r,z_ _ rfl⟩
abbrev Sp:=List V->Hp->VK->XK->Prop
abbrev ja:=List Env->Hp->f_->XK->a_->f_->Prop
structure Env0(P:E_)(w:T_)(K:W.Frag)(mg:Str->Option a_)(base:Heap)(A:Vu)(outer:List Env)(s:f_)(H:Hp):Prop where
 frames:A.frames=some outer
 mod:Mod K mg base
 bs:∀b o,base.get? b=some o->s.heap.get? b=some o/\H b=none
 bsz:base.objs.size<=s.heap.objs.size
 funs:s.heap.FunFrames base outer
 frf:∀b∈cV outer,H b=none
 hok:cS P w H s.heap
 bare:Ya s.gens
def CE(outer:List Env)(P:E_)(w:T_)(H:Hp)(s:f_)(Q:VK)(u:a_)(s':f_):Prop:=∃v H',s'.os=s.os/\Ya s'.gens/\Un (cV outer) [] H H' s.heap s'.heap/\cS P w H' s'.heap/\aE v u/\Q v H'
def CR(CX:ja)(outer:List Env)(P:E_)(w:T_)(H:Hp)(s:f_)(Q:VK)(E:XK)(r:QaT)(s':f_):Prop:=match r with
|.ok (.ret u)=>CE outer P w H s Q u s'
|.ok _=>False
|.error e=>CX outer H s E e s'
structure FnOk(P:E_)(w:T_)(K:W.Frag)(mg:Str->Option a_)(base:Heap)(CX:ja)(k:Nat)(f:Addr)(fd:VV)(ps:List Str)(sp:Sp):Prop where
 len:∀vs H Q E,sp vs H Q E->vs.length=ps.length
 run:∀(A:Vu)(outer:List Env)(s:f_)(H:Hp)(args:Args)(us:List a_)(vs:List V)(Q:VK)(E:XK),Room k A->Env0 P w K mg base A outer s H->Qai s fd args (ps.zip us)->ar vs us->sp vs H Q E ->YC (D_ P w) A (.call (.ref f) args) (CR CX outer P w H s Q E) s
theorem FnOk.mono{P:E_}{w:T_}{K:W.Frag}{mg:Str->Option a_}{base:Heap}{CX:ja}{j k:Nat}{f:Addr}{fd:VV}{ps:List Str}{sp:Sp}(F:FnOk P w K mg base CX j f fd ps sp)(h:j<=k):FnOk P w K mg base CX k f fd ps sp:=⟨F.len,fun A outer s H args us vs Q E hr=>F.run A outer s H args us vs Q E (hr.mono h)⟩
theorem FnOk.imp{P:E_}{w:T_}{K:W.Frag}{mg:Str->Option a_}{base:Heap}{CX:ja}{k:Nat}{f:Addr}{fd:VV}{ps:List Str}{sp z:Sp}(F:FnOk P w K mg base CX k f fd ps sp)(h:∀vs H Q E,z vs H Q E->sp vs H Q E):FnOk P w K mg base CX k f fd ps z:=⟨fun vs H Q E q=>F.len vs H Q E (h _ _ _ _ q),fun A outer s H args us vs Q E hr he hb hv hs=>F.run A outer s H args us vs Q E hr he hb hv (h _ _ _ _ hs)⟩
theorem Env0.make{P:E_}{w:T_}{K:W.Frag}{mg:Str->Option a_}{base:Heap}{A:Vu}{outer:List Env}{s:f_}{H:Hp}(e:Env0 P w K mg base A outer s H)(C:Addr)(us:List a_)(kw:List (Str×a_)):Env0 P w K mg base (A.under (.builtin "type.__call__" ⟨.ref C::us,kw⟩)) outer s H:=⟨by first|exact e.frames|(simpa[Zf,Code.envs,Qah,pushEnvs]using e.frames),e.mod,e.bs,e.bsz,e.funs,e.frf,e.hok,e.bare⟩
section
variable{s':f_}
theorem Inv.env0(I:Inv X pz σ H s):Env0 X.prog X.w X.K X.mg X.base X.A X.stack s H:=⟨I.ok.frames,I.ok.mod,I.bs,VL I.ok.bsz I.sz,I.stack,I.stkFree,I.hok,I.bare⟩
theorem Inv.after{Q:VK}{u:a_}(I:Inv X pz σ H s)(h:CE X.stack X.prog X.w H s Q u s'):EP X pz σ Q u s':=by obtain⟨v,H',os,bare,un,hok,r,q⟩:=h;obtain⟨hh,g,d,t,os'⟩:=s';obtain rfl:os'=s.os:=os;exact⟨v,H',I.call (h':=hh) (g':=g) (d':=d) (t':=t) (ch:=[]) un hok bare (fun b z=>absurd z (by simp)),r,q⟩
end
def K5(sp:Sp)(dvs:List V)(E:XK)(t:TA):TE:=fun σ H Q=>t σ H fun vs H1=>sp (vs++dvs) H1 Q E
def K6(C:Addr)(sp:Sp)(dvs:List V)(E:XK)(t:TA):TE:=fun σ H Q=>t σ H fun vs H1=>∀x dx,H1 x=none->H1 dx=none->dx≠x ->sp (.ref x::(vs++dvs)) (aD (aD H1 dx (.own x)) x (.ins C dx [])) (fun v H2=>v=.non/\Q (.ref x) H2) E
def g6(K:W.Frag)(fd:VV)(ps:List Str)(ds:List a_):Prop:=∀(s:f_)(us:List a_),K.In s.heap->(us++ds).length=ps.length->Qai s fd ⟨us,[]⟩ (ps.zip (us++ds))
theorem g6.all{K:W.Frag}{fd:VV}{ps:List Str}(h:∀us:List a_,us.length=ps.length->Yc fd ⟨us,[]⟩=pure (ps.zip us)):g6 K fd ps []:=fun s us _ hl=>by rw[Wg]at hl ⊢;exact .of_eq (h us hl)
def pZ(CX:ja)(X:Cx)(E:XK):Prop:=∀(pz:List (Addr×Obj))(σ:St)(H:Hp)(s:f_)(e:a_)(s':f_),Inv X pz σ H s->CX X.stack H s E e s'->X.xe e s'
variable{p:Pos}
section
variable{CX:ja}{k:Nat}{fd:VV}{ps:List Str}{sp:Sp}{dvs:List V}{ds:List a_}{E:XK}{x m:Str}{apos:Pos}{o:Expr}
theorem Fg{pz:List (Addr×Obj)}{σ:St}{H:Hp}{s:f_}{Q:VK}{us:List a_}{vs:List V}(F:FnOk X.prog X.w X.K X.mg X.base CX k f fd ps sp)(hr:Room k X.A)(hb:g6 X.K fd ps ds)(hd:ar dvs ds)(hx:pZ CX X E)(I:Inv X pz σ H s)(r:ar vs us)(h:sp (vs++dvs) H Q E):u_ (D_ X.prog X.w) X.A (call (.ref f) us) (EP X pz σ Q) X.xe s:=by
 have r2:ar (vs++dvs) (us++ds):=r.append hd;have hl:(us++ds).length=ps.length:=by rw[<-r2.length];exact F.len _ _ _ _ h
 refine X3 (Xi (F.run X.A X.stack s H ⟨us,[]⟩ (us++ds) (vs++dvs) Q E hr I.env0 (hb s us I.kIn hl) r2 h) fun r s' hq=>?_);cases r with
|error e=>exact hx pz σ H s e s' I hq
|ok fl=>cases fl with
 |ret u=>exact I.after hq
 |next=>exact VC hq
 |brk=>exact VC hq
 |cont=>exact VC hq
theorem N0(F:FnOk X.prog X.w X.K X.mg X.base CX k f fd ps sp)(hr:Room k X.A)(hg:Gl X x)(hm:X.mg x=some (.ref f))(hk:W.keepIn X.K (.ref f)=true)(hb:g6 X.K fd ps ds)(hd:ar dvs ds)(hx:pZ CX X E)(ha:PA X (e::es) t)(z:(x==("__debug__" : Str))=false:=by decide)(he:i_ (e::es) X.env=(false,eval e X.env)::i_ es X.env:=by rfl)(U:(backTo pos (i_ es X.env)).any (·.1)=false:=by rfl):PE X (.Call (.Name x p) (e::es) [] pos) (K5 sp dvs E t):=by intro pz s σ H Q I h;refine WQ (mH I hg hm ?_ z);refine W.callWith_K (h₀:=X.base) I.ok.mod.kin hk (aX (ha pos pz s σ H _ I h) fun us s1 ⟨vs,H1,I1,r,q⟩=>⟨I1.kIn,?_⟩) he U;exact Fg F hr hb hd hx I1 r q
structure Mk(K:W.Frag)(C f:Addr):Prop where
 makes:W.makesIn K C=true
 init:W.findIn K (.ref C) "__init__" = some (some (.ref f))
 fn:W.isFn K (.ref f)=true
 kp:W.keepIn K (.ref C)=true
theorem OK{pz:List (Addr×Obj)}{σ:St}{H:Hp}{s:f_}{Q:VK}{us:List a_}{vs:List V}(M:Mk X.K C f)(F:FnOk X.prog X.w X.K X.mg X.base CX k f fd ps sp)(hr:Room (k+1) X.A)(hb:g6 X.K fd ps ds)(hd:ar dvs ds)(hx:pZ CX X E)(I:Inv X pz σ H s)(r:ar vs us)(h:∀x dx,H x=none->H dx=none->dx≠x->sp (.ref x::(vs++dvs)) (aD (aD H dx (.own x)) x (.ins C dx [])) (fun v H2=>v=.non/\Q (.ref x) H2) E):u_ (D_ X.prog X.w) X.A (call (.ref C) us) (EP X pz σ Q) X.xe s:=by
 have hq:=h (s.heap.objs.size+1) s.heap.objs.size (I.hok.fresh (ZE _)) (I.hok.fresh (w_ _)) (J_ (Wi _));have I2:=Inv.made (C:=C) I;have r2:ar (V.ref (s.heap.objs.size+1)::(vs++dvs)) (Value.ref (s.heap.objs.size+1)::(us++ds)):=.cons rfl (r.append hd);have hl:(Value.ref (s.heap.objs.size+1)::us++ds).length=ps.length:=by have e:=r2.length;rw[F.len _ _ _ _ hq]at e;exact e.symm
 refine X3 (Os (f:=f) I.kIn M.makes M.init (beq_iff_eq.mp M.fn) (Xi (F.run _ X.stack _ _ ⟨Value.ref (s.heap.objs.size+1)::us,[]⟩ (Value.ref (s.heap.objs.size+1)::(us++ds)) _ _ E (hr.make C us [])
  (I2.env0.make C us []) (hb _ (Value.ref (s.heap.objs.size+1)::us) I2.kIn hl) r2 hq) fun r s' z=>?_))
 cases r with
|error e=>exact hx pz σ _ _ e s' I2 z
|ok fl=>cases fl with
 |ret u=>obtain⟨v,H',I3,rv,ev,q3⟩:=I2.after z;subst ev;exact⟨rv,⟨V.ref (s.heap.objs.size+1),H',I3,rfl,q3⟩⟩
 |next=>exact VC z
 |brk=>exact VC z
 |cont=>exact VC z
theorem N6(M:Mk X.K C f)(F:FnOk X.prog X.w X.K X.mg X.base CX k f fd ps sp)(hr:Room (k+1) X.A)(hg:Gl X x)(hm:X.mg x=some (.ref C))(hb:g6 X.K fd ps ds)(hd:ar dvs ds)(hx:pZ CX X E)(ha:PA X (e::es) t)(z:(x==("__debug__" : Str))=false:=by decide)(he:i_ (e::es) X.env=(false,eval e X.env)::i_ es X.env:=by rfl)(U:(backTo pos (i_ es X.env)).any (·.1)=false:=by rfl):PE X (.Call (.Name x p) (e::es) [] pos) (K6 C sp dvs E t):=by intro pz s σ H Q I h;refine WQ (mH I hg hm ?_ z);refine W.callWith_K (h₀:=X.base) I.ok.mod.kin M.kp (aX (ha pos pz s σ H _ I h) fun us s1 ⟨vs,H1,I1,r,q⟩=>⟨I1.kIn,?_⟩) he U;exact OK M F hr hb hd hx I1 r q
end
structure FnScope(N P:List Str)(sc:X7):Prop where
 kind:sc.kind=.function
 co:sc.isCoroutine=false
 gen:sc.isGenerator=false
 nd:N.Nodup
 pre:N.take P.length=P
 par:∀x∈P,sc.names.lookup x=some .local\/sc.names.lookup x=some .cell
 nofree:∀y∈sc.names,y.2≠.free
theorem Hd{kindOf:Str->Option Xy}{x:Str}:∀{binds:List (Str×a_)}{m:Str->Option a_},(∀v,(x,v)∉binds)->QaV kindOf binds m x=m x
|[],_,_=>rfl
|(n,v)::r,m,h=>by
  unfold QaV;rw[Hd fun w hw=>h w (t_ _ hw)];split
  .have:x≠n:=by rintro rfl;exact h v p_
   simp[this]
  .rfl
theorem Hb{kindOf:Str->Option Xy}{x:Str}:∀{binds:List (Str×a_)}{m:Str->Option a_},(∀v,(x,v)∉binds)->QaW kindOf binds m x=m x
|[],_,_=>rfl
|(n,v)::r,m,h=>by
  unfold QaW;rw[Hb fun w hw=>h w (t_ _ hw)];split
  .rfl
  .have:x≠n:=by rintro rfl;exact h v p_
   simp[this]
theorem Hc{kindOf:Str->Option Xy}{x:Str}{v:a_}:∀{P:List Str}{vs:List a_}{i:Nat}{m:Str->Option a_},P.Nodup->P[i]? = some x->vs[i]? = some v->kindOf x=some .local ->QaV kindOf (P.zip vs) m x=some v
|[],_,_,_,_,h,_,_=>by simp at h
|_::_,[],_,_,_,_,h,_=>by simp at h
|p::P,w::vs,0,m,nd,h1,h2,hk=>by simp at h1 h2;subst h1;subst h2;show QaV kindOf ((p,w)::P.zip vs) m p=_;unfold QaV;rw[Hd fun v hv=>(VQ.mp nd).1 (X0 hv).1,if_pos hk];simp
|p::P,w::vs,i+1,m,nd,h1,h2,hk=>by show QaV kindOf ((p,w)::P.zip vs) m x=_;unfold QaV;exact Hc (i:=i) (VQ.mp nd).2 (by simpa using h1) (by simpa using h2) hk
theorem Ha{kindOf:Str->Option Xy}{x:Str}{v:a_}:∀{P:List Str}{vs:List a_}{i:Nat}{m:Str->Option a_},P.Nodup->P[i]? = some x->vs[i]? = some v->kindOf x≠some .local ->QaW kindOf (P.zip vs) m x=some v
|[],_,_,_,_,h,_,_=>by simp at h
|_::_,[],_,_,_,_,h,_=>by simp at h
|p::P,w::vs,0,m,nd,h1,h2,hk=>by simp at h1 h2;subst h1;subst h2;show QaW kindOf ((p,w)::P.zip vs) m p=_;unfold QaW;rw[Hb fun v hv=>(VQ.mp nd).1 (X0 hv).1,if_neg hk];simp
|p::P,w::vs,i+1,m,nd,h1,h2,hk=>by show QaW kindOf ((p,w)::P.zip vs) m x=_;unfold QaW;exact Ha (i:=i) (VQ.mp nd).2 (by simpa using h1) (by simpa using h2) hk
def br(N:List Str)(vs:List V):St:=vs.map some++L_ (N.length-vs.length) none
def ba(CX:ja)(P:E_)(w:T_)(K:W.Frag)(mg:Str->Option a_)(base:Heap)(N:List Str)(qual:Str)(scope:X7)(f:Addr)(cd:a_)(A:Vu)(outer:List Env)(s:f_)(H:Hp)(E:XK):Cx where
 prog:=P
 w:=w
 K:=K
 mg:=mg
 base:=base
 A:=A.deeper (XS qual scope s.heap.objs.size f cd)
 N:=N
 s₀:=s
 H₀:=H
 env:=XS qual scope s.heap.objs.size f cd
 outer:=outer
 stack:=XS qual scope s.heap.objs.size f cd::outer
 ex:=[]
 calm:=true
 fn:=fun _=>true
 pn:=[]
 xe:=fun e s'=>u_ (D_ P w) (A.deeper (XS qual scope s.heap.objs.size f cd)) (leaving (XS qual scope s.heap.objs.size f cd) e) (fun _ s''=>CX outer H s E e s'') (fun e' s''=>CX outer H s E e' s'') s'
theorem G6{sc:X7}{n:Nat}{x:Str}(h:sc.names.lookup x=some .cell):∃c,(cellsFrom n sc.names []).lookup x=some c:=by have q:=W.cellsFrom_some sc.names n [] (.inl h);exact Option.isSome_iff_exists.mp q
theorem PK{CX:ja}{P:E_}{w:T_}{K:W.Frag}{mg:Str->Option a_}{base:Heap}{N ps:List Str}{qual:Str}{scope:X7}{f:Addr}{cd:a_}{A:Vu}{outer:List Env}{s s1:f_}{H:Hp}{E:XK}{us:List a_}{vs:List V}(S:FnScope N ps scope)(hd:A.handled=none)(e0:Env0 P w K mg base A outer s H)(hl:vs.length=ps.length)(r:ar vs us)(x:InCallC s s.heap.objs.size (QaV (XS qual scope s.heap.objs.size f cd).kindOf (ps.zip us) fun _=>none) (cellsFrom (s.heap.objs.size+1) scope.names []) (QaW (XS qual scope s.heap.objs.size f cd).kindOf (ps.zip us) fun _=>none) s1):Inv (ba CX P w K mg base N qual scope f cd A outer s H E) [] (br N vs) H s1:=by
 have Z:ps.length<=N.length:=by have:=congrArg WM S.pre;rw[Vz]at this;omega
 obtain⟨h1,tk,rfl,hk⟩:=x.done;have U:∀b:Addr,b∉(ba CX P w K mg base N qual scope f cd A outer s H E).ex:=fun b z=>absurd (show b∈([]:List Addr)from z) (by simp);refine⟨⟨e0.mod,S.kind,rfl,rfl,w_ _,fun y z c h1 h2=>?_,fun y hy=>?_,fun y c _ h=>?_,fun _=>hd,Around.frames_deeper e0.frames,.inr ⟨rfl,rfl⟩,fun b z=>absurd z (U b),e0.bs,e0.bsz,fun b _ _=>U b,fun b z=>absurd z (U b),e0.funs,e0.frf⟩,rfl,e0.bare,Un.kept hk,⟨_,x.toInCall.ns,fun i y v h1 h2 h3=>?_⟩,fun y c h=>⟨_,x.cell y c h⟩,e0.hok.fresh (w_ _),fun y c h=>?_,fun p hp=>absurd (show p∈([]:List (Addr×Obj))from hp) (by simp),e0.hok.kept hk,?_⟩
 .exact name_of_addr x.apart (We h1) (We h2)
 .have hy:scope.names.lookup y=some .cell\/scope.names.lookup y=some .free:=hy;rcases hy with hy|hy
  .exact G6 hy
  .exact absurd rfl (S.nofree _ (We hy))
 .exact Qad (x.above y c (We h))
 .have hi:i<vs.length:=by
   unfold br at h2;by_cases hi:i<vs.length
   .exact hi
   .rw[VP (by simpa using hi)]at h2;rw[V6]at h2;split at h2 <;> cases h2
  have ha:vs[i]? = some v:=by unfold br at h2;rw[O_ (by simpa using hi),n_]at h2;cases e:vs[i]? with
  |none=>rw[e]at h2;cases h2
  |some a=>rw[e]at h2;cases h2;rfl
  obtain⟨u,hu,rv⟩:=r.get ha;have hp:ps[i]? = some y:=by rw[<-S.pre,List.getElem?_take_of_lt (by omega)];exact h1
  have Y:ps.Nodup:=by rw[<-S.pre];exact S.nd.sublist (YV _ _)
  refine⟨u,rv,?_⟩;rcases S.par y (Yq hp)with k|k
  .exact .inl ⟨k,Hc Y hp hu k⟩
  .obtain⟨c,e⟩:=G6 (n:=s.heap.objs.size+1) k;refine .inr ⟨.inl k,c,e,?_⟩;have q:=x.cell y c e;rw[Ha Y hp hu (by show scope.names.lookup y≠_;rw[k];decide)]at q;exact q
 .exact e0.hok.fresh (Qad (x.above y c (We h)))
 .unfold br;show _=N.length;rw[U_,g_,WT];omega
theorem DO{CX:ja}{P:E_}{w:T_}{K:W.Frag}{mg:Str->Option a_}{base:Heap}{k:Nat}{f:Addr}{name qual:Str}{params:Arguments}{body:List Stmt}{scope:X7}{dV kV doc pm cdv ct oc:a_}{an od:Option Addr}{osl:Array (Option a_)}{N ps:List Str}{sp:Sp}(lk:K.lookup f=some ⟨oc,od,.func (W.fnOf name qual params body scope dV kV doc pm an cdv ct),osl⟩)(Z:W.codeIn K cdv qual=true)(S:FnScope N ps scope)(len:∀vs H Q E,sp vs H Q E->vs.length=ps.length)(z:∀(A:Vu)(outer:List Env)(s:f_)(H:Hp)(vs:List V)(Q:VK)(E:XK),Room k (A.deeper (XS qual scope s.heap.objs.size f cdv))->sp vs H Q E ->∃t,dD (ba CX P w K mg base N qual scope f cdv A outer s H E) body t/\t { nx:=fun _ H'=>Q .non H',rt:=Q } (br N vs) H):FnOk P w K mg base CX (k+1) f (W.fnOf name qual params body scope dV kV doc pm an cdv ct) ps sp:=by
 refine⟨len,fun A outer s H args us vs Q E hr e0 hb r Y=>?_⟩;have hl:=len _ _ _ _ Y;have KX:K.In s.heap:=e0.mod.kin.keeps fun b o e=>(e0.bs b o e).1;have ac:s.heap.NoLimit:=e0.mod.nolimit.keeps fun b o e=>(e0.bs b o e).1;have U:∀y∈ps.zip us,scope.names.lookup y.1=some .local\/(scope.names.lookup y.1=some .cell/\((cellsFrom (s.heap.objs.size+1) scope.names []).lookup y.1).isSome=true):=fun⟨n,v⟩ hy=>by
  rcases S.par n (X0 hy).1 with q|q
  .exact .inl q
  .exact .inr ⟨q,W.cellsFrom_some _ _ _ (.inl q)⟩
 refine codeAny_call_function hr.depth (KX _ _ lk) rfl S.co S.gen rfl (W.codeRec_of KX Z) (hb _ _ _ _ ?_);refine wpAny_newFunctionEnv_cells S.kind U fun env he s1 x=>?_;subst he;refine⟨ac.keeps x.toInCall.keep,codeAny_func ?_⟩;obtain⟨t,ht,hq⟩:=z A outer s H vs Q E (hr.deeper _) Y;have I:Inv (ba CX P w K mg base N qual scope f cdv A outer s H E) [] (br N vs) H s1:=PK S hr.hd e0 hl r x;refine VG (ht [] s1 (br N vs) H _ I hq) (fun fl s' hs=>?_) fun e s' hs=>hs;have fin:∀{σ':St}{H':Hp}{v:V}{u:a_},Inv (ba CX P w K mg base N qual scope f cdv A outer s H E) [] σ' H' s'->aE v u->Q v H'->CE outer P w H s Q u s':=fun{σ' H' v u} J rv q=>⟨v,H',J.os,J.bare,J.base,J.hok,rv,q⟩
 cases fl with
|ret u=>obtain⟨v,σ',H',J,rv,q⟩:=hs;exact fin J rv q
|next=>obtain⟨σ',H',J,q⟩:=hs;exact fin (v:=V.non) (u:=Value.none) J rfl q
|brk=>obtain⟨_,_,_,q⟩:=hs;exact VC q
|cont=>obtain⟨_,_,_,q⟩:=hs;exact VC q
section
variable{x:Str}{id T:String}{r:List V->Hp->VK->Prop}
def xC(r:List V->Hp->VK->Prop)(t:TA):TE:=fun σ H Q=>t σ H fun vs H1=>r vs H1 Q
theorem kJ(hc:eY X (.builtin id) r)(hg:Gl X x)(hm:X.mg x=none)(hv:XB x=some (.builtin id))(ha:PA X (e::es) t)(hn:x≠"__name__" := by decide)(z:(x==("__debug__" : Str))=false:=by decide)(he:i_ (e::es) X.env=(false,eval e X.env)::i_ es X.env:=by rfl)(U:(backTo pos (i_ es X.env)).any (·.1)=false:=by rfl):PE X (.Call (.Name x p) (e::es) [] pos) (xC r t):=by intro pz s σ H Q I h;refine WQ (oE I hg hm hv ?_ hn z);exact PyProof.Rows.callWith_builtin1 (aX (ha pos pz s σ H _ I h) fun us s1 ⟨vs,H1,I1,r1,q1⟩=>hc pz s1 σ H1 vs us Q I1 r1 q1) he U
theorem o9(hc:eY X (.type T) r)(hg:Gl X x)(hm:X.mg x=none)(hv:XB x=some (.type T))(ha:PA X (e::es) t)(hn:x≠"__name__" := by decide)(z:(x==("__debug__" : Str))=false:=by decide)(he:i_ (e::es) X.env=(false,eval e X.env)::i_ es X.env:=by rfl)(U:(backTo pos (i_ es X.env)).any (·.1)=false:=by rfl):PE X (.Call (.Name x p) (e::es) [] pos) (xC r t):=by intro pz s σ H Q I h;refine WQ (oE I hg hm hv ?_ hn z);exact WK (aX (ha pos pz s σ H _ I h) fun us s1 ⟨vs,H1,I1,r1,q1⟩=>hc pz s1 σ H1 vs us Q I1 r1 q1) he U
end
end L2
namespace HT
open PySem PyProof.Rows
theorem jN(A:Vu)(s:f_)(a:Int)(t:Tok)(c:Int)(u:Tok)(prog:E_)(w:T_)(E:a_->f_->Prop)(Q:a_->f_->Prop)(h:Q (.bool (decide (a<c))) s):u_ (D_ prog w) A (QaD .Lt (.int a t) (.int c u)) Q E s:=(PyProof.Rows.lt_int h:u_ (D_ prog w) A (Vs .Lt (.int a t) (.int c u)) Q E s)
section
open PySem.SeqAt
open PySem.AutoSeq1 (wpAny_loadPart')
open PySem.MeetsSeq PySem.MeetsSeq2 PySem.MeetsSeq3
end
section
variable{prog:E_}{w:T_}{A:Vu}{E:a_->f_->Prop}{s:f_}
theorem lp{t b:Addr}{vs ws:List a_}{Q:a_->f_->Prop}(ht:IsTup s.heap t vs.toArray)(hb:IsTup s.heap b ws.toArray)(hv:vs≠[])(h1:ws=[]->Q (.ref t) s)(h2:ws≠[]->Q (.ref s.heap.objs.size) { s with heap:=s.heap.push { cls:=.type "tuple",data:=.seq (vs++ws).toArray } })(hsz:vs.length+ws.length<=sizeLine):u_ (D_ prog w) A (Xa .Add (.ref t) (.ref b)) Q E s:=by
 obtain⟨⟨cls,dd,data,sl⟩,ho,hc,n,hd⟩:=id ht;obtain⟨⟨ld,U,ad,Y⟩,z,ac,n2,Z⟩:=id hb;simp only at hc hd ac Z;subst hc hd ac Z;have e:vs.toArray++ws.toArray=(vs++ws).toArray:=by simp
 by_cases hw:ws=[]
 .exact Zg ⟨_,ho,rfl⟩ ⟨_,z,rfl⟩ Za Z3 Yd X9 (XY _ _)
   (tuple_addW1 t b vs.toArray ws.toArray n n2 dd U sl Y (by simpa using hv) (by simp[hw])) ⟨ho,z,h1 hw⟩
 .refine Zg ⟨_,ho,rfl⟩ ⟨_,z,rfl⟩ Za Z3 Yd X9 (XY _ _)
   (tuple_addW2 t b vs.toArray ws.toArray n n2 dd U sl Y (by simpa using hv) (by simpa using hw) (by rw[q_,q_];exact hsz)) ⟨ho,z,?_⟩
  rw[e];exact h2 hw
def sIx(n d:Nat):Option Int->Nat
|none=>d
|some v=>if v<0 then(v+(n:Int)).toNat else min v.toNat n
theorem bO(n d:Nat):sIx n d none=d:=rfl
theorem ce(n d k:Nat):sIx n d (some (k:Int))=min k n:=by show(if (k:Int)<0 then((k:Int)+(n:Int)).toNat else min (k:Int).toNat n)=min k n;rw[if_neg (by omega),WX]
theorem Mw(n d:Nat)(hd:d<=n)(o:Option Int):sIx n d o<=n:=by cases o with
|none=>exact hd
|some v=>
  show(if v<0 then(v+(n:Int)).toNat else min v.toNat n)<=n;by_cases hv:v<0
  .rw[if_pos hv];omega
  .rw[if_neg hv];exact Qaw _ _
theorem Fw(v:Int)(n d:Nat):(if v<0 then max (v+(n:Int)) 0 else min v (n:Int))=((sIx n d (some v):Nat):Int):=by
 show(if v<0 then max (v+(n:Int)) 0 else min v (n:Int))=(((if v<0 then(v+(n:Int)).toNat else min v.toNat n):Nat):Int)
 by_cases hv:v<0
 .simp only[if_pos hv];omega
 .simp only[if_neg hv];omega
theorem QX(lo hi:Option Int)(n:Nat):XM lo hi 1 (n:Int)=(((sIx n 0 lo:Nat):Int),((sIx n n hi:Nat):Int)):=by
 have h1:¬ ((1:Int)<0):=by omega
 unfold XM;simp only[h1,if_false];refine Prod.ext ?_ ?_
 .cases lo with
 |none=>rfl
 |some v=>exact Fw v n 0
 .cases hi with
 |none=>rfl
 |some v=>exact Fw v n n
theorem QD(i j:Nat):WU (i:Int) (j:Int) 1=j-i:=by
 unfold WU;have h1:(1:Int)>0:=by omega
 simp only[h1,if_true,Int.ediv_one];split <;> omega
theorem HZ{v:a_}{o:Option Int}{Q:Option Int->f_->Prop}(p:Zh v o)(h:Q o s):u_ (D_ prog w) A (QaI v) Q E s:=by cases p with
|none=>exact slicePart_none h
|int i t=>exact slicePart_int h
theorem cF{sl:Addr}{vl vu:a_}{lo hi:Option Int}{n:Nat}{Q:Int×Int×Nat->f_->Prop}(hs:s.heap.IsSliceOf sl vl vu .none)(pl:Zh vl lo)(pu:Zh vu hi)(h:Q (((sIx n 0 lo:Nat):Int),1,sIx n n hi-sIx n 0 lo) s):u_ (D_ prog w) A (YI (.ref sl) (pure (n:Int))) Q E s:=by obtain⟨os,U,Y,z⟩:=id hs;unfold YI Qa9;refine b_ (b_ (VD U z (x:=vl) rfl (b_ (VD U z (x:=vu) rfl (b_ (VD U z (x:=.none) rfl (o_ ?_)))))));refine b_ (slicePart_none ?_);show u_ _ _ (if ((1:Int)==0)=true then _ else _) _ _ s;rw[if_neg (by decide)];refine b_ (HZ pl (b_ (HZ pu (b_ (o_ ?_)))));show u_ _ _ (match XM lo hi 1 (n:Int)with|(lo,hi)=>pure (lo,(1:Int),WU lo hi 1)) _ _ s;rw[QX lo hi n];show u_ _ _ (pure (((sIx n 0 lo:Nat):Int),(1:Int),WU ((sIx n 0 lo:Nat):Int) ((sIx n n hi:Nat):Int) 1)) _ _ s;rw[QD];exact o_ h
theorem Pc(xs:Array a_)(i k:Nat):((e_ k).filterMap fun(m:Nat)=>xs[((i:Int)+(m:Int)*1).toNat]?).toArray=((xs.toList.drop i).take k).toArray:=by
 have e:(fun(m:Nat)=>xs[((i:Int)+(m:Int)*1).toNat]?)=fun m=>xs[i+m]?:=by
  funext m;have:((i:Int)+(m:Int)*1).toNat=i+m:=by omega
  rw[this]
 rw[e];have:=pick_run xs i k;rw[List.filterMap_map]at this;have e2:((fun x=>xs[x]?)∘fun x=>i+x)=fun m=>xs[i+m]?:=rfl;rw[e2]at this;rw[this]
theorem dB{t sl:Addr}{items:Array a_}{vl vu:a_}{lo hi:Option Int}{Q:a_->f_->Prop}(ht:IsTup s.heap t items)(hs:s.heap.IsSliceOf sl vl vu .none)(pl:Zh vl lo)(pu:Zh vu hi)(hw:¬ (sIx items.size 0 lo=0/\sIx items.size items.size hi=items.size))(h:Q (.ref s.heap.objs.size) { s with heap:=s.heap.push { cls:=.type "tuple",data:=.seq ((items.toList.drop (sIx items.size 0 lo)).take (sIx items.size items.size hi-sIx items.size 0 lo)).toArray } })(hsz:items.size<=sizeLine):u_ (D_ prog w) A (Zi (.ref t) (.ref sl)) Q E s:=by
 have z:sizeOk (.seq ((items.toList.drop (sIx items.size 0 lo)).take (sIx items.size items.size hi-sIx items.size 0 lo)).toArray):=by show((items.toList.drop (sIx items.size 0 lo)).take (sIx items.size items.size hi-sIx items.size 0 lo)).toArray.size<=sizeLine;rw[q_,Vz,VI,XQ];omega
 have hj:sIx items.size items.size hi<=items.size:=Mw _ _ (w_ _) hi;obtain⟨os,ac,Z,ad⟩:=id hs;have Y:s.TypeIs (.ref sl) "slice" := ⟨os,ac,Z⟩
 unfold Zi
 try with_reducible refine W2 ?_
 first|refine b_ (o_ ?_)|skip
 refine b_ (Qaj ht.typeIs (by decide) ?_);refine b_ (V7 (name:=K_ "__getitem__") ht.typeIs VF
  (Xc VF ht.typeIs entry_tuple_getitem ?_ (args_tuple_getitem _ _)))
 show u_ _ _ (YJ (.ref t) >>= _) _ _ s;refine b_ (tupleItemsOf_ ht ?_);refine b_ (Zj Y ?_);rw[if_pos (by decide)];refine b_ (cF hs pl pu ?_);have U:¬ ((((sIx items.size 0 lo:Nat):Int)==0&&(1:Int)==1&&(sIx items.size items.size hi-sIx items.size 0 lo)==items.size)=true):=by intro q;rw[Vr,Vr]at q;have q1:((sIx items.size 0 lo:Nat):Int)=0:=Wj q.1.1;have q2:sIx items.size items.size hi-sIx items.size 0 lo=items.size:=Wj q.2;exact hw ⟨by omega,by omega⟩
 show u_ _ _ (if (((sIx items.size 0 lo:Nat):Int)==0&&(1:Int)==1&&(sIx items.size items.size hi-sIx items.size 0 lo)==items.size)=true then _ else _) _ _ s;rw[if_neg U,Pc]
 first
  |exact b_ (m:=W4 _) (Wb (o_ ⟨_,rfl,o_ h⟩) z)
  |exact b_ (m:=W4 _) (Wb (b_ (o_ (o_ ⟨_,rfl,o_ h⟩))) z)
  |exact b_ (b_ (m:=W4 _) (Wb (o_ (o_ ⟨_,rfl,o_ h⟩)) z))
  |exact b_ (b_ (m:=W4 _) (Wb (o_ ⟨_,rfl,o_ h⟩) z))
end
end HT
namespace L2
open PySem PySem.Spec PyProof.Rows
abbrev TO:=St->Hp->(Option Int->Hp->Prop)->Prop
def PO(X:Cx)(e:Option Expr)(t:TO):Prop:=∀(pz:List (Addr×Obj))(s:f_)(σ:St)(H:Hp)(Q:Option Int->Hp->Prop),Inv X pz σ H s->t σ H Q ->u_ (D_ X.prog X.w) X.A (evalPart e X.env) (fun u s'=>∃o H',Inv X pz σ H' s'/\Zh u o/\Q o H') X.xe s
def NY:TO:=fun _ H Q=>Q none H
def K9(t:TE):TO:=fun σ H Q=>t σ H fun x H1=>∃i,x=.int i/\Q (some i) H1
theorem A5{ns:List Int}:∀{us:List a_},ar (ns.map V.int) us->YW us ns:=by induction ns with
|nil=>intro us r;rw[Qak]at r;cases r;exact .nil
|cons n ns ih=>intro us r;rw[Vq]at r;cases r with
 |cons r1 r2=>obtain⟨t,e⟩:=r1;subst e;exact .cons n t (ih r2)
variable{X:Cx}{e:Expr}{pos:Pos}
section
variable{te:TE}{lo hi:Option Expr}{tl th:TO}{p2:Pos}
theorem N9:PO X none NY:=by intro pz s σ H Q I h;rw[evalPart_none];exact o_ ⟨none,H,I,.none,h⟩
theorem NE(h:PE X e te):PO X (some e) (K9 te):=by intro pz s σ H Q I hw;rw[evalPart_some];refine aX (h pz s σ H _ I hw) fun u s1 ⟨x,H1,I1,r1,q1⟩=>?_;obtain⟨i,rfl,q⟩:=q1;obtain⟨t,rfl⟩:=r1;exact⟨some i,H1,I1,.int i t,q⟩
def jY(X:Cx)(r:V->Option Int->Option Int->Hp->VK->Prop):Prop:=∀(pz:List (Addr×Obj))(s:f_)(σ:St)(H:Hp)(x:V)(v vl vu:a_)(lo hi:Option Int)(sl:Addr)(Q:VK),Inv X pz σ H s->aE x v->s.heap.IsSliceOf sl vl vu .none->Zh vl lo->Zh vu hi->r x lo hi H Q ->∃T id,typeLookup (.type T) "__getitem__" = pure (some (.builtin id))/\s.TypeIs v T/\u_ (D_ X.prog X.w) X.A (Zi v (.ref sl)) (EP X pz σ Q) X.xe s
theorem jY.or{r r':V->Option Int->Option Int->Hp->VK->Prop}(h:jY X r)(h':jY X r'):jY X (fun x lo hi H Q=>r x lo hi H Q\/r' x lo hi H Q):=by
 intro pz s σ H x v vl vu lo hi sl Q I rx hs pl pu q;rcases q with q|q
 .exact h pz s σ H x v vl vu lo hi sl Q I rx hs pl pu q
 .exact h' pz s σ H x v vl vu lo hi sl Q I rx hs pl pu q
def Sz(r:V->Option Int->Option Int->Hp->VK->Prop)(te:TE)(tl th:TO):TE:=fun σ H Q=>te σ H fun x H1=>tl σ H1 fun l H2=>th σ H2 fun u H3=>r x l u H3 Q
theorem Aw{r:V->Option Int->Option Int->Hp->VK->Prop}(hr:jY X r)(he:PE X e te)(hl:PO X lo tl)(hu:PO X hi th):PE X (.Subscript e (.Slice lo hi none p2) pos) (Sz r te tl th):=by intro pz s σ H Q I h;refine Subscript_ (aX (he pz s σ H _ I h) fun v s1 ⟨x,H1,I1,r1,q1⟩=>?_);refine wpAny_Slice (aX (hl pz s1 σ H1 _ I1 q1) fun vl s2 ⟨l,H2,I2,pl,q2⟩=>aX (hu pz s2 σ H2 _ I2 q2) fun vu s3 ⟨u,H3,I3,pu,q3⟩=>?_);rw[evalPart_none];refine o_ ?_;have I4:Inv X pz σ H3 { s3 with heap:=s3.heap.push { cls:=.type "slice",data:=.fields #[vl,vu,.none] } }:=I3.kept (t':=s3.toks) fun b ob q=>c_ _ q;obtain⟨T,id,hT,ht,hg⟩:=hr pz { s3 with heap:=s3.heap.push { cls:=.type "slice",data:=.fields #[vl,vu,.none] } } σ H3 x v vl vu l u s3.heap.objs.size Q I4 r1 (Heap.IsSliceOf.new ..) pl pu q3;show u_ (D_ X.prog X.w) X.A (subscriptTail e (.Slice lo hi none p2) v (.ref s3.heap.objs.size)) (EP X pz σ Q) X.xe { s3 with heap:=s3.heap.push { cls:=.type "slice",data:=.fields #[vl,vu,.none] } };exact tail_any (ops:=[.ref s3.heap.objs.size,v]) ht hT hg (by with_unfolding_all rfl)
def i6(xs:List V)(lo hi:Option Int):List V:=(xs.drop (HT.sIx xs.length 0 lo)).take (HT.sIx xs.length xs.length hi-HT.sIx xs.length 0 lo)
theorem Io(xs:List V)(lo hi:Option Int):(i6 xs lo hi).length<=xs.length:=by unfold i6;rw[Vz,VI];omega
def CU(K:W.Frag):V->Option Int->Option Int->Hp->VK->Prop:=fun x lo hi H Q=>∃a xs,x=.ref a/\cJ K H a xs /\¬ (HT.sIx xs.length 0 lo=0/\HT.sIx xs.length xs.length hi=xs.length)/\∀p,H p=none->Q (.ref p) (aD H p (.tup (i6 xs lo hi)))
theorem E2:jY X (CU X.K):=by
 intro pz s σ H x v vl vu lo hi sl Q I rx hs pl pu h;obtain⟨a,xs,rfl,hx,hw,q⟩:=h;cases rx;obtain⟨its,r,ht,hz⟩:=I.tuple hx;have hlen:its.toArray.size=xs.length:=by rw[q_];exact r.length.symm
 refine⟨"tuple",_,VF.lookup,ht.typeIs,?_⟩;refine HT.dB ht hs pl pu (by rw[hlen];exact hw) ?_ (by rw[hlen];exact hz);rw[hlen];refine⟨.ref s.heap.objs.size,_,I.laid (t':=s.toks) (o:=.tup (i6 xs lo hi)) (fun b ob q=>c_ _ q) (w_ _) ?_,rfl,q _ (I.hok.fresh (w_ _))⟩;exact⟨VL (Io xs lo hi) hz,_,(r.drop (HT.sIx xs.length 0 lo)).take (HT.sIx xs.length xs.length hi-HT.sIx xs.length 0 lo),Qbi _ _,_,z_ _ rfl,rfl⟩
def yO(K:W.Frag):R2:=fun x y H Q=>∃a b xs ys,x=.ref a/\y=.ref b/\cJ K H a xs/\cJ K H b ys/\xs≠[]/\xs.length+ys.length<=sizeLine /\(ys=[]->Q (.ref a) H)/\(ys≠[]->∀p,H p=none->Q (.ref p) (aD H p (.tup (xs++ys))))
theorem ar.nil_iff{xs:List V}{us:List a_}(r:ar xs us):us=[]↔xs=[]:=by cases r with
|nil=>simp
|cons _ _=>simp
theorem Gg:bx X (Xa .Add) (yO X.K):=by intro pz s σ H x y v u Q I rx ry h;obtain⟨a,b,xs,ys,rfl,rfl,ha,hb,hx,hz,q1,q2⟩:=h;cases rx;cases ry;obtain⟨its,r1,p1,_⟩:=I.tuple ha;obtain⟨U,r2,p2,_⟩:=I.tuple hb;refine HT.lp p1 p2 (fun z=>hx (r1.nil_iff.mp z)) (fun z=>⟨.ref a,H,I,rfl,q1 (r2.nil_iff.mp z)⟩) (fun z=>?_) (by rw[<-r1.length,<-r2.length];exact hz);refine⟨.ref s.heap.objs.size,_,I.laid (t':=s.toks) (o:=.tup (xs++ys)) (fun b ob q=>c_ _ q) (w_ _) ?_,rfl,q2 (fun w=>z (r2.nil_iff.mpr w)) _ (I.hok.fresh (w_ _))⟩;exact⟨by rw[U_];exact hz,_,r1.append r2,Qbi _ _,_,z_ _ rfl,rfl⟩
end
def gZ(n:Nat)(i:Int):Option Nat:=if 0<=i then(if i<n then some i.toNat else none)else if-(n:Int)<=i then some (i+n).toNat else none
def gF{α:Type}(xs:List α)(i:Int):Option α:=(gZ xs.length i).bind fun j=>xs[j]?
theorem Fq{n:Nat}{i:Int}{j:Nat}(h:gZ n i=some j):seqIndex? i n=some j/\j<n/\-(n:Int)<=i/\i<n:=by
 unfold gZ at h;by_cases h0:0<=i
 .rw[if_pos h0]at h;by_cases h1:i<n
  .rw[if_pos h1]at h;have e:i.toNat=j:=B_ h;exact⟨by rw[QaE h0 h1,e],by omega,by omega,h1⟩
  .rw[if_neg h1]at h;cases h
 .rw[if_neg h0]at h;by_cases h1 : -(n:Int)<=i
  .rw[if_pos h1]at h;have e:(i+n).toNat=j:=B_ h;exact⟨by rw[seqIndex_neg (by omega) h1,e],by omega,h1,by omega⟩
  .rw[if_neg h1]at h;cases h
theorem z7{α:Type}{xs:List α}{i:Int}{v:α}(h:gF xs i=some v):∃j,seqIndex? i xs.length=some j/\xs[j]? = some v/\j<xs.length/\-(xs.length:Int)<=i/\i<xs.length:=by unfold gF at h;cases e:gZ xs.length i with
|none=>rw[e]at h;cases h
|some j=>rw[e]at h;obtain⟨h1,h2,h3,h4⟩:=Fq e;exact⟨j,h1,h,h2,h3,h4⟩
def zX(b:Expr):Prop:=∀o i,subscripted b false o i=operate [o,i] (Zi o i)
def j6(X:Cx)(r:R2):Prop:=∀(value slice:Expr)(pz:List (Addr×Obj))(s:f_)(σ:St)(H:Hp)(x y:V)(v u:a_)(Q:VK),Inv X pz σ H s->aE x v->aE y u->r x y H Q ->subscripted slice false v u=operate [v,u] (Zi v u)->u_ (D_ X.prog X.w) X.A (subscriptTail value slice v u) (EP X pz σ Q) X.xe s
def lv(X:Cx)(id:String)(r:V->List V->Hp->VK->Prop):Prop:=∀(pz:List (Addr×Obj))(s:f_)(σ:St)(H:Hp)(x:V)(xs:List V)(v:a_)(us:List a_)(Q:VK),Inv X pz σ H s->aE x v->ar xs us->r x xs H Q ->u_ (D_ X.prog X.w) X.A (call (.builtin id) (v::us)) (EP X pz σ Q) X.xe s
section
variable{a b:Expr}{ta tb:TE}
theorem j6.or{r r':R2}(h:j6 X r)(h':j6 X r'):j6 X (fun x y H Q=>r x y H Q\/r' x y H Q):=by
 intro value slice pz s σ H x y v u Q I rx ry q hs;rcases q with q|q
 .exact h value slice pz s σ H x y v u Q I rx ry q hs
 .exact h' value slice pz s σ H x y v u Q I rx ry q hs
theorem JP{r:R2}(hr:j6 X r)(ha:PE X a ta)(hb:PE X b tb)(hs:zX b):PE X (.Subscript a b pos) (pF r ta tb):=by intro pz s σ H Q I h;exact Subscript_ (nK ha hb I h fun v u s2 x y H2 I2 rx ry q=>hr a b pz s2 σ H2 x y v u Q I2 rx ry q (hs _ _))
def sd(K:W.Frag):R2:=fun x y H Q=>∃p xs i v,x=.ref p/\y=.int i/\bM K H p xs/\gF xs i=some v/\Q v H
def rY(K:W.Frag):R2:=fun x y H Q=>∃p xs i v,x=.ref p/\y=.int i/\cJ K H p xs/\gF xs i=some v/\Q v H
def rZ:R2:=fun x y H Q=>∃z i c,x=.str z/\y=.int i/\z.length<=sizeLine/\gF z.cps.toList i=some c/\Q (.str ⟨#[c]⟩) H
theorem Nk:j6 X (sd X.K):=by
 intro value slice pz s σ H x y v u Q I rx ry h hs;obtain⟨p,xs,i,z,rfl,rfl,hq,he,q⟩:=h;cases rx;obtain⟨t,rfl⟩:=ry;obtain⟨its,r,pl,hz⟩:=I.list hq;obtain⟨j,h1,h2,h3,h4,h5⟩:=z7 he;obtain⟨w,ew,rw'⟩:=r.get h2;have hl:=r.length;have hn:=oF;have fin:EP X pz σ Q w s:=⟨z,H,I,rw',q⟩
 by_cases h0:0<=i
 .have hj:i.toNat=j:=by rw[QaE h0 h5]at h1;exact B_ h1
  exact item_listR pl.isList h0 (by omega) (by rw[hj];simpa using ew) fin hs
 .have hj:(i+(its.toArray.size:Int)).toNat=j:=by rw[seqIndex_neg (by omega) h4]at h1;rw[q_,<-hl];exact B_ h1
  exact Zk (x:=w) pl.isList.typeIs Qal.lookup
   (wpAny_getItem_list_neg (Q:=fun r s'=>r=w/\EP X pz σ Q r s') pl.isList (by omega) (by rw[q_] <;> omega) (by omega) (by rw[hj];simpa using ew) ⟨rfl,fin⟩) hs
theorem LY:j6 X (rY X.K):=by
 intro value slice pz s σ H x y v u Q I rx ry h hs;obtain⟨p,xs,i,z,rfl,rfl,hq,he,q⟩:=h;cases rx;obtain⟨t,rfl⟩:=ry;obtain⟨its,r,pl,hz⟩:=I.tuple hq;obtain⟨j,h1,h2,h3,h4,h5⟩:=z7 he;obtain⟨w,ew,rw'⟩:=r.get h2;have hl:=r.length;have hn:=oF;have fin:EP X pz σ Q w s:=⟨z,H,I,rw',q⟩
 exact Zk (x:=w) pl.typeIs VF.lookup
  (getItem_tuple (j:=j) (Q:=fun r s'=>r=w/\EP X pz σ Q r s') pl (by omega) (by omega) (by rw[q_,<-hl];exact h1) (by simpa using ew) ⟨rfl,fin⟩) hs
theorem LX:j6 X rZ:=by
 intro value slice pz s σ H x y v u Q I rx ry h hs;obtain⟨z,i,c,rfl,rfl,hz,he,q⟩:=h;obtain⟨t,rfl⟩:=rx;obtain⟨t',rfl⟩:=ry;obtain⟨j,h1,h2,h3,h4,h5⟩:=z7 he;have hl:z.cps.toList.length=z.length:=by simp[Str.length]
 rw[hl]at h1 h4 h5;have hn:=oF;exact tail_any (typeIs_str s z t) slot_str_getitem.lookup (getItem_str (c:=c) (by have e1:decide (i < -(2^63:Int))=false:=decide_eq_false (by omega);have e2:decide (i>=2^63)=false:=decide_eq_false (by omega);rw[e1,e2,Bool.or_false]) (by rw[h1];simpa using h2) ⟨.str ⟨#[c]⟩,H,I.tok _,⟨_,rfl⟩,q⟩) hs
def CW(K:W.Frag):R2:=fun x y H Q=>sd K x y H Q\/rY K x y H Q\/rZ x y H Q
theorem LW:j6 X (CW X.K):=Nk.or (LY.or LX)
theorem Qz(its:List a_)(n j:Nat)(u:a_):Zl (·.setIfInBounds j u) { cls:=.type "list",data:=.seq its.toArray n }={ cls:=.type "list",data:=.seq (its.set j u).toArray n }:=by simp[Zl]
theorem Inv.lst{pz:List (Addr×Obj)}{σ:St}{H:Hp}{s:f_}{p:Addr}{xs:List V}(I:Inv X pz σ H s)(h:H p=some (.lst xs)):∃(its:List a_)(n:Nat),ar xs its/\s.heap.get? p=some { cls:=.type "list",data:=.seq its.toArray n }/\xs.length<=sizeLine:=by obtain⟨z,its,n,r,e⟩:=I.hok p _ h;exact⟨its,n,r,e,z⟩
theorem Inv.lstUpd{pz:List (Addr×Obj)}{σ:St}{H:Hp}{s:f_}{p:Addr}{xs ys:List V}{its its':List a_}{n n':Nat}{f:Obj->Obj}(I:Inv X pz σ H s)(h:H p=some (.lst xs))(ho:s.heap.get? p=some { cls:=.type "list",data:=.seq its.toArray n })(hf:f { cls:=.type "list",data:=.seq its.toArray n }={ cls:=.type "list",data:=.seq its'.toArray n' })(r:ar ys its')(hz:ys.length<=sizeLine)(t:Nat):Inv X pz σ (aD H p (.lst ys)) { s with heap:=s.heap.update p f,toks:=t }:=by
 have e:(s.heap.update p f).get? p=some { cls:=.type "list",data:=.seq its'.toArray n' }:=by rw[VO f ho (by rw[hf] <;> rfl),hf]
 refine I.write (x:=p) (e:=p) (by rw[h];trivial) (.inl rfl) (fun b u hb q=>(Zm _ _ (Xt hb)).trans q) ⟨_,e⟩ ?_;exact⟨hz,its',n',r,e⟩
def Eo:V->V->V->Hp->(Hp->Prop)->Prop:=fun o i v H Q=>∃p xs k j,o=.ref p/\i=.int k/\H p=some (.lst xs)/\gZ xs.length k=some j/\Q (aD H p (.lst (xs.set j v)))
theorem OS:gU X Eo:=by
 intro pz s σ H o i v ov iv u Q I ro ri rv h;obtain⟨p,xs,k,j,rfl,rfl,hp,hj,q⟩:=h;cases ro;obtain⟨t,rfl⟩:=ri;obtain⟨its,n,r,ho,hz⟩:=I.lst hp;obtain⟨h1,h2,h3,h4⟩:=Fq hj;have hl:=r.length;have hn:=oF;have I':Inv X pz σ (aD H p (.lst (xs.set j v))) { s with heap:=s.heap.update p (Zl (·.setIfInBounds j u)) }:=I.lstUpd hp ho (Qz its n j u) (r.set rv j) (by rw[Zx];exact hz) s.toks;by_cases h0:0<=k
 .have hk:k.toNat=j:=by rw[QaE h0 h4]at h1;exact B_ h1
  exact W.ki_setAt ho h0 (by omega) (by rw[q_,<-hl];exact h4) (by rw[hk];exact⟨_,I',q⟩)
 .have hk:(k+(its.toArray.size:Int)).toNat=j:=by rw[seqIndex_neg (by omega) h3]at h1;rw[q_,<-hl];exact B_ h1
  exact W.ki_setBack ho (by omega) (by rw[q_,<-hl];exact h3) (by omega) (by rw[hk];exact⟨_,I',q⟩)
theorem RW(lo hi:Option Int)(n:Nat):(X_ lo hi none n).1=((HT.sIx n 0 lo:Nat):Int)/\(X_ lo hi none n).2.1=((HT.sIx n n hi:Nat):Int)/\(X_ lo hi none n).2.2=1:=by
 refine⟨?_,?_,rfl⟩
 .cases lo with
 |none=>simp[X_,HT.sIx]
 |some i=>
   simp only[X_,HT.sIx,Qax,show(1:Int)>0 by decide,if_true];by_cases h:i<0
   .simp only[h,if_true] <;> omega
   .simp only[h,if_false] <;> omega
 .cases hi with
 |none=>simp[X_,HT.sIx]
 |some i=>
   simp only[X_,HT.sIx,Qax,show(1:Int)>0 by decide,if_true];by_cases h:i<0
   .simp only[h,if_true] <;> omega
   .simp only[h,if_false] <;> omega
theorem Sh(its:List a_)(lo hi:Option Int):slicePick its.toArray lo hi none=((its.drop (HT.sIx its.length 0 lo)).take (HT.sIx its.length its.length hi-HT.sIx its.length 0 lo)).toArray:=by obtain⟨h1,h2,h3⟩:=RW lo hi its.toArray.size;unfold slicePick;rw[h1,h2,h3];simp only[sliceRange_one,pick_run,q_] <;> rfl
def CV(K:W.Frag):V->Option Int->Option Int->Hp->VK->Prop:=fun x lo hi H Q=>∃a xs,x=.ref a/\bM K H a xs/\∀p,H p=none->Q (.ref p) (aD H p (.lst (i6 xs lo hi)))
theorem Aj:jY X (CV X.K):=by intro pz s σ H x v vl vu lo hi sl Q I rx hs pl pu h;obtain⟨a,xs,rfl,hx,q⟩:=h;cases rx;obtain⟨its,r,ht,hz⟩:=I.list hx;have hlen:=r.length;refine⟨"list",_,Qal.lookup,ht.isList.typeIs,?_⟩;refine wpAny_getItem_list_slice ht.isList hs pl pu .none (by simp) ?_ (by rw[q_] <;> omega);rw[Sh,<-hlen];refine⟨.ref s.heap.objs.size,_,I.laid (t':=s.toks) (o:=.lst (i6 xs lo hi)) (fun b ob q=>c_ _ q) (w_ _) ?_,rfl,q _ (I.hok.fresh (w_ _))⟩;exact⟨VL (Io xs lo hi) hz,_,0,(r.drop (HT.sIx xs.length 0 lo)).take (HT.sIx xs.length xs.length hi-HT.sIx xs.length 0 lo),z_ _ rfl⟩
def gy:V->Bool
|.non=>true
|.bl _=>true
|.int _=>true
|.str _=>true
|_=>false
def i0:V->V->Bool
|.non,.non=>true
|.bl a,.bl b=>a==b
|.bl a,.int b=>(if a then 1 else 0)==b
|.int a,.bl b=>a==(if b then 1 else 0)
|.int a,.int b=>a==b
|.str a,.str b=>a==b
|_,_=>false
theorem KY{A:Vu}{s:f_}{y x:V}{u v:a_}(ry:aE y u)(rx:aE x v)(fy:gy y=true)(fx:gy x=true):SeqAt.EqAt A s u v (i0 y x):=by cases y with
|non=>cases ry;cases x with
 |non=>cases rx;exact SeqAt.EqAt.same _
 |bl b=>cases rx;exact SeqAt.EqAt.none_bool b
 |int b=>obtain⟨t,rfl⟩:=rx;exact SeqAt.EqAt.none_int b t
 |str b=>obtain⟨t,rfl⟩:=rx;exact SeqAt.EqAt.none_str b t
 |_=>exact absurd (show false=true from fx) k_
|bl a=>cases ry;cases x with
 |non=>cases rx;exact SeqAt.EqAt.bool_none a
 |bl b=>cases rx;exact SeqAt.EqAt.bool_bool a b
 |int b=>obtain⟨t,rfl⟩:=rx;exact SeqAt.EqAt.bool_int a b t
 |str b=>obtain⟨t,rfl⟩:=rx;exact SeqAt.EqAt.bool_str a b t
 |_=>exact absurd (show false=true from fx) k_
|int a=>obtain⟨t',rfl⟩:=ry;cases x with
 |non=>cases rx;exact SeqAt.EqAt.int_none a t'
 |bl b=>cases rx;exact SeqAt.EqAt.int_bool a t' b
 |int b=>obtain⟨t,rfl⟩:=rx;exact SeqAt.EqAt.int_int a t' b t
 |str b=>obtain⟨t,rfl⟩:=rx;exact Z5 a t' b t
 |_=>exact absurd (show false=true from fx) k_
|str a=>obtain⟨t',rfl⟩:=ry;cases x with
 |non=>cases rx;exact SeqAt.EqAt.str_none a t'
 |bl b=>cases rx;exact SeqAt.EqAt.str_bool a t' b
 |int b=>obtain⟨t,rfl⟩:=rx;exact Z6 a t' b t
 |str b=>obtain⟨t,rfl⟩:=rx;exact SeqAt.EqAt.str_str a t' b t
 |_=>exact absurd (show false=true from fx) k_
|_=>exact absurd (show false=true from fy) k_
def eB(x:V)(u:a_):Bool:=match u with
|.none=>i0 .non x
|.bool b=>i0 (.bl b) x
|.int i _=>i0 (.int i) x
|.str z _=>i0 (.str z) x
|_=>false
theorem tF{x y:V}{u:a_}(r:aE y u)(f:gy y=true):eB x u=i0 y x:=by cases y with
|non=>cases r;rfl
|bl b=>cases r;rfl
|int i=>obtain⟨t,rfl⟩:=r;rfl
|str z=>obtain⟨t,rfl⟩:=r;rfl
|_=>exact absurd (show false=true from f) k_
theorem qh{x:V}:∀{xs:List V}{us:List a_},ar xs us->xs.all gy=true->us.any (eB x)=xs.any fun y=>i0 y x
|_,_,.nil,_=>rfl
|y::xs,u::us,.cons r t,f=>by rw[WN,Vr]at f;rw[Xp,Xp,tF r f.1,qh t f.2]
theorem mR{A:Vu}{s:f_}{x:V}{v:a_}(rx:aE x v)(fx:gy x=true):∀{xs:List V}{us:List a_},ar xs us->xs.all gy=true->∀u∈us,SeqAt.EqAt A s u v (eB x u)
|_,_,.nil,_=>fun u hu=>by cases hu
|y::xs,u::us,.cons r t,f=>fun u' hu=>by
  rw[WN,Vr]at f;rcases m_.mp hu with rfl|hu
  .rw[tF r f.1];exact KY r rx f.1 fx
  .exact mR rx fx t f.2 u' hu
def xH(x:V)(xs:List V):Bool:=xs.any fun y=>i0 y x
def CY(K:W.Frag)(neg:Bool):R2:=fun x y H Q=>∃p xs,y=.ref p/\(bM K H p xs\/cJ K H p xs)/\gy x=true/\xs.all gy=true/\Q (.bl (if neg then ! xH x xs else xH x xs)) H
theorem Qn:bx X (Vs .In) (CY X.K false):=by
 intro pz s σ H x y v u Q I rx ry h;obtain⟨p,xs,rfl,hq,fx,fs,q⟩:=h;cases ry;rcases hq with hq|hq
 .obtain⟨its,r,pl,hz⟩:=I.list hq;refine SeqAt.in_listAt (eB x) pl.isList (fun w hw=>mR rx fx r fs w (by simpa using hw)) ⟨.bl _,H,I,rfl,?_⟩;rw[show its.toArray.any (eB x)=its.any (eB x)by simp,qh r fs];exact q
 .obtain⟨its,r,pl,hz⟩:=I.tuple hq;refine SeqAt.in_tupleAt (eB x) pl (fun w hw=>mR rx fx r fs w (by simpa using hw)) ⟨.bl _,H,I,rfl,?_⟩;rw[show its.toArray.any (eB x)=its.any (eB x)by simp,qh r fs];exact q
theorem RM:bx X (Vs .NotIn) (CY X.K true):=by
 intro pz s σ H x y v u Q I rx ry h;obtain⟨p,xs,rfl,hq,fx,fs,q⟩:=h;cases ry;rcases hq with hq|hq
 .obtain⟨its,r,pl,hz⟩:=I.list hq;refine SeqAt.notIn_listAt (eB x) pl.isList (fun w hw=>mR rx fx r fs w (by simpa using hw)) ⟨.bl _,H,I,rfl,?_⟩;rw[show its.toArray.any (eB x)=its.any (eB x)by simp,qh r fs];exact q
 .obtain⟨its,r,pl,hz⟩:=I.tuple hq;refine SeqAt.notIn_tupleAt (eB x) pl (fun w hw=>mR rx fx r fs w (by simpa using hw)) ⟨.bl _,H,I,rfl,?_⟩;rw[show its.toArray.any (eB x)=its.any (eB x)by simp,qh r fs];exact q
theorem RN:bx X (Vs .NotIn) (fun x y H Q=>∃i j,x=.str i/\y=.str j/\Q (.bl (!(!(WA j i 0 j.length 1).isEmpty))) H):=by intro pz s σ H x y v u Q I rx ry h;obtain⟨i,j,rfl,rfl,q⟩:=h;obtain⟨t,rfl⟩:=rx;obtain⟨t',rfl⟩:=ry;exact notIn_str ⟨.bl _,H,I,rfl,q⟩
theorem eY.or{f:a_}{r r':List V->Hp->VK->Prop}(h:eY X f r)(h':eY X f r'):eY X f (fun xs H Q=>r xs H Q\/r' xs H Q):=by
 intro pz s σ H xs us Q I rs q;rcases q with q|q
 .exact h pz s σ H xs us Q I rs q
 .exact h' pz s σ H xs us Q I rs q
theorem Ri:eY X (.type "list") (fun xs H Q=>∃p ys,xs=[.ref p]/\(bM X.K H p ys\/cJ X.K H p ys)/\∀l,H l=none->Q (.ref l) (aD H l (.lst ys))):=by
 intro pz s σ H xs us Q I r h;obtain⟨p,ys,rfl,hq,q⟩:=h;obtain⟨u,rfl,rx⟩:=gV r;cases rx;have fin:∀(its:List a_),ar ys its->ys.length<=sizeLine->∀(h':Heap)(c':Nat),(∀b o',s.heap.get? b=some o'->h'.get? b=some o') ->h'.get? s.heap.objs.size=some { cls:=.type "list",dict:=none,data:=.seq its.toArray c',slots:=#[] }->EP X pz σ Q (.ref s.heap.objs.size) { s with heap:=h' }:=fun its r' hz h' c' kp e=>⟨.ref s.heap.objs.size,_,I.laid (t':=s.toks) kp (w_ _) (show cp X.prog X.w _ h' _ (.lst ys)from⟨hz,its,c',r',e⟩),rfl,q _ (I.hok.fresh (w_ _))⟩
 rcases hq with hq|hq
 .obtain⟨its,r',pl,hz⟩:=I.list hq;have hlen:=r'.length;obtain⟨o,ho,hc,n,hd⟩:=pl.isList;exact call_list_seq p (.inl rfl) ho hc hd (fun h' c' kp e=>fin its r' hz h' c' kp e) (by simp only[q_] <;> omega)
 .obtain⟨its,r',pl,hz⟩:=I.tuple hq;have hlen:=r'.length;obtain⟨o,ho,hc,n,hd⟩:=pl;exact call_list_seq p (.inr rfl) ho hc hd (fun h' c' kp e=>fin its r' hz h' c' kp e) (by simp only[q_] <;> omega)
theorem RH:eY X (.type "tuple") (fun xs H Q=>∃p ys,xs=[.ref p]/\((bM X.K H p ys/\∀l,H l=none->Q (.ref l) (aD H l (.tup ys)))\/(cJ X.K H p ys/\Q (.ref p) H))):=by
 intro pz s σ H xs us Q I r h;obtain⟨p,ys,rfl,h⟩:=h;obtain⟨u,rfl,rx⟩:=gV r;cases rx;rcases h with⟨hq,q⟩|⟨hq,q⟩
 .obtain⟨its,r',pl,hz⟩:=I.list hq;have hlen:=r'.length;refine call_tuple_list pl.isList (fun h' kp=>?_) (by simp only[q_] <;> omega);have I1:Inv X pz σ H { s with heap:=h' }:=I.kept (t':=s.toks) kp;have I2:Inv X pz σ (aD H h'.objs.size (.tup ys)) { s with heap:=h'.push { cls:=.type "tuple",data:=.seq its.toArray } }:=I1.laid (t':=s.toks) (fun b o e=>c_ _ e) (w_ _) (show cp X.prog X.w _ _ _ (.tup ys)from⟨hz,its,r',Qbi _ _,_,z_ _ rfl,rfl⟩);exact⟨.ref h'.objs.size,_,I2,rfl,q _ (I1.hok.fresh (w_ _))⟩
 .obtain⟨its,r',pl,hz⟩:=I.tuple hq;exact call_tuple_same pl ⟨.ref p,H,I,rfl,q⟩
def nq(K:W.Frag)(T:String)(x:V)(H:Hp):Prop:=match x with
|.str _=>T = "str"
|.int _=>T = "int"
| .ref p=>(T = "list"/\∃xs,bM K H p xs)\/(T = "tuple"/\((∃o,K.lookup p=some o/\o.cls=.type "tuple"/\o.dict=none)\/∃xs,Rd H p (.tup xs))) \/
   (T = "dict"/\((∃kvs,Rd H p (.dK kvs))\/∃kvs,H p=some (.dT kvs)))\/(T = "set"/\∃S n,H p=some (.set S n))
|_=>False
theorem E4{pz:List (Addr×Obj)}{σ:St}{H:Hp}{s:f_}{T:String}{x:V}{v:a_}(I:Inv X pz σ H s)(r:aE x v)(ty:nq X.K T x H):s.TypeIs v T/\∀a,v=.ref a->∃ob,s.heap.get? a=some ob/\ob.dict=none:=by cases x with
|str z=>obtain⟨t,rfl⟩:=r;cases(show T = "str" from ty);exact⟨typeIs_str s z t,fun _ e=>nomatch e⟩
|int i=>obtain⟨t,rfl⟩:=r;cases(show T = "int" from ty);exact⟨typeIs_int s i t,fun _ e=>nomatch e⟩
|ref p=>
  cases r;rcases ty with⟨rfl,xs,hq⟩|⟨rfl,⟨o,hk,hc,hd⟩|⟨xs,hq⟩⟩|⟨rfl,hk⟩|⟨rfl,S,n,hk⟩
  .obtain⟨its,_,pl,_⟩:=I.list hq;refine⟨pl.isList.typeIs,fun a e=>?_⟩;cases e;obtain⟨o,n,e,c,hd,_⟩:=pl;exact⟨o,e,hd⟩
  .refine⟨⟨o,I.kIn p o hk,hc⟩,fun a e=>?_⟩;cases e;exact⟨o,I.kIn _ o hk,hd⟩
  .obtain⟨_,its,_,⟨o,ho,hc,_⟩,o2,Y,U⟩:=hq.ok I.hok;refine⟨⟨o,ho,hc⟩,fun a e=>?_⟩;cases e;exact⟨o2,Y,U⟩
  .have z:∃o,s.heap.get? p=some o/\o.ExactDict:=by
    rcases hk with⟨kvs,hk⟩|⟨kvs,hk⟩
    .obtain⟨_,_,_,_,o,_,_,e,ex,_⟩:=(show cp X.prog X.w H s.heap p (.dK kvs)from hk.ok I.hok)
     exact⟨o,e,ex⟩
    .obtain⟨_,_,_,_,o,_,_,e,ex,_⟩:=I.hok p _ hk;exact⟨o,e,ex⟩
   obtain⟨o,e,ex⟩:=z;refine⟨⟨o,e,ex.1⟩,fun a e2=>?_⟩;cases e2;exact⟨o,e,ex.2.1⟩
  .obtain⟨o,_,_,_,e,ex,_⟩:=I.hok p _ hk;refine⟨⟨o,e,ex.1⟩,fun a e2=>?_⟩;cases e2;exact⟨o,e,ex.2.1⟩
|_=>exact VC ty
def CL(K:W.Frag)(T:String)(r:V->List V->Hp->VK->Prop)(to:TE):TE:=fun σ H Q=>to σ H fun x H1=>nq K T x H1/\r x [] H1 Q
def SU(K:W.Frag)(T:String)(r:V->List V->Hp->VK->Prop)(to:TE)(t:TA):TE:=fun σ H Q=>to σ H fun x H1=>nq K T x H1/\t σ H1 fun xs H2=>r x xs H2 Q
variable{o:Expr}{es:List Expr}{to:TE}{t:TA}{name:Str}{apos cpos:Pos}{T id:String}{r:V->List V->Hp->VK->Prop}
theorem Li(pa:Zn T)(slot:Slot T name id)(Y:QaX (.builtin id)=pure (.type "method_descriptor"))(hm:lv X id r)(ho:PE X o to)(z:W3 o name X.env (eval o X.env)=eval o X.env:=by rfl)(U:(apos.endLine==cpos.line)=true:=by rfl):PE X (.Call (.Attribute o name apos) [] [] cpos) (CL X.K T r to):=by intro pz s σ H Q I h;refine wpAny_Call_method0_late z U (aX (ho pz s σ H _ I h) fun v s1 ⟨x,H1,I1,r1,ty,q1⟩=>?_);obtain⟨h1,h2⟩:=E4 I1 r1 ty;exact⟨T,id,pa,slot,Y,h1,h2,Ye rfl (PySem.evalArgs_none (hm pz s1 σ H1 x [] v [] Q I1 r1 .nil q1))⟩
theorem D7(pa:Zn T)(slot:Slot T name id)(ac:QaX (.builtin id)=pure (.type "method_descriptor"))(hm:lv X id r)(ho:PE X o to)(ha:PA X (e::es) t)(U:W3 o name X.env (eval o X.env)=eval o X.env:=by rfl)(Z:((backTo cpos (i_ (e::es) X.env)).all (fun x=>! x.1)&&(Y_ cpos (X8 [] X.env)).all (fun x=>x.1.isSome)
   && decide ((e::es).length+([]:List Qam).length+(if ([]:List Qam).isEmpty then 0 else 1)<30))=true:=by rfl)(Y:(apos.endLine==cpos.line)=true:=by rfl)(hs:i_ (e::es) X.env=(false,eval e X.env)::i_ es X.env:=by rfl)(z:(backTo cpos (i_ es X.env)).any (·.1)=false:=by rfl):PE X (.Call (.Attribute o name apos) (e::es) [] cpos) (SU X.K T r to t):=by intro pz s σ H Q I h;refine wpAny_Call_method_late U Z Y rfl (aX (ho pz s σ H _ I h) fun v s1 ⟨x,H1,I1,r1,ty,q1⟩=>?_);obtain⟨h1,h2⟩:=E4 I1 r1 ty;refine⟨T,id,pa,slot,ac,h1,h2,?_⟩;have hA:=ha cpos pz s1 σ H1 _ I1 q1;rw[hs]at hA ⊢;refine Ye (by show(false || (backTo cpos (i_ es X.env)).any (·.1))=false;rw[z] <;> rfl) (ZF ?_);exact aX hA fun us s2 ⟨vs,H2,I2,r2,q2⟩=>hm pz s2 σ H2 x vs v us Q I2 r1 r2 q2
end
def Jz(X:Cx)(id:String)(r:V->List V->Hp->VK->Prop):Prop:=∀(pz:List (Addr×Obj))(s:f_)(σ:St)(H:Hp)(x:V)(xs:List V)(v:a_)(us:List a_)(Q:VK),Inv X pz σ H s->aE x v->ar xs us->r x xs H Q ->u_ (D_ X.prog X.w) X.A (call (.builtin id) (v::us)) (EP X pz σ Q) X.xe s
theorem ar.one{x:V}{us:List a_}(h:ar [x] us):∃u,us=[u]/\aE x u:=by cases h with
|cons r t=>cases t;exact⟨_,rfl,r⟩
theorem ar.zero:∀{us:List a_},ar [] us->us=[]
|_,.nil=>rfl
theorem ar.dropLast{xs:List V}{us:List a_}(h:ar xs us):ar xs.dropLast us.dropLast:=by induction h with
|nil=>exact .nil
|cons r t ih=>cases t with
 |nil=>exact .nil
 |cons q t'=>exact .cons r ih
theorem ar.eraseIdx:∀{xs:List V}{us:List a_}(i:Nat),ar xs us->ar (xs.eraseIdx i) (us.eraseIdx i)
|_,_,_,.nil=>.nil
|_,_,0,.cons _ t=>t
|_,_,i+1,.cons r t=>.cons r (ar.eraseIdx i t)
theorem Q0{α:Type}(l:List α):l.eraseIdx (l.length-1)=l.dropLast:=by induction l with
|nil=>rfl
|cons a r ih=>cases r with
 |nil=>rfl
 |cons b r=>
   have e:(a::b::r).length-1=((b::r).length-1)+1:=by have h1:(a::b::r).length=r.length+2:=rfl;have h2:(b::r).length=r.length+1:=rfl;omega
   rw[e,List.eraseIdx_cons_succ,ih]
   all_goals rfl
variable{pz:List (Addr×Obj)}{σ:St}{H:Hp}{s:f_}
section
variable{l b:Addr}{xs ys zs:List V}
theorem Inv.lset{its its':List a_}{n:Nat}{f:Array a_->Array a_}{t':Nat}(I:Inv X pz σ H s)(hH:H l=some (.lst xs))(e:s.heap.get? l=some { cls:=.type "list",data:=.seq its.toArray n })(hf:f its.toArray=its'.toArray)(hv:ar ys its')(hz:ys.length<=sizeLine):Inv X pz σ (aD H l (.lst ys)) { s with heap:=s.heap.update l (Zl f),toks:=t' }:=by have q:=PySem.IsL.update e f;rw[hf]at q;refine I.write (x:=l) (e:=l) (by rw[hH];exact trivial) (.inl rfl) (fun b' u hb hu=>(Zm s.heap (Zl f) (Xt hb)).trans hu) ⟨_,q⟩ ?_;exact⟨hz,its',_,hv,q⟩
theorem Inv.lnew{its:List a_}{t':Nat}(I:Inv X pz σ H s)(hv:ar ys its)(hz:ys.length<=sizeLine):Inv X pz σ (aD H s.heap.objs.size (.lst ys)) { s with heap:=s.heap.push { cls:=.type "list",data:=.seq its.toArray },toks:=t' }:=I.laid (fun _ _ q=>c_ _ q) (w_ _) ⟨hz,its,0,hv,z_ _ rfl⟩
theorem Inv.fresh(I:Inv X pz σ H s):H s.heap.objs.size=none:=I.hok.fresh (w_ _)
theorem Inv.lstM(I:Inv X pz σ H s)(hH:H l=some (.lst xs)):xs.length<=sizeLine/\∃(its:List a_)(n:Nat),ar xs its/\xs.length=its.length/\s.heap.get? l=some { cls:=.type "list",data:=.seq its.toArray n }:=by obtain⟨z,its,n,r,e⟩:=I.hok l _ hH;exact⟨z,its,n,r,r.length,e⟩
end
def F0:V->List V->Hp->VK->Prop:=fun x vs H Q=>∃l xs y,x=.ref l/\vs=[y]/\H l=some (.lst xs)/\xs.length<sizeLine/\Q .non (aD H l (.lst (xs++[y])))
theorem mU:Jz X "list.append" F0:=by intro pz s σ H x vs v us Q I rx rv h;obtain⟨l,xs,y,rfl,rfl,hH,hz,q⟩:=h;cases rx;obtain⟨u,rfl,ru⟩:=rv.one;obtain⟨z,its,n,r,hl,e⟩:=I.lstM hH;refine YK F.slot_list_append ⟨_,e,rfl⟩ F.entry_list_append (F.args_list_append_2 _ _) (PySem.list_append l its.toArray n u (by rw[q_];omega)) ⟨e,?_⟩;refine⟨.non,_,I.lset (its':=its++[u]) hH e (by simp) (r.append (.cons ru .nil)) ?_,rfl,q⟩;rw[U_,Yi];omega
def rX:V->List V->Hp->VK->Prop:=fun x vs H Q=>∃l xs y,x=.ref l/\vs=[]/\H l=some (.lst xs)/\xs[xs.length-1]? = some y/\Q y (aD H l (.lst xs.dropLast))
theorem LF:Jz X "list.pop" rX:=by
 intro pz s σ H x vs v us Q I rx rv h;obtain⟨l,xs,y,rfl,rfl,hH,hy,q⟩:=h;cases rx;have U:=rv.zero;subst U;obtain⟨z,its,n,r,hl,e⟩:=I.lstM hH;obtain⟨u,hu,ru⟩:=r.get hy;have Y:its.toArray[its.toArray.size-1]? = some u:=by show its.toArray[its.length-1]? = some u;rw[<-Xr,<-hl];exact hu
 refine YK F.slot_list_pop ⟨_,e,rfl⟩ F.entry_list_pop (F.args_list_pop_1 _) (MeetsSeq.list_pop_last l its.toArray n u Y (by rw[q_];omega)) ⟨e,?_⟩;refine⟨y,_,I.lset (its':=its.dropLast) hH e ?_ r.dropLast ?_,ru,q⟩
 .show its.toArray.eraseIdxIfInBounds (its.toArray.size-1)=its.dropLast.toArray;rw[q_,List.eraseIdxIfInBounds_toArray,Q0]
 .rw[List.length_dropLast];omega
section
variable{κ:Type}[DecidableEq κ]
def dz(kvs:List (κ×V))(k:κ):Option V:=(kvs.find? fun kv=>decide (kv.1=k)).map (·.2)
def dJ(kvs:List (κ×V))(k:κ)(v:V):List (κ×V):=if (kvs.any fun kv=>decide (kv.1=k))=true then kvs.map (fun kv=>if kv.1=k then(kv.1,v)else kv)else kvs++[(k,v)]
theorem uN{p:κ×V}{r:List (κ×V)}{k:κ}(e:p.1=k):dz (p::r) k=some p.2:=by simp[dz,Vt,e]
theorem qk{p:κ×V}{r:List (κ×V)}{k:κ}(e:¬ p.1=k):dz (p::r) k=dz r k:=by simp[dz,Vt,e]
theorem GK(k:κ):∀kvs:List (κ×V),(kvs.any fun kv=>decide (kv.1=k))=(dz kvs k).isSome
|[]=>rfl
|p::r=>by
  rw[Xp];by_cases e:p.1=k
  .simp only[uN e,decide_eq_true e,Bool.true_or,Option.isSome_some]
  .rw[qk e,decide_eq_false e,Qbf];exact GK k r
theorem Ik(kvs:List (κ×V))(k:κ)(v:V):(dJ kvs k v).length<=kvs.length+1:=by
 unfold dJ;split
 .rw[g_];omega
 .rw[U_,Q_,QaJ];omega
theorem c8.isSome_eq{o:Option V}{u:Option a_}(r:c8 o u):o.isSome=u.isSome:=by cases o with
|none=>cases u with
 |none=>rfl
 |some _=>exact(show False from r).elim
|some _=>cases u with
 |none=>exact(show False from r).elim
 |some _=>rfl
theorem KV.val{kvs:List (κ×V)}{vs:List (κ×a_)}(r:KV kvs vs)(k:κ):c8 (dz kvs k) (ZT vs k):=by
 unfold KV at r
 induction r with
|nil=>exact True.intro
|@cons p q ps qs h t ih=>
  obtain⟨h1,h2⟩:=h;by_cases e:p.1=k
  .have e':q.1=k:=h1.symm.trans e;have b:ZT (q::qs) k=some q.2:=by simp[ZT,Vt,e']
   rw[uN e,b];exact h2
  .have e':¬ q.1=k:=fun z=>e (h1.trans z);have b:ZT (q::qs) k=ZT qs k:=by simp[ZT,Vt,e']
   rw[qk e,b];exact ih
theorem KV.any{kvs:List (κ×V)}{vs:List (κ×a_)}(r:KV kvs vs)(k:κ):(kvs.any fun kv=>decide (kv.1=k))=vs.any fun kv=>decide (kv.1=k):=by
 unfold KV at r
 induction r with
|nil=>rfl
|cons h t ih=>rw[Xp,Xp,ih,h.1]
theorem KV.repl{kvs:List (κ×V)}{vs:List (κ×a_)}(r:KV kvs vs)(k:κ){y:V}{u:a_}(ry:aE y u):KV (kvs.map fun kv=>if kv.1=k then(kv.1,y)else kv) (vs.map fun kv=>if kv.1=k then(kv.1,u)else kv):=by
 unfold KV at r ⊢
 induction r with
|nil=>exact .nil
|@cons p q ps qs h t ih=>
  rw[Vq,Vq];refine .cons ?_ ih;obtain⟨h1,h2⟩:=h;by_cases e:p.1=k
  .rw[if_pos e,if_pos (h1.symm.trans e)];exact⟨h1,ry⟩
  .rw[if_neg e,if_neg (fun z=>e (h1.trans z))];exact⟨h1,h2⟩
theorem KV.put{kvs:List (κ×V)}{vs:List (κ×a_)}(r:KV kvs vs)(k:κ){y:V}{u:a_}(ry:aE y u):KV (dJ kvs k y) (stored vs k u):=by
 unfold dJ stored;rw[r.any k];by_cases e:(vs.any fun kv=>decide (kv.1=k))=true
 .rw[if_pos e,if_pos e];exact r.repl k ry
 .rw[if_neg e,if_neg e];exact Paired.snoc r ⟨rfl,ry⟩
theorem KV.length{kvs:List (κ×V)}{vs:List (κ×a_)}(r:KV kvs vs):kvs.length=vs.length:=Paired.length r
end
theorem pM{P:E_}{w:T_}{k:aY}{u:a_}(r:aE (kV k) u):(gW P w).is k u=true:=by cases k with
|inl i=>obtain⟨t,e⟩:=(show ∃t,u=Value.int i t from r);subst e;exact Rp P w i t
|inr x=>obtain⟨t,e⟩:=(show ∃t,u=Value.str x t from r);subst e;exact Rq P w x t
theorem Hw{P:E_}{w:T_}:∀{ks:List aY}{us:List a_},ar (ks.map kV) us->ItemsAre (gW P w) ks us
|[],_,r=>by rw[Qak]at r;cases r;exact .nil
|k::ks,_,r=>by rw[Vq]at r;cases r with
 |cons h t=>exact .cons (pM h) (Hw t)
abbrev KT(H:Hp):List (List aY×V)->List (List aY×Addr×a_)->Prop:=Paired fun p q=>p.1=q.1/\H q.2.1=some (.tup (p.1.map kV))/\aE p.2 q.2.2
theorem KT.val{H:Hp}{kvs:List (List aY×V)}{xs:List (List aY×Addr×a_)}(r:KT H kvs xs)(k:List aY):c8 (dz kvs k) ((QaF xs k).map (·.2)):=by induction r with
|nil=>exact True.intro
|@cons p q ps qs h t ih=>
  obtain⟨h1,_,h2⟩:=h;by_cases e:p.1=k
  .have e':q.1=k:=h1.symm.trans e;have b:QaF (q::qs) k=some q.2:=by simp[QaF,Vt,e']
   rw[uN e,b];exact h2
  .have e':¬ q.1=k:=fun z=>e (h1.trans z);have b:QaF (q::qs) k=QaF qs k:=by simp[QaF,Vt,e']
   rw[qk e,b];exact ih
theorem KT.repl{H:Hp}{kvs:List (List aY×V)}{xs:List (List aY×Addr×a_)}(r:KT H kvs xs)(k:List aY){y:V}{u:a_}(ry:aE y u):KT H (kvs.map fun kv=>if kv.1=k then(kv.1,y)else kv) (xs.map (putAt k u)):=by induction r with
|nil=>exact .nil
|@cons p q ps qs h t ih=>
  rw[Vq,Vq];refine .cons ?_ ih;obtain⟨h1,h2,h3⟩:=h;unfold putAt;by_cases e:p.1=k
  .rw[if_pos e,if_pos (h1.symm.trans e)];exact⟨h1,h2,ry⟩
  .rw[if_neg e,if_neg (fun z=>e (h1.trans z))];exact⟨h1,h2,h3⟩
theorem KT.put{H:Hp}{kvs:List (List aY×V)}{xs:List (List aY×Addr×a_)}(r:KT H kvs xs)(k:List aY){b:Addr}{y:V}{u:a_}(hb:H b=some (.tup (k.map kV)))(ry:aE y u):KT H (dJ kvs k y) (storedH xs k b u):=by
 have e:(kvs.any fun kv=>decide (kv.1=k))=(QaF xs k).isSome:=by rw[GK,(r.val k).isSome_eq,YX]
 unfold dJ storedH;rw[e];by_cases q:(QaF xs k).isSome=true
 .rw[if_pos q,if_pos q];exact r.repl k ry
 .rw[if_neg q,if_neg q];exact Paired.snoc r ⟨rfl,hb,ry⟩
theorem KT.keeps{H H':Hp}{kvs:List (List aY×V)}{xs:List (List aY×Addr×a_)}(r:KT H kvs xs)(ht:∀b ys,H b=some (.tup ys)->H' b=some (.tup ys)):KT H' kvs xs:=Paired.mapP r fun _ _ z=>⟨z.1,ht _ _ z.2.1,z.2.2⟩
variable{a:Addr}
section
variable{P:E_}{w:T_}{h:Heap}
theorem Ep{u:HO}(ok:cS P w H h)(e:Rd H a u):cp P w H h a u:=e.ok ok
theorem oa{kvs:List (aY×V)}(ok:cS P w H h)(e:Rd H a (.dK kvs)):kvs.length<=sizeLine/\(a==Xh)=false/\∃vs,KV kvs vs/\h.DictOf (gW P w) a vs:=show cp P w H h a (.dK kvs)from Ep ok e
theorem Kd{kvs:List (aY×V)}(ok:cS P w H h)(e:H a=some (.dK kvs)):kvs.length<=sizeLine/\(a==Xh)=false/\∃vs,KV kvs vs/\h.DictOf (gW P w) a vs:=oa ok (.inl e)
theorem qc{ks:List aY}(ok:cS P w H h)(e:H a=some (.tup (ks.map kV))):(ZQ (gW P w)).is h ks a:=by
 obtain⟨_,its,r,⟨o,h1,h2,n,h3⟩,_⟩:=(show cp P w H h a (.tup (ks.map kV))from ok a _ e)
 exact⟨o,its.toArray,n,h1,h2,h3,by simpa using Hw r⟩
theorem pP{kvs:List (List aY×V)}(ok:cS P w H h)(e:Rd H a (.dT kvs)):kvs.length<=sizeLine/\(a==Xh)=false /\∃xs,KT H kvs xs/\h.DictOfH (ZQ (gW P w)) a xs:=by
 obtain⟨z,y,xs,r,o,es,ep,h1,h2,h3,h4,h5⟩:=(show cp P w H h a (.dT kvs)from Ep ok e)
 refine⟨z,y,xs,r,o,es,ep,h1,h2,h3,h4,fun x hx=>?_,h5⟩;have all:∀{l:List (List aY×V)}{m:List (List aY×Addr×a_)},KT H l m->∀x∈m,(ZQ (gW P w)).is h x.1 x.2.1:=by
  intro l m q
  induction q with
 |nil=>intro x hx;exact nomatch hx
 |@cons p q ps qs hq t ih=>
   intro x hx;rcases m_.mp hx with e|hx
   .subst e;exact qc ok (by rw[<-hq.1];exact hq.2.1)
   .exact ih x hx
 exact all r x hx
theorem Ke{kvs:List (List aY×V)}(ok:cS P w H h)(e:H a=some (.dT kvs)):kvs.length<=sizeLine/\(a==Xh)=false /\∃xs,KT H kvs xs/\h.DictOfH (ZQ (gW P w)) a xs:=pP ok (.inl e)
end
def i9(H:Hp)(a:Addr)(y:V)(r:Option V):Prop:=(∃kvs k,Rd H a (.dK kvs)/\y=kV k/\r=dz kvs k)\/∃kvs k b,Rd H a (.dT kvs)/\y=.ref b/\H b=some (.tup (k.map kV))/\r=dz kvs k
def j7(H:Hp)(a:Addr)(y v:V)(H':Hp):Prop:=(∃kvs k,H a=some (.dK kvs)/\y=kV k/\kvs.length<sizeLine/\H'=aD H a (.dK (dJ kvs k v))) \/∃kvs k b,H a=some (.dT kvs)/\y=.ref b/\H b=some (.tup (k.map kV))/\kvs.length<sizeLine/\H'=aD H a (.dT (dJ kvs k v))
theorem j7.k{H:Hp}{a:Addr}{kvs:List (aY×V)}{k:aY}{v:V}(e:H a=some (.dK kvs))(hl:kvs.length<sizeLine):j7 H a (kV k) v (aD H a (.dK (dJ kvs k v))):=.inl ⟨kvs,k,e,rfl,hl,rfl⟩
variable{u:a_}{A:Vu}{E:a_->f_->Prop}
section
variable{y v:V}{r:a_}{o:Option V}
theorem Inv.big(I:Inv X pz σ H s):Xh<s.heap.objs.size:=by have h:Vv<s.heap.objs.size:=(I.mod.glob.keeps I.bk).lt;exact Nat.lt_trans (by decide) h
theorem P6{Q:a_->f_->Prop}(hu:A.units+1<Xb)(I:Inv X pz σ H s)(g:i9 H a y (some v))(ry:aE y u)(h:∀w' s',Inv X pz σ H s'->aE v w'->Q w' s'):u_ (D_ X.prog X.w) A (Zi (.ref a) u) Q E s:=by
 rcases g with⟨kvs,k,e,ey,l⟩|⟨kvs,k,b,e,ey,eb,l⟩
 .subst ey;obtain⟨z,hd,vs,U,dd⟩:=oa I.hok e;obtain⟨w',hw,rw'⟩:=c8.some_of (v:=v) (o:=ZT vs k) (by rw[l];exact U.val k);exact wpAny_getItem_of (pM ry) dd.mapOf hw (h w' _ (I.tok _) rw')
 .subst ey;cases(show u=Value.ref b from ry);obtain⟨z,hd,xs,U,dd⟩:=pP I.hok e;obtain⟨w',hw,rw'⟩:=c8.some_of (v:=v) (o:=(QaF xs k).map (·.2)) (by rw[l];exact U.val k);obtain⟨p,hp,Y⟩:=Zo.mp hw;refine wpAny_getItem_heap (X4 hu) (qc I.hok eb) dd hp ?_;rw[Y];exact h w' _ (I.tok _) rw'
theorem Dk{Q:a_->f_->Prop}(hu:A.units+1<Xb)(I:Inv X pz σ H s)(g:i9 H a y o)(ry:aE y u)(h:∀s',Inv X pz σ H s'->Q (.bool o.isSome) s'):u_ (D_ X.prog X.w) A (Vs .In u (.ref a)) Q E s:=by
 rcases g with⟨kvs,k,e,ey,l⟩|⟨kvs,k,b,e,ey,eb,l⟩
 .subst ey;obtain⟨z,hd,vs,U,dd⟩:=oa I.hok e;refine wpAny_in_of (pM ry) hd dd.mapOf ?_;rw[<-(U.val k).isSome_eq,<-l];exact h _ (I.tok _)
 .subst ey;cases(show u=Value.ref b from ry);obtain⟨z,hd,xs,U,dd⟩:=pP I.hok e;refine wpAny_in_heap (X4 hu) (qc I.hok eb) hd dd ?_;have q:=(U.val k).isSome_eq;rw[YX]at q;rw[<-q,<-l];exact h _ (I.tok _)
theorem Na{Q:a_->f_->Prop}(hu:A.units+1<Xb)(I:Inv X pz σ H s)(g:i9 H a y o)(ry:aE y u)(h:∀s',Inv X pz σ H s'->Q (.bool (! o.isSome)) s'):u_ (D_ X.prog X.w) A (Vs .NotIn u (.ref a)) Q E s:=by
 rcases g with⟨kvs,k,e,ey,l⟩|⟨kvs,k,b,e,ey,eb,l⟩
 .subst ey;obtain⟨z,hd,vs,U,dd⟩:=oa I.hok e;refine wpAny_notIn_of (pM ry) hd dd.mapOf ?_;rw[<-(U.val k).isSome_eq,<-l];exact h _ (I.tok _)
 .subst ey;cases(show u=Value.ref b from ry);obtain⟨z,hd,xs,U,dd⟩:=pP I.hok e;refine wpAny_notIn_heap (X4 hu) (qc I.hok eb) hd dd ?_;have q:=(U.val k).isSome_eq;rw[YX]at q;rw[<-q,<-l];exact h _ (I.tok _)
theorem Fy{h':Heap}{t':Nat}{ob:HO}(I:Inv X pz σ H s)(mu:sE (H a))(hs:YB a s.heap h')(he:∃q,h'.get? a=some q)(new:cp X.prog X.w (aD H a ob) h' a ob):Inv X pz σ (aD H a ob) { s with heap:=h',toks:=t' }:=I.write (x:=a) (e:=a) mu (.inl rfl) (fun b q hb z=>(hs.2 b hb).trans z) he new
theorem KU{P:E_}{w:T_}{H':Hp}{h':Heap}{kvs:List (aY×V)}{vs:List (aY×a_)}(z:kvs.length<=sizeLine)(hd:(a==Xh)=false)(U:KV kvs vs)(dd:h'.DictOf (gW P w) a vs):cp P w H' h' a (.dK kvs):=⟨z,hd,vs,U,dd⟩
theorem P7{H':Hp}{Q:Unit->f_->Prop}(hu:A.units+1<Xb)(I:Inv X pz σ H s)(g:j7 H a y v H')(ry:aE y u)(rv:aE v r)(h:∀s',Inv X pz σ H' s'->Q () s'):u_ (D_ X.prog X.w) A (setItem (.ref a) u r) Q E s:=by
 rcases g with⟨kvs,k,e,ey,l,eH⟩|⟨kvs,k,b,e,ey,eb,l,eH⟩
 .subst ey eH;obtain⟨z,hd,vs,U,dd⟩:=Kd I.hok e;have hz:vs.length<=sizeLine:=by rw[<-U.length];exact z
  have hl:(dJ kvs k v).length<=sizeLine:=by have:=Ik kvs k v;omega
  refine wpAny_setItem_pairs (hsz:=hz) (pM ry) dd fun h' Y hs=>h _ ?_;have he:∃q,h'.get? a=some q:=let⟨q,_,_,hq,_⟩:=Y;⟨q,hq⟩;exact Fy I (by rw[e];exact True.intro) hs he (KU hl hd (U.put k rv) Y)
 .subst ey eH;cases(show u=Value.ref b from ry);obtain⟨z,hd,xs,U,dd⟩:=Ke I.hok e;have hz:xs.length<=sizeLine:=by rw[<-Paired.length U];exact z
  have hl:(dJ kvs k v).length<=sizeLine:=by have:=Ik kvs k v;omega
  refine wpAny_setItem_heap (hsz:=hz) (X4 hu) (qc I.hok eb) dd fun h' Y hs=>h _ ?_;obtain⟨q,es,ep,hq,h2,h3,h4,_,h5⟩:=Y;refine Fy I (by rw[e];exact True.intro) hs ⟨q,hq⟩ ⟨hl,hd,_,(U.put k eb rv).keeps fun c ys ec=>?_,q,es,ep,hq,h2,h3,h4,h5⟩;rw[bg (JI ec e (fun z=>nomatch z))];exact ec
end
section
variable{kvs:List (aY×V)}{k:aY}
theorem Kc{Q:a_->f_->Prop}(I:Inv X pz σ H s)(e:Rd H a (.dK kvs))(h:∀t s',Inv X pz σ H s'->Q (.int kvs.length t) s'):u_ (D_ X.prog X.w) A (call (.builtin "len") [.ref a]) Q E s:=by obtain⟨z,hd,vs,U,dd⟩:=oa I.hok e;refine call_len_dict hd dd (by rw[<-U.length];rw[Vw]at z;omega) ?_;rw[<-U.length];exact h _ _ (I.tok _)
end
theorem RD{X:Cx}{pz:List (Addr×Obj)}{σ:St}{H:Hp}{s:f_}{a:Addr}{y:V}{o:Option V}(I:Inv X pz σ H s)(g:i9 H a y o):s.TypeIs (.ref a) "dict" := by
 rcases g with⟨kvs,k,e,_,_⟩|⟨kvs,k,b,e,_,_,_⟩
 .obtain⟨_,_,vs,_,dd⟩:=oa I.hok e;exact dd.typeIs
 .obtain⟨_,_,xs,_,dd⟩:=pP I.hok e;exact dd.typeIs
theorem Oe{P:E_}{w:T_}{H:Hp}(h:Heap)(hb:Xh<h.objs.size):cp P w H (h.push { cls:=.type "dict",data:=.dict #[] }) h.objs.size (.dK []):=⟨VM _,beq_eq_false_iff_ne.mpr (Xt (J_ hb)),[],.nil,Heap.DictOf.new h⟩
def L9:TE:=fun _ H Q=>∀p,H p=none->Q (.ref p) (aD H p (.dK []))
theorem O8:PE X (.Dict [] [] pos) L9:=fun pz s σ H Q I h=>wpAny_Dict_empty ⟨.ref s.heap.objs.size,_,I.laid (a:=s.heap.objs.size) (o:=.dK []) (t':=s.toks) (fun _ _ q=>c_ _ q) (w_ _) (Oe s.heap I.big),rfl,h _ (I.hok.fresh (w_ _))⟩
end L2
namespace Att
open PySem PySem.W PySem.Calls PyProof.Rows
theorem Sn{P:Params}{h:Heap}:∀(ns:List Int)(vs:List a_),WellAll P h vs (ns.map WData.int)->YW vs ns:=by
 intro ns
 induction ns with
|nil=>intro vs w;rw[Qak]at w;cases w;exact .nil
|cons n ns ih=>intro vs w;rw[Vq]at w;cases w with
 |cons a b=>cases a;exact .cons _ _ (ih _ b)
theorem Q2{l:OpenLaw}{n:Nat}(hn:l.most=some n){P:Params}{h:Heap}{args:List WData}{U:List a_}(z:l.row.toRowW.claim.pre args=true)(hwl:WellAll P h U args):∃a vs ns,U=[Value.ref a]/\args=[WData.list (ns.map WData.int)]/\h.get? a=some { cls:=.type "list",data:=.seq vs.toArray }/\YW vs ns/\ns.length<=n:=by
 have Y:WShape.hasAll [] args [.list .int]=true:=(pre_splitW z).1;have hc:l.pre.holds [] { args:=args }=true:=(pre_splitW z).2;obtain⟨d,r,rfl,h1,h2⟩:=hasAllW_cons Y;obtain rfl:=hasAllW_nil h2;obtain⟨xs,rfl,h3⟩:=hasW_list h1;obtain⟨ns,rfl⟩:=items_int h3;have hlen:ns.length<=n:=by
  unfold OpenLaw.pre at hc;have h4:(WTm.not (.lt (.lit (.int (n:Int))) (.len (.arg 0)))).holds [] { args:=[.list (ns.map .int)] }=true:=by have h4:=(holds_andW hc).1;rw[hn]at h4;exact h4
  have h5:=condW_of h4 (w_not (w_lt w_lit (w_len_list (w_arg rfl))));rw[g_]at h5;refine Nat.le_of_not_lt fun q=>?_;have q':(n:Int)<((ns.length:Nat):Int):=by omega
  first
   |(rw[decide_eq_true q']at h5;exact absurd h5 (by decide))
   |(simp at h5;omega)
 cases hwl with
|cons w1 w2=>cases w2;cases w1 with
 |list ho hall=>exact⟨_,_,ns,rfl,rfl,ho,Sn ns _ hall,hlen⟩
theorem Qb(l:OpenLaw)(args:List WData):l.row.toRowW.claim.post args (.bool true) args=true:=
 postW_of (r:=l.row.toRowW) (X:=(true==true))
  (show Qbq [] (.bool true) .bool=true by first|rfl|decide|simp[Qbq,WShape.arms,WShape.armsAll])
  (show(WTm.eq .res (.lit (.bool true))).value [] { args:=args,res:=some (.bool true),after:=args }=some (.bool (true==true))from w_eq_bool (w_res rfl) w_lit) rfl
theorem attach_call{l:OpenLaw}{n:Nat}{q:E_}{z:List Str}{XP:(Str->Option a_)->Heap->Prop}{YP:T_->Heap->Prop}{d:DefRec}(hn:l.most=some n)(ld:d.params.defaults=[])(call:∀(w:T_)(s₀ s₁:f_)(mg mb:Str->Option a_)(fa:Addr)(o:Obj)(pm cd doc:a_)(a:Addr)(vs:List a_)(ns:List Int),Ground q z [] XP w s₀ mg mb s₁.heap->YP w s₁.heap ->s₁.heap.get? fa=some o->o.data=.func (docDef d.name d.params d.body d.scope pm cd doc)->s₁.heap.CodeRec cd d.name->mg d.name=some (.ref fa) ->s₁.heap.get? a=some { cls:=.type "list",data:=.seq vs.toArray }->YW vs ns->ns.length<=n->s₁.gens = #[] ->YC (D_ l.prog w) Zp (.call (.ref fa) ⟨[.ref a],[]⟩) (fun r s'=>r=.ok (.ret (.bool true))/\OldK s₁.heap s'.heap/\s'.os=s₁.os/\Ya s'.gens) s₁):WalkO q z XP YP l.row.toRowW d [] (fun f vs=>QaY f vs):=by intro w s₀ s₁ mg mb G Y fa o pm cd doc dV kV ho hd ad hD hmg hg args Cl as Z BT Id hwl IO;obtain rfl:dV=.none:=Dflts.none hD ld;obtain rfl:kV=.none:=Dflts.noKw hD;obtain⟨a,vs,ns,rfl,rfl,ac,U,hlen⟩:=Q2 hn Z hwl;refine enter_call (Xi (call w s₀ s₁ mg mb fa o pm cd doc a vs ns G Y ho (fd_plain hd) ad hmg ac U hlen hg) fun r s' hq=>?_);obtain⟨rfl,h2,h3,h4⟩:=hq;exact⟨.inl ⟨.bool true,.bool true,[],rfl,fun _=>rfl,.bool true,Qb l _,fun _=>⟨List.Pairwise.nil,fun _ hm=>(nomatch hm)⟩⟩,h2,h3,h4⟩
end Att
namespace L2
open PySem PySem.Spec PyProof.Rows
theorem AM:∀{vs:List a_}{ns:List Int},YW vs ns->ar (ns.map V.int) vs
|_,_,.nil=>.nil
|_,_,.cons n t h=>.cons ⟨t,rfl⟩ (AM h)
def nR(H:Hp):Prop:=∀b,H b=none\/∃o xs,H b=some (.frz o (.lst xs))
theorem On{P:E_}{w:T_}{K:W.Frag}{mg mb:Str->Option a_}{CX:ja}{k:Nat}{fa a:Addr}{fd:VV}{x:Str}{sp:Sp}{s₁:f_}{vs:List a_}{ns:List Int}(KX:K.In s₁.heap)(ld:s₁.heap.Ns Vv mg)(hb:s₁.heap.Ns QaQ mb)(LT:∀x:Str,x≠"__name__"->mb x=XB x)(BT:s₁.heap.NoLimit)(hg:s₁.gens = #[])(ha:s₁.heap.get? a=some { cls:=.type "list",data:=.seq vs.toArray })(hi:YW vs ns)(hl:ns.length<=sizeLine)(hr:Room k Zp)(F:∀base:Heap,K.In base->base.Ns Vv mg->FnOk P w K mg base CX k fa fd [x] sp)(ac:∀(s:f_)(u:a_),Qai s fd ⟨[u],[]⟩ [(x,u)])(KK:∀H:Hp,nR H->bM K H a (ns.map V.int)->sp [.ref a] H (fun v _=>v=.bl true) fun _ _ _=>False)(IO:∀H e s',CX [] H s₁ (fun _ _ _=>False) e s'->False):YC (D_ P w) Zp (.call (.ref fa) ⟨[.ref a],[]⟩) (fun r s'=>r=.ok (.ret (.bool true))/\OldK s₁.heap s'.heap/\s'.os=s₁.os/\Ya s'.gens) s₁:=by
 have rv:=AM hi;have Id:=hi.length;have Z:∀H:Hp,nR H->bM K H a (ns.map V.int)->cS P w H s₁.heap->(∀b,H b≠none->b=a)->(H a≠none->K.lookup a=none) ->YC (D_ P w) Zp (.call (.ref fa) ⟨[.ref a],[]⟩) (fun r s'=>r=.ok (.ret (.bool true))/\OldK s₁.heap s'.heap/\s'.os=s₁.os/\Ya s'.gens) s₁:=by
  intro H hO hS hok hA hK;have U:∀{b:Addr}{o:Obj},s₁.heap.get? b=some o->H b=none->(gq s₁.heap H).get? b=some o:=fun e n=>Oj e n;have LE:∀{b:Addr}{o:Obj}{es:Array DictEntry}{ep:Nat},s₁.heap.get? b=some o->o.data=.dict es ep->H b=none:=fun{b o es ep} e d=>by cases q:H b with
  |none=>rfl
  |some u=>have e':b=a:=hA b (by rw[q];simp);subst e';rw[ha]at e;cases e;have d':Data.seq vs.toArray _=Data.dict es ep:=d;cases d'
  have Y:∀{b:Addr}{m:Str->Option a_},s₁.heap.Ns b m->(gq s₁.heap H).Ns b m:=fun{b m} ⟨o,es,ep,e,d,r⟩=>⟨o,es,ep,U e (LE e d),d,r⟩
  have ad:K.In (gq s₁.heap H):=fun b o e=>U (KX b o e) (by cases q:H b with
  |none=>rfl
  |some u=>have e':b=a:=hA b (by rw[q];simp);subst e';rw[hK (by rw[q];simp)]at e;cases e)
  have hM:Mod K mg (gq s₁.heap H):=⟨ad,Y ld,⟨mb,Y hb,LT⟩,let⟨mc,h1,h2⟩:=BT;⟨mc,Y h1,h2⟩⟩
  have e0:Env0 P w K mg (gq s₁.heap H) Zp [] s₁ H:=⟨rfl,hM,fun b o e=>MW e,XD (PF _ _),trivial,fun b hb=>absurd (show b∈([]:List Addr)from hb) (by simp),hok,.of_eq hg⟩
  refine Xi ((F _ ad (Y ld)).run Zp [] s₁ H ⟨[.ref a],[]⟩ [.ref a] [.ref a] _ _ hr e0 (ac s₁ (.ref a)) (.cons rfl .nil) (KK H hO hS)) fun r s' h=>?_;cases r with
 |error e=>exact(IO H e s' h).elim
 |ok fl=>cases fl with
  |next=>exact VC h
  |brk=>exact VC h
  |cont=>exact VC h
  |ret u=>obtain⟨v,H',os,bare,un,Cl,r',q⟩:=h;have q':v=.bl true:=q;subst q';obtain rfl:u=Value.bool true:=r';refine⟨rfl,OldK.of_keep fun b o e=>?_,os,bare⟩;cases q:H b with
   |none=>exact un.keep b o e q (by intro z;exact absurd (show b∈([]:List Addr)from z) (by simp)) (by simp)
   |some u=>
     rcases hO b with z|⟨ob,xs,z⟩
     .rw[q]at z;cases z
     .have z2:=un.frzs b ob _ z;obtain⟨e1,_⟩:=hok b _ z;obtain⟨e2,_⟩:=Cl b _ z2;rw[e]at e1;cases e1;exact e2
 cases hk:K.lookup a with
|some o=>have e:=KX a o hk;rw[ha]at e;cases e;refine Z (fun _=>none) (fun _=>.inl rfl) (.inr ⟨_,vs.toArray,_,hk,rfl,rfl,rfl,by rw[q_,Id];exact hl,by simpa using rv⟩) (fun b u z=>by have z':(none:Option HO)=some u:=z;cases z') (fun b z=>absurd rfl z) fun z=>absurd rfl z
|none=>
  refine Z (fun b=>if b=a then some (.frz { cls:=.type "list",data:=.seq vs.toArray } (.lst (ns.map V.int)))else none) (fun b=>?_) (.inl (.inr ⟨{ cls:=.type "list",data:=.seq vs.toArray },if_pos rfl⟩)) (fun b u z=>?_) (fun b z=>?_) fun _=>hk
  .by_cases hb:b=a
   .exact .inr ⟨_,_,if_pos hb⟩
   .exact .inl (if_neg hb)
  .by_cases hb:b=a
   .have z':=(if_pos hb).symm.trans z;cases z';subst hb;exact⟨ha,by rw[g_];exact hl,vs,_,rv,ha⟩
   .have z':=(if_neg hb).symm.trans z;cases z'
  .by_cases hb:b=a
   .exact hb
   .exact absurd (if_neg hb) z
abbrev bp{K:W.Frag}{h:Heap}(_:K.In h):W.Frag:=K
theorem kR{l:W.OpenLaw}{n k:Nat}{q:E_}{U:List Str}{XP:(Str->Option a_)->Heap->Prop}{YP:T_->Heap->Prop}{d:DefRec}{K:Params->W.Frag}{CX:T_->ja}{sp:T_->Sp}{x:Str}(hn:l.most=some n)(ld:n<=sizeLine)(BT:d.params.defaults=[])(hr:Room k Zp)(hY:∀(w:T_)(h:Heap),YP w h->(K w.params).In h)(F:∀(w:T_)(mg:Str->Option a_)(fa:Addr)(h:Heap),(K w.params).In h->h.Ns Vv mg->mg d.name=some (.ref fa) ->∃fd:VV,(∀(s:f_)(u:a_),Qai s fd ⟨[u],[]⟩ [(x,u)]) /\∀base:Heap,(K w.params).In base->base.Ns Vv mg->FnOk l.prog w (K w.params) mg base (CX w) k fa fd [x] (sp w))(ad:∀(w:T_)(H:Hp)(a:Addr)(ns:List Int),ns.length<=n->nR H->bM (K w.params) H a (ns.map V.int)->sp w [.ref a] H (fun v _=>v=.bl true) fun _ _ _=>False)(ac:∀(w:T_)(H:Hp)(s:f_)(e:a_)(s':f_),CX w [] H s (fun _ _ _=>False) e s'->False):W.WalkO q U XP YP l.row.toRowW d [] (fun f vs=>QaY f vs):=by refine Att.attach_call hn BT fun w s₀ s₁ mg mb fa o pm cd doc a vs ns G Y ho hd Cl hmg Z z hlen hg=>?_;have KX:=hY w _ Y;obtain⟨fd,hb,hF⟩:=F w mg fa _ KX G.T.g hmg;exact On KX G.T.g G.T.b G.T.builtins G.T.nolimit hg Z z (VL hlen ld) hr hF hb (fun H hO hS=>ad w H a ns hlen hO hS) fun H e s'=>ac w H s₁ e s'
def aJ(s:Stmt):Arguments:=match s with
|.FunctionDef _ a _ _ _ _ _ _ _ _=>a
|_=>{ posonlyargs:=[],args:=[],vararg:=none,kwonlyargs:=[],kw_defaults:=[],kwarg:=none,defaults:=[] }
def ay(s:Stmt):List Stmt:=match s with
|.FunctionDef _ _ b _ _ _ _ _ _ _=>b
|_=>[]
def aa(s:Stmt):X7:=match s with
|.FunctionDef _ _ _ _ _ _ sc _ _ _=>sc
|_=>{ kind:=.function,names:=[],isGenerator:=false,isCoroutine:=false }
abbrev bZ:ja:=fun _ _ _ _ _ _=>False
abbrev E0:XK:=fun _ _ _=>False
theorem yU{X:Cx}:pZ bZ X E0:=fun _ _ _ _ _ _ _ h=>h.elim
structure Fun(K:W.Frag)(x qual:Str)(st:Stmt)(f:Addr)(fd:VV):Prop where
 ex:∃(oc:a_)(od:Option Addr)(kV doc pm:a_)(an:Option Addr)(cdv ct:a_)(osl:Array (Option a_)),fd=W.fnOf x qual (aJ st) (ay st) (aa st) .none kV doc pm an cdv ct/\K.lookup f=some ⟨oc,od,.func fd,osl⟩/\W.codeIn K cdv qual=true
 kp:W.keepIn K (.ref f)=true
section
variable{P:E_}{w:T_}{K:W.Frag}{mg:Str->Option a_}{base:Heap}
theorem Fun.ok{x qual:Str}{st:Stmt}{f:Addr}{fd:VV}{N ps:List Str}{k:Nat}{sp:Sp}(F:Fun K x qual st f fd)(S:FnScope N ps (aa st))(len:∀vs H Q E,sp vs H Q E->vs.length=ps.length)(z:∀(cdv:a_)(A:Vu)(outer:List Env)(s:f_)(H:Hp)(vs:List V)(Q:VK)(E:XK),Room k (A.deeper (XS qual (aa st) s.heap.objs.size f cdv))->sp vs H Q E ->∃t,dD (ba bZ P w K mg base N qual (aa st) f cdv A outer s H E).nox (ay st) t/\t { nx:=fun _ H'=>Q .non H',rt:=Q } (br N vs) H):FnOk P w K mg base bZ (k+1) f fd ps sp:=by obtain⟨oc,od,kV,doc,pm,an,cdv,ct,osl,rfl,lk,U⟩:=F.ex;refine DO lk U S len fun A outer s H vs Q E hr Y=>?_;obtain⟨t,h,q⟩:=z cdv A outer s H vs Q E hr Y;exact⟨t,h.nox,q⟩
theorem Fun.binds{x qual:Str}{st:Stmt}{f:Addr}{fd:VV}{ps:List Str}(F:Fun K x qual st f fd)(h:∀(kV doc pm:a_)(an:Option Addr)(cdv ct:a_)(us:List a_),us.length=ps.length->Yc (W.fnOf x qual (aJ st) (ay st) (aa st) .none kV doc pm an cdv ct) ⟨us,[]⟩=pure (ps.zip us)):g6 K fd ps []:=by obtain⟨oc,od,kV,doc,pm,an,cdv,ct,osl,rfl,lk,z⟩:=F.ex;exact .all (h kV doc pm an cdv ct)
theorem cN{x qual:Str}{st:Stmt}{f:Addr}{oc:a_}{od an:Option Addr}{osl:Array (Option a_)}{kV doc pm cdv ct:a_}(l:K.lookup f=some ⟨oc,od,.func (W.fnOf x qual (aJ st) (ay st) (aa st) .none kV doc pm an cdv ct),osl⟩)(c:W.codeIn K cdv qual=true)(k:W.keepIn K (.ref f)=true):Fun K x qual st f (W.fnOf x qual (aJ st) (ay st) (aa st) .none kV doc pm an cdv ct):=⟨⟨oc,od,kV,doc,pm,an,cdv,ct,osl,rfl,l,c⟩,k⟩
end
theorem ju{A:Vu}{k:Nat}(hr:Room k A):A.units+1<Xb:=Nat.lt_of_le_of_lt (Nat.add_le_add_left (by decide:1<=64) _) hr.units
section
variable{X:Cx}
theorem PV:eY X (.builtin "len") (fun xs H Q=>∃a kvs,xs=[V.ref a]/\Rd H a (.dK kvs)/\Q (.int kvs.length) H):=by intro pz s σ H xs us Q I r h;obtain⟨a,kvs,rfl,ha,q⟩:=h;obtain⟨u,rfl,ru⟩:=gV r;cases ru;exact Kc I ha fun t s' I'=>⟨.int kvs.length,H,I',⟨t,rfl⟩,q⟩
end
end L2
end
namespace DL
open PySem
section
open PySem.SeqAt
open PySem.AutoSeq1 (wpAny_loadPart')
open PySem.MeetsSeq PySem.MeetsSeq2 PySem.MeetsSeq3
def yZ(items:Array a_)(x:a_):Nat->Option Fin×Unit->Sem (ForInStep (Option Fin×Unit)):=fun i _=>match items[i]? with
|some y=>do
  let c <-eqBool y x
  if c=true then do
    let r <-retInt i
    pure (ForInStep.done (some r,()))
   else pure (ForInStep.yield (none,()))
|_=>pure (ForInStep.yield (none,()))
theorem Nl{prog:E_}{w:T_}{A:Vu}{E:a_->f_->Prop}{s:f_}{items:Array a_}{x:a_}{e:a_->Bool}{j:Nat}(hj:j<items.size)(hit:e items[j]=true)(he:∀y,y∈items->EqAt A s y x (e y)){Q:Option Fin×Unit->f_->Prop}(hq:Q (some (.done (.ret (.int j s.toks))),()) { s with toks:=s.toks+1 }):∀(k i:Nat),j=i+k->(∀m (hm:m<items.size),i<=m->m<j->e items[m]=false)->u_ (D_ prog w) A (forIn (Ww i (items.size-i)) (none,()) (yZ items x)) Q E s:=by
 intro k
 induction k with
|zero=>
  intro i hk _;obtain rfl:j=i:=by omega
  obtain⟨r,hr⟩:∃r,items.size-j=r+1:=⟨items.size-j-1,by omega⟩
  rw[hr,XE,WW];refine b_ ?_;unfold yZ;rw[show items[j]? = some items[j]by simp[hj]];refine b_ (he _ (Qan hj) prog w _ _ ?_);rw[hit,if_pos rfl];refine b_ (m:=retInt j) ?_;unfold retInt
  wp_walk
  exact hq
|succ k ih=>
  intro i hk z;have hi:i<items.size:=by omega
  obtain⟨r,hr⟩:∃r,items.size-i=r+1:=⟨items.size-i-1,by omega⟩
  rw[hr,XE,WW];refine b_ ?_;unfold yZ;rw[show items[i]? = some items[i]by simp[hi]];refine b_ (he _ (Qan hi) prog w _ _ ?_);rw[z i hi (w_ _) (by omega),if_neg k_];refine o_ ?_;have:=ih (i+1) (by omega) (fun m hm h1 h2=>z m hm (by omega) h2);rw[show items.size-(i+1)=r by omega]at this;exact this
theorem Sc(l:Addr)(items:Array a_)(n:Nat)(dd:Option Addr)(sl:Array (Option a_))(x:a_)(e:a_->Bool)(j:Nat)(hj:j<items.size)(hit:e items[j]=true)(z:∀m (hm:m<items.size),m<j->e items[m]=false) :
  Meets (YD.«tuple.index» ⟨[.ref l,x],[]⟩)
   (fun A R s=>s.heap.get? l=some { cls:=.type "tuple",dict:=dd,data:=.seq items n,slots:=sl }/\(∀y,y∈items->EqAt A.in1 s y x (e y))/\R (.ok (.ret (.int j s.toks))) { s with toks:=s.toks+1 }):=by
 intro prog w A R s h;obtain⟨hp,g,d,tk,os⟩:=s;obtain⟨hl,he,h⟩:=h;unfold YD.«tuple.index»;simp only[ZG];generalize hF : @forIn Sem (List Nat) Nat _ (Option Fin×Unit)=F
 wp_walk using X1 hl
 subst hF;rw[show([:min items.size items.size]:Std.Legacy.Range).size=items.size-0 by simp[Std.Legacy.Range.size]];refine Nl hj hit he ?_ j 0 (by omega) (fun m hm _ h2=>z m hm h2);exact o_ h
end
end DL
namespace DL
open PySem PyProof.Rows
theorem Rf:isSubtype (.type "tuple") (.type "set")=pure false:=by rw[ZH];kernel_rfl
theorem RX:isSubtype (.type "tuple") (.type "frozenset")=pure false:=by rw[ZH];kernel_rfl
section
variable{prog:E_}{w:T_}{A:Vu}{E:a_->f_->Prop}{s:f_}
abbrev fA(led:Bool):Obj:={ cls:=.type "set",dict:=none,data:=.set #[] 0 (.fresh 0 0 led) }
def zG(prog:E_)(w:T_)(s:f_)(ns:List Int)(n:Nat)(h':Heap):Prop:=h'.SetOf (intKind prog w) s.heap.objs.size (fun k=>(ZI (fun i=>ns.getD i 0) n).any (· == k)) (ZI (fun i=>ns.getD i 0) n).length/\∀b o,b<s.heap.objs.size->s.heap.get? b=some o->h'.get? b=some o
set_option maxHeartbeats 3200000 in
theorem RY{t:Addr}{items:Array a_}{ns:List Int}{led:Bool}{R:QaT->f_->Prop}(hh:A.handled=none)(ht:s.heap.IsTuple t items)(hi:YW items.toList ns)(hb:items.size+1<Xd)(hR:∀h' tk,zG prog w s ns items.size h'->R (.ok (.ret .none)) { s with heap:=h',toks:=tk }):u_ (D_ prog w) A.in1 (YD.«set.__init__» ⟨[.ref s.heap.objs.size,.ref t],[]⟩) (fun fin s'=>match fin with|.done f=>R (.ok f) s'|.again c'=>c'.quiet=true/\YC (D_ prog w) A c' R s') (fun e s'=>R (.error e) s') { s with heap:=s.heap.push (fA led) }:=by
 obtain⟨⟨ocls,odict,odata,oslots⟩,hol,hcl,nl,hdl⟩:=ht;simp only at hcl hdl;subst hcl;subst hdl;have hol1:=c_ (fA led) hol;have g1:=Rf;have g2:=RX;have g3:(Value.type "tuple" == Value.type "dict")=false:=by decide
 have hT1:(s.heap.push (fA led)).IsTuple t items:=⟨_,hol1,rfl,nl,rfl⟩
 have hS:(s.heap.push (fA led)).get? s.heap.objs.size=some (fA led):=z_ _ rfl;unfold YD.«set.__init__» noKeywords QaK;generalize hPI:Z7=PI
 wp_walk
 subst hPI;refine Wk hT1 (b_ (wpAny_runValue ?_));have ltT:t<s.heap.objs.size:=y_ hol;have z1:(s.heap.push (fA led)).objs.size=s.heap.objs.size+1:=VU ..;have neI:t≠(s.heap.push (fA led)).objs.size:=by rw[z1];exact J_ (WB ltT)
 have hout:s.heap.objs.size∉[(s.heap.push (fA led)).objs.size,t]:=by rw[z1];simp only[m_,G_,or_false,not_or];exact⟨J_ (Wi _),Wn ltT⟩
 have hval:∀(i:Nat)(v:a_),items[i]? = some v->∃tk,v=.int ((fun i=>ns.getD i 0) i) tk:=fun i v hv=>IntsAre.int_at hi i v (by rw[Xr];exact hv);refine codeAny_set_update_loopS ((Qbp (A:=A.in1.in1) hh _ t neI items).toS) s.heap.objs.size hout (fun i=>ns.getD i 0) hval hb (items.size-0) 0 _ (by omega) (VM _) ⟨⟨_,z_ _ rfl,rfl,rfl⟩,hT1.push _⟩ ?_ fun s' hm hS'=>?_
 .exact SetOf_congr ((setObjOf_fresh (knd:=intKind prog w) led).setOf (c_ _ hS) (by unfold Xd;omega)) (fun _=>rfl) rfl
 .obtain⟨h',g',d',tk',os'⟩:=s';obtain rfl:g'=s.gens:=hm.gens;obtain rfl:d'=s.drawn:=hm.drawn;obtain rfl:os'=s.os:=hm.os;show u_ _ _ _ _ _ _;refine o_ ?_;show u_ _ _ (ret Value.none) _ _ _;refine o_ (hR h' tk' ⟨hS',fun b o hb2 e=>?_⟩);refine hm.heap b o ?_ (c_ _ (c_ _ e));rw[z1];simp only[m_,G_,or_false,not_or];exact⟨J_ hb2,J_ (WB hb2)⟩
set_option maxHeartbeats 3200000 in
theorem Rj{t:Addr}{items:Array a_}{ns:List Int}{Q:a_->f_->Prop}(hh:A.handled=none)(ht:s.heap.IsTuple t items)(hi:YW items.toList ns)(hb:items.size+1<Xd)(h:∀h' tk,zG prog w s ns items.size h'->Q (.ref s.heap.objs.size) { s with heap:=h',toks:=tk }):u_ (D_ prog w) A (call (.type "set") [.ref t]) Q E s:=by
 obtain⟨c,tl,hmro⟩:=F.called_set.mro;have a1:=F.called_set.made;have a2:=F.called_set.sub;refine X3 (codeAny_of_tree ?_);show u_ _ _ (callAny (.type "set") _) _ _ _;refine o_ ⟨YL _ (by decide+kernel),codeAny_builtin F.entry_type_call ?_⟩;rw[Around.under_plain (weight_type_call_type "set" [.ref t] []) rfl];have a3:=F.called_set.notType;have a4:=F.called_set.canCreate;have a5:=F.typeCall_set_1 (.ref t)
 repeat (any_goals (first|assumption|wp_step))
 refine Xi (code_set_new_1 (.ref t) (E:=E) (Q₁:=fun obj s₁=>∃led:Bool,obj=.ref s.heap.objs.size/\s₁={ s with heap:=s.heap.push (fA led) }) fun led=>⟨led,rfl,rfl⟩) fun r s₁ hr=>?_;cases r with
|error e=>exact hr
|ok fl=>cases fl with
 |ret obj=>
   obtain⟨led,rfl,rfl⟩:=hr;have hT:Qbg { s with heap:=s.heap.push (fA led) } (.ref s.heap.objs.size) "set" := ⟨_,z_ _ rfl,rfl⟩
   have b1:=F.called_set.init.lookup;have b2:=F.called_set.init.bind (.ref s.heap.objs.size)
   repeat (any_goals (first|assumption|wp_step))
   refine Xi (Yr (R:=wants (fun r s₂=>r=.none/\∃h' tk,s₂={ s with heap:=h',toks:=tk }/\zG prog w s ns items.size h') E) F.called_set.init.plain F.entry_set_init (check_set_init_1 hT ?_)) fun r₂ s₂ hr₂=>?_
   .refine RY (A:=A.in1) (led:=led) hh ht hi hb fun h2 tk he=>?_;exact⟨rfl,h2,tk,rfl,he⟩
   .cases r₂ with
   |error e=>exact hr₂
   |ok fl₂=>cases fl₂ with
    |ret r=>
      obtain⟨rfl,h',tk,rfl,he⟩:=hr₂
      repeat (any_goals (first|assumption|wp_step))
      exact h _ _ he
    |_=>exact hr₂.elim
 |_=>exact hr.elim
end
end DL
namespace DL
open PySem PyProof.Rows PySem.W
section
variable{n:Nat}(hn:0<n)
include hn
end
end DL
namespace DL
open PySem PyProof.Rows PySem.W PySem.Calls
end DL
namespace DL
open PySem PySem.Spec PyProof.Rows L2 PySem.W PySem.Calls
structure Lft(fr:List Addr)(a:Addr)(oe:Obj)(vs:Array a_)(T:Option Addr)(v:a_)(h h':Heap):Prop where
 keep:∀b o,b∉fr->b≠a->T≠some b->h.get? b=some o->h'.get? b=some o
 slot:∀b o,h.get? b=some o->(∀vs:Array a_,o.data≠Data.fields vs)->∃sl,h'.get? b=some { cls:=o.cls,dict:=o.dict,data:=o.data,slots:=sl }
 obj:∃tb ot ts,(h.get? tb=none\/T=some tb)/\tb≠a/\h'.get? a=some { cls:=oe.cls,dict:=oe.dict,data:=.fields (vs.setIfInBounds 1 (.ref tb)),slots:=oe.slots }/\h'.get? tb=some ot/\ot.data=.fields ts/\ts[3]? = some v
def sV(a:Addr)(h:Heap):Prop:=∃oe vs tb,h.get? a=some oe/\oe.data=Data.fields vs/\vs[1]? = some (Value.ref tb)
abbrev nJ(fl:Option Addr):a_:=fl.elim Value.none fun f=>Yb f
variable{M:QaR}{E:a_->f_->Prop}{s:f_}{a:Addr}
section
variable{A:Vu}{B:Heap}{env:Env}{outer:List Env}{L:Addr}{oe:Obj}{vs:Array a_}{Q:Unit->f_->Prop}
theorem Gb{KK:a_}{S9:Bool}{fl:Option Addr}(hf:A.frames=some (env::outer))(ff:s.heap.FunFrames B (env::outer))(hL:env.frame=some L)(e0:s.heap.get? a=some oe)(hd:oe.data=.fields vs)(hs:1<vs.size)(q:∀h',Lft (cV (env::outer)) a oe vs none (nJ fl) s.heap h'->Q () { heap:=h',gens:=s.gens,drawn:=s.drawn,toks:=s.toks,os:=s.os }) :
  u_ M A (do
   let f <-PySem.frameOf env;let pl <-entryPlaceOf L S9;let b <-ZW KK f Value.none (Yb ↑L) Value.none pl
   setField (Value.ref a) 1 b) (fun _ s'=>sV a s'.heap/\u_ M A (Xq (Value.ref a) fl) Q E s') E s:=by
 have LT:a∉cV (env::outer):=fun z=>by obtain⟨_,o,e1,nf⟩:=ff.mem z;rw[e0]at e1;cases e1;exact nf vs hd
 refine b_ (wpAny_frameOf_fun hf ff hL fun h2 so=>?_);refine b_ (wpAny_entryPlaceOf fun pl ST=>?_);obtain⟨Ta,Cl,ac⟩:=so;have e2:h2.get? a=some oe:=(Cl a LT).trans e0;have key:∀fs:List a_,fs.length<=100->fs[3]? = some (Yb ↑L)->u_ M A ((do
   let b <-newFields "traceback" fs
   setField (Value.ref a) 1 b)) (fun _ s'=>sV a s'.heap/\u_ M A (Xq (Value.ref a) fl) Q E s') E { heap:=h2,gens:=s.gens,drawn:=s.drawn,toks:=s.toks,os:=s.os }:=fun fs hlen h3=>by
  refine b_ ?_;unfold newFields;have hsz:sizeOk (Data.fields fs.toArray):=by
   show fs.toArray.size<=_;have:fs.toArray.size<=100:=by simpa using hlen
   exact VL this (by decide)
  refine Wb (T := "traceback") (data:=.fields fs.toArray) (dict:=none) ?_ hsz;have ld:a<h2.objs.size:=y_ e2;have U:h2.get? h2.objs.size=none:=by cases z:h2.get? h2.objs.size with
  |none=>rfl
  |some o=>exact absurd (y_ z) (VY _)
  have hne:h2.objs.size≠a:=fun z=>by rw[z]at ld;exact absurd ld (VY _)
  generalize IO:h2.objs.size=tb at *;have e3:(h2.push { cls:=.type "traceback",dict:=none,data:=.fields fs.toArray }).get? a=some oe:=c_ _ e2;have LE:(h2.push { cls:=.type "traceback",dict:=none,data:=.fields fs.toArray }).get? tb=some { cls:=.type "traceback",dict:=none,data:=.fields fs.toArray }:=by rw[<-IO];exact z_ _ rfl
  generalize ad:h2.push { cls:=.type "traceback",dict:=none,data:=.fields fs.toArray }=h3' at *;refine Xe (a:=a) (o:=oe) (vs:=vs) (i:=1) e3 hd hs ?_;have mf:∀g,VA g oe={ cls:=oe.cls,dict:=oe.dict,data:=.fields (g vs),slots:=oe.slots }:=fun g=>by obtain⟨c,d,da,sl⟩:=oe;have:da=.fields vs:=hd;subst this;rfl
  have e4:=VO (h:=h3') (VA fun v=>v.setIfInBounds 1 (.ref tb)) e3 (by rw[mf];rfl);rw[mf]at e4;have BT:(h3'.update a (VA fun v=>v.setIfInBounds 1 (.ref tb))).get? tb=some { cls:=.type "traceback",dict:=none,data:=.fields fs.toArray }:=by rw[VS _ _ _ _ hne];exact LE
  have Id:∀b,b≠a->(h3'.update a (VA fun v=>v.setIfInBounds 1 (.ref tb))).get? b=h3'.get? b:=fun b hb=>VS _ _ _ _ hb;generalize h3'.update a (VA fun v=>v.setIfInBounds 1 (.ref tb))=h4 at *;refine⟨⟨_,_,tb,e4,rfl,S_ hs⟩,?_⟩;unfold Xq;refine b_ (VD (o:={ cls:=oe.cls,dict:=oe.dict,data:=.fields (vs.setIfInBounds 1 (.ref tb)),slots:=oe.slots }) (x:=.ref tb) e4 rfl ?_ ?_)
  .rw[S_ hs]
  .rw[if_pos (by rfl)];refine Xe (a:=tb) (vs:=fs.toArray) (i:=3) BT rfl ?_ ?_
   .have:=(j_.mp h3).1;simpa using this
   have e5:=VO (h:=h4) (VA fun v=>v.setIfInBounds 3 (nJ fl)) BT rfl;have Z:∀b,b≠tb->(h4.update tb (VA fun v=>v.setIfInBounds 3 (nJ fl))).get? b=h4.get? b:=fun b hb=>VS _ _ _ _ hb;refine q (h4.update tb (VA fun v=>v.setIfInBounds 3 (nJ fl))) ⟨fun b o nf ne _ e=>?_,fun b o e nf=>?_,tb,_,_,.inl ?_,hne,?_,e5,rfl,?_⟩
   .have hb2:h2.get? b=some o:=(Cl b nf).trans e;have Y:b≠tb:=fun z=>by rw[z,U]at hb2;cases hb2
    rw[Z b Y,Id b ne,<-ad];exact c_ _ hb2
   .obtain⟨sl,e1⟩:=ac b o e;have Y:b≠tb:=fun z=>by rw[z,U]at e1;cases e1
    have S4:b≠a:=fun z=>by rw[z,e0]at e;cases e;exact nf vs hd
    refine⟨sl,?_⟩;rw[Z b Y,Id b S4,<-ad];exact c_ _ e1
   .cases z:s.heap.get? tb with
   |none=>rfl
   |some o=>obtain⟨sl,e1⟩:=ac tb o z;rw[U]at e1;cases e1
   .rw[Z a (Xt hne)];exact e4
   .show(fs.toArray.setIfInBounds 3 _)[3]? = _;rw[S_ (by have:=(j_.mp h3).1;simpa using this)]
 unfold ZW;refine key _ ?_ rfl;rcases ST with rfl|⟨x1,x2,x3,x4,x5,x6,_,rfl⟩ <;> simp
theorem uK{T fl:Option Addr}(hf:A.frames=some (env::outer))(ff:s.heap.FunFrames B (env::outer))(hL:env.frame=some L)(e0:s.heap.get? a=some oe)(hd:oe.data=.fields vs)(h1:(vs[1]? = some Value.none/\T=none)\/(∃T' oT ts,T=some T'/\vs[1]? = some (.ref T')/\T'≠a/\s.heap.get? T'=some oT/\oT.data=.fields ts/\ts[3]? = some Value.none)\/∃T' oT ts,T=some T'/\vs[1]? = some (.ref T')/\T'≠a/\s.heap.get? T'=some oT/\oT.data=.fields ts/\ts[3]? = some (Yb ↑L))(q:∀h',Lft (cV (env::outer)) a oe vs T (nJ fl) s.heap h'->Q () { heap:=h',gens:=s.gens,drawn:=s.drawn,toks:=s.toks,os:=s.os }):u_ M A (Yl (.ref a) env) (fun _ s'=>sV a s'.heap/\u_ M A (Xq (.ref a) fl) Q E s') E s:=by
 have hs:1<vs.size:=by rcases h1 with⟨z,_⟩|⟨_,_,_,_,z,_⟩|⟨_,_,_,_,z,_⟩ <;> exact(VW.mp z).1
 unfold Yl;simp only[hL];rcases h1 with⟨z,rfl⟩|⟨T',oT,ts,rfl,z,hTa,eT,hT,h3⟩|⟨T',oT,ts,rfl,z,hTa,eT,hT,h3⟩
 .refine b_ (VD e0 hd z ?_);rw[if_neg (by decide)];exact Gb hf ff hL e0 hd hs q
 .refine b_ (VD e0 hd z ?_);rw[if_pos (by rfl)];refine b_ (VD eT hT h3 ?_);rw[if_neg (by intro z;cases z)];have U:3<ts.size:=(VW.mp h3).1;refine b_ (Xe eT hT U ?_);have eo:∀b,b≠T'->(s.heap.update T' (VA fun v=>v.setIfInBounds 3 Value.none)).get? b=s.heap.get? b:=fun b hb=>VS _ _ _ _ hb;refine Gb (s:={ heap:=s.heap.update T' (VA fun v=>v.setIfInBounds 3 Value.none),gens:=s.gens,drawn:=s.drawn,toks:=s.toks,os:=s.os }) hf (ff.of_keeps fun b o e nf=>?_) hL ((eo a (Xt hTa)).trans e0) hd hs fun h' l=>q h' ⟨fun b o nf ne Y e=>?_,fun b o e nf=>?_,?_⟩
  .have hb:b≠T':=fun z=>by rw[z,eT]at e;cases e;exact nf ts hT
   exact⟨o,(eo b hb).trans e,rfl⟩
  .have hb:b≠T':=fun z=>Y (by rw[z]);exact l.keep b o nf ne (by simp) ((eo b hb).trans e)
  .have hb:b≠T':=fun z=>by rw[z,eT]at e;cases e;exact nf ts hT
   exact l.slot b o ((eo b hb).trans e) nf
  .obtain⟨tb,ot,Z,t1,t2⟩:=l.obj;refine⟨tb,ot,Z,.inl ?_,t2⟩;have t1:=t1.resolve_right (by simp);by_cases hb:tb=T'
   .have mf:VA (fun v=>v.setIfInBounds 3 Value.none) oT={ cls:=oT.cls,dict:=oT.dict,data:=.fields (ts.setIfInBounds 3 Value.none),slots:=oT.slots }:=by obtain⟨c,d,da,sl⟩:=oT;have:da=.fields ts:=hT;subst this;rfl
    have:=VO (h:=s.heap) (VA fun v=>v.setIfInBounds 3 Value.none) eT (by rw[mf];rfl);rw[hb]at t1;exact absurd (t1.symm.trans this) (by simp)
   .exact(eo tb hb).symm.trans t1
 .refine b_ (VD e0 hd z ?_);rw[if_pos (by rfl)];refine b_ (VD eT hT h3 ?_);rw[if_pos (by simp)];refine o_ ⟨⟨oe,vs,T',e0,hd,z⟩,?_⟩;have U:3<ts.size:=(VW.mp h3).1;have mf:∀g,VA g oT={ cls:=oT.cls,dict:=oT.dict,data:=.fields (g ts),slots:=oT.slots }:=fun g=>by obtain⟨c,d,da,sl⟩:=oT;have:da=.fields ts:=hT;subst this;rfl
  unfold Xq;refine b_ (VD e0 hd z ?_);rw[if_pos (by rfl)];refine Xe eT hT U ?_;have eo:∀b,b≠T'->(s.heap.update T' (VA fun v=>v.setIfInBounds 3 (nJ fl))).get? b=s.heap.get? b:=fun b hb=>VS _ _ _ _ hb;have es:=VO (h:=s.heap) (VA fun v=>v.setIfInBounds 3 (nJ fl)) eT (by rw[mf];rfl);rw[mf]at es;refine q _ ⟨fun b o nf ne Y e=>(eo b fun z=>Y (by rw[z])).trans e,fun b o e nf=>?_,T',_,_,.inr rfl,hTa,?_,es,rfl,?_⟩
  .have hb:b≠T':=fun z=>by rw[z,eT]at e;cases e;exact nf ts hT
   exact⟨o.slots,(eo b hb).trans e⟩
  .rw[eo a (Xt hTa),e0];obtain⟨c,d,da,sl⟩:=oe;have:da=.fields vs:=hd;subst this;have:vs.setIfInBounds 1 (.ref T')=vs:=by
    apply Z9;intro i;rw[Array.getElem?_setIfInBounds];split
    .rename_i h;subst h;exact z.symm
    .rfl
   rw[this]
  .show(ts.setIfInBounds 3 _)[3]? = _;rw[S_ U]
theorem AG{T:Option Addr}(hf:A.frames=some (env::outer))(ff:s.heap.FunFrames B (env::outer))(hL:env.frame=some L)(e0:s.heap.get? a=some oe)(hd:oe.data=.fields vs)(h1:(vs[1]? = some Value.none/\T=none)\/(∃T' oT ts,T=some T'/\vs[1]? = some (.ref T')/\T'≠a/\s.heap.get? T'=some oT/\oT.data=.fields ts/\ts[3]? = some Value.none)\/∃T' oT ts,T=some T'/\vs[1]? = some (.ref T')/\T'≠a/\s.heap.get? T'=some oT/\oT.data=.fields ts/\ts[3]? = some (Yb ↑L))(q:∀h',Lft (cV (env::outer)) a oe vs T Value.none s.heap h'->Q () { heap:=h',gens:=s.gens,drawn:=s.drawn,toks:=s.toks,os:=s.os }):u_ M A (leaving env (.ref a)) Q E s:=b_ (VG (uK (fl:=none) hf ff hL e0 hd h1 q) (fun _ _ z=>z.2) fun _ _ z=>z)
end
def J5(h B:Heap)(a:Addr)(cls:a_)(od L:Option Addr):Prop:=∃oe vs,h.get? a=some oe/\oe.cls=cls/\(∀dx,od=some dx->oe.dict=some dx)/\oe.data=.fields vs /\(vs[1]? = some Value.none\/(∃T oT ts,vs[1]? = some (.ref T)/\B.get? T=none/\T≠a/\h.get? T=some oT/\oT.data=.fields ts/\ts[3]? = some Value.none) \/∃l T oT ts,L=some l/\vs[1]? = some (.ref T)/\B.get? T=none/\T≠a/\h.get? T=some oT/\oT.data=.fields ts/\ts[3]? = some (Yb ↑l))
def nr(st:List Env):Option Addr:=st.head?.bind (·.frame)
structure Fly(P:E_)(w:T_)(st:List Env)(H:Hp)(s:f_)(H':Hp)(a:Addr)(cls:a_)(od:Option Addr)(s':f_):Prop where
 os:s'.os=s.os
 bare:Ya s'.gens
 un:Un (cV st) [] H H' s.heap s'.heap
 hok:cS P w H' s'.heap
 ex:∃B:Heap,B.StaysIn s'.heap/\B.get? a=none/\s'.heap.FunFrames B st/\J5 s'.heap B a cls od (nr st) /\(∀b o,s.heap.get? b=some o->b∉cV st->∃o',B.get? b=some o')/\∀b u,H' b=some u->∃o',B.get? b=some o'
section
variable{X:Cx}{pz:List (Addr×Obj)}{σ:L2.St}{H H':Hp}{s':f_}{cls:a_}{od:Option Addr}
theorem Fly.inv(F:Fly X.prog X.w X.stack H s H' a cls od s')(I:Inv X pz σ H s):Inv X pz σ H' s':=I.call' F.os F.un F.hok F.bare fun b z=>absurd z (by simp)
theorem Fly.leaves{Q:Unit->f_->Prop}(F:Fly X.prog X.w X.stack H s H' a cls od s')(I:Inv X pz σ H s)(Y:X.stack=X.env::X.outer)(ac:X.env.frame=some X.env.locals)(Z:X.ex=[])(q:∀s'',Fly X.prog X.w X.outer X.H₀ X.s₀ H' a cls od s''->Q () s''):u_ M X.A (leaving X.env (.ref a)) Q E s':=by
 have I':=F.inv I;obtain⟨B,hB,ld,U,⟨oe,vs,r1,r2,r3,r4,r5⟩,hd,hH⟩:=F.ex;have hfs:cV X.stack=X.env.locals::cV X.outer:=by rw[Y];unfold cV;rw[WF,ac]
 have inB:∀b o,X.s₀.heap.get? b=some o->b∉cV X.outer->∃o',B.get? b=some o':=fun b o e n=>by
  obtain⟨o1,e1⟩:=I.base.there b o e (by rw[Z];simp);refine hd b o1 e1 ?_;rw[hfs];intro z;rcases m_.mp z with z|z
  .have h1:=y_ e;have h2:=I.ok.above;rw[z]at h1;exact absurd h1 (Nat.not_lt.mpr h2)
  .exact n z
 rw[Y]at U;have fin:∀(T:Option Addr) h',(∀b,T=some b->B.get? b=none)->Lft (cV (X.env::X.outer)) a oe vs T Value.none s'.heap h'->Q () { heap:=h',gens:=s'.gens,drawn:=s'.drawn,toks:=s'.toks,os:=s'.os }:=fun T h' hT l=>by
  have same:∀b o,(∃o',B.get? b=some o')->s'.heap.get? b=some o->h'.get? b=some o:=fun b o ⟨o',e⟩ h=>by refine l.keep b o (fun z=>?_) (fun z=>by rw[z,ld]at e;cases e) (fun z=>by rw[hT b z]at e;cases e) h;rw[(U.mem z).1]at e;cases e
  have ad:=(show X.env.scope.kind≠ScopeKind.module/\(∃L o,X.env.frame=some L/\B.get? L=none/\s'.heap.get? L=some o/\∀(vs:Array a_),o.data≠Data.fields vs)/\s'.heap.FunFrames B X.outer by unfold ZJ at U;exact U).2.2;have ho:h'.FunFrames B X.outer:=ad.of_keeps fun b o e nf=>by obtain⟨sl,e1⟩:=l.slot b o e nf;exact⟨_,e1,rfl⟩
  obtain⟨tb,ot,ts,t1,t2,t3,t4,t5,t6⟩:=l.obj;have BT:B.get? tb=none:=by
   rcases t1 with t1|t1
   .cases z:B.get? tb with
   |none=>rfl
   |some o=>have:=hB tb o z;rw[t1]at this;cases this
   .exact hT tb t1
  have hs1:1<vs.size:=by rcases r5 with z|⟨_,_,_,z,_⟩|⟨_,_,_,_,_,z,_⟩ <;> exact(VW.mp z).1
  refine q _ ⟨I'.os,F.bare,⟨fun b o e n f z=>?_,fun b o e n f z=>?_,fun b o e n z=>?_,fun b o e z=>?_,I'.base.tups,I'.base.frzs,I'.base.tbls⟩,fun b u e=>?_,B,fun b o e=>same b o ⟨o,e⟩ (hB b o e),ld,ho,⟨_,_,t3,r2,r3,rfl,.inr (.inl ⟨tb,ot,ts,S_ hs1,BT,t2,t4,t5,t6⟩)⟩,inB,hH⟩
  .exact same b o (inB b o e f) (I'.base.keep b o e n f (by rw[Z];exact z))
  .obtain⟨sl,e1⟩:=I'.base.slot b o e n f (by rw[Z];exact z);obtain⟨_,o2,e2,nf⟩:=ad.mem f;rw[e1]at e2;cases e2;obtain⟨Cl,e3⟩:=l.slot b _ e1 nf;exact⟨Cl,e3⟩
  .exact I'.base.free b o e n (by rw[Z];exact z)
  .obtain⟨o1,e1⟩:=I'.base.there b o e (by rw[Z];exact z);by_cases f:b∈cV X.outer
   .obtain⟨_,o2,e2,nf⟩:=ad.mem f;obtain⟨sl,e3⟩:=l.slot b _ e2 nf;exact⟨_,e3⟩
   .exact⟨o1,same b o1 (inB b o e f) e1⟩
  .refine(F.hok b u e).stay (fun c v hc e1=>same c v ?_ e1) (fun _ z=>z) fun _ _ z=>z;rcases hc with hc|hc
   .rw[hc];exact hH b u e
   .exact hH c _ hc
 rcases r5 with z|⟨T,oT,ts,z1,z2,z3,z4,z5,z6⟩|⟨l,T,oT,ts,zl,z1,z2,z3,z4,z5,z6⟩
 .exact AG (T:=none) (by rw[I.ok.frames,Y]) U ac r1 r4 (.inl ⟨z,rfl⟩) fun h' l=>fin none h' (fun b e=>nomatch e) l
 .exact AG (T:=some T) (by rw[I.ok.frames,Y]) U ac r1 r4 (.inr (.inl ⟨T,oT,ts,rfl,z1,z3,z4,z5,z6⟩)) fun h' l=>fin (some T) h' (fun b e=>by cases e;exact z2) l
 .have hl:l=X.env.locals:=by unfold nr at zl;rw[Y]at zl;exact(B_ (ac.symm.trans (show X.env.frame=some l from zl))).symm
  subst hl;exact AG (T:=some T) (by rw[I.ok.frames,Y]) U ac r1 r4 (.inr (.inr ⟨T,oT,ts,rfl,z1,z3,z4,z5,z6⟩)) fun h' l=>fin (some T) h' (fun b e=>by cases e;exact z2) l
end
def xK(P:E_)(w:T_):ja:=fun outer H s E e s'=>∃a cls H' od,e=.ref a/\Fly P w outer H s H' a cls od s'/\E cls od H'
theorem zN{P:E_}{w:T_}{H:Hp}{h:Heap}{a:Addr}{o:HO}(x:cp P w H h a o):∃u,h.get? a=some u:=by cases o with
|lst xs=>obtain⟨_,_,_,_,e⟩:=x;exact⟨_,e⟩
|tup xs=>obtain⟨_,_,_,_,o,e,_⟩:=x;exact⟨_,e⟩
|dK kvs=>obtain⟨_,_,_,_,o,_,_,e,_⟩:=x;exact⟨_,e⟩
|dT kvs=>obtain⟨_,_,_,_,o,_,_,e,_⟩:=x;exact⟨_,e⟩
|set S n=>obtain⟨o,_,_,_,e,_⟩:=x;exact⟨_,e⟩
|ins C dx fs=>obtain⟨_,_,_,e,_⟩:=x;exact⟨_,e⟩
|own y=>exact x
|xd fs=>obtain⟨_,⟨_,_,_,e,_⟩,_⟩:=x;exact⟨_,e⟩
|rng lo hi=>obtain⟨_,_,_,e⟩:=x;exact⟨_,e⟩
|frz ob u=>obtain⟨e,_⟩:=x;exact⟨_,e⟩
|tbl ps=>exact⟨_,(show h.get? a=some _ from x)⟩
|met f y=>exact⟨_,(show h.get? a=some _ from x)⟩
|ext φ=>exact x.2.1
abbrev hX:List a_:=[Value.type "ValueError",Value.type "Exception",Value.type "BaseException",Value.type "object"]
theorem GJ{h:Heap}{z bm:List a_}{v:a_}(t:ZU h z bm)(hb:z.contains v=true):bm.contains v=true:=by induction t with
|base=>exact hb
|own _ _ _ _ ih=>rw[X5,ih,Zq]
end DL
namespace DL
open PySem PySem.Spec PyProof.Rows L2
inductive D where
 |non|bl (b:Bool)|int (i:Int)|str (x:Str)
 |tup (ds:List D)|lst (ds:List D)
 |dic (kvs:List (aY×D))
 |obj (c:Nat) (fs:List (Str×D))
instance:Inhabited D:=⟨.non⟩
inductive Res(α:Type) where
 |ok (a:α)|exc (x:D)|stuck
def Res.bind{α β:Type}(r:Res α)(f:α->Res β):Res β:=match r with
|.ok a=>f a
|.exc x=>.exc x
|.stuck=>.stuck
@[simp] theorem bind_ok{α β:Type}(a:α)(f:α->Res β):(Res.ok a).bind f=f a:=rfl
def fin{α:Type}(r:Res α)(q:α->Prop)(x:D->Prop):Prop:=match r with
|.ok a=>q a
|.exc e=>x e
|.stuck=>False
theorem bG{α:Type}{r:Res α}{q q':α->Prop}{x:D->Prop}(h:fin r q x)(hq:∀a,q a->q' a):fin r q' x:=by cases r with
|ok a=>exact hq a h
|exc e=>exact h
|stuck=>exact h
theorem bJ{α β:Type}{r:Res α}{f:α->Res β}{q:β->Prop}{x:D->Prop}(h:fin (r.bind f) q x):fin r (fun a=>fin (f a) q x) x:=by cases r with
|ok a=>exact h
|exc e=>exact h
|stuck=>exact h
abbrev GH:=Addr->Option D
inductive Scl:V->D->Prop where
 |non:Scl .non .non
 |bl (b:Bool):Scl (.bl b) (.bl b)
 |int (i:Int):Scl (.int i) (.int i)
 |str (x:Str):Scl (.str x) (.str x)
inductive KC(K:W.Frag)(a:Addr):D->Prop where
|lst {xs:List V} {ds:List D}:bM K (fun _=>none) a xs->Paired Scl xs ds->KC K a (.lst ds)
|tup {xs:List V} {ds:List D}:cJ K (fun _=>none) a xs->Paired Scl xs ds->(∃o,K.lookup a=some o/\o.cls=.type "tuple"/\o.dict=none)->KC K a (.tup ds)
inductive RG(K:W.Frag)(G:GH):V->D->Prop where
 |scl {v:V} {d:D}:Scl v d->RG K G v d
 |ref {a:Addr} {d:D}:G a=some d->RG K G (.ref a) d
 |kc {a:Addr} {d:D}:KC K a d->RG K G (.ref a) d
abbrev cK(K:W.Frag)(G:GH):List V->List D->Prop:=Paired (RG K G)
abbrev im(K:W.Frag)(G:GH):List (aY×V)->List (aY×D)->Prop:=Paired fun p q=>p.1=q.1/\RG K G p.2 q.2
abbrev xD(nm:Str)(ds:List (Str×D)):D:=.obj 0 (("__class__",.str nm)::ds)
def XN(K:W.Frag)(nm:Str)(C:Addr):Prop:=∃o cd,K.lookup C=some o/\o.data=Data.cls cd/\cd.name=nm
def nM(a C:Addr)(od:Option Addr):Heap->Prop:=fun h=>∃oe vs,h.get? a=some oe/\oe.cls=.ref C/\(∀dx,od=some dx->oe.dict=some dx)/\oe.data=.fields vs
def XF(G:GH)(od:Option Addr)(ds:List (Str×D)):Prop:=match od with
|none=>ds=[]
|some dx=>G dx=some (.obj 1 ds)
theorem XF.mono{G G':GH}{od:Option Addr}{ds:List (Str×D)}(h:XF G od ds)(ge:∀a d,G a=some d->G' a=some d):XF G' od ds:=by cases od with
|none=>exact h
|some dx=>exact ge _ _ h
abbrev gT(K:W.Frag)(G:GH):List (Str×V)->List (Str×D)->Prop:=Paired fun p q=>p.1=q.1/\RG K G p.2 q.2
abbrev iD(nm:Str)(ds:List (Str×D)):D:=.obj 2 (("__class__",.str nm)::ds)
inductive OB(K:W.Frag)(G:GH)(H:Hp)(a:Addr):D->Prop where
 |lst {xs:List V} {ds:List D}:Rd H a (.lst xs)->cK K G xs ds->OB K G H a (.lst ds)
 |tup {xs:List V} {ds:List D}:Rd H a (.tup xs)->cK K G xs ds->OB K G H a (.tup ds)
 |dic {ob:Obj} {ps:List (aY×V)} {kvs:List (aY×D)}:H a=some (.frz ob (.dK ps))->im K G ps kvs->OB K G H a (.dic kvs)
 |exc {nm:Str} {C:Addr} {od:Option Addr} {ds:List (Str×D)}:H a=some (.ext (nM a C od))->XN K nm C->XF G od ds->OB K G H a (xD nm ds)
 |fld {fs:List (Str×V)} {ds:List (Str×D)}:H a=some (.xd fs)->gT K G fs ds->OB K G H a (.obj 1 ds)
 |ins {nm:Str} {C dx:Addr} {fs:List (Str×V)} {ds:List (Str×D)}:H a=some (.ins C dx fs)->XN K nm C->gT K G fs ds->OB K G H a (iD nm ds)
def bn(K:W.Frag)(G:GH)(H:Hp):Prop:=∀a d,G a=some d->OB K G H a d
inductive OwnO(K:W.Frag)(G:GH)(H:Hp)(a:Addr):D->Prop where
 |lst {xs:List V} {ds:List D}:H a=some (.lst xs)->cK K G xs ds->OwnO K G H a (.lst ds)
 |dic {ps:List (aY×V)} {kvs:List (aY×D)}:H a=some (.dK ps)->im K G ps kvs->OwnO K G H a (.dic kvs)
structure Own(K:W.Frag)(G:GH)(H:Hp)(a:Addr)(d:D):Prop where
 un:G a=none
 ob:OwnO K G H a d
structure Grow(K:W.Frag)(G:GH)(H:Hp)(G':GH)(H':Hp):Prop where
 ok:bn K G' H'
 he:∀a o,H a=some o->H' a=some o
 ge:∀a d,G a=some d->G' a=some d
 gf:∀a,H a≠none->G' a=G a
variable{K:W.Frag}{G G' G2:GH}{H H' H2:Hp}{d:D}{v:V}
section
variable{G1:GH}{H1:Hp}{a p:Addr}
theorem Rd.isS{u:HO}(h:Rd H a u):H a≠none:=by rcases h with h|⟨o,h⟩ <;> rw[h] <;> simp
theorem RG.mono(h:RG K G v d)(ge:∀a d,G a=some d->G' a=some d):RG K G' v d:=by cases h with
|scl s=>exact .scl s
|ref e=>exact .ref (ge _ _ e)
|kc k=>exact .kc k
theorem cK.mono{xs:List V}{ds:List D}(h:cK K G xs ds)(ge:∀a d,G a=some d->G' a=some d):cK K G' xs ds:=Paired.mono (fun _ _ r=>r.mono ge) h
theorem im.mono{xs:List (aY×V)}{ds:List (aY×D)}(h:im K G xs ds)(ge:∀a d,G a=some d->G' a=some d):im K G' xs ds:=Paired.mono (fun _ _ r=>⟨r.1,r.2.mono ge⟩) h
theorem OB.mono(h:OB K G H a d)(ge:∀a d,G a=some d->G' a=some d)(he:∀o,H a=some o->H' a=some o):OB K G' H' a d:=by
 have rd:∀{u:HO},Rd H a u->Rd H' a u:=fun r=>by
  rcases r with r|⟨o,r⟩
  .exact .inl (he _ r)
  .exact .inr ⟨o,he _ r⟩
 cases h with
|lst r s=>exact .lst (rd r) (s.mono ge)
|tup r s=>exact .tup (rd r) (s.mono ge)
|dic r s=>exact .dic (he _ r) (im.mono s ge)
|exc r n f=>exact .exc (he _ r) n (f.mono ge)
|fld r s=>exact .fld (he _ r) (Paired.mono (fun _ _ r=>⟨r.1,r.2.mono ge⟩) s)
|ins r n s=>exact .ins (he _ r) n (Paired.mono (fun _ _ r=>⟨r.1,r.2.mono ge⟩) s)
theorem OB.isS(h:OB K G H a d):H a≠none:=by cases h with
|lst r s=>exact Rd.isS r
|tup r s=>exact Rd.isS r
|dic r s=>rw[r];simp
|exc r n f=>rw[r];simp
|fld r s=>rw[r];simp
|ins r n s=>rw[r];simp
theorem bn.isN(g:bn K G H)(h:H p=none):G p=none:=by cases e:G p with
|none=>rfl
|some d=>exact absurd h (g p d e).isS
theorem OwnO.isS(h:OwnO K G H a d):H a≠none:=by cases h with
|lst r s=>rw[r];simp
|dic r s=>rw[r];simp
theorem OwnO.mono(h:OwnO K G H a d)(ge:∀a d,G a=some d->G' a=some d)(he:∀o,H a=some o->H' a=some o):OwnO K G' H' a d:=by cases h with
|lst r s=>exact .lst (he _ r) (s.mono ge)
|dic r s=>exact .dic (he _ r) (im.mono s ge)
theorem Own.mono(h:Own K G H a d)(w:Grow K G H G' H'):Own K G' H' a d:=⟨by rw[w.gf a h.ob.isS];exact h.un,h.ob.mono w.ge fun o e=>w.he _ _ e⟩
def fz(H:Hp)(a:Addr)(ob:Obj):Hp:=match H a with
|some (.dK ps)=>aD H a (.frz ob (.dK ps))
|_=>H
theorem pL{b:Addr}{ob:Obj}(h:b≠a):fz H a ob b=H b:=by unfold fz;cases e:H a with
|none=>rfl
|some u=>cases u <;> first|rfl|exact bg h
theorem Kq{xs:List V}{ob:Obj}(h:H a=some (.lst xs)):fz H a ob=H:=by unfold fz;rw[h]
theorem Kp{ps:List (aY×V)}{ob:Obj}(h:H a=some (.dK ps)):fz H a ob a=some (.frz ob (.dK ps)):=by unfold fz;rw[h];exact bX
theorem OwnO.fast(h:OwnO K G H a d)(ob:Obj):OB K G (fz H a ob) a d:=by cases h with
|lst r s=>rw[Kq r];exact .lst (.inl r) s
|dic r s=>exact .dic (Kp r) s
theorem bn.fast(g:bn K G H)(hn:G a=none)(ob:Obj):bn K G (fz H a ob):=fun b d e=>by
 have hb:b≠a:=by rintro rfl;rw[hn]at e;cases e
 exact(g b d e).mono (fun _ _ z=>z) fun o z=>by rw[pL hb];exact z
theorem Grow.refl(g:bn K G H):Grow K G H G H:=⟨g,fun _ _ e=>e,fun _ _ e=>e,fun _ _=>rfl⟩
theorem Grow.trans(x:Grow K G H G1 H1)(y:Grow K G1 H1 G2 H2):Grow K G H G2 H2:=
 ⟨y.ok,fun a o e=>y.he _ _ (x.he _ _ e),fun a d e=>y.ge _ _ (x.ge _ _ e),fun a h=>by
  have h1:H1 a≠Option.none:=by cases e:H a with
  |none=>exact absurd e h
  |some o=>rw[x.he _ _ e];simp
  rw[y.gf a h1,x.gf a h]⟩
def gset(G:GH)(a:Addr)(d:D):GH:=fun b=>if b=a then some d else G b
theorem gK:gset G a d a=some d:=if_pos rfl
theorem jF{b:Addr}(h:b≠a):gset G a d b=G b:=if_neg h
theorem jE(hn:G a=none):∀b e,G b=some e->gset G a d b=some e:=fun b e h=>by
 have:b≠a:=by rintro rfl;rw[hn]at h;cases h
 rw[jF this];exact h
theorem bn.gset(g:bn K G H)(hn:G a=none)(o:OB K G H a d):bn K (gset G a d) H:=fun b e h=>by
 by_cases hb:b=a
 .subst hb;rw[gK]at h;cases h;exact o.mono (jE hn) fun _ q=>q
 .rw[jF hb]at h;exact(g b e h).mono (jE hn) fun _ q=>q
theorem E6(hn:H p=none){o:HO}:∀a u,H a=some u->aD H p o a=some u:=fun a u e=>by rw[bg (lN e hn)];exact e
theorem Grow.new(g:bn K G H)(hn:H p=none)(o:HO):Grow K G H G (aD H p o):=⟨fun a d e=>(g a d e).mono (fun _ _ q=>q) fun u q=>E6 hn _ _ q,fun a u e=>E6 hn _ _ e,fun _ _ e=>e,fun _ _=>rfl⟩
theorem Grow.newF(g:bn K G H)(hn:H p=none){o:HO}(ob:OB K G (aD H p o) p d):Grow K G H (gset G p d) (aD H p o):=by have w:=Grow.new g hn o;have gn:=g.isN hn;exact⟨w.ok.gset gn ob,w.he,fun a e h=>jE gn a e h,fun a h=>jF (by rintro rfl;exact h hn)⟩
theorem Grow.frz(w:Grow K G H G' H')(hn:H a=none)(o:Own K G' H' a d)(ob:Obj):Grow K G H (gset G' a d) (fz H' a ob):=⟨(w.ok.fast o.un ob).gset o.un (o.ob.fast ob),fun b u e=>by rw[pL (by rintro rfl;rw[hn]at e;cases e)];exact w.he b u e,fun b e h=>jE o.un b e (w.ge b e h),fun b h=>by rw[jF (by rintro rfl;exact h hn)];exact w.gf b h⟩
theorem RG.lst{ds:List D}(g:bn K G H)(h:RG K G v (.lst ds)):∃a xs,v=.ref a/\bM K H a xs/\cK K G xs ds:=by cases h with
|scl s=>cases s
|ref e=>cases g _ _ e with
 |lst r s=>exact⟨_,_,rfl,.inl r,s⟩
|kc k=>cases k with
 |lst r s=>
   refine⟨_,_,rfl,?_,Paired.mono (fun _ _ z=>.scl z) s⟩;rcases r with(r|⟨o,r⟩)|r
   .cases r
   .cases r
   .exact .inr r
theorem RG.tup{ds:List D}(g:bn K G H)(h:RG K G v (.tup ds)):∃a xs,v=.ref a/\cJ K H a xs/\cK K G xs ds:=by cases h with
|scl s=>cases s
|ref e=>cases g _ _ e with
 |tup r s=>exact⟨_,_,rfl,.inl r,s⟩
|kc k=>cases k with
 |tup r s _=>
   refine⟨_,_,rfl,?_,Paired.mono (fun _ _ z=>.scl z) s⟩;rcases r with(r|⟨o,r⟩)|r
   .cases r
   .cases r
   .exact .inr r
theorem RG.dic{kvs:List (aY×D)}(g:bn K G H)(h:RG K G v (.dic kvs)):∃a ps,v=.ref a/\Rd H a (.dK ps)/\im K G ps kvs:=by cases h with
|scl s=>cases s
|ref e=>cases g _ _ e with
 |dic r s=>exact⟨_,_,rfl,.inr ⟨_,r⟩,s⟩
|kc k=>cases k
theorem RG.int{i:Int}(g:bn K G H)(h:RG K G v (.int i)):v=.int i:=by cases h with
|scl s=>cases s;rfl
|ref e=>cases g _ _ e
|kc k=>cases k
theorem RG.str{x:Str}(g:bn K G H)(h:RG K G v (.str x)):v=.str x:=by cases h with
|scl s=>cases s;rfl
|ref e=>cases g _ _ e
|kc k=>cases k
theorem RG.bl{b:Bool}(g:bn K G H)(h:RG K G v (.bl b)):v=.bl b:=by cases h with
|scl s=>cases s;rfl
|ref e=>cases g _ _ e
|kc k=>cases k
theorem RG.non(g:bn K G H)(h:RG K G v .non):v=.non:=by cases h with
|scl s=>cases s;rfl
|ref e=>cases g _ _ e
|kc k=>cases k
def RB(K:W.Frag)(G:GH)(H:Hp)(v:V)(d:D):Prop:=RG K G v d\/∃a,v=.ref a/\Own K G H a d
theorem RG.rb(h:RG K G v d):RB K G H v d:=.inl h
theorem RB.mono(h:RB K G H v d)(w:Grow K G H G' H'):RB K G' H' v d:=by
 rcases h with h|⟨a,e,h⟩
 .exact .inl (h.mono w.ge)
 .exact .inr ⟨a,e,h.mono w⟩
theorem RB.lst{ds:List D}(g:bn K G H)(h:RB K G H v (.lst ds)):∃a xs,v=.ref a/\bM K H a xs/\cK K G xs ds:=by
 rcases h with h|⟨a,e,h⟩
 .exact h.lst g
 .cases h.ob with
 |lst r s=>exact⟨a,_,e,bM.of r,s⟩
theorem RB.tup{ds:List D}(g:bn K G H)(h:RB K G H v (.tup ds)):∃a xs,v=.ref a/\cJ K H a xs/\cK K G xs ds:=by
 rcases h with h|⟨a,e,h⟩
 .exact h.tup g
 .cases h.ob
theorem RB.dic{kvs:List (aY×D)}(g:bn K G H)(h:RB K G H v (.dic kvs)):∃a ps,v=.ref a/\Rd H a (.dK ps)/\im K G ps kvs:=by
 rcases h with h|⟨a,e,h⟩
 .exact h.dic g
 .cases h.ob with
 |dic r s=>exact⟨a,_,e,.inl r,s⟩
theorem RB.int{i:Int}(g:bn K G H)(h:RB K G H v (.int i)):v=.int i:=by
 rcases h with h|⟨a,e,h⟩
 .exact h.int g
 .cases h.ob
theorem RB.str{x:Str}(g:bn K G H)(h:RB K G H v (.str x)):v=.str x:=by
 rcases h with h|⟨a,e,h⟩
 .exact h.str g
 .cases h.ob
theorem RB.bl{b:Bool}(g:bn K G H)(h:RB K G H v (.bl b)):v=.bl b:=by
 rcases h with h|⟨a,e,h⟩
 .exact h.bl g
 .cases h.ob
theorem RB.non(g:bn K G H)(h:RB K G H v .non):v=.non:=by
 rcases h with h|⟨a,e,h⟩
 .exact h.non g
 .cases h.ob
theorem Paired.get{α β:Type}{F:α->β->Prop}:∀{l:List α}{r:List β}{i:Nat}{b:β},Paired F l r->r[i]? = some b->∃a,l[i]? = some a/\F a b
|_,_,_,_,.nil,e=>by simp at e
|_,_,0,_,.cons h _,e=>by simp at e;subst e;exact⟨_,rfl,h⟩
|_,_,i+1,b,.cons _ t,e=>by obtain⟨a,h1,h2⟩:=Paired.get (i:=i) t (by simpa using e);exact⟨a,by simpa using h1,h2⟩
theorem Paired.app{α β:Type}{F:α->β->Prop}{l l':List α}{r r':List β}(h:Paired F l r)(q:Paired F l' r'):Paired F (l++l') (r++r'):=by induction h with
|nil=>exact q
|cons h _ ih=>exact .cons h ih
theorem Paired.tk{α β:Type}{F:α->β->Prop}{l:List α}{r:List β}(n:Nat)(h:Paired F l r):Paired F (l.take n) (r.take n):=by induction h generalizing n with
|nil=>cases n <;> exact .nil
|cons h _ ih=>cases n with
 |zero=>exact .nil
 |succ n=>exact .cons h (ih n)
theorem Paired.dr{α β:Type}{F:α->β->Prop}{l:List α}{r:List β}(n:Nat)(h:Paired F l r):Paired F (l.drop n) (r.drop n):=by induction h generalizing n with
|nil=>cases n <;> exact .nil
|cons h t ih=>cases n with
 |zero=>exact .cons h t
 |succ n=>exact ih n
theorem Paired.st{α β:Type}{F:α->β->Prop}{a:α}{b:β}(h:F a b){l:List α}{r:List β}(n:Nat)(p:Paired F l r):Paired F (l.set n a) (r.set n b):=by induction p generalizing n with
|nil=>exact .nil
|cons q t ih=>cases n with
 |zero=>exact .cons h t
 |succ n=>exact .cons q (ih n)
theorem Paired.er{α β:Type}{F:α->β->Prop}{l:List α}{r:List β}(n:Nat)(p:Paired F l r):Paired F (l.eraseIdx n) (r.eraseIdx n):=by induction p generalizing n with
|nil=>exact .nil
|cons q t ih=>cases n with
 |zero=>exact t
 |succ n=>exact .cons q (ih n)
end
inductive Md where
 |sh|ow|bw
 deriving DecidableEq
abbrev ao:=List (Option D)
structure GE where
 gh:GH
 h0:Hp
 hd:Nat->Option (Option V×Option D)
def Bw(K:W.Frag)(h0:Hp)(G:GH)(H:Hp)(v:V)(d:D):Prop:=RG K G v d\/∃a,v=V.ref a/\Own K G H a d/\h0 a≠none
theorem Bw.grow{K:W.Frag}{h0:Hp}{G G':GH}{H H':Hp}{v:V}{d:D}(h:Bw K h0 G H v d)(w:Grow K G H G' H'):Bw K h0 G' H' v d:=by
 rcases h with h|⟨a,e,h1,h2⟩
 .exact .inl (h.mono w.ge)
 .exact .inr ⟨a,e,h1.mono w,h2⟩
theorem Bw.rb{K:W.Frag}{h0:Hp}{G:GH}{H:Hp}{v:V}{d:D}(h:Bw K h0 G H v d):RB K G H v d:=by
 rcases h with h|⟨a,e,h1,h2⟩
 .exact .inl h
 .exact .inr ⟨a,e,h1⟩
def Lk(r:ao)(st:L2.St)(i:Nat)(o:Option V×Option D):Prop:=st[i]? = some o.1/\∀d,r[i]? = some (some d)->o.2=some d
structure SI(X:Cx)(g:GE)(m:List Md)(r:ao)(G:GH)(st:L2.St)(H:Hp):Prop where
 gok:bn X.K G H
 old:∀a o,g.h0 a=some o->H a=some o
 ge:∀a d,g.gh a=some d->G a=some d
 gf:∀a,g.h0 a≠none->G a=g.gh a
 lm:m.length=st.length
 lr:r.length=st.length
 sh:∀(i:Nat) d,r[i]? = some (some d)->m[i]? = some .sh->∃v,st[i]? = some (some v)/\RG X.K G v d
 ow:∀(i:Nat) d,r[i]? = some (some d)->m[i]? = some .ow->∃a,st[i]? = some (some (V.ref a))/\Own X.K G H a d/\g.h0 a=none
 bw:∀(i:Nat) d,r[i]? = some (some d)->m[i]? = some .bw->∃v,st[i]? = some (some v)/\Bw X.K g.h0 G H v d
 dis:∀(i j:Nat) a d e,i≠j->r[i]? = some (some d)->r[j]? = some (some e)->m[i]? = some .ow->m[j]? = some .ow->st[i]? = some (some (V.ref a))->st[j]? = some (some (V.ref a))->False
 lk:∀(i:Nat) o,g.hd i=some o->m[i]? = some .bw->Lk r st i o
variable{X:Cx}{g:GE}{m:List Md}{r:ao}
section
variable{st:L2.St}
theorem SI.grow(s:SI X g m r G st H)(w:Grow X.K G H G' H'):SI X g m r G' st H' where
 gok:=w.ok
 old:=fun a o e=>w.he _ _ (s.old a o e)
 ge:=fun a d e=>w.ge _ _ (s.ge a d e)
 gf:=fun a h=>by
  have h1:H a≠none:=by cases e:g.h0 a with
  |none=>exact absurd e h
  |some o=>rw[s.old _ _ e];simp
  rw[w.gf a h1,s.gf a h]
 lm:=s.lm
 lr:=s.lr
 sh:=fun i d h1 h2=>by obtain⟨v,h3,h4⟩:=s.sh i d h1 h2;exact⟨v,h3,h4.mono w.ge⟩
 ow:=fun i d h1 h2=>by obtain⟨a,h3,h4,h5⟩:=s.ow i d h1 h2;exact⟨a,h3,h4.mono w,h5⟩
 bw:=fun i d h1 h2=>by obtain⟨v,h3,h4⟩:=s.bw i d h1 h2;exact⟨v,h3,h4.grow w⟩
 dis:=s.dis
 lk:=s.lk
theorem SI.grown(s:SI X g m r G st H):Grow X.K g.gh g.h0 G H:=⟨s.gok,s.old,s.ge,s.gf⟩
theorem SI.frz(s:SI X g m r G st H)(i:Nat)(hi:m[i]? = some .ow):(∃G',(∀a d,G a=some d->G' a=some d)/\SI X g (m.set i .sh) r G' st H)\/∃a,∀ob,∃G',(∀a d,G a=some d->G' a=some d)/\SI X g (m.set i .sh) r G' st (fz H a ob):=by
 have hlt:i<m.length:=(j_.mp hi).1;by_cases hb:∃d,r[i]? = some (some d)
 .obtain⟨d,hd⟩:=hb;obtain⟨a,h1,h2,h3⟩:=s.ow i d hd hi;refine .inr ⟨a,fun ob=>⟨gset G a d,jE h2.un,(s.gok.fast h2.un ob).gset h2.un (h2.ob.fast ob),fun b o e=>by rw[pL (by rintro rfl;rw[h3]at e;cases e)];exact s.old b o e,fun b e h=>jE h2.un b e (s.ge b e h),fun b h=>?_,by simpa using s.lm,s.lr,?_,?_,?_,?_,fun j o hj hm=>?_⟩⟩
  .rw[jF (by rintro rfl;exact h h3)];exact s.gf b h
  .intro j e hj hm;by_cases U:i=j
   .subst U;rw[hd]at hj;cases hj;exact⟨_,h1,.ref gK⟩
   .rw[h_ U]at hm;obtain⟨v,q1,q2⟩:=s.sh j e hj hm;exact⟨v,q1,q2.mono (jE h2.un)⟩
  .intro j e hj hm;by_cases U:i=j
   .subst U;rw[x_ hlt]at hm;cases hm
   .rw[h_ U]at hm;obtain⟨b,q1,q2,q3⟩:=s.ow j e hj hm;have Z:b≠a:=by
     rintro rfl
     exact s.dis i j b d e U hd hj hi hm h1 q1
    exact⟨b,q1,⟨by rw[jF Z];exact q2.un,q2.ob.mono (jE h2.un) fun _ z=>by rw[pL Z];exact z⟩,q3⟩
  .intro j e hj hm;by_cases U:i=j
   .subst U;rw[x_ hlt]at hm;cases hm
   .rw[h_ U]at hm;obtain⟨v,q1,q2⟩:=s.bw j e hj hm;refine⟨v,q1,?_⟩;rcases q2 with q2|⟨b,rfl,q2,q3⟩
    .exact .inl (q2.mono (jE h2.un))
    .have Z:b≠a:=by rintro rfl;exact q3 h3
     exact .inr ⟨b,rfl,⟨by rw[jF Z];exact q2.un,q2.ob.mono (jE h2.un) fun _ z=>by rw[pL Z];exact z⟩,q3⟩
  .intro j k b e e' ac hj hk hm Y q1 q2;have U:i≠j:=by
    rintro rfl
    rw[x_ hlt]at hm;cases hm
   have ad:i≠k:=by
    rintro rfl
    rw[x_ hlt]at Y;cases Y
   rw[h_ U]at hm;rw[h_ ad]at Y;exact s.dis j k b e e' ac hj hk hm Y q1 q2
  .refine s.lk j o hj ?_;by_cases U:i=j
   .subst U;rw[x_ hlt]at hm;cases hm
   .rw[h_ U]at hm;exact hm
 .refine .inl ⟨G,fun _ _ z=>z,s.gok,s.old,s.ge,s.gf,by simpa using s.lm,s.lr,?_,?_,?_,?_,fun j o hj hm=>?_⟩
  .intro j e hj hm;have U:i≠j:=by rintro rfl;exact hb ⟨e,hj⟩
   rw[h_ U]at hm;exact s.sh j e hj hm
  .intro j e hj hm;have U:i≠j:=by rintro rfl;exact hb ⟨e,hj⟩
   rw[h_ U]at hm;exact s.ow j e hj hm
  .intro j e hj hm;have U:i≠j:=by rintro rfl;exact hb ⟨e,hj⟩
   rw[h_ U]at hm;exact s.bw j e hj hm
  .intro j k b e e' ac hj hk hm Y q1 q2;have U:i≠j:=by rintro rfl;exact hb ⟨e,hj⟩
   have ad:i≠k:=by rintro rfl;exact hb ⟨e',hk⟩
   rw[h_ U]at hm;rw[h_ ad]at Y;exact s.dis j k b e e' ac hj hk hm Y q1 q2
  .refine s.lk j o hj ?_;by_cases U:i=j
   .subst U;rw[x_ hlt]at hm;cases hm
   .rw[h_ U]at hm;exact hm
end
theorem PE.imp{X:Cx}{e:Expr}{t t':TE}(h:PE X e t)(i:∀σ H Q,t' σ H Q->t σ H Q):PE X e t':=fun pz s σ H Q I q=>h pz s σ H Q I (i σ H Q q)
theorem PT.imp{X:Cx}{e:Expr}{t t':TT}(h:PT X e t)(i:∀σ H Q,t' σ H Q->t σ H Q):PT X e t':=fun pz s σ H Q I q=>h pz s σ H Q I (i σ H Q q)
theorem PW.imp{X:Cx}{e:Expr}{t t':TT}(h:PW X e t)(i:∀σ H Q,t' σ H Q->t σ H Q):PW X e t':=fun whole pz s σ H Q I q=>h whole pz s σ H Q I (i σ H Q q)
theorem PA.imp{X:Cx}{e:List Expr}{t t':TA}(h:PA X e t)(i:∀σ H Q,t' σ H Q->t σ H Q):PA X e t':=fun pos pz s σ H Q I q=>h pos pz s σ H Q I (i σ H Q q)
theorem PS.imp{X:Cx}{e:Stmt}{t t':TS}(h:PS X e t)(i:∀D σ H,t' D σ H->t D σ H):PS X e t':=fun pz s σ H D I q=>h pz s σ H D I (i D σ H q)
theorem dD.imp{X:Cx}{e:List Stmt}{t t':TS}(h:dD X e t)(i:∀D σ H,t' D σ H->t D σ H):dD X e t':=fun pz s σ H D I q=>h pz s σ H D I (i D σ H q)
def JA(X:Cx)(σ:L2.St)(G:GH)(H':Hp)(e:a_)(x:D)(s':f_):Prop:=∃pz s H1 a C od nm ds,e=.ref a/\x=xD nm ds/\XN X.K nm C/\XF G od ds/\Inv X pz σ H1 s/\Fly X.prog X.w X.stack H1 s H' a (.ref C) od s'
def XW(X:Cx)(σ:L2.St)(G:GH)(H:Hp)(x:D):Prop:=∀pz e s' G' H',Grow X.K G H G' H'->Inv X pz σ H' s'->JA X σ G' H' e x s'->X.xe e s'
theorem XW.grow{X:Cx}{σ:L2.St}{G G1:GH}{H H1:Hp}{x:D}(h:XW X σ G H x)(w:Grow X.K G H G1 H1):XW X σ G1 H1 x:=fun pz e s' G' H' w' I q=>h pz e s' G' H' (w.trans w') I q
abbrev FE:=ao->Res D
def tE(X:Cx)(g:GE)(m:List Md)(f:FE):TE:=fun σ H Q=>∃r G,SI X g m r G σ H/\fin (f r) (fun d=>∀v G' H',Grow X.K G H G' H'->RG X.K G' v d->Q v H') (XW X σ G H)
def tB(X:Cx)(g:GE)(m:List Md)(f:FE):TE:=fun σ H Q=>∃r G,SI X g m r G σ H/\fin (f r) (fun d=>∀v G' H',Grow X.K G H G' H'->RB X.K G' H' v d->Q v H') (XW X σ G H)
def tO(X:Cx)(g:GE)(m:List Md)(f:FE):TE:=fun σ H Q=>∃r G,SI X g m r G σ H/\fin (f r) (fun d=>∀a G' H',Grow X.K G H G' H'->H a=none->Own X.K G' H' a d->Q (.ref a) H') (XW X σ G H)
def tQ(X:Cx)(g:GE)(m:List Md)(f:ao->Res Bool):TT:=fun σ H Q=>∃r G,SI X g m r G σ H/\fin (f r) (fun b=>∀G' H',Grow X.K G H G' H'->Q b H') (XW X σ G H)
def tL(X:Cx)(g:GE)(m:List Md)(f:ao->Res (List D)):TA:=fun σ H Q=>∃r G,SI X g m r G σ H/\fin (f r) (fun ds=>∀vs G' H',Grow X.K G H G' H'->cK X.K G' vs ds->Q vs H') (XW X σ G H)
def CG(X:Cx)(g:GE)(m:List Md)(f:ao->Res (List D)):TA:=fun σ H Q=>∃r G,SI X g m r G σ H/\fin (f r) (fun ds=>∀vs G' H',Grow X.K G H G' H'->Paired (RB X.K G' H') vs ds->Q vs H') (XW X σ G H)
def SE(X:Cx)(g:GE)(m:List Md)(e:Expr)(f:FE):Prop:=PE X e (tE X g m f)
def SB(X:Cx)(g:GE)(m:List Md)(e:Expr)(f:FE):Prop:=PE X e (tB X g m f)
def SO(X:Cx)(g:GE)(m:List Md)(e:Expr)(f:FE):Prop:=PE X e (tO X g m f)
def SQ(X:Cx)(g:GE)(m:List Md)(e:Expr)(f:ao->Res Bool):Prop:=PT X e (tQ X g m f)
def SW(X:Cx)(g:GE)(m:List Md)(e:Expr)(f:ao->Res Bool):Prop:=PW X e (tQ X g m f)
def SA(X:Cx)(g:GE)(m:List Md)(es:List Expr)(f:ao->Res (List D)):Prop:=PA X es (tL X g m f)
def iH(X:Cx)(g:GE)(m:List Md)(es:List Expr)(f:ao->Res (List D)):Prop:=PA X es (CG X g m f)
variable{a e b c:Expr}{f fa fb fc:FE}{pos:Pos}
theorem SE.toB(h:SE X g m e f):SB X g m e f:=PE.imp h fun σ H Q ⟨r,G,si,q⟩=>⟨r,G,si,bG q fun d k v G' H' w z=>k v G' H' w z.rb⟩
theorem Inv.fast{pz:List (Addr×Obj)}{σ:L2.St}{H:Hp}{s:f_}(I:Inv X pz σ H s)(a:Addr):∃ob,Inv X pz σ (fz H a ob) s:=by cases e:H a with
|none=>exact⟨{ cls:=.none,data:=.fields #[] },by unfold fz;rw[e];exact I⟩
|some u=>cases u with
 |dK ps=>
   obtain⟨z1,z2,vs,z3,o,es,ep,z4,z5⟩:=(show cp X.prog X.w H s.heap a (.dK ps)from I.hok a _ e)
   have ef:fz H a o=aD H a (.frz o (.dK ps)):=by unfold fz;rw[e]
   refine⟨o,?_⟩;rw[ef];exact I.write (t':=s.toks) (h':=s.heap) (x:=a) (e:=a) (by rw[e];exact trivial) (.inl rfl) (fun b u _ q=>q) ⟨o,z4⟩ (show cp X.prog X.w _ s.heap a (.frz o (.dK ps))from⟨z4,z1,z2,vs,z3,o,es,ep,z4,z5⟩)
 |_=>exact⟨{ cls:=.none,data:=.fields #[] },by unfold fz;rw[e];exact I⟩
theorem SO.toE(h:SO X g m e f):SE X g m e f:=by intro pz s σ H Q I ⟨r,G,si,q⟩;refine aX (h pz s σ H (fun v H'=>∃a,v=.ref a/\∀ob,Q v (fz H' a ob)) I ⟨r,G,si,bG q fun d k a G' H' w hn o=>⟨a,rfl,fun ob=>k _ _ _ (w.frz hn o ob) (.ref gK)⟩⟩) fun u s' ⟨v,H',I',rv,a,_,z⟩=>?_;obtain⟨ob,I2⟩:=Inv.fast I' a;exact⟨v,_,I2,rv,z ob⟩
theorem SO.toB(h:SO X g m e f):SB X g m e f:=h.toE.toB
theorem uA{v:V}{d:D}(h:PE X e (tC v))(s:Scl v d):SE X g m e fun _=>.ok d:=PE.imp h fun σ H Q ⟨r,G,si,q⟩=>q v G H (Grow.refl si.gok) (.scl s)
theorem n6{i:Int}{j}:SE X g m (.Constant (.int i) j pos) fun _=>.ok (.int i):=uA Lm (.int i)
theorem cG{i:Bool}{j}:SE X g m (.Constant (.bool i) j pos) fun _=>.ok (.bl i):=uA JN (.bl i)
theorem ix{j}:SE X g m (.Constant .none j pos) fun _=>.ok .non:=uA Lo .non
theorem ka{i:Str}{j}:SE X g m (.Constant (.str i) j pos) fun _=>.ok (.str i):=uA Fa (.str i)
def cg(r:ao)(i:Nat):Res D:=match r[i]? with
|some (some d)=>.ok d
|_=>.stuck
theorem As{r:ao}{i:Nat}{q:D->Prop}{x:D->Prop}(h:fin (cg r i) q x):∃d,r[i]? = some (some d)/\q d:=by
 unfold cg at h;split at h
 .rename_i d e;exact⟨d,e,h⟩
 .exact h.elim
theorem K1(i:Nat){x:Str}(hm:m[i]? = some .sh)(hN:X.N[i]? = some x)(hv:iG X.env.scope x)(hd:(x==("__debug__" : Str))=false:=by decide)(z:(x==("__classdict__" : Str))=false:=by decide):SE X g m (.Name x pos) fun r=>cg r i:=by refine PE.imp (jD hN hv hd z) fun σ H Q ⟨r,G,si,q⟩=>?_;obtain⟨d,e,k⟩:=As q;obtain⟨v,e1,e2⟩:=si.sh i d e hm;exact⟨v,e1,k v G H (Grow.refl si.gok) e2⟩
theorem MF(i:Nat){x:Str}(hm:i<m.length)(hN:X.N[i]? = some x)(hv:iG X.env.scope x)(hd:(x==("__debug__" : Str))=false:=by decide)(U:(x==("__classdict__" : Str))=false:=by decide):SB X g m (.Name x pos) fun r=>cg r i:=by refine PE.imp (jD hN hv hd U) fun σ H Q ⟨r,G,si,q⟩=>?_;obtain⟨d,e,k⟩:=As q;have z:m[i]? = some m[i]:=d_ hm;cases h:m[i]with
|sh=>obtain⟨v,e1,e2⟩:=si.sh i d e (z.trans (by rw[h]));exact⟨v,e1,k v G H (Grow.refl si.gok) e2.rb⟩
|ow=>obtain⟨v,e1,e2,_⟩:=si.ow i d e (z.trans (by rw[h]));exact⟨_,e1,k _ G H (Grow.refl si.gok) (.inr ⟨v,rfl,e2⟩)⟩
|bw=>obtain⟨v,e1,e2⟩:=si.bw i d e (z.trans (by rw[h]));exact⟨_,e1,k _ G H (Grow.refl si.gok) e2.rb⟩
theorem kY{β:Type}{k:D->D->Res β}{q:β->Prop}{R:V->V->Hp->Prop}{r:ao}{G:GH}{σ:L2.St}{H:Hp}(si:SI X g m r G σ H)(h:fin ((fa r).bind fun d1=>(fb r).bind fun d2=>k d1 d2) q (XW X σ G H))(hk:∀d1 d2 v1 v2 G2 H2,Grow X.K G H G2 H2->RB X.K G2 H2 v1 d1->RB X.K G2 H2 v2 d2->fin (k d1 d2) q (XW X σ G H)->R v1 v2 H2):tB X g m fa σ H fun v1 H1=>tB X g m fb σ H1 fun v2 H2=>R v1 v2 H2:=by refine⟨r,G,si,bG (bJ h) fun d1 h1 v1 G1 H1 w1 r1=>⟨r,G1,si.grow w1,?_⟩⟩;cases e:fb r with
|ok d2=>rw[e]at h1;exact fun v2 G2 H2 w2 r2=>hk d1 d2 v1 v2 G2 H2 (w1.trans w2) (r1.mono w2) r2 h1
|exc x=>rw[e]at h1;exact(show XW X σ G H x from h1).grow w1
|stuck=>rw[e]at h1;exact h1
def cQ{α:Type}:Option α->Res α
|some a=>.ok a
|none=>.stuck
@[simp] theorem opt_some{α:Type}(a:α):cQ (some a)=.ok a:=rfl
theorem cX{α:Type}{o:Option α}{q:α->Prop}{x:D->Prop}(h:fin (cQ o) q x):∃a,o=some a/\q a:=by cases o with
|none=>exact h.elim
|some a=>exact⟨a,rfl,h⟩
def dQ(K:W.Frag)(r:R2)(k:D->D->Option D):Prop:=∀(G:GH)(H:Hp)(v1 v2:V)(d1 d2 d:D)(Q:VK),bn K G H->RB K G H v1 d1->RB K G H v2 d2->k d1 d2=some d ->(∀v G' H',Grow K G H G' H'->RG K G' v d->Q v H')->r v1 v2 H Q
def Dy(K:W.Frag)(r:R2)(k:D->D->Option D):Prop:=∀(G:GH)(H:Hp)(v1 v2:V)(d1 d2 d:D)(Q:VK),bn K G H->RB K G H v1 d1->RB K G H v2 d2->k d1 d2=some d ->(∀a G' H',Grow K G H G' H'->H a=none->Own K G' H' a d->Q (.ref a) H')->r v1 v2 H Q
def f2(fa fb:FE)(k:D->D->Option D):FE:=fun r=>(fa r).bind fun d1=>(fb r).bind fun d2=>cQ (k d1 d2)
theorem yP{R:R2}{k:D->D->Option D}(ho:dQ X.K R k)(h:PE X e (pF R (tB X g m fa) (tB X g m fb))):SE X g m e (f2 fa fb k):=by refine PE.imp h fun σ H Q ⟨r,G,si,q⟩=>?_;refine kY si q fun d1 d2 v1 v2 G2 H2 w r1 r2 q2=>?_;obtain⟨d,e,q2⟩:=cX q2;exact ho G2 H2 v1 v2 d1 d2 d Q w.ok r1 r2 e fun v G' H' w' z=>q2 v G' H' (w.trans w') z
theorem MC{R:R2}{k:D->D->Option D}(ho:Dy X.K R k)(h:PE X e (pF R (tB X g m fa) (tB X g m fb))):SO X g m e (f2 fa fb k):=by
 refine PE.imp h fun σ H Q ⟨r,G,si,q⟩=>?_;refine kY si q fun d1 d2 v1 v2 G2 H2 w r1 r2 q2=>?_;obtain⟨d,e,q2⟩:=cX q2;exact ho G2 H2 v1 v2 d1 d2 d Q w.ok r1 r2 e fun a G' H' w' hn z=>q2 a G' H' (w.trans w') (by cases q:H a with
 |none=>rfl
 |some o=>rw[w.he _ _ q]at hn;cases hn) z
theorem ma{op:Operator}{R:R2}{k:D->D->Option D}(hr:bx X (Xa op) R)(ho:dQ X.K R k)(ha:SB X g m a fa)(hb:SB X g m b fb):SE X g m (.BinOp a op b pos) (f2 fa fb k):=yP ho (D8 hr ha hb)
theorem Mx{op:Operator}{R:R2}{k:D->D->Option D}(hr:bx X (Xa op) R)(ho:Dy X.K R k)(ha:SB X g m a fa)(hb:SB X g m b fb):SO X g m (.BinOp a op b pos) (f2 fa fb k):=MC ho (D8 hr ha hb)
theorem n5{op:Qaf}{R:R2}{k:D->D->Option D}(hr:bx X (Vs op) R)(ho:dQ X.K R k)(ha:SB X g m a fa)(hb:SB X g m b fb)(hm:Wo op b=false):SE X g m (.Compare a [op] [b] pos) (f2 fa fb k):=yP ho (N3 hr ha hb hm)
def sA:D->Option Bool
|.bl b=>some b
|_=>none
def aK(f:FE):ao->Res Bool:=fun r=>(f r).bind fun d=>cQ (sA d)
theorem kC{op:Qaf}{R:R2}{k:D->D->Option D}(hr:bx X (Vs op) R)(ho:dQ X.K R k)(ha:SB X g m a fa)(hb:SB X g m b fb)(hm:Wo op b=false):SQ X g m (.Compare a [op] [b] pos) (aK (f2 fa fb k)):=by
 refine PT.imp (NK hr ha hb hm) fun σ H Q ⟨r,G,si,q⟩=>?_;have e:aK (f2 fa fb k) r=(fa r).bind fun d1=>(fb r).bind fun d2=>(cQ (k d1 d2)).bind fun d=>cQ (sA d):=by unfold aK f2;cases fa r with
 |ok d1=>cases fb r <;> rfl
 |exc _=>rfl
 |stuck=>rfl
 rw[e]at q;refine kY (R:=fun x y H2=>R x y H2 fun x H'=>∃k,x=V.bl k/\Q k H') si q fun d1 d2 v1 v2 G2 H2 w r1 r2 q3=>?_;obtain⟨d,e,q3⟩:=cX (bJ q3);obtain⟨b,eb,q3⟩:=cX q3;cases d with
|bl b'=>cases eb;exact ho G2 H2 v1 v2 d1 d2 _ _ w.ok r1 r2 e fun v G' H' w' z=>⟨_,z.bl w'.ok,q3 G' H' (w.trans w')⟩
|_=>cases eb
instance decMul(i j:Int):Decidable (io i j):=by unfold io;infer_instance
instance decDiv(i j:Int):Decidable (ip i j):=by unfold ip;infer_instance
instance decPow(i j:Int):Decidable (jb i j):=by unfold jb;infer_instance
def mq(k:Int->Int->D):D->D->Option D
|.int a,.int b=>some (k a b)
|_,_=>none
def lD(C:Int->Int->Prop)[∀a b,Decidable (C a b)](k:Int->Int->D):D->D->Option D
|.int a,.int b=>if C a b then some (k a b)else none
|_,_=>none
@[simp] theorem intsC_int(C:Int->Int->Prop)[∀a b,Decidable (C a b)](k:Int->Int->D)(a b:Int):lD C k (.int a) (.int b)=if C a b then some (k a b)else none:=rfl
theorem lH{gv:Int->Int->V}{gd:Int->Int->D}(hs:∀i j,Scl (gv i j) (gd i j)):dQ K (jO gv) (mq gd):=by
 intro G H v1 v2 d1 d2 d Q g r1 r2 e q;unfold mq at e;split at e
 .cases e;exact⟨_,_,r1.int g,r2.int g,q _ G H (Grow.refl g) (.scl (hs _ _))⟩
 .cases e
theorem uL{C:Int->Int->Prop}[∀a b,Decidable (C a b)]{gv:Int->Int->V}{gd:Int->Int->D}(hs:∀i j,Scl (gv i j) (gd i j)):dQ K (rI C gv) (lD C gd):=by
 intro G H v1 v2 d1 d2 d Q g r1 r2 e q;unfold lD at e;split at e
 .split at e
  .rename_i hc;cases e;exact⟨_,_,r1.int g,r2.int g,hc,q _ G H (Grow.refl g) (.scl (hs _ _))⟩
  .cases e
 .cases e
abbrev dG:D->D->Option D:=mq fun a b=>.int (a-b)
abbrev dm:D->D->Option D:=lD io fun a b=>.int (a*b)
abbrev ck:D->D->Option D:=lD ip fun a b=>.int (a/b)
abbrev az:D->D->Option D:=lD (fun _ b=>0<b) fun a b=>.int (a%b)
abbrev jV:D->D->Option D:=lD jb fun a b=>.int (a^b.toNat)
abbrev fH:D->D->Option D:=mq fun a b=>.bl (decide (a<b))
abbrev lj:D->D->Option D:=mq fun a b=>.bl (decide (a<=b))
abbrev jX:D->D->Option D:=mq fun a b=>.bl (decide (b<a))
abbrev sv:D->D->Option D:=mq fun a b=>.bl (decide (b<=a))
variable{p q:FQ}{es:List Expr}{fl:ao->Res (List D)}
section
theorem kD(ha:SB X g m a fa)(hb:SB X g m b fb):SE X g m (.BinOp a .Sub b pos) (f2 fa fb dG):=ma Lb (lH fun _ _=>.int _) ha hb
theorem lA(ha:SB X g m a fa)(hb:SB X g m b fb):SE X g m (.BinOp a .Mult b pos) (f2 fa fb dm):=ma LS (uL fun _ _=>.int _) ha hb
theorem dO(ha:SB X g m a fa)(hb:SB X g m b fb):SE X g m (.BinOp a .FloorDiv b pos) (f2 fa fb ck):=ma M3 (uL fun _ _=>.int _) ha hb
theorem cm(ha:SB X g m a fa)(hb:SB X g m b fb):SE X g m (.BinOp a .Mod b pos) (f2 fa fb az):=ma LR (uL fun _ _=>.int _) ha hb
theorem JY(ha:SB X g m a fa)(hb:SB X g m b fb):SE X g m (.BinOp a .Pow b pos) (f2 fa fb jV):=ma La (uL fun _ _=>.int _) ha hb
theorem rV(ha:SB X g m a fa)(hb:SB X g m b fb):SE X g m (.Compare a [.Lt] [b] pos) (f2 fa fb fH):=n5 tj (lH fun _ _=>.bl _) ha hb (jC _)
theorem CQ(ha:SB X g m a fa)(hb:SB X g m b fb):SE X g m (.Compare a [.Gt] [b] pos) (f2 fa fb jX):=n5 Eh (lH fun _ _=>.bl _) ha hb (jC _)
theorem jP(ha:SB X g m a fa)(hb:SB X g m b fb):SQ X g m (.Compare a [.Lt] [b] pos) (aK (f2 fa fb fH)):=kC tj (lH fun _ _=>.bl _) ha hb (jC _)
theorem jQ(ha:SB X g m a fa)(hb:SB X g m b fb):SQ X g m (.Compare a [.Gt] [b] pos) (aK (f2 fa fb jX)):=kC Eh (lH fun _ _=>.bl _) ha hb (jC _)
theorem sg(ha:SB X g m a fa)(hb:SB X g m b fb):SQ X g m (.Compare a [.GtE] [b] pos) (aK (f2 fa fb sv)):=kC JM (lH fun _ _=>.bl _) ha hb (jC _)
def f1(fa:FE)(k:D->Option D):FE:=fun r=>(fa r).bind fun d=>cQ (k d)
def gj:D->Option D
|.int a=>some (.int (-a))
|_=>none
theorem n8(ha:SB X g m a fa):SE X g m (.UnaryOp .USub a pos) (f1 fa gj):=by
 refine PE.imp (JQ Mg ha) fun σ H Q ⟨r,G,si,q⟩=>⟨r,G,si,bG (bJ q) fun d q1 v G1 H1 w1 r1=>?_⟩
 obtain⟨d',e,q2⟩:=cX q1;cases d with
|int i=>cases e;exact⟨i,r1.int w1.ok,q2 _ G1 H1 w1 (.scl (.int _))⟩
|_=>cases e
def jL:D->Option Bool
|.non=>some false
|.bl b=>some b
|.int i=>some (i != 0)
|.str y=>if y.length<=sizeLine then some ((y.length:Int) != 0)else none
|.lst ds=>some (! ds.isEmpty)
|.tup ds=>some (! ds.isEmpty)
|.dic kvs=>some (! kvs.isEmpty)
|.obj _ _=>none
theorem AE{α β:Type}{F:α->β->Prop}{l:List α}{r:List β}(h:Paired F l r):l.isEmpty=r.isEmpty:=by cases h <;> rfl
theorem Nz{K:W.Frag}{G:GH}{H:Hp}{v:V}{d:D}{b:Bool}(gk:bn K G H)(h:RB K G H v d)(e:jL d=some b):nN K v H b:=by cases d with
|non=>cases e;rw[h.non gk];rfl
|bl b'=>cases e;rw[h.bl gk];rfl
|int i=>cases e;rw[h.int gk];rfl
|str y=>
  rw[h.str gk];have e':(if y.length<=sizeLine then some ((y.length:Int) != 0)else none)=some b:=e;by_cases hy:y.length<=sizeLine
  .rw[if_pos hy]at e';cases e';exact⟨hy,rfl⟩
  .rw[if_neg hy]at e';cases e'
|lst ds=>cases e;obtain⟨a,xs,rfl,s,r⟩:=h.lst gk;exact .inl ⟨xs,s,by rw[AE r]⟩
|tup ds=>cases e;obtain⟨a,xs,rfl,s,r⟩:=h.tup gk;exact .inr (.inl ⟨xs,s,by rw[AE r]⟩)
|dic kvs=>cases e;obtain⟨a,xs,rfl,s,r⟩:=h.dic gk;exact .inr (.inr ⟨xs,s,by rw[AE r]⟩)
|obj _ _=>cases e
def bu(f:FE):ao->Res Bool:=fun r=>(f r).bind fun d=>cQ (jL d)
theorem d9(ha:SB X g m a fa)(he:∀whole,isTrue a X.env whole=(do let v <-whole;ZR a.pos;Yo [v] (truthy v)):=by intro _;rfl):SQ X g m a (bu fa):=by
 refine PT.imp (Pg ha he) fun σ H Q ⟨r,G,si,q⟩=>⟨r,G,si,bG (bJ q) fun d q1 v G1 H1 w1 r1=>?_⟩
 obtain⟨b,e,q2⟩:=cX q1;exact⟨b,Nz w1.ok r1 e,q2 G1 H1 w1⟩
abbrev FQ:=ao->Res Bool
def c7(p q:FQ):FQ:=fun r=>(p r).bind fun c=>if c=true then q r else .ok false
def dq(p q:FQ):FQ:=fun r=>(p r).bind fun c=>if c=true then .ok true else q r
def bQ(p:FQ):FQ:=fun r=>(p r).bind fun c=>.ok (! c)
variable{rest:List Expr}
theorem Kh{α:Type}{r:Res α}{q:α->Prop}{x x':D->Prop}(h:fin r q x)(hx:∀e,x e->x' e):fin r q x':=by cases r with
|ok a=>exact h
|exc e=>exact hx e h
|stuck=>exact h
theorem gX{α:Type}{r:Res α}{σ:L2.St}{G G1:GH}{H H1:Hp}{P P':α->Prop}(h:fin r P (XW X σ G H))(w:Grow X.K G H G1 H1)(hp:∀a,P a->P' a):fin r P' (XW X σ G1 H1):=Kh (bG h hp) fun _ x=>x.grow w
theorem oH(ha:SQ X g m a p):SW X g m (.BoolOp .And [a] pos) p:=NM ha
theorem jv(ha:SQ X g m a p):SW X g m (.BoolOp .Or [a] pos) p:=MN ha
theorem l9(ha:SQ X g m a p)(hb:SW X g m (.BoolOp .And (b::rest) pos) q):SW X g m (.BoolOp .And (a::b::rest) pos) (c7 p q):=by
 refine PW.imp (MM ha hb) fun σ H Q ⟨r,G,si,k⟩=>⟨r,G,si,bG (bJ k) fun c k1 G1 H1 w1=>?_⟩
 cases c with
|true=>rw[if_pos rfl]at k1 ⊢;exact⟨r,G1,si.grow w1,gX k1 w1 fun b z G' H' w'=>z G' H' (w1.trans w')⟩
|false=>rw[if_neg k_]at k1 ⊢;exact k1 G1 H1 w1
theorem cP(ha:SQ X g m a p)(hb:SW X g m (.BoolOp .Or (b::rest) pos) q):SW X g m (.BoolOp .Or (a::b::rest) pos) (dq p q):=by
 refine PW.imp (JT ha hb) fun σ H Q ⟨r,G,si,k⟩=>⟨r,G,si,bG (bJ k) fun c k1 G1 H1 w1=>?_⟩
 cases c with
|true=>rw[if_pos rfl]at k1 ⊢;exact k1 G1 H1 w1
|false=>rw[if_neg k_]at k1 ⊢;exact⟨r,G1,si.grow w1,gX k1 w1 fun b z G' H' w'=>z G' H' (w1.trans w')⟩
theorem SW.toQ(h:SW X g m e p):SQ X g m e p:=PW.pt h
theorem fS(ha:SQ X g m a p):SQ X g m (.UnaryOp .Not a pos) (bQ p):=PT.imp (MK ha) fun σ H Q ⟨r,G,si,k⟩=>⟨r,G,si,bG (bJ k) fun c k1 G1 H1 w1=>k1 G1 H1 w1⟩
def cq(fa fb:FE):FE:=fun r=>(fa r).bind fun d=>(cQ (sA d)).bind fun c=>if c=true then fb r else .ok (.bl false)
def nj(fa:FE):FE:=fun r=>(fa r).bind fun d=>(cQ (sA d)).bind fun c=>.ok (.bl (! c))
theorem jx{op}(h:SE X g m a fa):SE X g m (.BoolOp op [a] pos) fa:=Lq h
theorem jf(ha:SE X g m a fa)(hb:SE X g m (.BoolOp .And (b::rest) pos) fb):SE X g m (.BoolOp .And (a::b::rest) pos) (cq fa fb):=by
 refine PE.imp (Lh ha hb) fun σ H Q ⟨r,G,si,k⟩=>⟨r,G,si,bG (bJ k) fun d k1 v G1 H1 w1 r1=>?_⟩
 obtain⟨c,e,k2⟩:=cX (bJ k1);cases d with
|bl c'=>cases e;refine⟨_,r1.bl w1.ok,?_⟩;cases c with
 |true=>rw[if_pos rfl]at k2 ⊢;exact⟨r,G1,si.grow w1,gX k2 w1 fun b z v G' H' w'=>z v G' H' (w1.trans w')⟩
 |false=>rw[if_neg k_]at k2 ⊢;exact k2 _ G1 H1 w1 (.scl (.bl _))
|_=>cases e
theorem Et(ha:SE X g m a fa):SE X g m (.UnaryOp .Not a pos) (nj fa):=by
 refine PE.imp (Lp ha) fun σ H Q ⟨r,G,si,k⟩=>⟨r,G,si,bG (bJ k) fun d k1 v G1 H1 w1 r1=>?_⟩
 obtain⟨c,e,k2⟩:=cX (bJ k1);cases d with
|bl c'=>cases e;exact⟨_,r1.bl w1.ok,k2 _ G1 H1 w1 (.scl (.bl _))⟩
|_=>cases e
def lV(p:FQ)(fa fb:FE):FE:=fun r=>(p r).bind fun c=>if c=true then fa r else fb r
theorem Es(hc:SQ X g m c p)(ha:SE X g m a fa)(hb:SE X g m b fb):SE X g m (.IfExp c a b pos) (lV p fa fb):=by
 refine PE.imp (O9 hc ha hb) fun σ H Q ⟨r,G,si,k⟩=>⟨r,G,si,bG (bJ k) fun c k1 G1 H1 w1=>?_⟩
 cases c with
|true=>rw[if_pos rfl]at k1 ⊢;exact⟨r,G1,si.grow w1,gX k1 w1 fun b z v G' H' w'=>z v G' H' (w1.trans w')⟩
|false=>rw[if_neg k_]at k1 ⊢;exact⟨r,G1,si.grow w1,gX k1 w1 fun b z v G' H' w'=>z v G' H' (w1.trans w')⟩
variable{fr:ao->Res (List D)}
def ae:ao->Res (List D):=fun _=>.ok []
def ag(fa:FE)(fl:ao->Res (List D)):ao->Res (List D):=fun r=>(fa r).bind fun d=>(fl r).bind fun ds=>.ok (d::ds)
theorem ca:SA X g m [] ae:=PA.imp jk fun σ H Q ⟨r,G,si,k⟩=>k [] G H (Grow.refl si.gok) .nil
theorem bh(ha:SE X g m e fa)(hr:SA X g m es fl)(hs:i_ (e::es) X.env=(false,eval e X.env)::i_ es X.env:=by rfl):SA X g m (e::es) (ag fa fl):=by
 refine PA.imp (gJ ha hr hs) fun σ H Q ⟨r,G,si,k⟩=>⟨r,G,si,bG (bJ k) fun d k1 v G1 H1 w1 r1=>⟨r,G1,si.grow w1,?_⟩⟩
 exact gX (bJ k1) w1 fun ds z vs G2 H2 w2 r2=>z (v::vs) G2 H2 (w1.trans w2) (.cons (r1.mono w2.ge) r2)
theorem aR:iH X g m [] ae:=PA.imp jk fun σ H Q ⟨r,G,si,k⟩=>k [] G H (Grow.refl si.gok) .nil
theorem aQ(ha:SB X g m e fa)(hr:iH X g m es fl)(hs:i_ (e::es) X.env=(false,eval e X.env)::i_ es X.env:=by rfl):iH X g m (e::es) (ag fa fl):=by
 refine PA.imp (gJ ha hr hs) fun σ H Q ⟨r,G,si,k⟩=>⟨r,G,si,bG (bJ k) fun d k1 v G1 H1 w1 r1=>⟨r,G1,si.grow w1,?_⟩⟩
 exact gX (bJ k1) w1 fun ds z vs G2 H2 w2 r2=>z (v::vs) G2 H2 (w1.trans w2) (.cons (r1.mono w2) r2)
def sz(ds:List D):Option (List D):=if ds.length<=sizeLine then some ds else none
theorem yS{ds ds':List D}(h:sz ds=some ds'):ds'=ds/\ds.length<=sizeLine:=by
 unfold sz at h;split at h
 .rename_i hl;cases h;exact⟨rfl,hl⟩
 .cases h
theorem K3{ds:List D}(h:ds.length<=sizeLine):sz ds=some ds:=if_pos h
def d5(fl:ao->Res (List D)):FE:=fun r=>(fl r).bind fun ds=>(cQ (sz ds)).bind fun ds=>.ok (.tup ds)
def dP(fl:ao->Res (List D)):FE:=fun r=>(fl r).bind fun ds=>(cQ (sz ds)).bind fun ds=>.ok (.lst ds)
theorem gz{x1}(h:SA X g m es fl):SE X g m (.Tuple es x1 pos) (d5 fl):=by
 refine PE.imp (Lr h) fun σ H Q ⟨r,G,si,k⟩=>⟨r,G,si,bG (bJ k) fun ds k1 vs G1 H1 w1 r1=>?_⟩
 obtain⟨ds',e,k2⟩:=cX (bJ k1);obtain⟨rfl,hl⟩:=yS e;have hlen:=Paired.length r1;refine⟨by omega,fun p hp=>?_⟩;exact k2 _ _ _ (w1.trans (Grow.newF (d:=.tup ds') w1.ok hp (.tup (.inl bX) r1))) (.ref gK)
theorem fR(h:SA X g m es fl):SO X g m (.List es pos) (dP fl):=by
 refine PE.imp (Ln h) fun σ H Q ⟨r,G,si,k⟩=>⟨r,G,si,bG (bJ k) fun ds k1 vs G1 H1 w1 r1=>?_⟩
 obtain⟨ds',e,k2⟩:=cX (bJ k1);obtain⟨rfl,hl⟩:=yS e;have hlen:=Paired.length r1;refine⟨by omega,fun p hp=>?_⟩;have hn:H p=none:=by cases q:H p with
 |none=>rfl
 |some o=>rw[w1.he _ _ q]at hp;cases hp
 exact k2 p G1 _ (w1.trans (Grow.new w1.ok hp _)) hn ⟨w1.ok.isN hp,.lst bX r1⟩
end
def n9(K:W.Frag)(r:List V->Hp->VK->Prop)(k:List D->Option D):Prop:=∀(G:GH)(H:Hp)(vs:List V)(ds:List D)(d:D)(Q:VK),bn K G H->Paired (RB K G H) vs ds->k ds=some d ->(∀v G' H',Grow K G H G' H'->RG K G' v d->Q v H')->r vs H Q
def DU(K:W.Frag)(r:List V->Hp->VK->Prop)(k:List D->Option D):Prop:=∀(G:GH)(H:Hp)(vs:List V)(ds:List D)(d:D)(Q:VK),bn K G H->Paired (RB K G H) vs ds->k ds=some d ->(∀a G' H',Grow K G H G' H'->H a=none->Own K G' H' a d->Q (.ref a) H')->r vs H Q
def fC(fl:ao->Res (List D))(k:List D->Option D):FE:=fun r=>(fl r).bind fun ds=>cQ (k ds)
theorem Grow.back{K:W.Frag}{G G1:GH}{H H1:Hp}(w:Grow K G H G1 H1){a:Addr}(hn:H1 a=none):H a=none:=by cases q:H a with
|none=>rfl
|some o=>rw[w.he _ _ q]at hn;cases hn
variable{id T:String}
section
variable{p p2:Pos}{x:Str}{R:List V->Hp->VK->Prop}{k:List D->Option D}
theorem iS(hk:n9 X.K R k)(h:PE X e (xC R (CG X g m fl))):SE X g m e (fC fl k):=by
 refine PE.imp h fun σ H Q ⟨r,G,si,q⟩=>⟨r,G,si,bG (bJ q) fun ds q1 vs G1 H1 w1 r1=>?_⟩
 obtain⟨d,e,q2⟩:=cX q1;exact hk G1 H1 vs ds d Q w1.ok r1 e fun v G' H' w' z=>q2 v G' H' (w1.trans w') z
theorem Er(hk:DU X.K R k)(h:PE X e (xC R (CG X g m fl))):SO X g m e (fC fl k):=by
 refine PE.imp h fun σ H Q ⟨r,G,si,q⟩=>⟨r,G,si,bG (bJ q) fun ds q1 vs G1 H1 w1 r1=>?_⟩
 obtain⟨d,e,q2⟩:=cX q1;exact hk G1 H1 vs ds d Q w1.ok r1 e fun v G' H' w' hn z=>q2 v G' H' (w1.trans w') (w1.back hn) z
def lenD:List D->Option D
|[.str y]=>if y.length<=sizeLine then some (.int y.length)else none
|[.lst ds]=>some (.int ds.length)
|[.tup ds]=>some (.int ds.length)
|[.dic kvs]=>some (.int kvs.length)
|_=>none
theorem LD{K:W.Frag}:n9 K (fun xs H Q=>(∃x n,xs=[x]/\sG K x H n/\Q (.int n) H)\/∃a kvs,xs=[V.ref a]/\Rd H a (.dK kvs)/\Q (.int kvs.length) H) lenD:=by
 intro G H vs ds d Q gk rs e q;unfold lenD at e;split at e
 .split at e
  .cases e;cases rs with
  |cons r t=>cases t;exact .inl ⟨_,_,rfl,by rw[r.str gk];exact⟨by assumption,rfl⟩,q _ G H (Grow.refl gk) (.scl (.int _))⟩
  .cases e
 .cases e;cases rs with
 |cons r t=>cases t;obtain⟨a,xs,rfl,s,r⟩:=r.lst gk;have:=Paired.length r;exact .inl ⟨_,_,rfl,.inl ⟨xs,s,rfl⟩,q _ G H (Grow.refl gk) (.scl (by rw[this];exact .int _))⟩
 .cases e;cases rs with
 |cons r t=>cases t;obtain⟨a,xs,rfl,s,r⟩:=r.tup gk;have:=Paired.length r;exact .inl ⟨_,_,rfl,.inr ⟨xs,s,rfl⟩,q _ G H (Grow.refl gk) (.scl (by rw[this];exact .int _))⟩
 .cases e;cases rs with
 |cons r t=>cases t;obtain⟨a,xs,rfl,s,r⟩:=r.dic gk;have:=Paired.length r;exact .inr ⟨_,_,rfl,s,q _ G H (Grow.refl gk) (.scl (by rw[this];exact .int _))⟩
 .cases e
theorem cE(hg:Gl X "len")(hm:X.mg "len" = none)(ha:iH X g m (e::es) fl)(he:i_ (e::es) X.env=(false,eval e X.env)::i_ es X.env:=by rfl)(z:(backTo pos (i_ es X.env)).any (·.1)=false:=by rfl):SE X g m (.Call (.Name "len" p) (e::es) [] pos) (fC fl lenD):=iS LD (kJ (eY.or Oc PV) hg hm QaZ ha (by decide) (by decide) he z)
def gI:List D->Option D
|[.lst ds]=>some (.lst ds)
|[.tup ds]=>some (.lst ds)
|_=>none
theorem MR{K:W.Frag}:DU K (fun xs H Q=>∃p ys,xs=[.ref p]/\(bM K H p ys\/cJ K H p ys)/\∀l,H l=none->Q (.ref l) (aD H l (.lst ys))) gI:=by
 intro G H vs ds d Q gk rs e q;have fin:∀{ys:List V}{zs:List D},cK K G ys zs->(∀(a:Addr)(G':GH)(H':Hp),Grow K G H G' H'->H a=none->Own K G' H' a (.lst zs)->Q (.ref a) H')->∀l,H l=none->Q (.ref l) (aD H l (.lst ys)):=fun r q l hl=>q l G _ (Grow.new gk hl _) hl ⟨gk.isN hl,.lst bX r⟩;unfold gI at e;split at e
 .cases e;cases rs with
 |cons r t=>cases t;obtain⟨a,xs,rfl,s,r⟩:=r.lst gk;exact⟨a,xs,rfl,.inl s,fin r q⟩
 .cases e;cases rs with
 |cons r t=>cases t;obtain⟨a,xs,rfl,s,r⟩:=r.tup gk;exact⟨a,xs,rfl,.inr s,fin r q⟩
 .cases e
theorem kg(hg:Gl X "list")(hm:X.mg "list" = none)(ha:iH X g m (e::es) fl)(he:i_ (e::es) X.env=(false,eval e X.env)::i_ es X.env:=by rfl)(z:(backTo pos (i_ es X.env)).any (·.1)=false:=by rfl):SO X g m (.Call (.Name "list" p) (e::es) [] pos) (fC fl gI):=Er MR (o9 Ri hg hm rfl ha (by decide) (by decide) he z)
def tupD:List D->Option D
|[.lst ds]=>some (.tup ds)
|[.tup ds]=>some (.tup ds)
|_=>none
theorem Mc{K:W.Frag}:n9 K (fun xs H Q=>∃p ys,xs=[.ref p]/\((bM K H p ys/\∀l,H l=none->Q (.ref l) (aD H l (.tup ys)))\/(cJ K H p ys/\Q (.ref p) H))) tupD:=by
 intro G H vs ds d Q gk rs e q;unfold tupD at e;split at e
 .cases e;cases rs with
 |cons r t=>cases t;obtain⟨a,xs,rfl,s,r⟩:=r.lst gk;exact⟨a,xs,rfl,.inl ⟨s,fun l hl=>q _ _ _ (Grow.newF gk hl (.tup (.inl bX) r)) (.ref gK)⟩⟩
 .cases e;cases rs with
 |cons r t=>
   cases t;rcases r with r|⟨a,_,o⟩
   .obtain⟨a,xs,rfl,s,r'⟩:=r.tup gk;exact⟨a,xs,rfl,.inr ⟨s,q _ G H (Grow.refl gk) r⟩⟩
   .cases o.ob
 .cases e
theorem iz(hg:Gl X "tuple")(hm:X.mg "tuple" = none)(ha:iH X g m (e::es) fl)(he:i_ (e::es) X.env=(false,eval e X.env)::i_ es X.env:=by rfl)(z:(backTo pos (i_ es X.env)).any (·.1)=false:=by rfl):SE X g m (.Call (.Name "tuple" p) (e::es) [] pos) (fC fl tupD):=iS Mc (o9 RH hg hm rfl ha (by decide) (by decide) he z)
def ixD:D->D->Option D
|.lst ds,.int i=>gF ds i
|.tup ds,.int i=>gF ds i
|.str z,.int i=>if z.length<=sizeLine then(gF z.cps.toList i).map fun c=>.str ⟨#[c]⟩else none
|_,_=>none
theorem DZ{K:W.Frag}{G:GH}{xs:List V}{ds:List D}{i:Int}{d:D}(r:cK K G xs ds)(h:gF ds i=some d):∃v,gF xs i=some v/\RG K G v d:=by unfold gF at h ⊢;rw[Paired.length r];cases e:gZ ds.length i with
|none=>rw[e]at h;cases h
|some j=>rw[e]at h;exact Paired.get r h
theorem yK{K:W.Frag}:dQ K (CW K) ixD:=by
 intro G H v1 v2 d1 d2 d Q gk r1 r2 e q;unfold ixD at e;split at e
 .obtain⟨a,xs,rfl,s,r⟩:=r1.lst gk;obtain⟨v,ev,rv⟩:=DZ r e;exact .inl ⟨a,xs,_,v,rfl,r2.int gk,s,ev,q v G H (Grow.refl gk) rv⟩
 .obtain⟨a,xs,rfl,s,r⟩:=r1.tup gk;obtain⟨v,ev,rv⟩:=DZ r e;exact .inr (.inl ⟨a,xs,_,v,rfl,r2.int gk,s,ev,q v G H (Grow.refl gk) rv⟩)
 .split at e
  .rename_i z i hz;cases ec:gF z.cps.toList i with
  |none=>rw[ec]at e;cases e
  |some c=>rw[ec]at e;cases e;exact .inr (.inr ⟨z,i,c,r1.str gk,r2.int gk,hz,ec,q _ G H (Grow.refl gk) (.scl (.str _))⟩)
  .cases e
 .cases e
def bf{α:Type}(xs:List α)(lo hi:Option Int):List α:=(xs.drop (HT.sIx xs.length 0 lo)).take (HT.sIx xs.length xs.length hi-HT.sIx xs.length 0 lo)
theorem pN{α β:Type}{F:α->β->Prop}{xs:List α}{ds:List β}(r:Paired F xs ds)(lo hi:Option Int):Paired F (bf xs lo hi) (bf ds lo hi):=by unfold bf;rw[Paired.length r];exact Paired.tk _ (Paired.dr _ r)
abbrev FP:=ao->Res (Option Int)
def tP(X:Cx)(g:GE)(m:List Md)(f:FP):TO:=fun σ H Q=>∃r G,SI X g m r G σ H/\fin (f r) (fun o=>∀G' H',Grow X.K G H G' H'->Q o H') (XW X σ G H)
def lX(X:Cx)(g:GE)(m:List Md)(e:Option Expr)(f:FP):Prop:=PO X e (tP X g m f)
theorem PO.imp{X:Cx}{e:Option Expr}{t t':TO}(h:PO X e t)(i:∀σ H Q,t' σ H Q->t σ H Q):PO X e t':=fun pz s σ H Q I q=>h pz s σ H Q I (i σ H Q q)
def S1:D->Option Int
|.int i=>some i
|_=>none
def dw(f:FE):FP:=fun r=>(f r).bind fun d=>(cQ (S1 d)).bind fun i=>.ok (some i)
theorem fV:lX X g m none fun _=>.ok none:=PO.imp N9 fun σ H Q ⟨r,G,si,q⟩=>q G H (Grow.refl si.gok)
theorem fW(h:SB X g m e f):lX X g m (some e) (dw f):=by
 refine PO.imp (NE h) fun σ H Q ⟨r,G,si,q⟩=>⟨r,G,si,bG (bJ q) fun d q1 v G1 H1 w1 r1=>?_⟩
 obtain⟨i,e,q2⟩:=cX (bJ q1);cases d with
|int j=>cases e;exact⟨_,r1.int w1.ok,q2 G1 H1 w1⟩
|_=>cases e
def nv(d:D)(lo hi:Option Int):Option D:=match d with
|.tup ds=>if HT.sIx ds.length 0 lo=0/\HT.sIx ds.length ds.length hi=ds.length then none else some (.tup (bf ds lo hi))
|.lst ds=>some (.lst (bf ds lo hi))
|_=>none
def iE(fa:FE)(fl fh:FP):FE:=fun r=>(fa r).bind fun d=>(fl r).bind fun lo=>(fh r).bind fun hi=>cQ (nv d lo hi)
theorem E1{R:V->Option Int->Option Int->Hp->Prop}{fl fh:FP}{r:ao}{G:GH}{σ:L2.St}{H:Hp}{q:D->Prop}(si:SI X g m r G σ H)(h:fin (iE fa fl fh r) q (XW X σ G H))(hk:∀d lo hi v G2 H2 d',Grow X.K G H G2 H2->RB X.K G2 H2 v d->nv d lo hi=some d'->q d'->R v lo hi H2):tB X g m fa σ H fun x H1=>tP X g m fl σ H1 fun l H2=>tP X g m fh σ H2 fun u H3=>R x l u H3:=by refine⟨r,G,si,bG (bJ h) fun d h1 v G1 H1 w1 r1=>⟨r,G1,si.grow w1,gX (bJ h1) w1 fun lo h2 G2 H2 w2=>⟨r,G2,(si.grow w1).grow w2,?_⟩⟩⟩;refine gX (bJ h2) (w1.trans w2) fun hi h3 G3 H3 w3=>?_;obtain⟨d',e,h4⟩:=cX h3;exact hk d lo hi v G3 H3 d' ((w1.trans w2).trans w3) ((r1.mono w2).mono w3) e h4
theorem oj{lo hi:Option Expr}{fl fh:FP}(he:SB X g m e f)(hl:lX X g m lo fl)(hu:lX X g m hi fh):SE X g m (.Subscript e (.Slice lo hi none p2) pos) (iE f fl fh):=by refine PE.imp (Aw (jY.or Aj E2) he hl hu) fun σ H Q ⟨r,G,si,q⟩=>?_;refine E1 si q fun d lo hi v G2 H2 d' w r1 e q2=>?_;cases d with
|tup ds=>
  obtain⟨a,xs,rfl,s,r⟩:=r1.tup w.ok;have e':(if HT.sIx ds.length 0 lo=0/\HT.sIx ds.length ds.length hi=ds.length then none else some (D.tup (bf ds lo hi)))=some d':=e;by_cases hw:HT.sIx ds.length 0 lo=0/\HT.sIx ds.length ds.length hi=ds.length
  .rw[if_pos hw]at e';cases e'
  rw[if_neg hw]at e';cases e';rw[<-Paired.length r]at hw;refine .inr ⟨a,xs,rfl,s,hw,fun p hp=>?_⟩;exact q2 _ _ _ (w.trans (Grow.newF w.ok hp (.tup (.inl bX) (pN r lo hi)))) (.ref gK)
|lst ds=>cases e;obtain⟨a,xs,rfl,s,r⟩:=r1.lst w.ok;exact .inl ⟨a,xs,rfl,s,fun p hp=>q2 _ _ _ (w.trans (Grow.newF w.ok hp (.lst (.inl bX) (pN r lo hi)))) (.ref gK)⟩
|_=>cases e
theorem Ed{lo hi:Option Expr}{fl fh:FP}(he:SB X g m e f)(hl:lX X g m lo fl)(hu:lX X g m hi fh):SO X g m (.Subscript e (.Slice lo hi none p2) pos) (fun r=>(iE f fl fh r).bind fun d=>match d with|.lst ds=>.ok (.lst ds)|_=>.stuck):=by refine PE.imp (Aw Aj he hl hu) fun σ H Q ⟨r,G,si,q⟩=>?_;refine E1 si (bJ q) fun d lo hi v G2 H2 d' w r1 e q2=>?_;cases d with
|lst ds=>cases e;obtain⟨a,xs,rfl,s,r⟩:=r1.lst w.ok;exact⟨a,xs,rfl,s,fun p hp=>q2 p G2 _ (w.trans (Grow.new w.ok hp _)) (w.back hp) ⟨w.ok.isN hp,.lst bX (pN r lo hi)⟩⟩
|tup ds=>
  have e':(if HT.sIx ds.length 0 lo=0/\HT.sIx ds.length ds.length hi=ds.length then none else some (D.tup (bf ds lo hi)))=some d':=e;split at e'
  .cases e'
  .cases e';exact q2.elim
|_=>cases e
end
inductive Out where
 |nx (r:ao)|rt (d:D)|bk (r:ao)|ct (r:ao)|exc (x:D) (r:ao)|stuck
abbrev FS:=ao->Out
def bv(G G':GH):Prop:=∀a d,G a=some d->G' a=some d
theorem bv.refl(G:GH):bv G G:=fun _ _ e=>e
theorem bv.trans{G G1 G2:GH}(a:bv G G1)(b:bv G1 G2):bv G G2:=fun x d e=>b x d (a x d e)
def forget(m:List Md)(r:ao):ao:=XG (fun md o=>if md=Md.sh then o else none) m r
def eZ(m:List Md):List Md:=m.map fun _=>Md.sh
theorem qw{m:List Md}{r:ao}{i:Nat}{d:D}(h:(forget m r)[i]? = some (some d)):r[i]? = some (some d)/\m[i]? = some .sh:=by unfold forget at h;rw[Zz]at h;cases e1:m[i]? with
|none=>rw[e1]at h;cases h
|some md=>cases e2:r[i]? with
 |none=>rw[e1,e2]at h;cases h
 |some o=>
   rw[e1,e2]at h;have h':(if md=Md.sh then o else none)=some d:=B_ h;split at h'
   .rename_i hm;subst hm;rw[h'];exact⟨rfl,rfl⟩
   .cases h'
section
variable{st:L2.St}
theorem SI.forget(s:SI X g m r G st H):SI X g (eZ m) (forget m r) G st H where
 gok:=s.gok
 old:=s.old
 ge:=s.ge
 gf:=s.gf
 lm:=by rw[eZ,g_];exact s.lm
 lr:=by rw[DL.forget,YA,s.lm,s.lr,Nat.min_self]
 sh:=fun i d h _=>s.sh i d (qw h).1 (qw h).2
 ow:=fun i d h hm=>by rw[eZ,n_,(qw h).2]at hm;cases hm
 bw:=fun i d h hm=>by rw[eZ,n_,(qw h).2]at hm;cases hm
 dis:=fun i j a d e _ h _ hm=>by rw[eZ,n_,(qw h).2]at hm;cases hm
 lk:=fun i o _ hm=>by rw[eZ,n_]at hm;cases q:m[i]? <;> rw[q]at hm <;> cases hm
theorem SI.set(s:SI X g m r G st H)(i:Nat){v:V}{d:D}(hv:RG X.K G v d):SI X g (m.set i .sh) (r.set i (some d)) G (st.set i (some v)) H where
 gok:=s.gok
 old:=s.old
 ge:=s.ge
 gf:=s.gf
 lm:=by simp[s.lm]
 lr:=by simp[s.lr]
 sh:=fun j e h hm=>by
  by_cases z:i=j
  .subst z;have hl:i<r.length:=by have:=(j_.mp h).1;simpa using this
   rw[x_ hl]at h;cases h;exact⟨v,by rw[x_ (by rw[<-s.lr];exact hl)],hv⟩
  .rw[h_ z]at h hm;rw[h_ z];exact s.sh j e h hm
 ow:=fun j e h hm=>by
  by_cases z:i=j
  .subst z;have hl:i<m.length:=by have:=(j_.mp hm).1;simpa using this
   rw[x_ hl]at hm;cases hm
  .rw[h_ z]at h hm;rw[h_ z];exact s.ow j e h hm
 bw:=fun j e h hm=>by
  by_cases z:i=j
  .subst z;have hl:i<m.length:=by have:=(j_.mp hm).1;simpa using this
   rw[x_ hl]at hm;cases hm
  .rw[h_ z]at h hm;rw[h_ z];exact s.bw j e h hm
 dis:=fun j k a d1 d2 Z h1 h2 hm U q1 q2=>by
  have z:i≠j:=by
   rintro rfl
   have hl:i<m.length:=by have:=(j_.mp hm).1;simpa using this
   rw[x_ hl]at hm;cases hm
  have Y:i≠k:=by
   rintro rfl
   have hl:i<m.length:=by have:=(j_.mp h2).1;rw[Zx,s.lr,<-s.lm]at this;exact this
   rw[x_ hl]at U;cases U
  rw[h_ z]at h1 hm q1;rw[h_ Y]at h2 U q2;exact s.dis j k a d1 d2 Z h1 h2 hm U q1 q2
 lk:=fun j o hj hm=>by
  have z:i≠j:=by
   rintro rfl
   have hl:i<m.length:=by have:=(j_.mp hm).1;simpa using this
   rw[x_ hl]at hm;cases hm
  rw[h_ z]at hm;have:=s.lk j o hj hm;exact⟨by rw[h_ z];exact this.1,fun d h=>this.2 d (by rw[h_ z]at h;exact h)⟩
theorem SI.setO(s:SI X g m r G st H)(i:Nat){a:Addr}{d:D}(ho:Own X.K G H a d)(h0:g.h0 a=none)(hx:∀(j:Nat)(b:Addr)(e:D),r[j]? = some (some e)->m[j]? = some Md.ow->st[j]? = some (some (V.ref b))->b≠a):SI X g (m.set i .ow) (r.set i (some d)) G (st.set i (some (V.ref a))) H where
 gok:=s.gok
 old:=s.old
 ge:=s.ge
 gf:=s.gf
 lm:=by simp[s.lm]
 lr:=by simp[s.lr]
 sh:=fun j e h hm=>by
  by_cases z:i=j
  .subst z;have hl:i<m.length:=by have:=(j_.mp hm).1;simpa using this
   rw[x_ hl]at hm;cases hm
  .rw[h_ z]at h hm;rw[h_ z];exact s.sh j e h hm
 ow:=fun j e h hm=>by
  by_cases z:i=j
  .subst z;have hl:i<r.length:=by have:=(j_.mp h).1;simpa using this
   rw[x_ hl]at h;cases h;exact⟨a,by rw[x_ (by rw[<-s.lr];exact hl)],ho,h0⟩
  .rw[h_ z]at h hm;rw[h_ z];exact s.ow j e h hm
 bw:=fun j e h hm=>by
  by_cases z:i=j
  .subst z;have hl:i<m.length:=by have:=(j_.mp hm).1;simpa using this
   rw[x_ hl]at hm;cases hm
  .rw[h_ z]at h hm;rw[h_ z];exact s.bw j e h hm
 dis:=fun j k b d1 d2 Z h1 h2 hm U q1 q2=>by
  by_cases z:i=j
  .subst z;rw[h_ Z]at h2 U q2;have hl:i<st.length:=by have:=(j_.mp q1).1;simpa using this
   rw[x_ hl]at q1;have e:a=b:=by injection q1 with q1;injection q1 with q1;injection q1
   exact hx k b d2 h2 U q2 e.symm
  .by_cases Y:i=k
   .subst Y;rw[h_ z]at h1 hm q1;have hl:i<st.length:=by have:=(j_.mp q2).1;simpa using this
    rw[x_ hl]at q2;have e:a=b:=by injection q2 with q2;injection q2 with q2;injection q2
    exact hx j b d1 h1 hm q1 e.symm
   .rw[h_ z]at h1 hm q1;rw[h_ Y]at h2 U q2;exact s.dis j k b d1 d2 Z h1 h2 hm U q1 q2
 lk:=fun j o hj hm=>by
  have z:i≠j:=by
   rintro rfl
   have hl:i<m.length:=by have:=(j_.mp hm).1;simpa using this
   rw[x_ hl]at hm;cases hm
  rw[h_ z]at hm;have:=s.lk j o hj hm;exact⟨by rw[h_ z];exact this.1,fun d h=>this.2 d (by rw[h_ z]at h;exact h)⟩
theorem SI.other(s:SI X g m r G st H){p:Addr}(hp:G p=none)(h0:g.h0 p=none)(hm:∀(i:Nat),m[i]?≠some Md.ow)(o:HO):SI X g m r G st (aD H p o) where
 gok:=fun b e h=>(s.gok b e h).mono (fun _ _ z=>z) fun o' q=>by rw[bg (by rintro rfl;rw[hp]at h;cases h)];exact q
 old:=fun b o' h=>by rw[bg (by rintro rfl;rw[h0]at h;cases h)];exact s.old b o' h
 ge:=s.ge
 gf:=s.gf
 lm:=s.lm
 lr:=s.lr
 sh:=s.sh
 ow:=fun i d _ h=>absurd h (hm i)
 bw:=fun i d h1 h2=>by
  obtain⟨v,h3,h4⟩:=s.bw i d h1 h2;refine⟨v,h3,?_⟩;rcases h4 with h4|⟨a,rfl,h4,h5⟩
  .exact .inl h4
  .have ha:a≠p:=by rintro rfl;exact h5 h0
   exact .inr ⟨a,rfl,⟨h4.un,h4.ob.mono (fun _ _ z=>z) fun o' z=>by rw[bg ha];exact z⟩,h5⟩
 dis:=fun i j a d e _ _ _ h=>absurd h (hm i)
 lk:=s.lk
theorem SI.less(s:SI X g m r G st H){r':ao}(hl:r'.length=r.length)(h:∀(i:Nat) d,r'[i]? = some (some d)->r[i]? = some (some d)):SI X g m r' G st H:=⟨s.gok,s.old,s.ge,s.gf,s.lm,hl.trans s.lr,fun i d a b=>s.sh i d (h i d a) b,fun i d a b=>s.ow i d (h i d a) b,fun i d a b=>s.bw i d (h i d a) b,fun i j a d e n p q x y=>s.dis i j a d e n (h i d p) (h j e q) x y,fun i o hi hm=>by have:=s.lk i o hi hm;exact⟨this.1,fun d hd=>this.2 d (h i d hd)⟩⟩
theorem SI.held(s:SI X g m r G st H){j:Nat}{b:Addr}{e:D}(h:r[j]? = some (some e))(hm:m[j]? = some .ow)(hs:st[j]? = some (some (V.ref b))):H b≠none:=by
 obtain⟨a,h1,h2,_⟩:=s.ow j e h hm;rw[hs]at h1;injection h1 with h1;injection h1 with h1;injection h1 with h1
 rw[h1];exact h2.ob.isS
theorem SI.setN(s:SI X g m r G st H){G':GH}{H':Hp}(w:Grow X.K G H G' H')(i:Nat){a:Addr}{d:D}(hn:H a=none)(ho:Own X.K G' H' a d):SI X g (m.set i .ow) (r.set i (some d)) G' (st.set i (some (V.ref a))) H':=by
 refine(s.grow w).setO i ho ?_ fun j b e h1 h2 h3=>?_
 .cases q:g.h0 a with
 |none=>rfl
 |some o=>rw[s.old _ _ q]at hn;cases hn
 .rintro rfl
  exact s.held h1 h2 h3 hn
theorem SI.mut(s:SI X g m r G st H){i:Nat}{d:D}(hm:m[i]? = some .ow)(hd:r[i]? = some (some d)):∃a,st[i]? = some (some (V.ref a))/\Own X.K G H a d/\∀(o':HO)(d':D),OwnO X.K G (aD H a o') a d'->SI X g m (r.set i (some d')) G st (aD H a o'):=by
 obtain⟨a,h1,h2,h3⟩:=s.ow i d hd hm;have hl:i<r.length:=(j_.mp hd).1;refine⟨a,h1,h2,fun o' d' ob=>?_⟩;have oth:∀(j:Nat)(b:Addr)(e:D),j≠i->r[j]? = some (some e)->m[j]? = some .ow->st[j]? = some (some (V.ref b))->b≠a:=fun j b e hj q1 q2 q3 z=>by subst z;exact s.dis i j b d e (Xt hj) hd q1 hm q2 h1 q3
 refine⟨fun b e h=>?_,fun b o h=>?_,s.ge,s.gf,s.lm,by simp[s.lr],?_,?_,?_,?_,fun j o hj U=>?_⟩
 .have hb:b≠a:=by rintro rfl;rw[h2.un]at h;cases h
  exact(s.gok b e h).mono (fun _ _ z=>z) fun o q=>by rw[bg hb];exact q
 .have hb:b≠a:=by rintro rfl;rw[h3]at h;cases h
  rw[bg hb];exact s.old b o h
 .intro j e h U;have Y:i≠j:=by rintro rfl;rw[hm]at U;cases U
  rw[h_ Y]at h;exact s.sh j e h U
 .intro j e h U;by_cases Y:i=j
  .subst Y;rw[x_ hl]at h;cases h;exact⟨a,h1,⟨h2.un,ob⟩,h3⟩
  .rw[h_ Y]at h;obtain⟨b,q1,q2,q3⟩:=s.ow j e h U;have hb:=oth j b e (Xt Y) h U q1;exact⟨b,q1,⟨q2.un,q2.ob.mono (fun _ _ z=>z) fun o z=>by rw[bg hb];exact z⟩,q3⟩
 .intro j e h U;have Y:i≠j:=by rintro rfl;rw[hm]at U;cases U
  rw[h_ Y]at h;obtain⟨v,q1,q2⟩:=s.bw j e h U;refine⟨v,q1,?_⟩;rcases q2 with q2|⟨b,rfl,q2,q3⟩
  .exact .inl q2
  .have hb:b≠a:=by rintro rfl;exact q3 h3
   exact .inr ⟨b,rfl,⟨q2.un,q2.ob.mono (fun _ _ z=>z) fun o z=>by rw[bg hb];exact z⟩,q3⟩
 .have bound:∀(j:Nat) e,(r.set i (some d'))[j]? = some (some e)->∃e',r[j]? = some (some e'):=fun j e h=>by
   by_cases Y:i=j
   .subst Y;exact⟨d,hd⟩
   .rw[h_ Y]at h;exact⟨e,h⟩
  intro j k b d1 d2 ac q1 q2 p1 p2 z1 z2;obtain⟨e1,q1⟩:=bound j d1 q1;obtain⟨e2,q2⟩:=bound k d2 q2;exact s.dis j k b e1 e2 ac q1 q2 p1 p2 z1 z2
 .have Y:i≠j:=by rintro rfl;rw[hm]at U;cases U
  have:=s.lk j o hj U;exact⟨this.1,fun Z h=>this.2 Z (by rw[h_ Y]at h;exact h)⟩
end
def RV(ro:Bool)(K:W.Frag)(H0:Hp)(G:GH)(H:Hp)(v:V)(d:D):Prop:=match ro with
|false=>RG K G v d
|true=>(∃a,v=.ref a/\H0 a=none/\Own K G H a d)\/(d=.non/\v=.non)
def cD(X:Cx)(g:GE)(ro:Bool)(m' mb:List Md)(G:GH)(D:Ends):Out->Prop
|.nx r'=>∀σ' G' H',bv G G'->SI X g m' r' G' σ' H'->D.nx σ' H'
|.rt d=>∀v G' H',Grow X.K g.gh g.h0 G' H'->RV ro X.K g.h0 G' H' v d->D.rt v H'
|.bk r'=>∀σ' G' H',bv G G'->SI X g mb r' G' σ' H'->D.bk σ' H'
|.ct r'=>∀σ' G' H',bv G G'->SI X g mb r' G' σ' H'->D.ct σ' H'
|.exc x r'=>∀pz e s' σ' G' H',bv G G'->SI X g (eZ m') r' G' σ' H'->Inv X pz σ' H' s'->JA X σ' G' H' e x s'->X.xe e s'
|.stuck=>False
def tS(X:Cx)(g:GE)(ro:Bool)(m m' mb:List Md)(f:FS):TS:=fun D σ H=>∃r G,SI X g m r G σ H/\cD X g ro m' mb G D (f r)
def SS(X:Cx)(g:GE)(ro:Bool)(mb m:List Md)(st:Stmt)(f:FS)(m':List Md):Prop:=m'.length=m.length/\PS X st (tS X g ro m m' mb f)
def fP(X:Cx)(g:GE)(ro:Bool)(mb m:List Md)(st:List Stmt)(f:FS)(m':List Md):Prop:=m'.length=m.length/\dD X st (tS X g ro m m' mb f)
theorem uO{m m':List Md}(h:m'.length=m.length):eZ m'=eZ m:=by unfold eZ;rw[QaL,QaL,h]
theorem cD.x{X:Cx}{g:GE}{ro:Bool}{m m' mb:List Md}{r:ao}{G:GH}{D:Ends}{σ:L2.St}{H:Hp}{x:DL.D}(h:cD X g ro m' mb G D (.exc x (forget m r)))(si:SI X g m r G σ H)(hl:m'.length=m.length):XW X σ G H x:=fun pz e s' G' H' w I ex=>h pz e s' σ G' H' w.ge (by rw[uO hl];exact(si.grow w).forget) I ex
variable{ro:Bool}{m' m1 mb:List Md}{tg:Expr}{pos':Pos}{sts:List Stmt}{s1:FS}
section
variable{st:Stmt}{sts':List Stmt}{s2:FS}
theorem cD.gle{G G1:GH}{D:Ends}{o:Out}(h:cD X g ro m' mb G D o)(w:bv G G1):cD X g ro m' mb G1 D o:=by cases o with
|nx r'=>exact fun σ' G' H' q si=>h σ' G' H' (w.trans q) si
|rt d=>exact h
|bk r'=>exact fun σ' G' H' q si=>h σ' G' H' (w.trans q) si
|ct r'=>exact fun σ' G' H' q si=>h σ' G' H' (w.trans q) si
|exc x r'=>exact fun pz e s' σ' G' H' q=>h pz e s' σ' G' H' (w.trans q)
|stuck=>exact h
def af(s1 s2:FS):FS:=fun r=>match s1 r with
|.nx r'=>s2 r'
|o=>o
def aq:FS:=fun r=>.nx r
theorem av:fP X g ro mb m [] aq m:=⟨rfl,dD.imp FZ fun D σ H ⟨r,G,si,q⟩=>q σ G H (bv.refl G) si⟩
theorem ak(h1:SS X g ro mb m st s1 m1)(h2:fP X g ro mb m1 sts s2 m'):fP X g ro mb m (st::sts) (af s1 s2) m':=by refine⟨h2.1.trans h1.1,dD.imp (Ax h1.2 h2.2) fun D σ H ⟨r,G,si,q⟩=>⟨r,G,si,?_⟩⟩;unfold af at q;cases e:s1 r with
|nx r'=>rw[e]at q;exact fun σ' G' H' w si'=>⟨r',G',si',cD.gle q w⟩
|rt d=>rw[e]at q;exact q
|bk r'=>rw[e]at q;exact q
|ct r'=>rw[e]at q;exact q
|exc x r'=>rw[e]at q;exact fun pz e s' σ' G' H' w si'=>q pz e s' σ' G' H' w (by rw[uO h2.1];exact si')
|stuck=>rw[e]at q;exact q
theorem Gu:SS X g ro mb m st (fun _=>.stuck) m:=⟨rfl,PS.imp Pd fun D σ H ⟨r,G,si,q⟩=>q⟩
theorem OU:fP X g ro mb m sts (fun _=>.stuck) m:=⟨rfl,dD.imp Qc fun D σ H ⟨r,G,si,q⟩=>q⟩
theorem pW(i:Nat)(hi:m[i]? = some .ow)(h:SS X g ro mb (m.set i .sh) st s1 m'):SS X g ro mb m st s1 m':=by
 refine⟨h.1.trans (by simp),fun pz s σ H D I ⟨r,G,si,q⟩=>?_⟩;rcases si.frz i hi with⟨G',le,si'⟩|⟨a,z⟩
 .exact h.2 pz s σ H D I ⟨r,G',si',cD.gle q le⟩
 .obtain⟨ob,I2⟩:=Inv.fast I a;obtain⟨G',le,si'⟩:=z ob;exact h.2 pz s σ _ D I2 ⟨r,G',si',cD.gle q le⟩
def gY{α:Type}(m:List Md)(r:ao)(x:Res α)(k:α->Out):Out:=match x with
|.ok a=>k a
|.exc e=>.exc e (forget m r)
|.stuck=>.stuck
@[simp] theorem onE_ok{α:Type}(m:List Md)(r:ao)(a:α)(k:α->Out):gY m r (.ok a) k=k a:=rfl
theorem gC{α:Type}{x:Res α}{k:α->Out}{r:ao}{G:GH}{D:Ends}{σ:L2.St}{H:Hp}(si:SI X g m r G σ H)(hl:m'.length=m.length)(h:cD X g ro m' mb G D (gY m r x k)):fin x (fun a=>cD X g ro m' mb G D (k a)) (XW X σ G H):=by cases x with
|ok a=>exact h
|exc e=>exact cD.x h si hl
|stuck=>exact h
def ap(m:List Md)(i:Nat)(f:FE):FS:=fun r=>gY m r (f r) fun d=>.nx (r.set i (some d))
theorem K0(i:Nat){x:Str}(hN:X.N.Nodup)(hi:X.N[i]? = some x)(hx:j5 X.env.scope x)(he:SE X g m e f)(hs:XC e (some (.Name x pos')) pos.line X.env=pure false:=by rfl)(hf:X.fn x=true\/X.env.scope.names.lookup x=some .local:=by first|exact .inl rfl|exact .inr rfl|assumption):SS X g ro mb m (.Assign [.Name x pos'] e pos) (ap m i f) (m.set i .sh):=by
 have hl:(m.set i .sh).length=m.length:=by simp
 refine⟨hl,PS.imp (Fd hN hi hx he hs hf) fun D σ H ⟨r,G,si,q⟩=>⟨r,G,si,?_⟩⟩;exact bG (gC si hl q) fun d q v G' H' w rv=>q _ G' H' w.ge ((si.grow w).set i rv)
theorem eu(i:Nat){x:Str}(hN:X.N.Nodup)(hi:X.N[i]? = some x)(hx:j5 X.env.scope x)(he:SO X g m e f)(hs:XC e (some (.Name x pos')) pos.line X.env=pure false:=by rfl)(hf:X.fn x=true\/X.env.scope.names.lookup x=some .local:=by first|exact .inl rfl|exact .inr rfl|assumption):SS X g ro mb m (.Assign [.Name x pos'] e pos) (ap m i f) (m.set i .ow):=by
 have hl:(m.set i .ow).length=m.length:=by simp
 refine⟨hl,PS.imp (Fd hN hi hx he hs hf) fun D σ H ⟨r,G,si,q⟩=>⟨r,G,si,?_⟩⟩;exact bG (gC si hl q) fun d q a G' H' w hn ho=>q _ G' H' w.ge (si.setN w i hn ho)
def D4(m:List Md)(f:FE):FS:=fun r=>gY m r (f r) fun _=>.nx r
theorem Mz(he:SE X g m e f)(hs:XC e none pos.line X.env=pure false:=by rfl):SS X g ro mb m (.Expr e pos) (D4 m f) m:=⟨rfl,PS.imp (tY he hs) fun D σ H ⟨r,G,si,q⟩=>⟨r,G,si,bG (gC si rfl q) fun d q v G' H' w _=>q σ G' H' w.ge (si.grow w)⟩⟩
def aw(m:List Md)(f:FE):FS:=fun r=>gY m r (f r) fun d=>.rt d
theorem bb(he:SE X g m e f):SS X g false mb m (.Return (some e) pos) (aw m f) m:=⟨rfl,PS.imp (Fc he) fun D σ H ⟨r,G,si,q⟩=>⟨r,G,si,bG (gC si rfl q) fun d q v G' H' w rv=>q v G' H' (si.grow w).grown rv⟩⟩
def bI(m:List Md)(p:FQ)(s1 s2:FS):FS:=fun r=>gY m r (p r) fun c=>if c=true then s1 r else s2 r
theorem aP(hc:SQ X g m c p)(h1:fP X g ro mb m sts s1 m')(h2:fP X g ro mb m sts' s2 m'):SS X g ro mb m (.If c sts sts' pos) (bI m p s1 s2) m':=by refine⟨h1.1,PS.imp (JR hc h1.2 h2.2) fun D σ H ⟨r,G,si,q⟩=>⟨r,G,si,bG (gC si h1.1 q) fun c q G' H' w=>?_⟩⟩;cases c with
|true=>rw[if_pos rfl]at q ⊢;exact⟨r,G',si.grow w,cD.gle q w.ge⟩
|false=>rw[if_neg k_]at q ⊢;exact⟨r,G',si.grow w,cD.gle q w.ge⟩
theorem Ho(i:Nat)(h:fP X g ro mb m sts s1 m')(hi:m'[i]? = some .ow):fP X g ro mb m sts s1 (m'.set i .sh):=by
 refine⟨by simp[h.1],fun pz s σ H D I ⟨r,G,si,q⟩=>?_⟩;refine aX (h.2 pz s σ H ⟨fun σ' H'=>D.nx σ' H'\/∃a,∀ob,D.nx σ' (fz H' a ob),D.rt,D.bk,D.ct⟩ I ⟨r,G,si,?_⟩) fun f s' p=>?_
 .cases e:s1 r with
 |nx r'=>
   rw[e]at q;intro σ' G' H' w si';rcases si'.frz i hi with⟨G2,le,U⟩|⟨a,z⟩
   .exact .inl (q σ' G2 H' (w.trans le) U)
   .refine .inr ⟨a,fun ob=>?_⟩;obtain⟨G2,le,U⟩:=z ob;exact q σ' G2 _ (w.trans le) U
 |rt d=>rw[e]at q;exact q
 |bk r'=>rw[e]at q;exact q
 |ct r'=>rw[e]at q;exact q
 |exc x r'=>rw[e]at q;exact fun pz e s' σ' G' H' w si'=>q pz e s' σ' G' H' w (by rw[uO (m:=m') (by simp)];exact si')
 |stuck=>rw[e]at q;exact q
 .cases f with
 |next=>
   obtain⟨σ',H',I',z|⟨a,z⟩⟩:=p
   .exact⟨σ',H',I',z⟩
   .obtain⟨ob,I2⟩:=Inv.fast I' a;exact⟨σ',_,I2,z ob⟩
 |brk=>exact p
 |cont=>exact p
 |ret u=>exact p
end
abbrev FT:=D->ao->Option ao
abbrev kA:=List D->ao->Option ao
def tG(X:Cx)(g:GE)(m m':List Md)(ft:FT):TG:=fun v σ H Q=>∃r G d,SI X g m r G σ H/\RG X.K G v d/\∃r',ft d r=some r'/\∀σ',SI X g m' r' G σ' H->Q σ' H
def SN(X:Cx)(g:GE)(m m':List Md)(ft:kA):kz:=fun vs σ H Q=>∃r G ds,SI X g m r G σ H/\cK X.K G vs ds/\∃r',ft ds r=some r'/\∀σ',SI X g m' r' G σ' H->Q σ' H
theorem PG.imp{X:Cx}{e:Expr}{t t':TG}(h:PG X e t)(i:∀v σ H Q,t' v σ H Q->t v σ H Q):PG X e t':=fun pz s σ H v u Q I r q=>h pz s σ H v u Q I r (i v σ H Q q)
theorem j0.imp{X:Cx}{e:List Expr}{t t':kz}(h:j0 X e t)(i:∀v σ H Q,t' v σ H Q->t v σ H Q):j0 X e t':=fun pz s σ H v u Q I r q=>h pz s σ H v u Q I r (i v σ H Q q)
def SG(X:Cx)(g:GE)(m:List Md)(tg:Expr)(ft:FT)(m':List Md):Prop:=m'.length=m.length/\PG X tg (tG X g m m' ft)
structure SGs(X:Cx)(g:GE)(m:List Md)(ts:List Expr)(n:Nat)(ft:kA)(m':List Md):Prop where
 ml:m'.length=m.length
 ln:∀ds r r',ft ds r=some r'->ds.length=n
 pg:j0 X ts (SN X g m m' ft)
def aG(i:Nat):FT:=fun d r=>some (r.set i (some d))
def c6(ft:kA):FT:=fun d r=>match d with
|.tup ds=>ft ds r
|.lst ds=>ft ds r
|_=>none
def cW:kA:=fun ds r=>match ds with
|[]=>some r
|_=>none
def bq(ft:FT)(fts:kA):kA:=fun ds r=>match ds with
|[]=>none
|d::ds=>(ft d r).bind fun r'=>fts ds r'
variable{ft:FT}
section
variable{ts:List Expr}{fts:kA}{n:Nat}
theorem Kr(i:Nat){x:Str}(hN:X.N.Nodup)(hi:X.N[i]? = some x)(hx:j5 X.env.scope x)(hf:X.fn x=true\/X.env.scope.names.lookup x=some .local:=by first|exact .inl rfl|exact .inr rfl|assumption):SG X g m (.Name x pos) (aG i) (m.set i .sh):=⟨by simp,PG.imp (N7 hN hi hx hf) fun v σ H Q ⟨r,G,d,si,rv,r',e,k⟩=>by cases e;exact k _ (si.set i rv)⟩
theorem gG:SGs X g m [] 0 cW m:=by
 refine⟨rfl,fun ds r r' e=>?_,j0.imp N8 fun v σ H Q ⟨r,G,ds,si,rv,r',e,k⟩=>?_⟩
 .cases ds with
 |nil=>rfl
 |cons _ _=>cases e
 .cases rv with
 |nil=>cases e;exact⟨rfl,k σ si⟩
 |cons _ _=>cases e
theorem cY(h1:SG X g m tg ft m1)(h2:SGs X g m1 ts n fts m')(hs:(V_ (tg::ts) X.env).map (·.2)=Yv tg X.env::(V_ ts X.env).map (·.2):=by rfl):SGs X g m (tg::ts) (n+1) (bq ft fts) m':=by
 refine⟨h2.ml.trans h1.1,fun ds r r' e=>?_,j0.imp (Pb h1.2 h2.pg hs) fun v σ H Q ⟨r,G,ds,si,rv,r',e,k⟩=>?_⟩
 .cases ds with
 |nil=>cases e
 |cons d ds=>have e':((ft d r).bind fun r'=>fts ds r')=some r':=e;cases q:ft d r with
  |none=>rw[q]at e';cases e'
  |some r1=>rw[q]at e';have:=h2.ln ds r1 r' e';simp[this]
 .cases rv with
 |nil=>cases e
 |@cons v0 d vs ds rv rs=>have e':((ft d r).bind fun r'=>fts ds r')=some r':=e;cases q:ft d r with
  |none=>rw[q]at e';cases e'
  |some r1=>rw[q]at e';exact⟨_,_,rfl,r,G,d,si,rv,r1,q,fun σ' si'=>⟨r1,G,ds,si',rs,r',e',k⟩⟩
theorem Lv{k:Nat}{t:kz}(hc:X.calm=true)(h:j0 X ts t)(hn:(V_ ts X.env).length=n)(z:(V_ ts X.env).findIdx? (·.1)=none):PG X (.Tuple ts k pos) (fun v σ H Q=>∃a xs,v=.ref a/\bM X.K H a xs/\xs.length=n/\t xs σ H Q):=by intro pz s σ H v u Q I r hw;obtain⟨a,xs,e1,hq,hl,hw⟩:=hw;subst e1;cases r;obtain⟨its,rv,⟨o,nn,l1,l2,l3,l4⟩,hz⟩:=I.list hq;rw[PyProof.Rows.assign_Tuple];refine b_ (XV ?_);unfold unpack;rw[z,show(V_ ts X.env).length=its.toArray.size by simp[hn,<-hl,rv.length]];refine b_ (W2 (W.kun_itemsOf (I.ok.hd hc) ⟨o,l1,l2,nn,l4⟩ fun h' hx=>?_));have I1:Inv X pz σ H { s with heap:=h' }:=I.kept (t':=s.toks) fun b o e=>hx b o (J_ (y_ e)) e;exact h pz _ σ H xs _ Q I1 (by simpa using rv) hw
theorem PG.or{e:Expr}{t t':TG}(h:PG X e t)(h':PG X e t'):PG X e (fun v σ H Q=>t v σ H Q\/t' v σ H Q):=fun pz s σ H v u Q I r q=>q.elim (h pz s σ H v u Q I r) (h' pz s σ H v u Q I r)
theorem gH{k:Nat}(hc:X.calm=true)(h:SGs X g m ts n fts m')(hn:(V_ ts X.env).length=n:=by rfl)(z:(V_ ts X.env).findIdx? (·.1)=none:=by rfl):SG X g m (.Tuple ts k pos) (c6 fts) m':=by refine⟨h.ml,PG.imp (PG.or (Lu hc h.pg hn z) (Lv hc h.pg hn z)) fun v σ H Q ⟨r,G,d,si,rv,r',e,k⟩=>?_⟩;cases d with
|tup ds=>obtain⟨a,xs,rfl,s,rs⟩:=rv.tup si.gok;exact .inl ⟨a,xs,rfl,s,(Paired.length rs).trans (h.ln ds r r' e),r,G,ds,si,rs,r',e,k⟩
|lst ds=>obtain⟨a,xs,rfl,s,rs⟩:=rv.lst si.gok;exact .inr ⟨a,xs,rfl,s,(Paired.length rs).trans (h.ln ds r r' e),r,G,ds,si,rs,r',e,k⟩
|_=>cases e
end
structure Yields(K:W.Frag)(J:It)(ds:List D)(G0:GH):Prop where
 go:∀G H (i:Nat),bv G0 G->bn K G H->i<ds.length->J.go i H
 yld:∀G H (i:Nat) x H' d,bv G0 G->bn K G H->J.yld i H x H'->ds[i]? = some d->∃G',Grow K G H G' H'/\RG K G' x d
 stop:∀G H,bv G0 G->bn K G H->J.stop ds.length H
abbrev FI:=ao->Res (List D)
def tI(X:Cx)(g:GE)(m:List Md)(f:FI):TI:=fun σ H R=>∃r G,SI X g m r G σ H/\fin (f r) (fun ds=>∀J G' H',Grow X.K G H G' H'->Yields X.K J ds G'->R J H') (XW X σ G H)
def i7(X:Cx)(g:GE)(m:List Md)(tg iter:Expr)(f:FI):Prop:=PI X tg iter (tI X g m f)
theorem PI.imp{X:Cx}{tg e:Expr}{t t':TI}(h:PI X tg e t)(i:∀σ H Q,t' σ H Q->t σ H Q):PI X tg e t':=fun pz s σ H R I q=>h pz s σ H R I (i σ H R q)
theorem Ab{K:W.Frag}{a:Addr}{ds:List D}{G0:GH}(h0:RG K G0 (.ref a) (.lst ds)):Yields K (sH K a) ds G0:=by
 have at_:∀G H,bv G0 G->bn K G H->∃xs,bM K H a xs/\cK K G xs ds:=fun G H w gk=>by obtain⟨b,xs,e,s,r⟩:=(h0.mono w).lst gk;cases e;exact⟨xs,s,r⟩
 refine⟨fun G H i w gk hi=>?_,fun G H i x H' d w gk y e=>?_,fun G H w gk=>?_⟩
 .obtain⟨xs,s,r⟩:=at_ G H w gk;have hl:=Paired.length r;exact⟨xs,xs[i],s,d_ (by omega)⟩
 .obtain⟨xs,s,r⟩:=at_ G H w gk;obtain⟨rfl,y⟩:=y;obtain⟨v,e1,rv⟩:=Paired.get r e;have:=y xs s;rw[e1]at this;cases this;exact⟨G,Grow.refl gk,rv⟩
 .obtain⟨xs,s,r⟩:=at_ G H w gk;exact⟨xs,s,XD (Paired.length r)⟩
theorem zS{K:W.Frag}{a:Addr}{ds:List D}{G0:GH}(h0:RG K G0 (.ref a) (.tup ds)):Yields K (DC K a) ds G0:=by
 have at_:∀G H,bv G0 G->bn K G H->∃xs,cJ K H a xs/\cK K G xs ds:=fun G H w gk=>by obtain⟨b,xs,e,s,r⟩:=(h0.mono w).tup gk;cases e;exact⟨xs,s,r⟩
 refine⟨fun G H i w gk hi=>?_,fun G H i x H' d w gk y e=>?_,fun G H w gk=>?_⟩
 .obtain⟨xs,s,r⟩:=at_ G H w gk;have hl:=Paired.length r;exact⟨xs,xs[i],s,d_ (by omega)⟩
 .obtain⟨xs,s,r⟩:=at_ G H w gk;obtain⟨rfl,y⟩:=y;obtain⟨v,e1,rv⟩:=Paired.get r e;have:=y xs s;rw[e1]at this;cases this;exact⟨G,Grow.refl gk,rv⟩
 .obtain⟨xs,s,r⟩:=at_ G H w gk;exact⟨xs,s,XD (Paired.length r)⟩
def dW(lo:Int)(n:Nat):List D:=(e_ n).map fun(i:Nat)=>D.int (lo+(i:Int))
theorem Mj{K:W.Frag}{lo:Int}{n:Nat}{G0:GH}:Yields K (xJ lo n) (dW lo n) G0:=by
 have hl:(dW lo n).length=n:=by simp[dW]
 refine⟨fun G H i w gk hi=>(by rw[hl]at hi;exact hi),fun G H i x H' d w gk y e=>?_,fun G H w gk=>(by rw[hl];exact w_ _)⟩;obtain⟨rfl,rfl⟩:=y;have hi:i<n:=by have:=(j_.mp e).1;rw[hl]at this;exact this
 unfold dW at e;rw[n_,WG hi]at e;cases e;exact⟨G,Grow.refl gk,.scl (.int _)⟩
def bN:D->Option (List D)
|.lst ds=>some ds
|.tup ds=>some ds
|_=>none
variable{iter:Expr}
def aU(k:D->Option (List D))(f:FE):FI:=fun r=>(f r).bind fun d=>cQ (k d)
theorem zH{l:Expr}{tl:TE}(hl:PE X l tl):PI X tg l (fun σ H R=>tl σ H fun x H1=>(∃a,x=.ref a/\(∃xs,bM X.K H1 a xs)/\R (sH X.K a) H1)\/∃a,x=.ref a/\(∃xs,cJ X.K H1 a xs)/\R (DC X.K a) H1):=by
 intro pz s σ H R I h;refine aX (hl pz s σ H _ I h) fun v s1 ⟨x,H1,I1,r1,q1⟩=>?_;rcases q1 with⟨a,e,⟨xs,hq⟩,q⟩|⟨a,e,⟨xs,hq⟩,q⟩
 .subst e;cases r1;obtain⟨its,rv,p,hz⟩:=I1.list hq;refine Qao p.isList ?_;refine⟨s1.heap.objs.size,[s1.heap.objs.size],_,_,H1,rfl,I1.kept (t':=s1.toks) fun b o e=>c_ _ e,QN a _,⟨_,z_ _ rfl,rfl,rfl⟩,fun b hb=>?_,q⟩;have e:b=s1.heap.objs.size:=by simpa using hb
  subst e;exact I1.fpOk (w_ _) (I1.hok.fresh (w_ _))
 .subst e;cases r1;obtain⟨its,rv,p,hz⟩:=I1.tuple hq;refine Wk (show s1.heap.IsTuple a its.toArray from p) ?_;refine⟨s1.heap.objs.size,[s1.heap.objs.size],_,_,H1,rfl,I1.kept (t':=s1.toks) fun b o e=>c_ _ e,Rc a _,⟨_,z_ _ rfl,rfl,rfl⟩,fun b hb=>?_,q⟩;have e:b=s1.heap.objs.size:=by simpa using hb
  subst e;exact I1.fpOk (w_ _) (I1.hok.fresh (w_ _))
theorem yG(h:SE X g m e f):i7 X g m tg e (aU bN f):=by
 refine PI.imp (zH h) fun σ H R ⟨r,G,si,q⟩=>⟨r,G,si,bG (bJ q) fun d q v G' H' w rv=>?_⟩
 obtain⟨ds,e,q⟩:=cX q;cases d with
|lst ds'=>cases e;obtain⟨a,xs,rfl,s,rs⟩:=rv.lst w.ok;exact .inl ⟨a,rfl,⟨xs,s⟩,q _ G' H' w (Ab rv)⟩
|tup ds'=>cases e;obtain⟨a,xs,rfl,s,rs⟩:=rv.tup w.ok;exact .inr ⟨a,rfl,⟨xs,s⟩,q _ G' H' w (zS rv)⟩
|_=>cases e
structure YieldsC(K:W.Frag)(J:It)(ds:List D)(G0:GH)(H0:Hp):Prop where
 go:∀G H (i:Nat),Grow K G0 H0 G H->i<ds.length->J.go i H
 yld:∀G H (i:Nat) x H' d,Grow K G0 H0 G H->J.yld i H x H'->ds[i]? = some d->∃G',Grow K G H G' H'/\RG K G' x d
 stop:∀G H,Grow K G0 H0 G H->J.stop ds.length H
theorem Yields.toC{K:W.Frag}{J:It}{ds:List D}{G0:GH}{H0:Hp}(y:Yields K J ds G0):YieldsC K J ds G0 H0:=⟨fun G H i w hi=>y.go G H i w.ge w.ok hi,fun G H i x H' d w q e=>y.yld G H i x H' d w.ge w.ok q e,fun G H w=>y.stop G H w.ge w.ok⟩
def SL(X:Cx)(g:GE)(m:List Md)(f:FI):TI:=fun σ H R=>∃r G,SI X g m r G σ H/\fin (f r) (fun ds=>∀J G' H',Grow X.K G H G' H'->YieldsC X.K J ds G' H'->R J H') (XW X σ G H)
def jZ(X:Cx)(g:GE)(m:List Md)(tg iter:Expr)(f:FI):Prop:=PI X tg iter (SL X g m f)
theorem i7.toC{fi:FI}(h:i7 X g m tg iter fi):jZ X g m tg iter fi:=PI.imp h fun σ H R ⟨r,G,si,q⟩=>⟨r,G,si,bG q fun ds k J G' H' w y=>k J G' H' w y.toC⟩
theorem Mi{K:W.Frag}{a:Addr}{ds:List D}{G0:GH}{H0:Hp}(o:Own K G0 H0 a (.lst ds)):YieldsC K (sH K a) ds G0 H0:=by
 have at_:∀G H,Grow K G0 H0 G H->∃xs,bM K H a xs/\cK K G xs ds:=fun G H w=>by cases(o.mono w).ob with
 |lst r s=>exact⟨_,bM.of r,s⟩
 refine⟨fun G H i w hi=>?_,fun G H i x H' d w y e=>?_,fun G H w=>?_⟩
 .obtain⟨xs,s,r⟩:=at_ G H w;have hl:=Paired.length r;exact⟨xs,xs[i],s,d_ (by omega)⟩
 .obtain⟨xs,s,r⟩:=at_ G H w;obtain⟨rfl,y⟩:=y;obtain⟨v,e1,rv⟩:=Paired.get r e;have:=y xs s;rw[e1]at this;cases this;exact⟨G,Grow.refl w.ok,rv⟩
 .obtain⟨xs,s,r⟩:=at_ G H w;exact⟨xs,s,XD (Paired.length r)⟩
theorem eI(h:SB X g m e f):jZ X g m tg e (aU bN f):=by
 refine PI.imp (zH h) fun σ H R ⟨r,G,si,q⟩=>⟨r,G,si,bG (bJ q) fun d q v G' H' w rv=>?_⟩
 obtain⟨ds,e,q⟩:=cX q;cases d with
|lst ds'=>
  cases e;rcases rv with rv|⟨a,rfl,o⟩
  .obtain⟨a,xs,rfl,s,rs⟩:=rv.lst w.ok;exact .inl ⟨a,rfl,⟨xs,s⟩,q _ G' H' w (Ab rv).toC⟩
  .cases o.ob with
  |lst r s=>exact .inl ⟨a,rfl,⟨_,bM.of r⟩,q _ G' H' w (Mi o)⟩
|tup ds'=>
  cases e;rcases rv with rv|⟨a,rfl,o⟩
  .obtain⟨a,xs,rfl,s,rs⟩:=rv.tup w.ok;exact .inr ⟨a,rfl,⟨xs,s⟩,q _ G' H' w (zS rv).toC⟩
  .cases o.ob
|_=>cases e
def dj:List D->Option (List D)
|[.int j]=>if-(2^62)<=j/\j<2^62 then some (dW 0 j.toNat)else none
|_=>none
def dN(k:List D->Option (List D))(fl:ao->Res (List D)):FI:=fun r=>(fl r).bind fun ds=>cQ (k ds)
theorem kH{pn:Pos}(hg:Gl X "range")(hm:X.mg "range" = none)(ha:iH X g m [a] fl)(hs:i_ [a] X.env=[(false,eval a X.env)]:=by rfl):i7 X g m tg (.Call (.Name "range" pn) [a] [] pos) (dN dj fl):=by
 refine PI.imp (Qa hg hm ha hs) fun σ H R ⟨r,G,si,q⟩=>⟨r,G,si,bG (bJ q) fun ds q vs G' H' w rs=>?_⟩
 obtain⟨zs,e,q⟩:=cX q;unfold dj at e;split at e
 .split at e
  .rename_i j hj;cases e;cases rs with
  |cons r1 t=>cases t;exact⟨j,by rw[r1.int w.ok],hj.1,hj.2,q _ G' H' w Mj⟩
  .cases e
 .cases e
def aI(ft:FT)(body:FS):List D->FS
|[],r=>.nx r
|d::ds,r=>match ft d r with
 |none=>.stuck
 |some r1=>match body r1 with
  |.nx r'=>aI ft body ds r'
  |.ct r'=>aI ft body ds r'
  |.bk r'=>.nx r'
  |o=>o
def eF(m:List Md)(fi:FI)(ft:FT)(body:FS):FS:=fun r=>gY m r (fi r) fun ds=>aI ft body ds r
theorem jg(hp:Y7 (D_ X.prog X.w) X.A X.env X.xe)(hc:X.calm=true){ft:FT}{fi:FI}(hi:i7 X g m tg iter fi)(hg:SG X g m tg ft m)(hb:fP X g ro m m sts s1 m)(hs:∀x,Wa iter X.env x=pure x:=by intro _;rfl):SS X g ro mb m (.For tg iter sts [] pos) (eF m fi ft s1) m:=by
 refine⟨rfl,PS.imp (zJ hp hc hi hg.2 hb.2 hs) fun D σ H ⟨r,G,si,q⟩=>⟨r,G,si,bG (gC si rfl q) fun ds q J G0 H0 w0 Y=>?_⟩⟩;refine⟨fun i n σ H=>∃r G,SI X g m r G σ H/\bv G0 G/\i<=ds.length/\n=ds.length-i/\cD X g ro m mb G D (aI ft s1 (ds.drop i) r),⟨ds.length,r,G0,si.grow w0,bv.refl G0,VM _,rfl,cD.gle q w0.ge⟩,?_⟩
 rintro i n σ1 H1 ⟨r1,G1,si1,le1,hi,rfl,q1⟩
 by_cases hlt:i<ds.length
 .have hd:ds.drop i=ds[i]::ds.drop (i+1):=Wh hlt;rw[hd]at q1;unfold aI at q1;refine .inr ⟨Y.go G1 H1 i le1 si1.gok hlt,fun σ' H'=>∃r G,SI X g m r G σ' H'/\bv G0 G/\cD X g ro m mb G D (aI ft s1 (ds.drop (i+1)) r),fun σ' H' ⟨r',G',si',Z,q'⟩=>⟨ds.length-(i+1),by omega,r',G',si',Z,hlt,rfl,q'⟩,fun x H' y=>?_⟩;obtain⟨G',w',rv⟩:=Y.yld G1 H1 i x H' ds[i] le1 si1.gok y (d_ hlt);have Z:bv G0 G':=le1.trans w'.ge;cases ac:ft ds[i] r1 with
 |none=>simp only[ac]at q1;exact q1.elim
 |some r2=>simp only[ac]at q1;refine⟨r1,G',ds[i],si1.grow w',rv,r2,ac,fun σ2 ad=>⟨r2,G',ad,?_⟩⟩;cases eb:s1 r2 with
  |nx r'=>simp only[eb]at q1;exact fun σ3 G3 H3 z U=>⟨r',G3,U,Z.trans z,cD.gle q1 (bv.trans w'.ge z)⟩
  |ct r'=>simp only[eb]at q1;exact fun σ3 G3 H3 z U=>⟨r',G3,U,Z.trans z,cD.gle q1 (bv.trans w'.ge z)⟩
  |bk r'=>simp only[eb]at q1;exact fun σ3 G3 H3 z U=>q1 σ3 G3 H3 (bv.trans w'.ge z) U
  |rt d=>simp only[eb]at q1;exact q1
  |exc x r'=>simp only[eb]at q1;exact fun pz e s' σ3 G3 H3 z=>q1 pz e s' σ3 G3 H3 (bv.trans w'.ge z)
  |stuck=>simp only[eb]at q1;exact q1
 .have e:i=ds.length:=by omega
  subst e;rw[XH]at q1;exact .inl ⟨Y.stop G1 H1 le1 si1.gok,q1 σ1 G1 H1 (bv.refl _) si1⟩
def dy(m:List Md):List Md:=m.map fun x=>if x=Md.sh then Md.sh else Md.bw
def mr(m:List Md)(r:ao)(st:L2.St)(G:GH)(H:Hp):GE:=⟨G,H,fun i=>if m[i]? = some Md.ow\/m[i]? = some Md.bw then some ((st[i]?).join,(r[i]?).join)else none⟩
theorem qo{m:List Md}{i:Nat}{x:Md}(h:m[i]? = some x):(dy m)[i]? = some (if x=Md.sh then Md.sh else Md.bw):=by unfold dy;rw[n_,h];rfl
theorem Op{m:List Md}{i:Nat}(h:(dy m)[i]? = some Md.sh):m[i]? = some Md.sh:=by cases q:m[i]? with
|none=>unfold dy at h;rw[n_,q]at h;cases h
|some x=>rw[qo q]at h;cases x <;> first|rfl|(simp at h)
theorem GT{m:List Md}{i:Nat}(h:(dy m)[i]? = some Md.ow):False:=by cases q:m[i]? with
|none=>unfold dy at h;rw[n_,q]at h;cases h
|some x=>rw[qo q]at h;cases x <;> simp at h
theorem lockM_bw{m:List Md}{i:Nat}(h:(dy m)[i]? = some Md.bw):m[i]? = some Md.ow\/m[i]? = some Md.bw:=by cases q:m[i]? with
|none=>unfold dy at h;rw[n_,q]at h;cases h
|some x=>rw[qo q]at h;cases x with
 |sh=>simp at h
 |ow=>exact .inl rfl
 |bw=>exact .inr rfl
theorem SI.lock{r:ao}{G:GH}{st:L2.St}{H:Hp}(s:SI X g m r G st H):SI X (mr m r st G H) (dy m) r G st H where
 gok:=s.gok
 old:=fun _ _ e=>e
 ge:=fun _ _ e=>e
 gf:=fun _ _=>rfl
 lm:=by unfold dy;rw[g_];exact s.lm
 lr:=s.lr
 sh:=fun i d h hm=>s.sh i d h (Op hm)
 ow:=fun i d h hm=>(GT hm).elim
 bw:=fun i d h hm=>by
  rcases lockM_bw hm with z|z
  .obtain⟨a,h1,h2,_⟩:=s.ow i d h z;exact⟨_,h1,.inr ⟨a,rfl,h2,h2.ob.isS⟩⟩
  .obtain⟨v,h1,h2⟩:=s.bw i d h z;refine⟨v,h1,?_⟩;rcases h2 with h2|⟨a,e,h2,_⟩
   .exact .inl h2
   .exact .inr ⟨a,e,h2,h2.ob.isS⟩
 dis:=fun i j a d e _ _ _ hm=>(GT hm).elim
 lk:=fun i o h hm=>by
  have h':(if m[i]? = some Md.ow\/m[i]? = some Md.bw then some ((st[i]?).join,(r[i]?).join)else none)=some o:=h;rw[if_pos (lockM_bw hm)]at h';cases h';have hi:i<st.length:=by have:=(j_.mp hm).1;unfold dy at this;rw[g_,s.lm]at this;exact this
  refine⟨?_,fun d hd=>by rw[hd];rfl⟩;rw[d_ hi];rfl
theorem SI.unlock{r r':ao}{G G':GH}{st st':L2.St}{H H':Hp}(s:SI X g m r G st H)(s':SI X (mr m r st G H) (dy m) r' G' st' H'):SI X g m r' G' st' H':=by
 have w:Grow X.K G H G' H':=s'.grown;have U:∀(i:Nat),(m[i]? = some Md.ow\/m[i]? = some Md.bw)->st'[i]? = some (st[i]?).join/\∀d,r'[i]? = some (some d)->r[i]? = some (some d):=fun i hi=>by
  have hm:(dy m)[i]? = some Md.bw:=by rcases hi with z|z <;> rw[qo z] <;> simp
  obtain⟨h1,h2⟩:=s'.lk i ((st[i]?).join,(r[i]?).join) (if_pos hi) hm;refine⟨h1,fun d hd=>?_⟩;have:=h2 d hd;cases q:r[i]? with
 |none=>rw[q]at this;cases this
 |some o=>rw[q]at this;rw[show o=some d from this]
 have Y:∀(i:Nat) v,(m[i]? = some Md.ow\/m[i]? = some Md.bw)->st[i]? = some (some v)->st'[i]? = some (some v):=fun i v hi h=>by rw[(U i hi).1,h];rfl
 refine⟨s'.gok,fun a o e=>s'.old a o (s.old a o e),fun a d e=>s'.ge a d (s.ge a d e),fun a h=>?_,?_,s'.lr,fun i d h hm=>?_,fun i d h hm=>?_,fun i d h hm=>?_,fun i j a d e Z h1 h2 m1 m2 q1 q2=>?_,fun i o hi hm=>?_⟩
 .have h1:H a≠none:=by cases e:g.h0 a with
  |none=>exact absurd e h
  |some o=>rw[s.old _ _ e];simp
  rw[w.gf a h1,s.gf a h]
 .have:=s'.lm;unfold dy at this;rw[g_]at this;exact this
 .exact s'.sh i d h (by rw[qo hm];simp)
 .obtain⟨a,h1,h2,h3⟩:=s.ow i d ((U i (.inl hm)).2 d h) hm;exact⟨a,Y i _ (.inl hm) h1,h2.mono w,h3⟩
 .obtain⟨v,h1,h2⟩:=s.bw i d ((U i (.inr hm)).2 d h) hm;exact⟨v,Y i _ (.inr hm) h1,h2.grow w⟩
 .have e1:=(U i (.inl m1)).2 d h1;have e2:=(U j (.inl m2)).2 e h2;obtain⟨b,z1,_,_⟩:=s.ow i d e1 m1;obtain⟨c,z2,_,_⟩:=s.ow j e e2 m2;have y1:=Y i _ (.inl m1) z1;have y2:=Y j _ (.inl m2) z2;rw[q1]at y1;rw[q2]at y2;cases y1;cases y2;exact s.dis i j a d e Z e1 e2 m1 m2 z1 z2
 .obtain⟨h1,h2⟩:=s.lk i o hi hm;refine⟨?_,fun d hd=>h2 d ((U i (.inr hm)).2 d hd)⟩;rw[(U i (.inr hm)).1,h1];rfl
theorem SI.unlockX{r r':ao}{G G':GH}{st st':L2.St}{H H':Hp}(s:SI X g m r G st H)(s':SI X (mr m r st G H) (eZ (dy m)) r' G' st' H'):SI X g (eZ m) r' G' st' H':=by
 have w:Grow X.K G H G' H':=s'.grown;have el:eZ (dy m)=eZ m:=uO (by unfold dy;rw[g_]);rw[el]at s';have no:∀{i:Nat}{x:Md},(eZ m)[i]? = some x->x=Md.sh:=fun{i x} h=>by unfold eZ at h;rw[n_]at h;cases q:m[i]? with
 |none=>rw[q]at h;cases h
 |some y=>rw[q]at h;cases h;rfl
 refine⟨s'.gok,fun a o e=>s'.old a o (s.old a o e),fun a d e=>s'.ge a d (s.ge a d e),fun a h=>?_,s'.lm,s'.lr,s'.sh,fun i d h hm=>(nomatch (no hm)),fun i d h hm=>(nomatch (no hm)),fun i j a d e z h1 h2 m1 m2=>(nomatch (no m1)),fun i o hi hm=>(nomatch (no hm))⟩;have h1:H a≠none:=by cases e:g.h0 a with
 |none=>exact absurd e h
 |some o=>rw[s.old _ _ e];simp
 rw[w.gf a h1,s.gf a h]
theorem zT(hp:Y7 (D_ X.prog X.w) X.A X.env X.xe)(hc:X.calm=true){ft:FT}{fi:FI}(hi:jZ X g m tg iter fi)(hg:∀g',SG X g' (dy m) tg ft (dy m))(hb:∀g',fP X g' ro (dy m) (dy m) sts s1 (dy m))(hs:∀x,Wa iter X.env x=pure x:=by intro _;rfl):SS X g ro mb m (.For tg iter sts [] pos) (eF m fi ft s1) m:=by
 have BT:PG X tg (fun v σ H Q=>∃g',tG X g' (dy m) (dy m) ft v σ H Q):=fun pz s σ H v u Q I r ⟨g',q⟩=>(hg g').2 pz s σ H v u Q I r q;have Cl:dD X sts (fun D σ H=>∃g',tS X g' ro (dy m) (dy m) (dy m) s1 D σ H):=fun pz s σ H D I ⟨g',q⟩=>(hb g').2 pz s σ H D I q;refine⟨rfl,PS.imp (zJ hp hc hi BT Cl hs) fun D σ H ⟨r,G,si,q⟩=>⟨r,G,si,bG (gC si rfl q) fun ds q J G0 H0 w0 Y=>?_⟩⟩;have ac:=si.grow w0;refine⟨fun i n σ1 H1=>∃r1 G1,SI X (mr m r σ G0 H0) (dy m) r1 G1 σ1 H1/\i<=ds.length/\n=ds.length-i/\cD X g ro m mb G1 D (aI ft s1 (ds.drop i) r1),⟨ds.length,r,G0,ac.lock,VM _,rfl,cD.gle q w0.ge⟩,?_⟩
 rintro i n σ1 H1 ⟨r1,G1,si1,hi,rfl,q1⟩
 have wg:Grow X.K G0 H0 G1 H1:=si1.grown;by_cases hlt:i<ds.length
 .have hd:ds.drop i=ds[i]::ds.drop (i+1):=Wh hlt;rw[hd]at q1;unfold aI at q1;refine .inr ⟨Y.go G1 H1 i wg hlt,fun σ' H'=>∃r' G',SI X (mr m r σ G0 H0) (dy m) r' G' σ' H'/\cD X g ro m mb G' D (aI ft s1 (ds.drop (i+1)) r'),fun σ' H' ⟨r',G',si',q'⟩=>⟨ds.length-(i+1),by omega,r',G',si',hlt,rfl,q'⟩,fun x H' y=>?_⟩;obtain⟨G',w',rv⟩:=Y.yld G1 H1 i x H' ds[i] wg y (d_ hlt);cases ad:ft ds[i] r1 with
 |none=>simp only[ad]at q1;exact q1.elim
 |some r2=>simp only[ad]at q1;refine⟨mr m r σ G0 H0,r1,G',ds[i],si1.grow w',rv,r2,ad,fun σ2 Id=>⟨mr m r σ G0 H0,r2,G',Id,?_⟩⟩;cases eb:s1 r2 with
  |nx r'=>simp only[eb]at q1;exact fun σ3 G3 H3 U Z=>⟨r',G3,Z,cD.gle q1 (bv.trans w'.ge U)⟩
  |ct r'=>simp only[eb]at q1;exact fun σ3 G3 H3 U Z=>⟨r',G3,Z,cD.gle q1 (bv.trans w'.ge U)⟩
  |bk r'=>simp only[eb]at q1;exact fun σ3 G3 H3 U Z=>q1 σ3 G3 H3 (bv.trans w'.ge U) (ac.unlock Z)
  |rt d=>simp only[eb]at q1;intro v G2 H2 wr ld;refine q1 v G2 H2 (ac.grown.trans wr) ?_;cases ro with
   |false=>exact ld
   |true=>
     rcases ld with⟨a,e1,e2,e3⟩|z
     .exact .inl ⟨a,e1,ac.grown.back e2,e3⟩
     .exact .inr z
  |exc x r'=>simp only[eb]at q1;exact fun pz e s' σ3 G3 H3 U Z=>q1 pz e s' σ3 G3 H3 (bv.trans w'.ge U) (ac.unlockX Z)
  |stuck=>simp only[eb]at q1;exact q1
 .have e:i=ds.length:=by omega
  subst e;rw[XH]at q1;exact .inl ⟨Y.stop G1 H1 wg,q1 σ1 G1 H1 (bv.refl _) (ac.unlock si1)⟩
def fg(m:List Md)(p:FQ)(body:FS):Nat->FS
|0,_=>.stuck
|n+1,r=>gY m r (p r) fun c=>if c=true then(match body r with
  |.nx r'=>fg m p body n r'
  |.ct r'=>fg m p body n r'
  |.bk r'=>.nx r'
  |o=>o)else .nx r
theorem qe(n:Nat)(hp:Y7 (D_ X.prog X.w) X.A X.env X.xe)(hc:SQ X g m c p)(hb:fP X g ro m m sts s1 m):SS X g ro mb m (.While c sts [] pos) (fg m p s1 n) m:=by
 refine⟨rfl,PS.imp (Pe hp hc hb.2) fun D σ H ⟨r,G,si,q⟩=>?_⟩;refine⟨fun n σ H=>∃r G,SI X g m r G σ H/\cD X g ro m mb G D (fg m p s1 n r),⟨n,r,G,si,q⟩,?_⟩
 rintro n σ1 H1 ⟨r1,G1,si1,q1⟩
 cases n with
|zero=>exact q1.elim
|succ n=>unfold fg at q1;refine⟨r1,G1,si1,bG (gC si1 rfl q1) fun c q2 G2 H2 w2=>?_⟩;cases c with
 |false=>rw[if_neg k_]at q2 ⊢;exact q2 σ1 G2 H2 w2.ge (si1.grow w2)
 |true=>rw[if_pos rfl]at q2 ⊢;refine⟨fun σ' H'=>∃r G,SI X g m r G σ' H'/\cD X g ro m mb G D (fg m p s1 n r),fun σ' H' h=>⟨n,Wi _,h⟩,r1,G2,si1.grow w2,?_⟩;cases eb:s1 r1 with
  |nx r'=>simp only[eb]at q2;exact fun σ3 G3 H3 z U=>⟨r',G3,U,cD.gle q2 (bv.trans w2.ge z)⟩
  |ct r'=>simp only[eb]at q2;exact fun σ3 G3 H3 z U=>⟨r',G3,U,cD.gle q2 (bv.trans w2.ge z)⟩
  |bk r'=>simp only[eb]at q2;exact fun σ3 G3 H3 z U=>q2 σ3 G3 H3 (bv.trans w2.ge z) U
  |rt d=>simp only[eb]at q2;exact q2
  |exc x r'=>simp only[eb]at q2;exact fun pz e s' σ3 G3 H3 z=>q2 pz e s' σ3 G3 H3 (bv.trans w2.ge z)
  |stuck=>simp only[eb]at q2;exact q2
def lq(m:List Md)(f:FE)(ft:FT):FS:=fun r=>gY m r (f r) fun d=>match ft d r with
|some r'=>.nx r'
|none=>.stuck
theorem JV{ft:FT}(he:SE X g m e f)(hg:SG X g m tg ft m')(hs:Z1 [tg] e pos.line X.env=pure false:=by rfl)(hw:Z2 [tg] e X.env=pure none:=by rfl)(h1:(V_ [tg] X.env).map (·.2)=[Yv tg X.env]:=by rfl):SS X g ro mb m (.Assign [tg] e pos) (lq m f ft) m':=by refine⟨hg.1,PS.imp (Fb he hg.2 hs hw h1) fun D σ H ⟨r,G,si,q⟩=>⟨r,G,si,bG (gC si hg.1 q) fun d q v G' H' w rv=>?_⟩⟩;cases e1:ft d r with
|none=>simp only[e1]at q;exact q.elim
|some r'=>simp only[e1]at q;exact⟨r,G',d,si.grow w,rv,r',e1,fun σ' si'=>q σ' G' H' w.ge si'⟩
def lU:Res D->Res D
|.ok d=>.ok d
|_=>.stuck
inductive ArgsOk(K:W.Frag)(G:GH)(H:Hp):List Md->List V->List D->Prop where
 |nil:ArgsOk K G H [] [] []
 |sh {v:V} {d:D} {ms:List Md} {vs:List V} {ds:List D}:RG K G v d->ArgsOk K G H ms vs ds->ArgsOk K G H (.sh::ms) (v::vs) (d::ds)
 |bw {v:V} {d:D} {ms:List Md} {vs:List V} {ds:List D}:RB K G H v d->ArgsOk K G H ms vs ds->ArgsOk K G H (.bw::ms) (v::vs) (d::ds)
theorem ArgsOk.len{ms:List Md}{vs:List V}{ds:List D}(h:ArgsOk K G H ms vs ds):vs.length=ms.length/\ds.length=ms.length:=by induction h with
|nil=>exact⟨rfl,rfl⟩
|sh h t ih=>exact⟨congrArg (· + 1) ih.1,congrArg (· + 1) ih.2⟩
|bw h t ih=>exact⟨congrArg (· + 1) ih.1,congrArg (· + 1) ih.2⟩
theorem ArgsOk.app{dvs:List V}{dds:List D}(hs:Paired Scl dvs dds):∀{ms:List Md}{vs:List V}{ds:List D},ArgsOk K G H ms vs ds->ArgsOk K G H (ms++L_ dds.length .sh) (vs++dvs) (ds++dds)
|_,_,_,.nil=>by induction hs with
 |nil=>exact .nil
 |cons h t ih=>exact .sh (.scl h) ih
|_,_,_,.sh h t=>.sh h (t.app hs)
|_,_,_,.bw h t=>.bw h (t.app hs)
theorem ArgsOk.get:∀{ms:List Md}{vs:List V}{ds:List D}{i:Nat}{d:D},ArgsOk K G H ms vs ds->ds[i]? = some d->∃v,vs[i]? = some v/\((ms[i]? = some .sh/\RG K G v d)\/(ms[i]? = some .bw/\RB K G H v d))
|_,_,_,_,_,.nil,e=>by simp at e
|_,_,_,0,_,.sh h t,e=>by simp at e;subst e;exact⟨_,rfl,.inl ⟨rfl,h⟩⟩
|_,_,_,0,_,.bw h t,e=>by simp at e;subst e;exact⟨_,rfl,.inr ⟨rfl,h⟩⟩
|_,_,_,i+1,d,.sh h t,e=>by obtain⟨v,h1,h2⟩:=t.get (i:=i) (d:=d) (by simpa using e);exact⟨v,by simpa using h1,by simpa using h2⟩
|_,_,_,i+1,d,.bw h t,e=>by obtain⟨v,h1,h2⟩:=t.get (i:=i) (d:=d) (by simpa using e);exact⟨v,by simpa using h1,by simpa using h2⟩
def kx(K:W.Frag)(ro:Bool)(ms:List Md)(F:List D->Res D):Sp:=fun vs H Q _=>∃G ds,bn K G H/\ArgsOk K G H ms vs ds/\fin (F ds) (fun d=>∀v G' H',Grow K G H G' H'->RV ro K H G' H' v d->Q v H') fun _=>False
def aH(ro:Bool):Out->Res D
|.nx _=>if ro=true then .stuck else .ok .non
|.rt d=>.ok d
|.exc x _=>.exc x
|_=>.stuck
def a9(n:Nat)(ds:List D):ao:=ds.map some++L_ (n-ds.length) none
def iy(n:Nat)(ms:List Md):List Md:=ms++L_ (n-ms.length) .sh
variable{w:T_}
section
variable{P:E_}{mg:Str->Option a_}{base:Heap}
theorem AC{X:Cx}{N:List Str}{ms:List Md}{vs:List V}{ds:List D}{G:GH}{H:Hp}(gk:bn X.K G H)(rs:ArgsOk X.K G H ms vs ds)(hn:ms.length<=N.length):SI X ⟨G,H,fun _=>none⟩ (iy N.length ms) (a9 N.length ds) G (L2.br N vs) H:=by
 obtain⟨l1,l2⟩:=rs.len;have e1:(L2.br N vs).length=N.length:=by unfold L2.br;rw[U_,g_,WT];omega
 have e2:(a9 N.length ds).length=N.length:=by unfold a9;rw[U_,g_,WT];omega
 have e3:(iy N.length ms).length=N.length:=by unfold iy;rw[U_,WT];omega
 have at_:∀(i:Nat) d,(a9 N.length ds)[i]? = some (some d)->i<ms.length/\(iy N.length ms)[i]? = ms[i]?/\∃v,(L2.br N vs)[i]? = some (some v)/\((ms[i]? = some .sh/\RG X.K G v d)\/(ms[i]? = some .bw/\RB X.K G H v d)):=fun i d h=>by
  unfold a9 at h;by_cases hi:i<ds.length
  .rw[O_ (by simpa using hi),n_]at h;have hd:ds[i]? = some d:=by cases z:ds[i]? with
   |none=>rw[z]at h;cases h
   |some d'=>rw[z]at h;cases h;rfl
   obtain⟨v,hv,rv⟩:=rs.get hd;refine⟨by omega,?_,v,?_,rv⟩
   .unfold iy;rw[O_ (by omega)]
   .unfold L2.br;rw[O_ (by rw[g_];omega),n_,hv];rfl
  .rw[VP (by simpa using hi),V6]at h;split at h <;> cases h
 refine⟨gk,fun _ _ e=>e,fun _ _ e=>e,fun _ _=>rfl,by rw[e3,e1],by rw[e1,e2],fun i d h hm=>?_,fun i d h hm=>?_,fun i d h hm=>?_,fun i j a d e _ h _ hm=>?_,fun i o h=>nomatch h⟩
 .obtain⟨_,hq,v,h1,h2⟩:=at_ i d h;rw[hq]at hm;rcases h2 with⟨_,h2⟩|⟨h3,h2⟩
  .exact⟨v,h1,h2⟩
  .rw[hm]at h3;cases h3
 .obtain⟨_,hq,v,h1,h2⟩:=at_ i d h;rw[hq]at hm;rcases h2 with⟨h3,h2⟩|⟨h3,h2⟩ <;> rw[hm]at h3 <;> cases h3
 .obtain⟨_,hq,v,h1,h2⟩:=at_ i d h;rw[hq]at hm;rcases h2 with⟨h3,h2⟩|⟨h3,h2⟩
  .rw[hm]at h3;cases h3
  .refine⟨v,h1,?_⟩;rcases h2 with h2|⟨a,rfl,h2⟩
   .exact .inl h2
   .exact .inr ⟨a,rfl,h2,h2.ob.isS⟩
 .obtain⟨_,hq,v,h1,h2⟩:=at_ i d h;rw[hq]at hm;rcases h2 with⟨h3,h2⟩|⟨h3,h2⟩ <;> rw[hm]at h3 <;> cases h3
theorem Oy{X:Cx}{ro:Bool}{fs:FS}{m':List Md}{G:GH}{H:Hp}{r:ao}{Q:VK}(q:fin (aH ro (fs r)) (fun d=>∀v G' H',Grow X.K G H G' H'->RV ro X.K H G' H' v d->Q v H') fun _=>False):cD X ⟨G,H,fun _=>none⟩ ro m' [] G { nx:=fun _ H'=>Q .non H',rt:=Q } (fs r):=by cases e:fs r with
|nx r'=>rw[e]at q;cases ro with
 |false=>exact fun σ' G' H' _ si=>q .non G' H' si.grown (.scl .non)
 |true=>exact q.elim
|rt d=>rw[e]at q;exact fun v G' H' wg rv=>q v G' H' wg rv
|bk r'=>rw[e]at q;exact q.elim
|ct r'=>rw[e]at q;exact q.elim
|exc x r'=>rw[e]at q;exact q.elim
|stuck=>rw[e]at q;exact q
theorem yX{x qual:Str}{st:Stmt}{f:Addr}{fd:VV}{N ps:List Str}{k:Nat}{ro:Bool}{ms:List Md}{fs:FS}{m':List Md}(F:Fun K x qual st f fd)(S:FnScope N ps (aa st))(U:ms.length=ps.length)(z:∀(cdv:a_)(A:Vu)(outer:List Env)(s:f_)(H:Hp)(g:GE)(E:XK),Room k (A.deeper (XS qual (aa st) s.heap.objs.size f cdv)) ->fP (ba bZ P w K mg base N qual (aa st) f cdv A outer s H E).nox g ro [] (iy N.length ms) (ay st) fs m'):FnOk P w K mg base bZ (k+1) f fd ps (kx K ro ms fun ds=>aH ro (fs (a9 N.length ds))):=by
 refine F.ok S (fun vs H Q E ⟨G,ds,gk,rs,q⟩=>rs.len.1.trans U) fun cdv A outer s H vs Q E hr h=>?_;obtain⟨G,ds,gk,rs,q⟩:=h;have Y:ps.length<=N.length:=by have:=congrArg WM S.pre;rw[Vz]at this;omega
 exact⟨_,(z cdv A outer s H ⟨G,H,fun _=>none⟩ E hr).2,a9 N.length ds,G,AC gk rs (by omega),Oy q⟩
end
section
variable{k:Nat}{fa:Addr}{fd:VV}{ps:List Str}{F:List D->Res D}{dvs:List V}{ds:List a_}{dds:List D}{x:Str}{p:Pos}{ms:List Md}
def SJ(X:Cx)(g:GE)(m:List Md)(ms:List Md)(f:ao->Res (List D)):TA:=fun σ H Q=>∃r G,SI X g m r G σ H/\fin (f r) (fun ds=>∀vs G' H',Grow X.K G H G' H'->ArgsOk X.K G' H' ms vs ds->Q vs H') (XW X σ G H)
def jt(X:Cx)(g:GE)(m:List Md)(es:List Expr)(ms:List Md)(f:ao->Res (List D)):Prop:=PA X es (SJ X g m ms f)
theorem aO:jt X g m [] [] ae:=PA.imp jk fun σ H Q ⟨r,G,si,k⟩=>k [] G H (Grow.refl si.gok) .nil
theorem bH(ha:SE X g m e f)(hr:jt X g m es ms fl)(hs:i_ (e::es) X.env=(false,eval e X.env)::i_ es X.env:=by rfl):jt X g m (e::es) (.sh::ms) (ag f fl):=by
 refine PA.imp (gJ ha hr hs) fun σ H Q ⟨r,G,si,k⟩=>⟨r,G,si,bG (bJ k) fun d k1 v G1 H1 w1 r1=>⟨r,G1,si.grow w1,?_⟩⟩
 exact gX (bJ k1) w1 fun ds z vs G2 H2 w2 r2=>z (v::vs) G2 H2 (w1.trans w2) (.sh (r1.mono w2.ge) r2)
theorem aj(ha:SB X g m e f)(hr:jt X g m es ms fl)(hs:i_ (e::es) X.env=(false,eval e X.env)::i_ es X.env:=by rfl):jt X g m (e::es) (.bw::ms) (ag f fl):=by
 refine PA.imp (gJ ha hr hs) fun σ H Q ⟨r,G,si,k⟩=>⟨r,G,si,bG (bJ k) fun d k1 v G1 H1 w1 r1=>⟨r,G1,si.grow w1,?_⟩⟩
 exact gX (bJ k1) w1 fun ds z vs G2 H2 w2 r2=>z (v::vs) G2 H2 (w1.trans w2) (.bw (r1.mono w2) r2)
def aF(fl:ao->Res (List D))(dds:List D)(F:List D->Res D):FE:=fun r=>(fl r).bind fun ds=>lU (F (ds++dds))
theorem PR{ro:Bool}{vs:List V}{zs:List D}{G:GH}{H:Hp}{Q:VK}(gk:bn X.K G H)(rs:ArgsOk X.K G H ms vs zs)(z:Paired Scl dvs dds)(q:fin (lU (F (zs++dds))) (fun d=>∀v G' H',Grow X.K G H G' H'->RV ro X.K H G' H' v d->Q v H') fun _=>False):kx X.K ro (ms++L_ dds.length .sh) F (vs++dvs) H Q E0:=by refine⟨G,zs++dds,gk,rs.app z,?_⟩;cases e:F (zs++dds)with
|ok d=>rw[e]at q;exact q
|exc x=>rw[e]at q;exact q.elim
|stuck=>rw[e]at q;exact q.elim
theorem Hk{α:Type}{r:Res α}{q:α->Prop}{x:D->Prop}(h:fin r q x)(hr:∀e,r≠.exc e):fin r q fun _=>False:=by cases r with
|ok a=>exact h
|exc e=>exact absurd rfl (hr e)
|stuck=>exact h
theorem LH(r:Res D)(e:D):lU r≠.exc e:=by cases r <;> simp[lU]
theorem My(G1:FnOk X.prog X.w X.K X.mg X.base bZ k fa fd ps (kx X.K false (ms++L_ dds.length .sh) F))(hr:Room k X.A)(hg:Gl X x)(hm:X.mg x=some (.ref fa))(hk:W.keepIn X.K (.ref fa)=true)(hb:g6 X.K fd ps ds)(hd:ar dvs ds)(U:Paired Scl dvs dds)(ha:jt X g m (e::es) ms fl)(z:(x==("__debug__" : Str))=false:=by decide)(he:i_ (e::es) X.env=(false,eval e X.env)::i_ es X.env:=by rfl)(Y:(backTo pos (i_ es X.env)).any (·.1)=false:=by rfl):SE X g m (.Call (.Name x p) (e::es) [] pos) (aF fl dds F):=by
 refine PE.imp (N0 G1 hr hg hm hk hb hd yU ha z he Y) fun σ H Q ⟨r,G,si,q⟩=>⟨r,G,si,?_⟩
 cases ez:fl r with
|ok zs=>unfold aF at q;rw[ez]at q;intro vs G' H' w' rs;exact PR w'.ok rs U (bG (Hk q (LH _)) fun d k v G2 H2 w2 rv=>k v G2 H2 (w'.trans w2) rv)
|exc x=>unfold aF at q;rw[ez]at q;exact q
|stuck=>unfold aF at q;rw[ez]at q;exact q
end
theorem Od{env:Env}:∀(l:List (Str×Xy))(cs:List (Str×Addr)),(∀x∈l,x.2=.free->∃c,env.cells.lookup x.1=some c)->(∀x c,cs.lookup x=some c->env.cells.lookup x=some c) ->∃cl,(forIn l cs (fun(x:Str×Xy)(cs:List (Str×Addr))=>if (x.2==NameKind.free)=true then(do let a <-cellOf env x.1;pure (ForInStep.yield ((x.1,a)::cs)))else pure (ForInStep.yield cs)):Sem (List (Str×Addr)))=pure cl /\(∀x c,cl.lookup x=some c->env.cells.lookup x=some c)/\(∀x,(x,NameKind.free)∈l->∃c,cl.lookup x=some c)/\(∀x c,cs.lookup x=some c->∃c',cl.lookup x=some c'):=by
 intro l
 induction l with
|nil=>intro cs _ h;exact⟨cs,rfl,h,fun x hx=>(by cases hx),fun x c h=>⟨c,h⟩⟩
|cons y l ih=>
  intro cs hf hc;obtain⟨n,k⟩:=y;by_cases hk:k=.free
  .subst hk;obtain⟨c,ec⟩:=hf (n,.free) p_ rfl;have e1:cellOf env n=pure c:=by unfold cellOf;rw[ec]
   have U:∀x c',((n,c)::cs).lookup x=some c'->env.cells.lookup x=some c':=fun x c' h=>by rw[Xf]at h;cases q:x==n with
   |true=>rw[q]at h;cases h;rw[Wj q];exact ec
   |false=>rw[q]at h;exact hc x c' h
   obtain⟨cl,e2,h1,h2,h3⟩:=ih ((n,c)::cs) (fun x hx=>hf x (t_ _ hx)) U;refine⟨cl,?_,h1,fun x hx=>?_,fun x c' h=>?_⟩
   .rw[<-e2];rw[WW];show(cellOf env n >>= fun a=>pure (ForInStep.yield ((n,a)::cs))) >>= _=_;rw[e1];rfl
   .rcases m_.mp hx with z|z
    .cases z;exact h3 n c (by rw[Xf];simp)
    .exact h2 x z
   .cases q:x==n with
   |true=>exact h3 x c (by rw[Xf,q])
   |false=>exact h3 x c' (by rw[Xf,q];exact h)
  .obtain⟨cl,e2,h1,h2,h3⟩:=ih cs (fun x hx=>hf x (t_ _ hx)) hc;have hb:(k==NameKind.free)=false:=by simpa using hk
   refine⟨cl,?_,h1,fun x hx=>?_,h3⟩
   .rw[<-e2,WW];simp only[hb,Bool.false_eq_true,if_false];rfl
   .rcases m_.mp hx with z|z
    .cases z;exact absurd rfl hk
    .exact h2 x z
theorem QZ{scope:X7}{env:Env}(hf:∀x∈scope.names,x.2=.free->∃c,env.cells.lookup x.1=some c):∃cl,Qa0 scope env=pure cl/\(∀x c,cl.lookup x=some c->env.cells.lookup x=some c)/\(∀x,(x,NameKind.free)∈scope.names->∃c,cl.lookup x=some c):=by obtain⟨cl,e,h1,h2,_⟩:=Od scope.names [] hf (fun x c h=>by cases h);refine⟨cl,?_,h1,h2⟩;have e0:Qa0 scope env=((forIn scope.names ([]:List (Str×Addr)) (fun(x:Str×Xy)(cs:List (Str×Addr))=>if (x.2==NameKind.free)=true then(do let a <-cellOf env x.1;pure (ForInStep.yield ((x.1,a)::cs)))else pure (ForInStep.yield cs)):Sem (List (Str×Addr))) >>= fun cs=>pure cs):=rfl;rw[e0,e];rfl
theorem II{f:Str->Xy->Xy}:∀(l:List (Str×Xy))(x:Str),(l.map fun y=>(y.1,f y.1 y.2)).lookup x=(l.lookup x).map (f x)
|[],x=>rfl
|(n,k)::l,x=>by rw[Vq,Xf,Xf];cases q:x==n with
 |true=>simp[Wj q]
 |false=>exact II l x
def fE(env:Env)(n:Str)(k:Xy):Xy:=if (k==.free&&env.scope.kind==.function&&env.kindOf n==some .cell)=true then .cell else k
theorem IJ(scope:X7)(env:Env)(x:Str):(Qap scope env).names.lookup x=(scope.names.lookup x).map (fE env x):=by
 rw[<-II];unfold Qap;congr 1;apply Vx;intro y _;obtain⟨n,k⟩:=y;show(if (k==NameKind.free&&env.scope.kind==.function&&env.kindOf n==some .cell)=true then(n,NameKind.cell)else(n,k))=(n,fE env n k)
 unfold fE;split <;> rfl
structure CompSc(X:Cx)(scope:X7)(N':List Str)(nl:Nat)(cap:List Nat):Prop where
 kind:scope.kind=.function
 nocell:∀y∈scope.names,y.2≠.cell
 names:∀y∈scope.names,y.2=.local->scope.names.lookup y.1=some .local
 freeK:∀y∈scope.names,y.2=.free->X.env.kindOf y.1=some .cell\/X.env.kindOf y.1=some .free
 len:N'.length=nl+cap.length
 capN:∀j,j<cap.length->∃x,N'[nl+j]? = some x/\X.N[cap.getD j 0]? = some x/\scope.names.lookup x=some .free
def gS(X:Cx)(s₀:f_)(H₀:Hp)(N':List Str)(scope:X7)(cl:List (Str×Addr))(C:Addr)(fp:List Addr):Cx where
 prog:=X.prog
 w:=X.w
 K:=X.K
 mg:=X.mg
 base:=X.base
 A:=X.A
 N:=N'
 s₀:=s₀
 H₀:=H₀
 env:=ZK scope cl C X.env
 outer:=X.stack
 stack:=X.stack
 ex:=fp
 fn:=fun _=>false
 calm:=X.calm
 pn:=[]
 xe:=fun _ _=>False
variable{pz:List (Addr×Obj)}{σ:L2.St}{s:f_}{scope:X7}{N':List Str}{nl:Nat}{cap:List Nat}{cl:List (Str×Addr)}{C:Addr}{fp:List Addr}
theorem KS(I:Inv X pz σ H s)(sc:CompSc X scope N' nl cap)(h1:∀x c,cl.lookup x=some c->X.env.cells.lookup x=some c)(h2:∀x,(x,NameKind.free)∈scope.names->∃c,cl.lookup x=some c)(hf:∀b∈fp,dC X pz H b/\b<s.heap.objs.size)(hC:s.heap.objs.size<=C):(gS X s H N' scope cl C fp).Ok where
 mod:=I.ok.mod
 kind:=sc.kind
 glob:=I.ok.glob
 blt:=I.ok.blt
 above:=hC
 inj:=fun x y c a b=>I.ok.inj x y c (h1 x c a) (h1 y c b)
 has:=fun x hk=>by
  have U:(scope.names.lookup x).map (fE X.env x)=some .cell\/(scope.names.lookup x).map (fE X.env x)=some .free:=by rw[<-IJ];exact hk
  cases e:scope.names.lookup x with
 |none=>rw[e]at U;rcases U with z|z <;> cases z
 |some k=>
   have hm:=We e;have kf:k=.free:=by
    rw[e]at U;have Y:fE X.env x k=.cell\/fE X.env x k=.free:=by
     rcases U with z|z
     .exact .inl (B_ z)
     .exact .inr (B_ z)
    unfold fE at Y;split at Y
    .rename_i hc;simp only[Vr,beq_iff_eq]at hc;exact hc.1.1
    .rcases Y with z|z
     .exact absurd z (sc.nocell _ hm)
     .exact z
   subst kf;exact h2 x hm
 cab:=fun x c h=>by cases h
 hd:=I.ok.hd
 frames:=I.ok.frames
 stk:=.inl rfl
 exf:=fun b hb=>⟨J_ (I_ (hf b hb).2 hC),fun x c e=>(hf b hb).1.2.2.2.2.1 x c (h1 x c e)⟩
 bs:=I.bs
 bsz:=VL I.ok.bsz I.sz
 noex:=fun b o e hb=>by
  obtain⟨_,_,_,hx,_⟩:=(hf b hb).1;rcases hx with z|z
  .exact I.ok.noex b o e z
  .exact absurd (I_ (y_ e) (VL I.ok.bsz z)) (VY _)
 exfs:=fun b hb hfs=>by
  obtain⟨_,q1,q2,_⟩:=(hf b hb).1;rcases m_.mp (I.stkSub b hfs)with z|z
  .exact q1 z
  .exact q2 z
 funs:=I.stack
 frf:=I.stkFree
def eD(ft:FT)(q:FQ)(fe:FE)(r0:ao):List D->Res (List D)
|[]=>.ok []
|d::ds=>(cQ (ft d r0)).bind fun r1=>(q r1).bind fun c=>if c=true then(fe r1).bind fun v=>(eD ft q fe r0 ds).bind fun vs=>.ok (v::vs)else eD ft q fe r0 ds
def bY(nl:Nat)(cap:List Nat)(r:ao):ao:=L_ nl none++cap.map fun i=>r.getD i none
def bi(nl:Nat)(cap:List Nat)(m:List Md):List Md:=L_ nl Md.sh++cap.map fun i=>if m.getD i Md.sh=Md.sh then Md.sh else Md.bw
def d8(nl:Nat)(cap:List Nat)(st:L2.St):L2.St:=L_ nl none++cap.map fun i=>st.getD i none
theorem qi{α:Type}{nl:Nat}{cap:List Nat}{u:α}{h:Nat->α}{i:Nat}(hi:nl<=i):(L_ nl u++cap.map h)[i]? = (cap[i-nl]?).map h:=by rw[VP (by simpa using hi),WT,n_]
theorem J8(si:SI X g m r G σ H)(w:Grow X.K G H G' H'):SI (gS X s H N' scope cl C fp) ⟨G,H,fun _=>none⟩ (bi nl cap m) (bY nl cap r) G' (d8 nl cap σ) H':=by
 have Cl:(bi nl cap m).length=nl+cap.length:=by simp[bi]
 have BT:(bY nl cap r).length=nl+cap.length:=by simp[bY]
 have ad:(d8 nl cap σ).length=nl+cap.length:=by simp[d8]
 have U:∀(i:Nat) d,(bY nl cap r)[i]? = some (some d)->nl<=i/\∃j,cap[i-nl]? = some j/\r[j]? = some (some d):=fun i d h=>by
  by_cases hi:i<nl
  .unfold bY at h;rw[O_ (by simpa using hi),V6]at h;split at h <;> cases h
  .refine⟨by omega,?_⟩;unfold bY at h;rw[qi (by omega)]at h;cases e:cap[i-nl]? with
  |none=>rw[e]at h;cases h
  |some j=>rw[e]at h;refine⟨j,rfl,?_⟩;have h':r.getD j none=some d:=B_ h;rw[s_]at h';cases e2:r[j]? with
   |none=>rw[e2]at h';cases h'
   |some o=>rw[e2]at h';rw[show o=some d from h']
 have Y:∀(i j:Nat) md,nl<=i->cap[i-nl]? = some j->(bi nl cap m)[i]? = some md->md=if m.getD j Md.sh=Md.sh then Md.sh else Md.bw:=fun i j md hi hj h=>by unfold bi at h;rw[qi hi,hj]at h;exact(B_ h).symm
 have Z:∀(i j:Nat) v,nl<=i->cap[i-nl]? = some j->σ[j]? = some (some v)->(d8 nl cap σ)[i]? = some (some v):=fun i j v hi hj h=>by unfold d8;rw[qi hi,hj];show some (σ.getD j none)=_;rw[s_,h];rfl
 have mj:∀(j:Nat) d,r[j]? = some (some d)->m[j]? = some (m.getD j Md.sh):=fun j d h=>by
  have hl:j<m.length:=by have:=(j_.mp h).1;rw[si.lr,<-si.lm]at this;exact this
  rw[s_,d_ hl];rfl
 refine⟨w.ok,w.he,w.ge,w.gf,by rw[Cl,ad],by rw[BT,ad],fun i d h hm=>?_,fun i d h hm=>?_,fun i d h hm=>?_,fun i j a d e _ h _ hm=>?_,fun i o h=>nomatch h⟩
 .obtain⟨hi,j,hj,hr⟩:=U i d h;have e:=Y i j _ hi hj hm;have ld:m.getD j Md.sh=Md.sh:=by
   by_cases z:m.getD j Md.sh=Md.sh
   .exact z
   .rw[if_neg z]at e;cases e
  obtain⟨v,h1,h2⟩:=si.sh j d hr (by rw[mj j d hr,ld]);exact⟨v,Z i j v hi hj h1,h2.mono w.ge⟩
 .obtain⟨hi,j,hj,hr⟩:=U i d h;have e:=Y i j _ hi hj hm;split at e <;> cases e
 .obtain⟨hi,j,hj,hr⟩:=U i d h;have e:=Y i j _ hi hj hm;have ld:m.getD j Md.sh≠Md.sh:=by intro z;rw[if_pos z]at e;cases e
  have ac:=mj j d hr;cases q:m.getD j Md.sh with
 |sh=>exact absurd q ld
 |ow=>rw[q]at ac;obtain⟨a,h1,h2,_⟩:=si.ow j d hr ac;exact⟨_,Z i j _ hi hj h1,.inr ⟨a,rfl,h2.mono w,h2.ob.isS⟩⟩
 |bw=>
   rw[q]at ac;obtain⟨v,h1,h2⟩:=si.bw j d hr ac;refine⟨v,Z i j _ hi hj h1,?_⟩;rcases h2 with h2|⟨a,rfl,h2,_⟩
   .exact .inl (h2.mono w.ge)
   .exact .inr ⟨a,rfl,h2.mono w,h2.ob.isS⟩
 .obtain⟨hi,j',hj,hr⟩:=U i d h;have e:=Y i j' _ hi hj hm;split at e <;> cases e
theorem KQ(I:Inv X pz σ H s)(ok:(gS X s H N' scope cl C fp).Ok)(sc:CompSc X scope N' nl cap)(h1:∀x c,cl.lookup x=some c->X.env.cells.lookup x=some c)(h2:∀x,(x,NameKind.free)∈scope.names->∃c,cl.lookup x=some c)(hN:X.N.Nodup){s4:f_}{H4:Hp}{mc:Str->Option a_}(ac:s4.os=s.os)(hb:Ya s4.gens)(kp:∀b o,s.heap.get? b=some o->s4.heap.get? b=some o)(ad:s4.heap.Ns C mc)(hC:s.heap.objs.size<=C)(Z:H4 C=none)(hH:∀b,H b=none->b<s.heap.objs.size->H4 b=none)(un:Un (cV X.stack) fp H H4 s.heap s4.heap)(hok:cS X.prog X.w H4 s4.heap):Inv (gS X s H N' scope cl C fp) [] (d8 nl cap σ) H4 s4:=by
 refine⟨ok,ac,hb,un,⟨mc,ad,fun i x v e1 e2 e3=>?_⟩,fun x c e=>?_,Z,fun x c e=>?_,fun p hp=>absurd (show p∈([]:List (Addr×Obj))from hp) (by simp),hok,?_⟩
 .have hi:nl<=i:=by
   by_cases z:i<nl
   .unfold d8 at e2;rw[O_ (by simpa using z),V6]at e2;split at e2 <;> cases e2
   .omega
  unfold d8 at e2;rw[qi hi]at e2;cases ej:cap[i-nl]? with
 |none=>rw[ej]at e2;cases e2
 |some j=>
   rw[ej]at e2;have hj:i-nl<cap.length:=(j_.mp ej).1;obtain⟨x',q1,q2,q3⟩:=sc.capN (i-nl) hj;have ed:cap.getD (i-nl) 0=j:=by rw[s_,ej];rfl
   rw[ed]at q2;have ei:nl+(i-nl)=i:=by omega
   rw[ei]at q1;have Y:N'[i]? = some x:=e1;rw[q1]at Y;have ex:x'=x:=B_ Y;subst ex;have hv:σ[j]? = some (some v):=by have z:σ.getD j none=some v:=B_ e2;rw[s_]at z;cases q:σ[j]? with
   |none=>rw[q]at z;cases z
   |some o=>rw[q]at z;rw[show o=some v from z]
   have U:=We q3;have kX:=sc.freeK _ U rfl;obtain⟨mx,BT,hl⟩:=I.loc;obtain⟨u,ru,lk⟩:=hl j x' v q2 hv (.inr kX);refine⟨u,ru,.inr ?_⟩;obtain⟨c,ec⟩:=h2 x' U;have ld:Env.kindOf (gS X s H N' scope cl C fp).env x'=some .cell\/Env.kindOf (gS X s H N' scope cl C fp).env x'=some .free:=by
    have z:(Qap scope X.env).names.lookup x'=some (fE X.env x' .free):=by rw[IJ,q3];rfl
    show(Qap scope X.env).names.lookup x'=_\/(Qap scope X.env).names.lookup x'=_;rw[z];unfold fE;split
    .exact .inl rfl
    .exact .inr rfl
   refine⟨ld,c,ec,?_⟩;rcases lk with⟨k,_⟩|⟨_,c',ec',hcell⟩
   .rcases kX with z|z <;> rw[k]at z <;> cases z
   .rw[h1 x' c ec]at ec';cases ec';obtain⟨o,ho,hd⟩:=hcell;exact⟨o,kp c o ho,hd⟩
 .obtain⟨v,o,ho,hd⟩:=I.cell x c (h1 x c e);exact⟨v,o,kp c o ho,hd⟩
 .obtain⟨v,o,ho,hd⟩:=I.cell x c (h1 x c e);exact hH c (I.freeC x c (h1 x c e)) (y_ ho)
 .show(d8 nl cap σ).length=N'.length;rw[sc.len];simp[d8]
section
variable{prog:E_}{A:Vu}{R:QaT->f_->Prop}
theorem Nw{elt target iter:Expr}{ifs:List Expr}{scope:X7}{pos:Pos}{it acc:a_}{env:Env}(I:Nat->f_->Prop)(U:∀n s,I n s->u_ (D_ prog w) A (Qau it) (fun r s1=>match r with
  |none=>R (.ok .next) s1
  |some v=>u_ (D_ prog w) A (Yw target it v) (fun _ z=>u_ (D_ prog w) A (Yv target env v) (fun _ s2=>
     u_ (D_ prog w) A (forIn ifs true fun c r=>if r=true then do let ok <-isTrue c env (eval c env);pure (ForInStep.yield ok)else pure (ForInStep.yield r)) (fun ok s3=>
      if ok=true then u_ (D_ prog w) A (eval elt env) (fun x s4=>u_ (D_ prog w) A (call (.builtin "list.append") [acc,x]) (fun _ s5=>∃m,m<n/\I m s5) (Zr (D_ prog w) A env fun e s'=>R (.error e) s') s4) (Zr (D_ prog w) A env fun e s'=>R (.error e) s') s3
      else ∃m,m<n/\I m s3) (Zr (D_ prog w) A env fun e s'=>R (.error e) s') s2) (Zr (D_ prog w) A env fun e s'=>R (.error e) s') z)
     (Zr (D_ prog w) A env fun e s'=>R (.error e) s') s1) (Zr (D_ prog w) A env fun e s'=>R (.error e) s') s)(n:Nat)(h:I n s):YC (D_ prog w) A (.compLoop (.ListComp elt [⟨target,iter,ifs,0⟩] scope pos) 0 it acc env) R s:=by refine codeAny_loop rfl I (fun n s hI=>?_) n h;show u_ _ A ((compTurn (.ListComp elt [⟨target,iter,ifs,0⟩] scope pos) 0 it acc env).onRaise (fun x=>do Yl x env;theTreesLotGoes x)) _ _ s;refine wpAny_noted ?_;rw[compTurn_list];refine b_ (XV (b_ (VG (U n s hI) (fun r s1 h1=>?_) fun _ _ h'=>h')));cases r with
|none=>exact o_ h1
|some v=>refine b_ (VG h1 (fun _ z Y=>?_) fun _ _ h'=>h');refine b_ (VG Y (fun _ s2 h2=>b_ (VG h2 (fun ok s3 h3=>?_) fun _ _ h'=>h')) fun _ _ h'=>h');cases ok with
 |false=>exact o_ ⟨rfl,h3⟩
 |true=>exact b_ (b_ (VG h3 (fun x s4 h4=>b_ (VG h4 (fun _ s5 h5=>o_ (o_ ⟨rfl,h5⟩)) fun _ _ h'=>h')) fun _ _ h'=>h'))
end
def nP(X:Cx)(g:GE)(m:List Md)(ifs:List Expr)(f:FQ):Prop:=∀(pz:List (Addr×Obj))(s:f_)(σ:L2.St)(H:Hp)(Q:Bool->Hp->Prop),Inv X pz σ H s->tQ X g m f σ H Q ->u_ (D_ X.prog X.w) X.A (forIn ifs true fun c r=>if r=true then do let ok <-isTrue c X.env (eval c X.env);pure (ForInStep.yield ok)else pure (ForInStep.yield r)) (TP X pz σ Q) X.xe s
theorem fX:nP X g m [] fun _=>.ok true:=fun pz s σ H Q I ⟨r,G,si,q⟩=>wpAny_tests_nil ⟨H,I,q G H (Grow.refl si.gok)⟩
theorem oJ(h:SQ X g m c p):nP X g m [c] p:=fun pz s σ H Q I q=>wpAny_tests_one (h pz s σ H Q I q)
def i8(ft:FT)(nl:Nat):Prop:=∀d r r1,ft d r=some r1->r1.length=r.length/\∀i,nl<=i->r1[i]? = r[i]?
def sU(ft:kA)(nl:Nat):Prop:=∀d r r1,ft d r=some r1->r1.length=r.length/\∀i,nl<=i->r1[i]? = r[i]?
theorem cU{i nl:Nat}(h:i<nl):i8 (aG i) nl:=fun d r r1 e=>by cases e;exact⟨by simp,fun j hj=>by rw[h_ (by omega)]⟩
theorem jG{nl:Nat}:sU cW nl:=fun ds r r1 e=>by cases ds with
|nil=>cases e;exact⟨rfl,fun _ _=>rfl⟩
|cons _ _=>cases e
theorem fm{ft:FT}{fts:kA}{nl:Nat}(h1:i8 ft nl)(h2:sU fts nl):sU (bq ft fts) nl:=fun ds r r1 e=>by cases ds with
|nil=>cases e
|cons d ds=>have e':((ft d r).bind fun r'=>fts ds r')=some r1:=e;cases q:ft d r with
 |none=>rw[q]at e';cases e'
 |some r2=>rw[q]at e';obtain⟨a1,a2⟩:=h1 d r r2 q;obtain⟨b1,b2⟩:=h2 ds r2 r1 e';exact⟨b1.trans a1,fun i hi=>(b2 i hi).trans (a2 i hi)⟩
theorem jB{fts:kA}{nl:Nat}(h:sU fts nl):i8 (c6 fts) nl:=fun d r r1 e=>by cases d with
|tup ds=>exact h ds r r1 e
|lst ds=>exact h ds r r1 e
|_=>cases e
variable{elt:Expr}{ifs:List Expr}{fe:FE}
section
variable{s2:f_}{J:It}{it:Addr}{tn:Nat->Heap->Prop}{ds vs:List D}{E:a_->f_->Prop}
theorem Nt(i:Nat):(bi nl cap m)[i]?≠some Md.ow:=fun h=>by
 by_cases hi:i<nl
 .unfold bi at h;rw[O_ (by simpa using hi),V6]at h;split at h <;> cases h
 .unfold bi at h;rw[qi (by omega)]at h;cases e:cap[i-nl]? with
 |none=>rw[e]at h;cases h
 |some j=>rw[e]at h;have h':(if m.getD j Md.sh=Md.sh then Md.sh else Md.bw)=Md.ow:=B_ h;split at h' <;> cases h'
theorem P3{i:Nat}(hi:i<nl)(d:D):(bY nl cap r)[i]?≠some (some d):=fun h=>by unfold bY at h;rw[O_ (by simpa using hi),V6]at h;split at h <;> cases h
def CK(El:W.Frag->GH->Hp->GH->Hp->V->D->Prop)(X:Cx)(g:GE)(m:List Md)(f:FE):TE:=fun σ H Q=>∃r G,SI X g m r G σ H/\fin (f r) (fun d=>∀v G' H',Grow X.K G H G' H'->El X.K G H G' H' v d->Q v H') (XW X σ G H)
theorem HQ{El:W.Frag->GH->Hp->GH->Hp->V->D->Prop}{Rl:Addr->GH->Hp->List V->List D->Prop}(R0:∀p G H,Rl p G H [] [])(Rg:∀{p G H G' H' ws ds},Rl p G H ws ds->Grow X.K G H G' H'->Rl p G' H' ws ds)(Rn:∀{p G H ws ds},Rl p G H ws ds->ws.length=ds.length)(Ra:∀{p G H G' H' ws ds v d},Rl p G H ws ds->Grow X.K G H G' H'->Grow X.K G2 H2 G H->H p=some (.lst ws)->El X.K G H G' H' v d->Rl p G' (aD H' p (.lst (ws++[v]))) (ws++[v]) (ds++[d]))(hN:X.N.Nodup)(Tg:X.calm=true)(sc:CompSc X scope N' nl cap)(h1:∀x c,cl.lookup x=some c->X.env.cells.lookup x=some c)(h2:∀x,(x,NameKind.free)∈scope.names->∃c,cl.lookup x=some c)(I2:Inv X pz σ H2 s2)(si:SI X g m r G2 σ H2)(T:Turn X.prog X.w X.K tg J fp it tn)(st:tn 0 s2.heap)(hf:∀b∈fp,dC X pz H2 b)(Y:YieldsC X.K J ds G2 H2)(hsz:ds.length<=sizeLine)(hg:∀C,SG (gS X s2 H2 N' scope cl C fp) ⟨G2,H2,fun _=>none⟩ (bi nl cap m) tg ft (bi nl cap m))(TK:i8 ft nl)(hq:∀C,nP (gS X s2 H2 N' scope cl C fp) ⟨G2,H2,fun _=>none⟩ (bi nl cap m) ifs q)(he:∀C,PE (gS X s2 H2 N' scope cl C fp) elt (CK El (gS X s2 H2 N' scope cl C fp) ⟨G2,H2,fun _=>none⟩ (bi nl cap m) fe))(Tu:eD ft q fe (bY nl cap r) ds=.ok vs){RR:a_->Addr->QaT->f_->Prop}(TQ:∀(p C:Addr)(s':f_)(H':Hp)(G':GH),Inv X pz σ H' s'->(∃mm,s'.heap.Ns C mm)->H' C=none->C≠X.env.locals->X.s₀.heap.objs.size<=C->(∀x c,X.env.cells.lookup x=some c->c≠C)->(∀z∈X.pn++pz,z.1≠C) ->Grow X.K G2 H2 G' H'->H2 p=none->(∃ws,H' p=some (.lst ws)/\G' p=none/\Rl p G' H' ws vs)->RR (.ref p) C (.ok .next) s'):u_ (D_ X.prog X.w) X.A (newList []) (fun acc s3=>u_ (D_ X.prog X.w) X.A (newFunctionEnv scope X.env.globals cl [] X.env.qual none .none (some X.env)) (fun Tb s4=>YC (D_ X.prog X.w) X.A (.compStart (.ListComp elt [⟨tg,iter,ifs,0⟩] scope pos) 0 (.ref it) acc { Tb with scope:=Qap scope X.env }) (RR acc Tb.locals) s4) E s3) E s2:=by
 refine Wb (wpAny_newFunctionEnv sc.nocell (by intro y hy;simp at hy) (fun h₁ Cl BT=>?_) sc.kind)
 dsimp only at Cl BT ⊢
 generalize Td:s2.heap.push { cls:=.type "list",dict:=none,data:=.seq ([]:List a_).toArray }=HH at Cl BT ⊢;have hC:HH.objs.size=s2.heap.objs.size+1:=by rw[<-Td,VU]
 have Tm:s2.heap.objs.size≠HH.objs.size:=by rw[hC];exact J_ (Wi _)
 have Z:s2.heap.objs.size<=HH.objs.size:=by rw[hC];exact ZE _
 have ad:∀b,b<s2.heap.objs.size->b≠HH.objs.size/\b≠s2.heap.objs.size:=fun b hb=>⟨by rw[hC];exact J_ (WB hb),J_ hb⟩
 have old:∀b o,s2.heap.get? b=some o->h₁.get? b=some o:=fun b o e=>BT.extBut b o (ad b (y_ e)).1 (c_ _ (Td▸c_ _ e));have Tq:h₁.get? s2.heap.objs.size=some { cls:=.type "list",dict:=none,data:=.seq ([]:List a_).toArray }:=BT.extBut _ _ Tm (c_ _ (Td▸z_ _ rfl));have ld:H2 s2.heap.objs.size=none:=I2.hok.fresh (w_ _);have Id:∀b∈fp,dC X pz H2 b/\b<s2.heap.objs.size:=fun b hb=>⟨hf b hb,by obtain⟨o,e,_⟩:=T.obj 0 s2.heap st b hb;exact y_ e⟩
 have ok:=KS (fp:=fp) I2 sc h1 h2 Id Z;generalize U:gS X s2 H2 N' scope cl HH.objs.size fp=XX at ok;have Tv:G2 s2.heap.objs.size=none:=si.gok.isN ld;have w0:Grow X.K G2 H2 G2 (aD H2 s2.heap.objs.size (.lst [])):=Grow.new si.gok ld _;have Tr:cS X.prog X.w (aD H2 s2.heap.objs.size (.lst [])) h₁:=I2.hok.laid old (w_ _) ⟨VM _,[],0,.nil,Tq⟩;have IC:Inv XX [] (d8 nl cap σ) (aD H2 s2.heap.objs.size (.lst [])) { s2 with heap:=h₁,toks:=s2.toks+([]:List (Str×a_)).length }:=by
  subst U;refine KQ I2 ok sc h1 h2 hN rfl I2.bare old Cl Z ?_ (fun b hb hlt=>?_) (Un.laid old (w_ _) ld) Tr
  .rw[bg (Xt Tm)];exact I2.hok.fresh Z
  .rw[bg (ad b hlt).2];exact hb
 have SC:SI XX ⟨G2,H2,fun _=>none⟩ (bi nl cap m) (bY nl cap r) G2 (d8 nl cap σ) (aD H2 s2.heap.objs.size (.lst [])):=by subst U;exact J8 si w0
 have Ta:tn 0 h₁:=T.keep _ _ _ st fun b _ o e=>old b o e;have KK:∀(H':Hp),(∀b∈fp,H' b=none)->∀b∈fp,dC XX [] H' b:=fun H' hn b hb=>by
  clear IC SC;subst U;obtain⟨z0,z1,z2,z3,z4,z5⟩:=hf b hb;refine⟨hn b hb,?_,?_,?_,?_,?_⟩
  .exact(ad b (Id b hb).2).1
  .intro hfs;rcases m_.mp (I2.stkSub b hfs)with z|z
   .exact z1 z
   .exact z2 z
  .exact .inl hb
  .exact fun x c e=>z4 x c (h1 x c e)
  .intro p hp;exact absurd (show p∈([]:List (Addr×Obj))from hp) (by simp)
 have eA:XX.A=X.A:=Eq.rec (motive:=fun z _=>z.A=X.A) rfl U;have eP:XX.prog=X.prog:=Eq.rec (motive:=fun z _=>z.prog=X.prog) rfl U;have eW:XX.w=X.w:=Eq.rec (motive:=fun z _=>z.w=X.w) rfl U;have eK:XX.K=X.K:=Eq.rec (motive:=fun z _=>z.K=X.K) rfl U;have eX:XX.xe=fun _ _=>False:=Eq.rec (motive:=fun z _=>z.xe=fun _ _=>False) rfl U;have eE:XX.env=ZK scope cl HH.objs.size X.env:=Eq.rec (motive:=fun z _=>z.env=ZK scope cl HH.objs.size X.env) rfl U;have eC:XX.calm=true:=Eq.rec (motive:=fun z _=>z.calm=true) Tg U;have eH:XX.H₀=H2:=Eq.rec (motive:=fun z _=>z.H₀=H2) rfl U;have To:PG XX tg (tG XX ⟨G2,H2,fun _=>none⟩ (bi nl cap m) (bi nl cap m) ft):=Eq.rec (motive:=fun z _=>PG z tg (tG z ⟨G2,H2,fun _=>none⟩ (bi nl cap m) (bi nl cap m) ft)) (hg _).2 U;have Ti:nP XX ⟨G2,H2,fun _=>none⟩ (bi nl cap m) ifs q:=Eq.rec (motive:=fun z _=>nP z ⟨G2,H2,fun _=>none⟩ (bi nl cap m) ifs q) (hq _) U;have Tj:PE XX elt (CK El XX ⟨G2,H2,fun _=>none⟩ (bi nl cap m) fe):=Eq.rec (motive:=fun z _=>PE z elt (CK El z ⟨G2,H2,fun _=>none⟩ (bi nl cap m) fe)) (he _) U;have Ts:∀{H':Hp}{s':f_}{σ':L2.St}{G':GH}{ws:List V},Inv XX [] σ' H' s'->Grow X.K G2 H2 G' H'->H' s2.heap.objs.size=some (.lst ws)->G' s2.heap.objs.size=none->Rl s2.heap.objs.size G' H' ws vs->RR (.ref s2.heap.objs.size) HH.objs.size (.ok .next) s':=fun{H' s' σ' G' ws} J1 wg hpp hgp rs=>by
  clear IC SC KK To Ti Tj eA eP eW eK eX eE eC eH;subst U;have un:=J1.base;refine TQ _ _ s' H' G' ?_ (let⟨mm,hn,_⟩:=J1.loc;⟨mm,hn⟩) J1.free (Wn (I_ I2.lt Z)) (VL I2.sz Z) (fun x c e z=>?_) (fun z hz e=>?_) wg ld ⟨_,hpp,hgp,rs⟩
  .refine I2.call' J1.os un J1.hok J1.bare fun b hb=>?_;obtain⟨z0,z1,z2,z3,z4,z5⟩:=hf b hb;exact⟨z3,z1,z4,z5⟩
  .obtain⟨v,o,ho,_⟩:=I2.cell x c e;exact absurd (I_ (y_ ho) Z) (by rw[z];exact VY _)
  .have:=(I2.pin z hz).1;exact absurd (I_ (y_ this) Z) (by rw[e];exact VY _)
 have Tf:YC (D_ X.prog X.w) X.A (.compLoop (.ListComp elt [⟨tg,iter,ifs,0⟩] scope pos) 0 (.ref it) (.ref s2.heap.objs.size) (ZK scope cl HH.objs.size X.env)) (RR (.ref s2.heap.objs.size) HH.objs.size)
   { s2 with heap:=h₁,toks:=s2.toks+([]:List (Str×a_)).length }:=by
  refine Nw (fun n s'=>∃(i:Nat)(σ':L2.St)(H':Hp)(G':GH)(ws:List V)(done rest:List D),Inv XX [] σ' H' s'/\SI XX ⟨G2,H2,fun _=>none⟩ (bi nl cap m) (bY nl cap r) G' σ' H'/\tn i s'.heap/\(∀b∈fp,H' b=none)/\Grow X.K G2 H2 G' H' /\H' s2.heap.objs.size=some (.lst ws)/\G' s2.heap.objs.size=none/\Rl s2.heap.objs.size G' H' ws done/\eD ft q fe (bY nl cap r) (ds.drop i)=.ok rest/\vs=done++rest/\done.length<=i/\i<=ds.length/\n=ds.length-i) ?_ ds.length
   ⟨0,_,_,G2,[],[],vs,IC,SC,Ta,fun b hb=>?_,w0,bX,Tv,R0 _ _ _,Tu,rfl,w_ _,VM _,rfl⟩
  rotate_left
  .rw[bg (ad b (Id b hb).2).2];exact(hf b hb).1
  rintro n s3 ⟨i,σ3,H3,G3,ws,done,rest,I3,S3,st3,fr3,w3,hp3,hg3,rs3,hr3,hv3,hd3,hi3,rfl⟩
  have ac:∀{α:Type}{t:Sem α}{Q:α->f_->Prop}{s':f_}{E':a_->f_->Prop},u_ (D_ XX.prog XX.w) XX.A t Q XX.xe s'->u_ (D_ X.prog X.w) X.A t Q E' s':=fun h=>by rw[eP,eW,eA,eX]at h;exact VG h (fun _ _ z=>z) fun _ _ z=>z.elim
  by_cases hlt:i<ds.length
  .have hd:ds.drop i=ds[i]::ds.drop (i+1):=Wh hlt;rw[hd]at hr3;unfold eD at hr3;have Tp:=T.item XX eP eW eK eC i [] s3 σ3 H3 (Zr (D_ X.prog X.w) X.A (ZK scope cl HH.objs.size X.env) fun e s'=>RR (.ref s2.heap.objs.size) HH.objs.size (.error e) s') I3 (KK H3 fr3) st3 (Y.go G3 H3 i w3 hlt);rw[eA]at Tp;refine aX Tp fun rr s4 ⟨u,hr,h4⟩=>?_;subst hr;refine aX h4 fun _ s5 ⟨x,H5,I5,r5,y5,st5,fr5⟩=>?_;obtain⟨G5,w5,TC⟩:=Y.yld G3 H3 i x H5 ds[i] w3 y5 (d_ hlt);have TB:=w3.trans w5;cases S4:ft ds[i] (bY nl cap r)with
  |none=>rw[S4]at hr3;cases hr3
  |some r1=>
    rw[S4]at hr3;simp only[opt_some,bind_ok]at hr3;have TR:=I5.pinned (KK H5 fr5) (T.obj _ _ st5);have S5:SI XX ⟨G2,H2,fun _=>none⟩ (bi nl cap m) (bY nl cap r) G5 σ3 H5:=S3.grow (by rw[eK];exact w5);have Tt:RG XX.K G5 x ds[i]:=by rw[eK];exact TC
    have Tn:=To _ s5 σ3 H5 x u (fun σ6 H6=>H6=H5/\SI XX ⟨G2,H2,fun _=>none⟩ (bi nl cap m) r1 G5 σ6 H5) TR r5 ⟨bY nl cap r,G5,ds[i],S5,Tt,r1,S4,fun σ6 Tz=>⟨rfl,Tz⟩⟩;rw[eE]at Tn;refine aX (ac Tn) fun _ s6 ⟨σ6,H6,I6,e6,S6⟩=>?_;subst e6;obtain⟨Tx,Tw⟩:=TK _ _ _ S4;cases IO:q r1 with
   |stuck=>rw[IO]at hr3;cases hr3
   |exc xx=>rw[IO]at hr3;cases hr3
   |ok b1=>
     rw[IO]at hr3;simp only[bind_ok]at hr3;have Tl:=Ti _ s6 σ6 H6 (fun b H7=>b=b1/\∃G7,Grow X.K G5 H6 G7 H7) I6 ⟨r1,G5,S6,by rw[IO];exact fun G7 H7 w7=>⟨rfl,G7,by rw[eK]at w7;exact w7⟩⟩;rw[eE]at Tl;refine aX (ac Tl) fun b s7 ⟨H7,I7,eb,G7,w7⟩=>?_;subst eb;have S7:SI XX ⟨G2,H2,fun _=>none⟩ (bi nl cap m) r1 G7 σ6 H7:=S6.grow (by rw[eK];exact w7);have Tc:=TB.trans w7;have ST:H7 s2.heap.objs.size=some (.lst ws):=w7.he _ _ (w5.he _ _ hp3);have Th:G7 s2.heap.objs.size=none:=by rw[w7.gf _ (by rw[w5.he _ _ hp3];simp),w5.gf _ (by rw[hp3];simp)];exact hg3
     have back:∀{S9:L2.St}{H8:Hp}{G8:GH}{s8:f_},Inv XX ([]++oG fp s5.heap) S9 H8 s8->Inv XX [] S9 H8 s8/\tn (i+1) s8.heap/\∀b∈fp,H8 b=none:=fun{S9 H8 G8 s8} I8=>by refine⟨I8.unpinned,T.keep _ _ _ st5 fun b hb o e=>(I8.pin (b,o) (P_ _ (P_ _ (ph hb e)))).1,fun b hb=>?_⟩;obtain⟨o,e,_⟩:=T.obj _ _ st5 b hb;exact(I8.pin (b,o) (P_ _ (P_ _ (ph hb e)))).2.1
     have less:∀{S9:L2.St}{H8:Hp}{G8:GH},SI XX ⟨G2,H2,fun _=>none⟩ (bi nl cap m) r1 G8 S9 H8->SI XX ⟨G2,H2,fun _=>none⟩ (bi nl cap m) (bY nl cap r) G8 S9 H8:=fun h=>h.less Tx.symm fun j d hj=>by
      by_cases TJ:j<nl
      .exact absurd hj (P3 TJ d)
      .rw[Tw j (by omega)];exact hj
     cases b with
    |false=>rw[if_neg k_]at hr3 ⊢;obtain⟨Ty,t7,f7⟩:=back (G8:=G7) I7;exact⟨ds.length-(i+1),by omega,i+1,σ6,H7,G7,ws,done,rest,Ty,less S7,t7,f7,Tc,ST,Th,Rg rs3 (w5.trans w7),hr3,hv3,by omega,hlt,rfl⟩
    |true=>rw[if_pos rfl]at hr3 ⊢;cases LT:fe r1 with
     |stuck=>rw[LT]at hr3;cases hr3
     |exc xx=>rw[LT]at hr3;cases hr3
     |ok d1=>rw[LT]at hr3;simp only[bind_ok]at hr3;cases er:eD ft q fe (bY nl cap r) (ds.drop (i+1))with
      |stuck=>rw[er]at hr3;cases hr3
      |exc xx=>rw[er]at hr3;cases hr3
      |ok rest'=>
        rw[er]at hr3;simp only[bind_ok]at hr3;cases hr3;have Tk:=Tj _ s7 σ6 H7 (fun v H8=>∃G8,Grow X.K G7 H7 G8 H8/\El X.K G7 H7 G8 H8 v d1) I7 ⟨r1,G7,S7,by rw[LT];exact fun v G8 H8 w8 rv=>⟨G8,by rw[eK]at w8;exact w8,by rw[eK]at rv;exact rv⟩⟩;rw[eE]at Tk;refine aX (ac Tk) fun u8 s8 ⟨v8,H8,I8,r8,G8,w8,rv8⟩=>?_;have TM:H8 s2.heap.objs.size=some (.lst ws):=w8.he _ _ ST;have Te:G8 s2.heap.objs.size=none:=by rw[w8.gf _ (by rw[ST];simp)];exact Th
        have S8:SI XX ⟨G2,H2,fun _=>none⟩ (bi nl cap m) r1 G8 σ6 H8:=S7.grow (by rw[eK];exact w8);have hlen:=Rn rs3;have TF:=mU (X:=XX) _ s8 σ6 H8 (.ref s2.heap.objs.size) [v8] (.ref s2.heap.objs.size) [u8] (fun v H9=>H9=aD H8 s2.heap.objs.size (.lst (ws++[v8]))) I8 rfl (.cons r8 .nil) ⟨_,ws,v8,rfl,rfl,TM,by omega,rfl⟩;refine aX (ac TF) fun u9 s9 ⟨v9,H9,I9,r9,e9⟩=>?_;subst e9;obtain⟨TL,t9,f9⟩:=back (G8:=G8) I9;have TH:=Ra (Rg rs3 (w5.trans w7)) w8 Tc ST rv8;have LE:=Tc.trans w8;refine⟨ds.length-(i+1),by omega,i+1,σ6,_,G8,ws++[v8],done++[d1],rest',TL,less (S8.other Te ld Nt _),t9,f9,?_,bX,Te,TH,er,by rw[hv3,List.append_assoc];rfl,by rw[U_,Yi];omega,hlt,rfl⟩;refine⟨fun b e hb=>(LE.ok b e hb).mono (fun _ _ z=>z) fun o z=>?_,fun b o hb=>?_,LE.ge,LE.gf⟩
        .rw[bg (by rintro rfl;rw[Te]at hb;cases hb)];exact z
        .rw[bg (by rintro rfl;rw[ld]at hb;cases hb)];exact LE.he b o hb
  .have e:i=ds.length:=by omega
   subst e;rw[XH]at hr3;cases hr3;rw[Wg]at hv3;subst hv3;have dn:=T.done XX eP eW eK eC ds.length [] s3 σ3 H3 (Zr (D_ X.prog X.w) X.A (ZK scope cl HH.objs.size X.env) fun e s'=>RR (.ref s2.heap.objs.size) HH.objs.size (.error e) s') I3 (KK H3 fr3) st3 (Y.stop G3 H3 w3);rw[eA]at dn;refine aX dn fun rr s4 ⟨hr,I4⟩=>?_;subst hr;exact Ts I4 w3 hp3 hg3 rs3
 exact codeAny_compStart_list Tf (T.self X.A 0 _ _ _ Ta Tf)
end
def lh:Res (List D)->Res (List D)
|.ok d=>.ok d
|_=>.stuck
@[simp] theorem noXL_ok(d:List D):lh (.ok d)=.ok d:=rfl
def cy(nl:Nat)(cap:List Nat)(fi:FI)(ft:FT)(q:FQ)(fe:FE):FE:=fun r=>(fi r).bind fun ds=>(cQ (sz ds)).bind fun ds=>(lh (eD ft q fe (bY nl cap r) ds)).bind fun vs=>.ok (.lst vs)
section
variable{spos:Pos}{fi:FI}
theorem Hj{r:ao}{P:D->Prop}{x:D->Prop}(h:fin (cy nl cap fi ft q fe r) P x):fin (fi r) (fun ds=>∃vs,ds.length<=sizeLine/\eD ft q fe (bY nl cap r) ds=.ok vs/\P (.lst vs)) x:=by unfold cy at h;refine bG (bJ h) fun ds h1=>?_;obtain⟨ds',e2,h2⟩:=cX (bJ h1);obtain⟨rfl,hl⟩:=yS e2;cases e3:eD ft q fe (bY nl cap r) ds' with
|ok vs=>rw[e3]at h2;exact⟨vs,hl,rfl,h2⟩
|exc x=>rw[e3]at h2;exact h2.elim
|stuck=>rw[e3]at h2;exact h2.elim
theorem CompSc.clo{pz:List (Addr×Obj)}{σ:L2.St}{H:Hp}{s:f_}(sc:CompSc X scope N' nl cap)(ok:X.Ok):∃cl,Qa0 scope X.env=pure cl/\(∀x c,cl.lookup x=some c->X.env.cells.lookup x=some c)/\(∀x,(x,NameKind.free)∈scope.names->∃c,cl.lookup x=some c):=QZ fun y hy hf=>ok.has y.1 (sc.freeK y hy hf)
theorem g9(hN:X.N.Nodup)(z:X.calm=true)(sc:CompSc X scope N' nl cap)(hi:jZ X g m tg iter fi)(hg:∀s0 H0 cl C fp g',SG (gS X s0 H0 N' scope cl C fp) g' (bi nl cap m) tg ft (bi nl cap m))(ac:i8 ft nl)(hq:∀s0 H0 cl C fp g',nP (gS X s0 H0 N' scope cl C fp) g' (bi nl cap m) ifs q)(he:∀s0 H0 cl C fp g',SE (gS X s0 H0 N' scope cl C fp) g' (bi nl cap m) elt fe)(hs:∀x,Wa iter X.env x=pure x:=by intro _;rfl):SO X g m (.ListComp elt [⟨tg,iter,ifs,0⟩] scope pos) (cy nl cap fi ft q fe):=by
 intro pz s σ H Q I h;obtain⟨r,G,si,k⟩:=h;obtain⟨cl,hcl,h1,h2⟩:=sc.clo (pz:=pz) (σ:=σ) (H:=H) (s:=s) I.ok;have k1:=Hj k;rw[eval_ListComp];refine Y2 (use:=none) rfl hs hcl sc.kind sc.names (aX (hi pz s σ H (fun J H'=>∃G' ds vs,Grow X.K G H G' H'/\YieldsC X.K J ds G' H'/\ds.length<=sizeLine/\eD ft q fe (bY nl cap r) ds=.ok vs /\(∀a G' H',Grow X.K G H G' H'->H a=none->Own X.K G' H' a (.lst vs)->Q (.ref a) H')) I ⟨r,G,si,bG k1 fun ds ⟨vs,z1,z2,z3⟩ J G' H' w y=>⟨G',ds,vs,w,y,z1,z2,z3⟩⟩) fun v s1 hv=>aX hv fun itv s2 BT=>?_);obtain⟨it,fp,tn,J,H2,rfl,I2,T,st,hf,G2,ds,vs,w2,Y,hsz,U,hQ⟩:=BT;refine HQ (El:=fun K _ _ G' _ v d=>RG K G' v d) (Rl:=fun _ G _ ws ds=>cK X.K G ws ds) (fun _ _ _=>.nil) (fun h w=>h.mono w.ge) Paired.length (fun h w _ _ e=>Paired.snoc (h.mono w.ge) e) (RR:=fun acc C=>compPost (D_ X.prog X.w) X.A X.xe none (EP X pz σ Q) acc C) hN z sc h1 h2 I2 (si.grow w2) T st hf Y hsz (fun C=>hg _ _ _ _ _ _) ac (fun C=>hq _ _ _ _ _ _) (fun C=>he _ _ _ _ _ _) U ?_;intro p C s' H' G' I' Id ad ld Cl IO Z w' hp ⟨ws,o1,o2,o3⟩;have ho:Own X.K G' H' p (.lst vs):=⟨o2,.lst o1 o3⟩
 obtain⟨mm,hn⟩:=Id;refine⟨mm,hn,fun h' hsb=>⟨.ref p,H',?_,rfl,hQ p G' H' (w2.trans w') (w2.back hp) ho⟩⟩;exact I'.turned (it:=C) (t':=s'.toks) (fun b o hb e=>hsb.extBut b o hb e) ad ld.symm.symm (.inr Cl) IO Z
theorem ko(i:Nat){y:Str}(hN:X.N.Nodup)(U:X.calm=true)(hy:X.N[i]? = some y)(ad:X.env.scope.names.lookup y=some .local)(sc:CompSc X scope N' nl cap)(hi:jZ X g m tg iter fi)(hg:∀s0 H0 cl C fp g',SG (gS X s0 H0 N' scope cl C fp) g' (bi nl cap m) tg ft (bi nl cap m))(Cl:i8 ft nl)(hq:∀s0 H0 cl C fp g',nP (gS X s0 H0 N' scope cl C fp) g' (bi nl cap m) ifs q)(he:∀s0 H0 cl C fp g',SE (gS X s0 H0 N' scope cl C fp) g' (bi nl cap m) elt fe)(ST:XC (.ListComp elt [⟨tg,iter,ifs,0⟩] scope pos) (some (.Name y pos')) spos.line X.env=pure true:=by rfl)(hs:∀x,Wa iter X.env x=pure x:=by intro _;rfl):SS X g ro mb m (.Assign [.Name y pos'] (.ListComp elt [⟨tg,iter,ifs,0⟩] scope pos) spos) (ap m i (cy nl cap fi ft q fe)) (m.set i .ow):=by
 refine⟨by simp,?_⟩;intro pz s σ H D0 I h;obtain⟨r,G,si,k⟩:=h;obtain⟨cl,hcl,h1,h2⟩:=sc.clo (pz:=pz) (σ:=σ) (H:=H) (s:=s) I.ok;have k1:=Hj (gC si (m':=m.set i .ow) (by simp) k);rw[exec_Assign_Name_used _ _ _ _ ST];refine b_ (XV (b_ ?_));show u_ _ X.A (do let _ <-comprehension (.ListComp elt [⟨tg,iter,ifs,0⟩] scope pos) scope X.env _ (newList []) false (eval iter X.env) (some (Yv (.Name y pos') X.env))) _ _ s;refine b_ (VG (Y2 (use:=some (Yv (.Name y pos') X.env)) (Q:=fun _ s'=>SP X pz D0 .next s') rfl hs hcl sc.kind sc.names (aX (hi pz s σ H (fun J H'=>∃G' ds vs,Grow X.K G H G' H'/\YieldsC X.K J ds G' H'/\ds.length<=sizeLine/\eD ft q fe (bY nl cap r) ds=.ok vs /\(∀σ' G' H',bv G G'->SI X g (m.set i .ow) (r.set i (some (.lst vs))) G' σ' H'->D0.nx σ' H')) I ⟨r,G,si,bG k1 fun ds ⟨vs,z1,z2,z3⟩ J G' H' w y=>⟨G',ds,vs,w,y,z1,z2,z3⟩⟩) fun v s1 hv=>aX hv fun itv s2 Id=>?_)) (fun _ s' hq=>o_ (o_ hq)) fun _ _ e=>e);obtain⟨it,fp,tn,J,H2,rfl,I2,T,st,hf,G2,ds,vs,w2,Y,hsz,BT,hQ⟩:=Id;refine HQ (El:=fun K _ _ G' _ v d=>RG K G' v d) (Rl:=fun _ G _ ws ds=>cK X.K G ws ds) (fun _ _ _=>.nil) (fun h w=>h.mono w.ge) Paired.length (fun h w _ _ e=>Paired.snoc (h.mono w.ge) e) (RR:=fun acc C=>compPost (D_ X.prog X.w) X.A X.xe (some (Yv (.Name y pos') X.env)) (fun _ s'=>SP X pz D0 .next s') acc C) hN U sc h1 h2 I2 (si.grow w2) T st hf Y hsz (fun C=>hg _ _ _ _ _ _) Cl (fun C=>hq _ _ _ _ _ _) (fun C=>he _ _ _ _ _ _) BT ?_;intro p C s' H' G' I' S9 LT ac IO Z S4 w' hp ⟨ws,o1,o2,o3⟩;have ho:Own X.K G' H' p (.lst vs):=⟨o2,.lst o1 o3⟩
 obtain⟨mm,hn⟩:=S9;show u_ _ X.A (Yv (.Name y pos') X.env (.ref p)) _ _ s';refine Qae (Hr I' hN hy (.inl ad) (v:=.ref p) rfl (fun s'' KK ⟨a,hsb,ha⟩=>?_) (.inr ad));have LE:C≠a:=by
  rcases ha with z|z
  .rw[z];exact ac
  .exact(Z y a z).symm
 refine⟨mm,hn.sameBut hsb LE,fun h' ld=>?_⟩;refine⟨_,H',KK.turned (it:=C) (t':=s''.toks) (fun b o hb e=>ld.extBut b o hb e) LT ac (.inr IO) Z S4,?_⟩;exact hQ _ G' H' (w2.trans w').ge (si.setN (w2.trans w') i (w2.back hp) ho)
end
def j3(K:W.Frag)(r:V->List V->Hp->VK->Prop)(mk:D->List D->Option D):Prop:=∀(G:GH)(H:Hp)(a:Addr)(d:D)(vs:List V)(ds:List D)(d':D)(Q:VK),bn K G H->Own K G H a d->cK K G vs ds->mk d ds=some d' ->(∀o',OwnO K G (aD H a o') a d'->Q .non (aD H a o'))->r (.ref a) vs H Q
def rL(T:String):D->Bool
|.lst _=>T == "list"
|.dic _=>T == "dict"
|_=>false
def cH(T:String)(m:List Md)(i:Nat)(fl:ao->Res (List D))(mk:D->List D->Option D):FS:=fun r=>match r[i]? with
|some (some d)=>if rL T d=true then gY m r (fl r) fun ds=>(match mk d ds with
 |some d'=>.nx (r.set i (some d'))
 |none=>.stuck)else .stuck
|_=>.stuck
theorem E5{K:W.Frag}{G:GH}{H:Hp}{a:Addr}{d:D}{T:String}(o:Own K G H a d)(t:rL T d=true):nq K T (.ref a) H:=by cases o.ob with
|lst r s=>exact .inl ⟨Wj t,_,bM.of r⟩
|dic r s=>exact .inr (.inr (.inl ⟨Wj t,.inl ⟨_,.inl r⟩⟩))
variable{o:Expr}
section
variable{apos cpos:Pos}{x name:Str}{R:V->List V->Hp->VK->Prop}{mk:D->List D->Option D}
theorem Ou(i:Nat)(hm:m[i]? = some .ow)(hk:j3 X.K R mk){D0:Ends}{σ:L2.St}{H:Hp}(h:tS X g ro m m mb (cH T m i fl mk) D0 σ H):∃v,σ[i]? = some (some v)/\nq X.K T v H/\tL X g m fl σ H fun xs H2=>R v xs H2 fun _ H1=>D0.nx σ H1:=by obtain⟨r,G,si,k⟩:=h;unfold cH at k;cases er:r[i]? with
|none=>simp only[er]at k;exact(show False from k).elim
|some oo=>cases oo with
 |none=>simp only[er]at k;exact(show False from k).elim
 |some d=>
   simp only[er]at k;by_cases ht:rL T d=true
   .rw[if_pos ht]at k;obtain⟨a,h1,h2,h3⟩:=si.mut hm er;refine⟨_,h1,E5 h2 ht,r,G,si,bG (gC si rfl k) fun ds k2 vs G' H' w rs=>?_⟩;cases em:mk d ds with
   |none=>simp only[em]at k2;exact(show False from k2).elim
   |some d'=>simp only[em]at k2;obtain⟨a',z,U,h3'⟩:=(si.grow w).mut hm er;rw[h1]at z;cases z;exact hk G' H' a d vs ds d' _ w.ok U rs em fun o' ob=>k2 σ G' _ w.ge (h3' o' d' ob)
   .rw[if_neg ht]at k;exact(show False from k).elim
theorem jw(i:Nat)(hm:m[i]? = some .ow)(pa:Zn T)(slot:Slot T name id)(BT:QaX (.builtin id)=pure (.type "method_descriptor"))(ad:lv X id R)(hk:j3 X.K R mk)(hN:X.N[i]? = some x)(hv:iG X.env.scope x)(ha:SA X g m (e::es) fl)(hd:(x==("__debug__" : Str))=false:=by decide)(ac:(x==("__classdict__" : Str))=false:=by decide)(U:W3 (.Name x pos') name X.env (eval (.Name x pos') X.env)=eval (.Name x pos') X.env:=by rfl)(Z:((backTo cpos (i_ (e::es) X.env)).all (fun x=>! x.1)&&(Y_ cpos (X8 [] X.env)).all (fun x=>x.1.isSome)&&decide ((e::es).length+([]:List Qam).length+(if ([]:List Qam).isEmpty then 0 else 1)<30))=true:=by rfl)(Y:(apos.endLine==cpos.line)=true:=by rfl)(ld:i_ (e::es) X.env=(false,eval e X.env)::i_ es X.env:=by rfl)(z:(backTo cpos (i_ es X.env)).any (·.1)=false:=by rfl):SS X g ro mb m (.Expr (.Call (.Attribute (.Name x pos') name apos) (e::es) [] cpos) pos) (cH T m i fl mk) m:=⟨rfl,PS.imp (tY (D7 pa slot BT ad (jD hN hv hd ac) ha U Z Y ld z)) fun D0 σ H h=>Ou i hm hk h⟩
def appD:D->List D->Option D
|.lst ds,[d]=>if ds.length<sizeLine then some (.lst (ds++[d]))else none
|_,_=>none
theorem ox{K:W.Frag}:j3 K F0 appD:=by
 intro G H a d vs ds d' Q gk ow rs e q;unfold appD at e;split at e
 .split at e
  .rename_i hl;cases e;cases ow.ob with
  |lst r s=>cases rs with
   |cons r1 t=>cases t;have:=Paired.length s;exact⟨a,_,_,rfl,rfl,r,by omega,q _ (.lst bX (Paired.snoc s r1))⟩
  .cases e
 .cases e
def yI(x:Int)(n:Nat):Nat:=if x<0 then(x+(n:Int)).toNat else min x.toNat n
def cR{α:Type}(xs:List α)(x:Int)(y:α):List α:=xs.take (yI x xs.length)++y::xs.drop (yI x xs.length)
def F3:V->List V->Hp->VK->Prop:=fun x vs H Q=>∃l xs i y,x=.ref l/\vs=[.int i,y]/\H l=some (.lst xs)/\-(2^63)<=i/\i<2^63/\xs.length<sizeLine/\Q .non (aD H l (.lst (cR xs i y)))
theorem Qf:lv X "list.insert" F3:=by
 intro pz s σ H x vs v us Q I rx rv h;obtain⟨l,xs,i,y,rfl,rfl,hH,h1,h2,hz,q⟩:=h;cases rx;obtain⟨u,w',rfl,⟨t,rfl⟩,ry⟩:=tf rv;obtain⟨z,its,n,r,hl,e⟩:=I.lstM hH;have U:¬(! Builtin.List.listFitsIndex i)=true:=by rw[fitsIndex_both h1 h2];exact k_
 refine YK Y3 ⟨_,e,rfl⟩ PySem.F.entry_list_insert (PySem.F.args_list_insert_3 _ _ _) (AutoListH.list_insert_list_int_val_1 l its.toArray n i t w' U (by rw[q_];omega)) ⟨e,?_⟩;refine⟨.non,_,I.lset (its':=cR its i w') hH e ?_ ?_ ?_,rfl,q⟩
 .show((its.toArray.extract 0 (if i<0 then(i+((its.toArray.size:Nat):Int)).toNat else min i.toNat its.toArray.size)).push w'++its.toArray.extract (if i<0 then(i+((its.toArray.size:Nat):Int)).toNat else min i.toNat its.toArray.size))=(cR its i w').toArray;rw[q_];unfold cR yI;generalize(if i<0 then(i+((its.length:Nat):Int)).toNat else min i.toNat its.length)=k;apply Array.ext';simp;exact Wc (by rw[VI];exact w_ _)
 .unfold cR;rw[hl];exact ar.append (r.take _) (.cons ry (r.drop _))
 .unfold cR;rw[U_,Q_,Vz,VI];omega
def insD:D->List D->Option D
|.lst ds,[.int i,d]=>if ds.length<sizeLine/\-(2^63)<=i/\i<2^63 then some (.lst (cR ds i d))else none
|_,_=>none
theorem Kz{α β:Type}{F:α->β->Prop}{l:List α}{r:List β}{x:α}{y:β}(h:Paired F l r)(i:Int)(z:F x y):Paired F (cR l i x) (cR r i y):=by unfold cR;rw[Paired.length h];exact Paired.app (Paired.tk _ h) (.cons z (Paired.dr _ h))
theorem KA{K:W.Frag}:j3 K F3 insD:=by
 intro G H a d vs ds d' Q gk ow rs e q;unfold insD at e;split at e
 .split at e
  .rename_i hl;cases e;cases ow.ob with
  |lst r s=>cases rs with
   |cons r1 t=>cases t with
    |cons r2 t=>cases t;have:=Paired.length s;exact⟨a,_,_,_,rfl,by rw[r1.int gk],r,hl.2.1,hl.2.2,by omega,q _ (.lst bX (Kz s _ r2))⟩
  .cases e
 .cases e
end
def cz:D->Bool
|.non=>true
|.bl _=>true
|.int _=>true
|.str _=>true
|_=>false
def gD:D->V
|.non=>.non
|.bl b=>.bl b
|.int i=>.int i
|.str x=>.str x
|_=>.non
def eV(a b:D):Bool:=i0 (gD a) (gD b)
theorem RB.flat(h:RB K G H v d)(gk:bn K G H)(hf:cz d=true):v=gD d/\gy v=true:=by cases d with
|non=>rw[h.non gk];exact⟨rfl,rfl⟩
|bl b=>rw[h.bl gk];exact⟨rfl,rfl⟩
|int i=>rw[h.int gk];exact⟨rfl,rfl⟩
|str x=>rw[h.str gk];exact⟨rfl,rfl⟩
|_=>cases hf
theorem DN{xs:List V}{ds:List D}(h:cK K G xs ds)(gk:bn K G H)(hf:ds.all cz=true):xs=ds.map gD/\xs.all gy=true:=by induction h with
|nil=>exact⟨rfl,rfl⟩
|cons r t ih=>rw[WN,Vr]at hf;obtain⟨e1,e2⟩:=RB.flat (H:=H) r.rb gk hf.1;obtain⟨e3,e4⟩:=ih hf.2;exact⟨by rw[Vq,<-e3,<-e1],by rw[WN,e2,e4];rfl⟩
def gm:D->Option aY
|.int i=>some (.inl i)
|.str x=>some (.inr x)
|_=>none
def gr(kvs:List (aY×D))(k:aY):Bool:=kvs.any fun kv=>decide (kv.1=k)
def bU(kvs:List (aY×D))(k:aY):Option D:=(kvs.find? fun kv=>decide (kv.1=k)).map (·.2)
def inB(x c:D):Option Bool:=match c with
|.lst ds=>if cz x=true/\ds.all cz=true then some (ds.any fun y=>eV y x)else none
|.tup ds=>if cz x=true/\ds.all cz=true then some (ds.any fun y=>eV y x)else none
|.dic kvs=>(gm x).map (gr kvs)
|.str y=>match x with
 |.str z=>some (!(WA y z 0 y.length 1).isEmpty)
 |_=>none
|_=>none
def eU(x c:D):Option D:=(inB x c).map .bl
def cZ(x c:D):Option D:=(inB x c).map fun b=>.bl (! b)
theorem EK{K:W.Frag}{G:GH}{k:aY}{ps:List (aY×V)}{kvs:List (aY×D)}(h:im K G ps kvs)(d:D)(e:bU kvs k=some d):∃v,dz ps k=some v/\RG K G v d:=by induction h with
|nil=>cases e
|@cons p q ps kvs r t ih=>
  obtain⟨k1,v1⟩:=p;obtain⟨k2,d2⟩:=q;obtain⟨e1,r1⟩:=r;have z:k1=k2:=e1;subst z;by_cases hk:k1=k
  .subst hk;have:d2=d:=by simpa[bU,Vt]using e
   subst this;exact⟨v1,uN rfl,r1⟩
  .have e':bU kvs k=some d:=by simpa[bU,Vt,hk]using e
   obtain⟨v,h1,h2⟩:=ih e';exact⟨v,by rw[qk hk];exact h1,h2⟩
theorem PC{K:W.Frag}{G:GH}{k:aY}{ps:List (aY×V)}{kvs:List (aY×D)}(h:im K G ps kvs)(e:bU kvs k=none):dz ps k=none:=by induction h with
|nil=>rfl
|@cons p q ps kvs r t ih=>
  obtain⟨k1,v1⟩:=p;obtain⟨k2,d2⟩:=q;obtain⟨e1,r1⟩:=r;have z:k1=k2:=e1;subst z;by_cases hk:k1=k
  .subst hk;simp[bU,Vt]at e
  .have e':bU kvs k=none:=by simpa[bU,Vt,hk]using e
   rw[qk hk];exact ih e'
theorem Kv(kvs:List (aY×D))(k:aY):gr kvs k=(bU kvs k).isSome:=by induction kvs with
|nil=>rfl
|cons p r ih=>
  by_cases e:p.1=k
  .simp[gr,bU,Vt,e]
  .have h1:gr (p::r) k=gr r k:=by simp[gr,e]
   have h2:bU (p::r) k=bU r k:=by simp[bU,Vt,e]
   rw[h1,h2,ih]
theorem zA{K:W.Frag}{G:GH}{H:Hp}{v:V}{d:D}{k:aY}(gk:bn K G H)(h:RB K G H v d)(e:gm d=some k):v=kV k:=by cases d with
|int i=>cases e;exact h.int gk
|str x=>cases e;exact h.str gk
|_=>cases e
def ny(neg:Bool):R2:=fun y x H Q=>∃a o,x=.ref a/\i9 H a y o/\Q (.bl (if neg then ! o.isSome else o.isSome)) H
theorem LL(hu:X.A.units+1<Xb):bx X (Vs .In) (ny false):=by intro pz s σ H y x u v Q I ry rx h;obtain⟨a,oo,rfl,hg,q⟩:=h;cases rx;exact Dk hu I hg ry fun s' I'=>⟨.bl _,H,I',rfl,q⟩
theorem M4(hu:X.A.units+1<Xb):bx X (Vs .NotIn) (ny true):=by intro pz s σ H y x u v Q I ry rx h;obtain⟨a,oo,rfl,hg,q⟩:=h;cases rx;exact Na hu I hg ry fun s' I'=>⟨.bl _,H,I',rfl,q⟩
def iT(K:W.Frag)(neg:Bool):R2:=fun x y H Q=>CY K neg x y H Q\/ny neg x y H Q\/∃i j,x=.str i/\y=.str j/\Q (.bl (if neg then !(!(WA j i 0 j.length 1).isEmpty)else !(WA j i 0 j.length 1).isEmpty)) H
theorem LK(hu:X.A.units+1<Xb):bx X (Vs .In) (iT X.K false):=bx.or Qn (bx.or (LL hu) Qo)
theorem Gh(hu:X.A.units+1<Xb):bx X (Vs .NotIn) (iT X.K true):=bx.or RM (bx.or (M4 hu) RN)
theorem Fm{K:W.Frag}(neg:Bool):dQ K (iT K neg) (fun x c=>(inB x c).map fun b=>.bl (if neg then ! b else b)):=by
 intro G H v1 v2 d1 d2 d Q gk r1 r2 e q;have seq:∀{xs:List V}{ds:List D}{p:Addr},cK K G xs ds->v2=.ref p->(bM K H p xs\/cJ K H p xs)->cz d1=true->ds.all cz=true->d=.bl (if neg then !(ds.any fun y=>eV y d1)else ds.any fun y=>eV y d1)->iT K neg v1 v2 H Q:=fun{xs ds p} rs e2 hs hf hfs ed=>by
  obtain⟨e1,f1⟩:=RB.flat r1 gk hf;obtain⟨e3,f3⟩:=DN rs gk hfs;refine .inl ⟨p,xs,e2,hs,f1,f3,q _ G H (Grow.refl gk) ?_⟩;have:xH v1 xs=ds.any fun y=>eV y d1:=by unfold xH;rw[e3,WY,e1];rfl
  rw[this,ed];exact .scl (.bl _)
 cases d2 with
|lst ds=>
  by_cases hc:cz d1=true/\ds.all cz=true
  .simp only[inB,if_pos hc,VZ]at e;obtain⟨p,xs,e2,hs,rs⟩:=r2.lst gk;exact seq rs e2 (.inl hs) hc.1 hc.2 (B_ e).symm
  .simp only[inB,if_neg hc,QaM]at e;cases e
|tup ds=>
  by_cases hc:cz d1=true/\ds.all cz=true
  .simp only[inB,if_pos hc,VZ]at e;obtain⟨p,xs,e2,hs,rs⟩:=r2.tup gk;exact seq rs e2 (.inr hs) hc.1 hc.2 (B_ e).symm
  .simp only[inB,if_neg hc,QaM]at e;cases e
|dic kvs=>simp only[inB]at e;cases ek:gm d1 with
 |none=>rw[ek]at e;cases e
 |some k=>
   rw[ek]at e;cases e;obtain⟨p,ps,rfl,hs,rs⟩:=r2.dic gk;refine .inr (.inl ⟨p,dz ps k,rfl,by rw[zA gk r1 ek];exact .inl ⟨ps,k,hs,rfl,rfl⟩,q _ G H (Grow.refl gk) ?_⟩);have:(dz ps k).isSome=gr kvs k:=by rw[Kv];cases eg:bU kvs k with
   |none=>rw[PC rs eg];rfl
   |some d=>obtain⟨v,h1,_⟩:=EK rs d eg;rw[h1];rfl
   rw[this];exact .scl (.bl _)
|str y=>cases d1 with
 |str z=>cases e;exact .inr (.inr ⟨z,y,r1.str gk,r2.str gk,q _ G H (Grow.refl gk) (.scl (.bl _))⟩)
 |_=>cases e
|_=>cases e
theorem JC{K:W.Frag}:dQ K (iT K false) eU:=by
 have h:=Fm (K:=K) false;have e:(fun x c=>(inB x c).map fun b=>D.bl (if false=true then ! b else b))=eU:=by funext x c;unfold eU;cases inB x c <;> rfl
 rw[e]at h;exact h
theorem EQ{K:W.Frag}:dQ K (iT K true) cZ:=by
 have h:=Fm (K:=K) true;have e:(fun x c=>(inB x c).map fun b=>D.bl (if true=true then ! b else b))=cZ:=by funext x c;unfold cZ;cases inB x c <;> rfl
 rw[e]at h;exact h
theorem JX(hu:X.A.units+1<Xb)(ha:SB X g m a fa)(hb:SB X g m b fb)(hm:Wo .NotIn b=false:=by rfl):SE X g m (.Compare a [.NotIn] [b] pos) (f2 fa fb cZ):=n5 (Gh hu) EQ ha hb hm
theorem ib(hu:X.A.units+1<Xb)(ha:SB X g m a fa)(hb:SB X g m b fb)(hm:Wo .In b=false:=by rfl):SQ X g m (.Compare a [.In] [b] pos) (aK (f2 fa fb eU)):=kC (LK hu) JC ha hb hm
theorem pR(hu:X.A.units+1<Xb)(ha:SB X g m a fa)(hb:SB X g m b fb)(hm:Wo .NotIn b=false:=by rfl):SQ X g m (.Compare a [.NotIn] [b] pos) (aK (f2 fa fb cZ)):=kC (Gh hu) EQ ha hb hm
def nI:D->D->Option D
|.non,.non=>some (.bl true)
|_,.non=>some (.bl false)
|_,_=>none
def gp:D->D->Option D
|.non,.non=>some (.bl false)
|_,.non=>some (.bl true)
|_,_=>none
theorem RB.isnon{K:W.Frag}{G:GH}{H:Hp}{v:V}{d:D}(gk:bn K G H)(h:RB K G H v d):(v=.non↔d=.non):=by
 constructor
 .intro e;subst e;rcases h with h|⟨a,e,_⟩
  .cases h with
  |scl s=>cases s;rfl
  .cases e
 .intro e;subst e;exact h.non gk
theorem JD{K:W.Frag}:dQ K (fun x y H Q=>y=.non/\Q (.bl (decide (x=.non))) H) nI:=by intro G H v1 v2 d1 d2 d Q gk r1 r2 e q;have hn:=r1.isnon gk;cases d2 with
|non=>refine⟨r2.non gk,q _ G H (Grow.refl gk) ?_⟩;cases d1 with
 |non=>cases e;rw[decide_eq_true (hn.mpr rfl)];exact .scl (.bl _)
 |_=>cases e;rw[decide_eq_false (fun z=>by have:=hn.mp z;cases this)];exact .scl (.bl _)
|_=>cases d1 <;> cases e
theorem KF{K:W.Frag}:dQ K (fun x y H Q=>y=.non/\Q (.bl (! decide (x=.non))) H) gp:=by intro G H v1 v2 d1 d2 d Q gk r1 r2 e q;have hn:=r1.isnon gk;cases d2 with
|non=>refine⟨r2.non gk,q _ G H (Grow.refl gk) ?_⟩;cases d1 with
 |non=>cases e;rw[decide_eq_true (hn.mpr rfl)];exact .scl (.bl _)
 |_=>cases e;rw[decide_eq_false (fun z=>by have:=hn.mp z;cases this)];exact .scl (.bl _)
|_=>cases d1 <;> cases e
theorem nz(ha:SB X g m a fa)(hb:SB X g m b fb):SQ X g m (.Compare a [.Is] [b] pos) (aK (f2 fa fb nI)):=kC LO JD ha hb (jC _)
theorem Ey(ha:SB X g m a fa)(hb:SB X g m b fb):SQ X g m (.Compare a [.IsNot] [b] pos) (aK (f2 fa fb gp)):=kC M5 KF ha hb (jC _)
end DL
section
namespace DL
open PySem PySem.Spec PyProof.Rows L2
variable{X:Cx}{g:GE}{m mb:List Md}{e a b o c:Expr}{f fa fb fc:FE}{pos pos':Pos}
section
variable{p1 p2:Pos}{ro:Bool}{x:Str}
def se:R2:=fun x y H Q=>∃a v,x=.ref a/\i9 H a y (some v)/\Q v H
theorem LV(hu:X.A.units+1<Xb):j6 X se:=by intro value slice pz s σ H x y v u Q I rx ry h hs;obtain⟨a,w,rfl,hg,q⟩:=h;cases rx;exact tail_any (RD I hg) PySem.F.slot_dict_getitem.lookup (P6 hu I hg ry fun w' s' I' rw'=>⟨w,H,I',rw',q⟩) hs
def ax:D->D->Option D
|.dic kvs,k=>(gm k).bind (bU kvs)
|c,k=>ixD c k
theorem LU{K:W.Frag}:dQ K (fun x y H Q=>se x y H Q\/CW K x y H Q) ax:=by intro G H v1 v2 d1 d2 d Q gk r1 r2 e q;cases d1 with
|dic kvs=>obtain⟨a,ps,rfl,hs,rs⟩:=r1.dic gk;have e':(gm d2).bind (bU kvs)=some d:=e;cases ek:gm d2 with
 |none=>rw[ek]at e';cases e'
 |some k=>rw[ek]at e';obtain⟨v,h1,h2⟩:=EK rs d e';refine .inl ⟨a,v,rfl,?_,q v G H (Grow.refl gk) h2⟩;rw[zA gk r2 ek,<-h1];exact .inl ⟨ps,k,hs,rfl,rfl⟩
|lst ds=>exact .inr (yK G H v1 v2 _ d2 d Q gk r1 r2 e q)
|tup ds=>exact .inr (yK G H v1 v2 _ d2 d Q gk r1 r2 e q)
|str ds=>exact .inr (yK G H v1 v2 _ d2 d Q gk r1 r2 e q)
|_=>cases e
theorem di(hu:X.A.units+1<Xb)(ha:SB X g m a fa)(hb:SB X g m b fb)(hs:zX b:=by intro _ _;rfl):SE X g m (.Subscript a b pos) (f2 fa fb ax):=yP LU (JP (j6.or (LV hu) LW) ha hb hs)
theorem zM:SO X g m (.Dict [] [] pos) fun _=>.ok (.dic []):=PE.imp O8 fun σ H Q ⟨r,G,si,q⟩ p hp=>q p G _ (Grow.new si.gok hp _) hp ⟨si.gok.isN hp,.dic bX .nil⟩
def dk(kvs:List (aY×D))(k:aY)(d:D):List (aY×D):=if (kvs.any fun kv=>decide (kv.1=k))=true then kvs.map fun kv=>if kv.1=k then(kv.1,d)else kv else kvs++[(k,d)]
theorem Ox{K:W.Frag}{G:GH}{k:aY}{ps:List (aY×V)}{kvs:List (aY×D)}(h:im K G ps kvs):(ps.any fun kv=>decide (kv.1=k))=kvs.any fun kv=>decide (kv.1=k):=by induction h with
|nil=>rfl
|cons r t ih=>rw[Xp,Xp,ih,r.1]
theorem JS{K:W.Frag}{G:GH}{ps:List (aY×V)}{kvs:List (aY×D)}{k:aY}{v:V}{d:D}(r:im K G ps kvs)(h:RG K G v d):im K G (dJ ps k v) (dk kvs k d):=by
 unfold dJ dk;rw[Ox r];by_cases hc:(kvs.any fun kv=>decide (kv.1=k))=true
 .rw[if_pos hc,if_pos hc];clear hc
  induction r with
 |nil=>exact .nil
 |@cons p q ps kvs r t ih=>
   refine .cons ?_ ih;obtain⟨p1,p2⟩:=p;obtain⟨q1,q2⟩:=q;have e:p1=q1:=r.1;subst e;by_cases hk:p1=k
   .simp only[hk,if_true,true_and];exact h
   .simp only[hk,if_false,true_and];exact r.2
 .rw[if_neg hc,if_neg hc];exact Paired.snoc r ⟨rfl,h⟩
def eM:D->D->D->Option D
|.lst ds,.int k,v=>(gZ ds.length k).map fun j=>.lst (ds.set j v)
|.dic kvs,k,v=>(gm k).bind fun k=>if kvs.length<sizeLine then some (.dic (dk kvs k v))else none
|_,_,_=>none
def EB:V->V->V->Hp->(Hp->Prop)->Prop:=fun o i v H Q=>∃p H',o=.ref p/\j7 H p i v H'/\Q H'
theorem NV(hu:X.A.units+1<Xb):gU X EB:=by intro pz s σ H o i v ov iv u Q I ro ri rv h;obtain⟨p,H',rfl,hp,q⟩:=h;cases ro;exact P7 hu I hp ri rv fun s' I'=>⟨H',I',q⟩
theorem gU.or{t t':lu}(h:gU X t)(h':gU X t'):gU X (fun o i v H Q=>t o i v H Q\/t' o i v H Q):=by
 intro pz s σ H o i v ov iv u Q I ro ri rv q;rcases q with q|q
 .exact h pz s σ H o i v ov iv u Q I ro ri rv q
 .exact h' pz s σ H o i v ov iv u Q I ro ri rv q
theorem L8{K:W.Frag}{G:GH}{H:Hp}{a:Addr}{d k v d':D}{kv vv:V}{Q:Hp->Prop}(gk:bn K G H)(ow:Own K G H a d)(rk:RB K G H kv k)(rv:RG K G vv v)(e:eM d k v=some d')(q:∀o',OwnO K G (aD H a o') a d'->Q (aD H a o')):Eo (.ref a) kv vv H Q\/EB (.ref a) kv vv H Q:=by cases ow.ob with
|@lst xs ds r s=>cases k with
 |int k=>have e':(gZ ds.length k).map (fun j=>D.lst (ds.set j v))=some d':=e;cases ej:gZ ds.length k with
  |none=>rw[ej]at e';cases e'
  |some j=>rw[ej]at e';cases e';exact .inl ⟨a,xs,k,j,rfl,rk.int gk,r,by rw[Paired.length s];exact ej,q _ (.lst bX (Paired.st rv j s))⟩
 |_=>cases e
|@dic ps kvs r s=>have e':(gm k).bind (fun k=>if kvs.length<sizeLine then some (D.dic (dk kvs k v))else none)=some d':=e;cases ek:gm k with
 |none=>rw[ek]at e';cases e'
 |some k'=>
   rw[ek]at e';have e2:(if kvs.length<sizeLine then some (D.dic (dk kvs k' v))else none)=some d':=e';by_cases hl:kvs.length<sizeLine
   .rw[if_pos hl]at e2;cases e2;have:=Paired.length s;refine .inr ⟨a,_,rfl,?_,q _ (.dic bX (JS s rv))⟩;rw[zA gk rk ek];exact j7.k r (by omega)
   .rw[if_neg hl]at e2;cases e2
def putF(m:List Md)(i:Nat)(fk fv:FE):FS:=fun r=>gY m r (fv r) fun v=>match r[i]? with
|some (some d)=>gY m r (fk r) fun k=>(match eM d k v with
 |some d'=>.nx (r.set i (some d'))
 |none=>.stuck)
|_=>.stuck
theorem jh(i:Nat)(hu:X.A.units+1<Xb)(hm:m[i]? = some .ow)(hN:X.N[i]? = some x)(hv:iG X.env.scope x)(hk:SB X g m b fb)(he:SE X g m e f)(hd:(x==("__debug__" : Str))=false:=by decide)(U:(x==("__classdict__" : Str))=false:=by decide)(ha:∀v,Yv (.Subscript (.Name x p1) b p2) X.env v=(do
   let ov <-Yo [v] (eval (.Name x p1) X.env);let iv <-Yo [v,ov] (eval b X.env)
   ZR p2
   Yo [v,ov,iv] (setItem ov iv v)
   release [v,ov,iv] []):=by intro _;rfl)(hs:Z1 [.Subscript (.Name x p1) b p2] e pos.line X.env=pure false:=by rfl)(hw:Z2 [.Subscript (.Name x p1) b p2] e X.env=pure none:=by rfl)(h1:(V_ [.Subscript (.Name x p1) b p2] X.env).map (·.2)=[Yv (.Subscript (.Name x p1) b p2) X.env]:=by rfl):SS X g ro mb m (.Assign [.Subscript (.Name x p1) b p2] e pos) (putF m i fb f) m:=by refine⟨rfl,PS.imp (Fb he (Ls (jD hN hv hd U) hk (gU.or OS (NV hu)) ha) hs hw h1) fun D0 σ H ⟨r,G,si,k⟩=>⟨r,G,si,?_⟩⟩;refine bG (gC si rfl k) fun v k1 vv G1 H1 w1 rv=>?_;cases er:r[i]? with
|none=>simp only[er]at k1;exact(show False from k1).elim
|some oo=>cases oo with
 |none=>simp only[er]at k1;exact(show False from k1).elim
 |some d=>simp only[er]at k1;obtain⟨a,h1,h2,h3⟩:=(si.grow w1).mut hm er;refine⟨_,h1,r,G1,si.grow w1,?_⟩;refine bG (gC (m:=m) (si.grow w1) rfl (cD.gle k1 w1.ge)) fun kk k2 kv G2 H2 w2 rk=>?_;cases es:eM d kk v with
  |none=>simp only[es]at k2;exact(show False from k2).elim
  |some d'=>simp only[es]at k2;obtain⟨a',z,Y,h3'⟩:=((si.grow w1).grow w2).mut hm er;rw[h1]at z;cases z;exact L8 w2.ok Y rk (rv.mono w2.ge) es fun o' ob=>k2 σ G2 _ w2.ge (h3' o' d' ob)
end
mutual
def bL:D->PyData
|.non=>.none
|.bl b=>.bool b
|.int i=>.int i
|.str x=>.str x
|.tup ds=>.tuple (zdH ds)
|.lst ds=>.list (zdH ds)
|.dic _=>.none
|.obj _ _=>.none
def zdH:List D->List PyData
|[]=>[]
|d::ds=>bL d::zdH ds
end
def cn:Nat->D->Prop
|_,.non=>True
|_,.bl _=>True
|_,.int _=>True
|_,.str x=>Qbl x=true
|0,.tup _=>False
|0,.lst _=>False
|k+1,.tup ds=>∀d∈ds,cn k d
|k+1,.lst ds=>∀d∈ds,cn k d
|_,.dic _=>False
|_,.obj _ _=>False
theorem uE{k:Nat}{ds:List D}:cn (k+1) (.lst ds)↔∀d∈ds,cn k d:=by simp only[cn]
theorem mJ{k:Nat}{ds:List D}:cn (k+1) (.tup ds)↔∀d∈ds,cn k d:=by simp only[cn]
def ky(a b:D):Bool:=Zs (bL a) (bL b)
section
variable{pz:List (Addr×Obj)}{σ:L2.St}{H:Hp}{s:f_}{G:GH}
theorem Hl{k:Nat}(ih:∀(d:D)(v:V)(u:a_),cn k d->RG X.K G v d->L2.aE v u->∃as,Reads s.heap u (bL d) as)(ds:List D)(vs:List V)(us:List a_)(h:∀d∈ds,cn k d)(r:cK X.K G vs ds)(q:ar vs us):∃as,ReadsAll s.heap us (zdH ds) as:=by induction r generalizing us with
|nil=>cases q;exact⟨[],.nil⟩
|cons r t ih'=>cases q with
 |cons r' t'=>obtain⟨a1,h1⟩:=ih _ _ _ (h _ p_) r r';obtain⟨a2,h2⟩:=ih' _ (fun x hx=>h x (t_ _ hx)) t';exact⟨a1++a2,.cons h1 h2⟩
theorem oZ(I:Inv X pz σ H s)(gk:bn X.K G H):∀(k:Nat)(d:D)(v:V)(u:a_),cn k d->RB X.K G H v d->L2.aE v u->∃as,Reads s.heap u (bL d) as:=by
 intro k
 induction k with
|zero=>intro d v u hs r ru;cases d with
 |non=>rw[r.non gk]at ru;cases ru;exact⟨_,.none⟩
 |bl b=>rw[r.bl gk]at ru;cases ru;exact⟨_,.bool b⟩
 |int i=>rw[r.int gk]at ru;obtain⟨t,rfl⟩:=ru;exact⟨_,.int i t⟩
 |str x=>rw[r.str gk]at ru;obtain⟨t,rfl⟩:=ru;exact⟨_,.str x t⟩
 |tup _=>unfold cn at hs;exact hs.elim
 |lst _=>unfold cn at hs;exact hs.elim
 |dic _=>unfold cn at hs;exact hs.elim
 |obj _ _=>unfold cn at hs;exact hs.elim
|succ k ih=>intro d v u hs r ru;cases d with
 |non=>rw[r.non gk]at ru;cases ru;exact⟨_,.none⟩
 |bl b=>rw[r.bl gk]at ru;cases ru;exact⟨_,.bool b⟩
 |int i=>rw[r.int gk]at ru;obtain⟨t,rfl⟩:=ru;exact⟨_,.int i t⟩
 |str x=>rw[r.str gk]at ru;obtain⟨t,rfl⟩:=ru;exact⟨_,.str x t⟩
 |tup ds=>obtain⟨a,xs,rfl,sq,rs⟩:=r.tup gk;cases ru;obtain⟨its,rv,pl,_⟩:=I.tuple sq;obtain⟨o,ho,hc,n,hd⟩:=pl;obtain⟨as,h⟩:=Hl (k:=k) (fun d v u h1 h2 h3=>ih d v u h1 h2.rb h3) ds xs its (mJ.mp hs) rs rv;refine⟨as,?_⟩;unfold bL;exact .tuple ho hc hd (by simpa using h)
 |lst ds=>obtain⟨a,xs,rfl,sq,rs⟩:=r.lst gk;cases ru;obtain⟨its,rv,pl,_⟩:=I.list sq;obtain⟨o,ho,hc,n,hd⟩:=pl.isList;obtain⟨as,h⟩:=Hl (k:=k) (fun d v u h1 h2 h3=>ih d v u h1 h2.rb h3) ds xs its (uE.mp hs) rs rv;refine⟨a::as,?_⟩;unfold bL;exact .list ho hc hd (by simpa using h)
 |dic _=>unfold cn at hs;exact hs.elim
 |obj _ _=>unfold cn at hs;exact hs.elim
theorem uD{k:Nat}(ih:∀d,cn k d->VX (bL d)=true/\Wd (bL d)<=k):∀ds:List D,(∀d∈ds,cn k d)->YY (zdH ds)=true/\Yx (zdH ds)<=k
|[],_=>by unfold zdH YY Yx;exact⟨rfl,VM _⟩
|d::ds,h=>by obtain⟨a1,a2⟩:=ih d (h d p_);obtain⟨b1,b2⟩:=uD ih ds fun x hx=>h x (t_ _ hx);unfold zdH YY Yx;rw[a1,b1];exact⟨rfl,Nat.max_le.mpr ⟨a2,b2⟩⟩
theorem zU:∀(k:Nat)(d:D),cn k d->VX (bL d)=true/\Wd (bL d)<=k:=by
 intro k
 induction k with
|zero=>intro d hs;cases d with
 |non=>unfold bL VX Wd;exact⟨rfl,VM _⟩
 |bl b=>unfold bL VX Wd;exact⟨rfl,VM _⟩
 |int i=>unfold bL VX Wd;exact⟨rfl,VM _⟩
 |str x=>unfold cn at hs;unfold bL VX Wd;exact⟨hs,VM _⟩
 |tup _=>unfold cn at hs;exact hs.elim
 |lst _=>unfold cn at hs;exact hs.elim
 |dic _=>unfold cn at hs;exact hs.elim
 |obj _ _=>unfold cn at hs;exact hs.elim
|succ k ih=>intro d hs;cases d with
 |non=>unfold bL VX Wd;exact⟨rfl,VM _⟩
 |bl b=>unfold bL VX Wd;exact⟨rfl,VM _⟩
 |int i=>unfold bL VX Wd;exact⟨rfl,VM _⟩
 |str x=>unfold cn at hs;unfold bL VX Wd;exact⟨hs,VM _⟩
 |tup ds=>obtain⟨b1,b2⟩:=uD ih ds (mJ.mp hs);unfold bL VX Wd;exact⟨b1,Zb b2⟩
 |lst ds=>obtain⟨b1,b2⟩:=uD ih ds (uE.mp hs);unfold bL VX Wd;exact⟨b1,Zb b2⟩
 |dic _=>unfold cn at hs;exact hs.elim
 |obj _ _=>unfold cn at hs;exact hs.elim
theorem uU{d:D}(h:cn 60 d):Qbm (bL d)=true:=by obtain⟨a,b⟩:=zU 60 d h;unfold Qbm;rw[a,decide_eq_true (VL b (by decide))];rfl
end
def om(a b:D):Bool:=cz a&&cz b&&kZ (gD a) (gD b)
open Classical in
def iF(a b:D):Option Bool:=if om a b=true then some (eV a b)else if cn 60 a/\cn 60 b then some (ky a b)else none
def eqD(a b:D):Option D:=(iF a b).map .bl
def neD(a b:D):Option D:=(iF a b).map fun c=>.bl (! c)
theorem GL{a b:D}(h:om a b=false)(h1:cn 60 a)(h2:cn 60 b):iF a b=some (ky a b):=by unfold iF;rw[if_neg (by rw[h];exact k_),if_pos ⟨h1,h2⟩]
theorem GM{a b:D}(h:om a b=true):iF a b=some (eV a b):=by unfold iF;rw[if_pos h]
@[simp] theorem eqB_int(a b:Int):iF (.int a) (.int b)=some (a==b):=GM rfl
@[simp] theorem eqB_str(a b:Str):iF (.str a) (.str b)=some (a==b):=GM rfl
theorem GC{a b:D}(h:kZ (gD a) (gD b)=true)(fa:cz a=true)(fb:cz b=true):decide (gD a=gD b)=eV a b:=by
 cases a <;> cases b <;> first
  |exact absurd (show false=true from fa) k_
  |exact absurd (show false=true from fb) k_
  |exact absurd (show false=true from h) k_
  |exact z8
  |exact zE
  |exact Al
  |rfl
  |simp[gD,eV,i0]
def tZ(K:W.Frag)(neg:Bool):R2:=fun x y H Q=>∃(G:GH)(d1 d2:D),bn K G H/\RB K G H x d1/\RB K G H y d2/\cn 60 d1/\cn 60 d2/\Q (.bl (if neg then ! ky d1 d2 else ky d1 d2)) H
theorem Hz(hu:X.A.units+64<Xb):bx X (Vs .Eq) (tZ X.K false):=by intro pz s σ H x y v u Q I rx ry h;obtain⟨G,d1,d2,gk,r1,r2,s1,s2,q⟩:=h;obtain⟨as,h1⟩:=oZ I gk 60 d1 x v s1 r1 rx;obtain⟨bs,h2⟩:=oZ I gk 60 d2 y u s2 r2 ry;exact SeqAt.compareEq_shaped h1 h2 (uU s1) (uU s2) hu ⟨.bl _,H,I,rfl,q⟩
theorem HA(hu:X.A.units+64<Xb):bx X (Vs .NotEq) (tZ X.K true):=by intro pz s σ H x y v u Q I rx ry h;obtain⟨G,d1,d2,gk,r1,r2,s1,s2,q⟩:=h;obtain⟨as,h1⟩:=oZ I gk 60 d1 x v s1 r1 rx;obtain⟨bs,h2⟩:=oZ I gk 60 d2 y u s2 r2 ry;exact SeqAt.compareNe_shaped h1 h2 (uU s1) (uU s2) hu ⟨.bl _,H,I,rfl,q⟩
theorem eq_cases{a b:D}{c:Bool}(h:iF a b=some c):(om a b=true/\c=eV a b)\/(cn 60 a/\cn 60 b/\c=ky a b):=by
 unfold iF at h;split at h
 .rename_i hs;cases h;exact .inl ⟨hs,rfl⟩
 .split at h
  .rename_i hs;cases h;exact .inr ⟨hs.1,hs.2,rfl⟩
  .cases h
theorem DI{K:W.Frag}:dQ K (fun x y H Q=>Js x y H Q\/tZ K false x y H Q) eqD:=by intro G H v1 v2 d1 d2 d Q gk r1 r2 e q;unfold eqD at e;cases ec:iF d1 d2 with
|none=>rw[ec]at e;cases e
|some c=>
  rw[ec]at e;cases e;rcases eq_cases ec with⟨hs,rfl⟩|⟨s1,s2,rfl⟩
  .unfold om at hs;rw[Vr,Vr]at hs;obtain⟨e1,_⟩:=RB.flat r1 gk hs.1.1;obtain⟨e2,_⟩:=RB.flat r2 gk hs.1.2;refine .inl ⟨by rw[e1,e2];exact hs.2,?_⟩;rw[e1,e2,GC hs.2 hs.1.1 hs.1.2];exact q _ G H (Grow.refl gk) (.scl (.bl _))
  .exact .inr ⟨G,d1,d2,gk,r1,r2,s1,s2,q _ G H (Grow.refl gk) (.scl (.bl _))⟩
theorem Ec{K:W.Frag}:dQ K (fun x y H Q=>Jr x y H Q\/tZ K true x y H Q) neD:=by intro G H v1 v2 d1 d2 d Q gk r1 r2 e q;unfold neD at e;cases ec:iF d1 d2 with
|none=>rw[ec]at e;cases e
|some c=>
  rw[ec]at e;cases e;rcases eq_cases ec with⟨hs,rfl⟩|⟨s1,s2,rfl⟩
  .unfold om at hs;rw[Vr,Vr]at hs;obtain⟨e1,_⟩:=RB.flat r1 gk hs.1.1;obtain⟨e2,_⟩:=RB.flat r2 gk hs.1.2;refine .inl ⟨by rw[e1,e2];exact hs.2,?_⟩;rw[e1,e2,GC hs.2 hs.1.1 hs.1.2];exact q _ G H (Grow.refl gk) (.scl (.bl _))
  .exact .inr ⟨G,d1,d2,gk,r1,r2,s1,s2,q _ G H (Grow.refl gk) (.scl (.bl _))⟩
theorem hZ(hu:X.A.units+64<Xb)(ha:SB X g m a fa)(hb:SB X g m b fb):SE X g m (.Compare a [.Eq] [b] pos) (f2 fa fb eqD):=n5 (bx.or Eg (Hz hu)) DI ha hb (jC _)
theorem CP(hu:X.A.units+64<Xb)(ha:SB X g m a fa)(hb:SB X g m b fb):SE X g m (.Compare a [.NotEq] [b] pos) (f2 fa fb neD):=n5 (bx.or D6 (HA hu)) Ec ha hb (jC _)
theorem bP(hu:X.A.units+64<Xb)(ha:SB X g m a fa)(hb:SB X g m b fb):SQ X g m (.Compare a [.Eq] [b] pos) (aK (f2 fa fb eqD)):=kC (bx.or Eg (Hz hu)) DI ha hb (jC _)
theorem h9(hu:X.A.units+64<Xb)(ha:SB X g m a fa)(hb:SB X g m b fb):SQ X g m (.Compare a [.NotEq] [b] pos) (aK (f2 fa fb neD)):=kC (bx.or D6 (HA hu)) Ec ha hb (jC _)
def jA(fa fb fc:FE)(k k':D->D->Option D):FE:=fun r=>(fa r).bind fun x=>(fb r).bind fun y=>(cQ (k x y)).bind fun z=>(cQ (sA z)).bind fun c=>if c=true then(fc r).bind fun w=>cQ (k' y w)else .ok (.bl false)
def tm(K:W.Frag):R2:=fun x y H Q=>∃l b xs zs,x=.ref l/\y=.ref b/\bM K H l xs/\bM K H b zs/\xs.length+zs.length<=sizeLine/\∀p,H p=none->Q (.ref p) (aD H p (.lst (xs++zs)))
theorem Ae:bx X (Xa .Add) (tm X.K):=by
 intro pz s σ H x y v u Q I rx ry h;obtain⟨l,b,xs,zs,rfl,rfl,hH,hB,hz,q⟩:=h;cases rx;cases ry;obtain⟨its,r,pl,_⟩:=I.list hH;obtain⟨z,r2,ac,_⟩:=I.list hB;have l1:=r.length;have l2:=r2.length;obtain⟨⟨cls,dd,data,sl⟩,ho,hc,n,hd⟩:=pl.isList;obtain⟨⟨Cl,ad,BT,ld⟩,U,Z,n2,Y⟩:=ac.isList;simp only at hc hd Z Y;subst hc hd Z Y;have e:its.toArray++z.toArray=(its++z).toArray:=by simp
 refine Zg ⟨_,ho,rfl⟩ ⟨_,U,rfl⟩ noFill_list_add seq_list_add PySem.F.slot_list_add PySem.F.entry_list_add (PySem.F.args_list_add_2 _ _) (list_addW _ _ its.toArray z.toArray n n2 dd ad sl ld (by simp;omega)) ⟨ho,U,?_⟩;rw[e];exact⟨.ref _,_,I.lnew (t':=s.toks) (r.append r2) (by rw[U_];omega),rfl,q _ I.fresh⟩
def catL:D->D->Option D
|.lst a,.lst b=>if a.length+b.length<=sizeLine then some (.lst (a++b))else none
|_,_=>none
theorem Nu{K:W.Frag}:Dy K (tm K) catL:=by
 intro G H v1 v2 d1 d2 d Q gk r1 r2 e q;unfold catL at e;split at e
 .split at e
  .rename_i hl;cases e;obtain⟨a,xs,rfl,s1,t1⟩:=r1.lst gk;obtain⟨b,ys,rfl,s2,t2⟩:=r2.lst gk;have l1:=Paired.length t1;have l2:=Paired.length t2;exact⟨a,b,xs,ys,rfl,rfl,s1,s2,by omega,fun p hp=>q p G _ (Grow.new gk hp _) hp ⟨gk.isN hp,.lst bX (Paired.app t1 t2)⟩⟩
  .cases e
 .cases e
theorem sS(ha:SB X g m a fa)(hb:SB X g m b fb):SO X g m (.BinOp a .Add b pos) (f2 fa fb catL):=Mx Ae Nu ha hb
def addA:D->D->Option D
|.int a,.int b=>some (.int (a+b))
|.str a,.str b=>if a.length+b.length<=sizeLine then some (.str (a++b))else none
|.lst a,.lst b=>if a.length+b.length<=sizeLine then some (.lst (a++b))else none
|.tup (x::a),.tup b=>if (x::a).length+b.length<=sizeLine then some (.tup (x::a++b))else none
|_,_=>none
theorem FG{K:W.Frag}:dQ K (fun x y H Q=>(∃i j,x=.int i/\y=.int j/\Q (.int (i+j)) H)\/(∃i j,x=.str i/\y=.str j/\i.length+j.length<=sizeLine/\Q (.str (i++j)) H)\/tm K x y H Q\/yO K x y H Q) addA:=by
 intro G H v1 v2 d1 d2 d Q gk r1 r2 e q;unfold addA at e;split at e
 .cases e;exact .inl ⟨_,_,r1.int gk,r2.int gk,q _ G H (Grow.refl gk) (.scl (.int _))⟩
 .split at e
  .rename_i hl;cases e;exact .inr (.inl ⟨_,_,r1.str gk,r2.str gk,hl,q _ G H (Grow.refl gk) (.scl (.str _))⟩)
  .cases e
 .split at e
  .rename_i hl;cases e;obtain⟨a,xs,rfl,s1,t1⟩:=r1.lst gk;obtain⟨b,ys,rfl,s2,t2⟩:=r2.lst gk;have l1:=Paired.length t1;have l2:=Paired.length t2;exact .inr (.inr (.inl ⟨a,b,xs,ys,rfl,rfl,s1,s2,by omega,fun p hp=>q _ _ _ (Grow.newF gk hp (.lst (.inl bX) (Paired.app t1 t2))) (.ref gK)⟩))
  .cases e
 .split at e
  .rename_i x0 a0 b0 hl;cases e;rcases r1 with r1|⟨a',_,oo⟩
   .obtain⟨a,xs,rfl,s1,t1⟩:=r1.tup gk;obtain⟨b,ys,rfl,s2,t2⟩:=r2.tup gk;have l1:=Paired.length t1;have l2:=Paired.length t2;refine .inr (.inr (.inr ⟨a,b,xs,ys,rfl,rfl,s1,s2,?_,by omega,fun hy=>?_,fun _ p hp=>q _ _ _ (Grow.newF gk hp (.tup (.inl bX) (Paired.app t1 t2))) (.ref gK)⟩))
    .rintro rfl
     cases t1
    .subst hy;cases t2;refine q _ G H (Grow.refl gk) ?_;rw[Wg];exact r1
   .cases oo.ob
  .cases e
 .cases e
theorem eG(ha:SB X g m a fa)(hb:SB X g m b fb):SE X g m (.BinOp a .Add b pos) (f2 fa fb addA):=ma (bx.or E9 (bx.or HV (bx.or Ae Gg))) FG ha hb
end DL
end
namespace DL
open PySem PySem.Spec PyProof.Rows L2
structure DefAt(K:W.Frag)(mg:Str->Option a_)(x:Str)(st:Stmt):Prop where
 ex:∃f fd,mg x=some (.ref f)/\Fun K x x st f fd
structure Callee(P:E_)(w:T_)(K:W.Frag)(mg:Str->Option a_)(base:Heap)(x:Str)(ps:List Str)(ds:List a_)(k:Nat)(ro:Bool)(ms:List Md)(F:List D->Res D):Prop where
 ex:∃f fd,mg x=some (.ref f)/\W.keepIn K (.ref f)=true/\g6 K fd ps ds/\FnOk P w K mg base bZ k f fd ps (kx K ro ms F)
section
variable{P:E_}{w:T_}{K:W.Frag}{mg:Str->Option a_}{base:Heap}
theorem zK{x:Str}{st:Stmt}{N ps:List Str}{k:Nat}{ro:Bool}{ms:List Md}{fs:FS}{m':List Md}(A:DefAt K mg x st)(S:FnScope N ps (aa st))(U:ms.length=ps.length)(hb:∀(kV doc pm:a_)(an:Option Addr)(cdv ct:a_)(us:List a_),us.length=ps.length->Yc (W.fnOf x x (aJ st) (ay st) (aa st) .none kV doc pm an cdv ct) ⟨us,[]⟩=pure (ps.zip us))(z:∀(f:Addr)(cdv:a_)(A:Vu)(outer:List Env)(s:f_)(H:Hp)(g:GE)(E:XK),Room k (A.deeper (XS x (aa st) s.heap.objs.size f cdv)) ->fP (ba bZ P w K mg base N x (aa st) f cdv A outer s H E).nox g ro [] (iy N.length ms) (ay st) fs m'):Callee P w K mg base x ps [] (k+1) ro ms fun ds=>aH ro (fs (a9 N.length ds)):=by obtain⟨f,fd,h1,F⟩:=A.ex;exact⟨f,fd,h1,F.kp,F.binds hb,yX F S U (z f)⟩
structure DefAtD(K:W.Frag)(mg:Str->Option a_)(x:Str)(st:Stmt)(dds:List a_):Prop where
 ex:∃(f T:Addr)(o:Obj)(n:Nat)(oc:a_)(od:Option Addr)(kV doc pm:a_)(an:Option Addr)(cdv ct:a_)(osl:Array (Option a_)),mg x=some (.ref f)/\K.lookup T=some o/\o.data=.seq dds.toArray n/\K.lookup f=some ⟨oc,od,.func (W.fnOf x x (aJ st) (ay st) (aa st) (.ref T) kV doc pm an cdv ct),osl⟩/\W.codeIn K cdv x=true/\W.keepIn K (.ref f)=true
end
variable{X:Cx}{g:GE}{m:List Md}{e:Expr}{es:List Expr}{fl:ao->Res (List D)}{p pos:Pos}
section
variable{k:Nat}{ps:List Str}{F:List D->Res D}{dvs:List V}{ds:List a_}{dds:List D}{x:Str}{i:Nat}{ms ms':List Md}
theorem zD(c:Callee X.prog X.w X.K X.mg X.base x ps ds k false ms' F)(hr:Room k X.A)(ha:jt X g m (e::es) ms fl)(z:ms'=ms++L_ dds.length .sh:=by rfl)(hg:Gl X x:=by rfl)(hd:ar dvs ds:=by exact .nil)(Y:Paired Scl dvs dds:=by exact .nil)(U:(x==("__debug__" : Str))=false:=by decide)(he:i_ (e::es) X.env=(false,eval e X.env)::i_ es X.env:=by rfl)(Z:(backTo pos (i_ es X.env)).any (·.1)=false:=by rfl):SE X g m (.Call (.Name x p) (e::es) [] pos) (aF fl dds F):=by subst z;obtain⟨f,fd,h1,h2,h3,h4⟩:=c.ex;exact My h4 hr hg h1 h2 h3 hd Y ha U he Z
theorem v_(i:Nat)(hm:m[i]? = some .sh:=by rfl)(hN:X.N[i]? = some x:=by rfl)(hv:iG X.env.scope x:=by first|exact Or.inl rfl|exact Or.inr (Or.inl rfl)|exact Or.inr (Or.inr rfl))(hd:(x==("__debug__" : Str))=false:=by decide)(z:(x==("__classdict__" : Str))=false:=by decide):SE X g m (.Name x p) fun r=>cg r i:=K1 i hm hN hv hd z
theorem ah(i:Nat)(hm:i<m.length:=by decide)(hN:X.N[i]? = some x:=by rfl)(hv:iG X.env.scope x:=by first|exact Or.inl rfl|exact Or.inr (Or.inl rfl)|exact Or.inr (Or.inr rfl))(hd:(x==("__debug__" : Str))=false:=by decide)(z:(x==("__classdict__" : Str))=false:=by decide):SB X g m (.Name x p) fun r=>cg r i:=MF i hm hN hv hd z
end
def Fx(osc:X7)(ON:List Str)(sc:X7)(N':List Str)(nl:Nat)(cap:List Nat):Bool:=decide (sc.kind=.function)&&sc.names.all (fun y=>decide (y.2≠.cell))&&sc.names.all (fun y=>decide (y.2≠.local) || decide (sc.names.lookup y.1=some .local)) &&
 sc.names.all (fun y=>decide (y.2≠.free) || (decide (osc.names.lookup y.1=some .cell) || decide (osc.names.lookup y.1=some .free)))&&decide (N'.length=nl+cap.length) &&
 (e_ cap.length).all fun j=>match N'[nl+j]?,ON[cap.getD j 0]? with
 |some x,some y=>decide (x=y)&&decide (sc.names.lookup x=some .free)
 |_,_=>false
theorem dS{X:Cx}{osc:X7}{ON:List Str}{sc:X7}{N':List Str}{nl:Nat}{cap:List Nat}(h1:X.env.scope=osc)(h2:X.N=ON)(h:Fx osc ON sc N' nl cap=true):CompSc X sc N' nl cap:=by subst h1 h2;unfold Fx at h;simp only[Vr,Wl,decide_eq_true_eq,Bool.or_eq_true]at h;obtain⟨⟨⟨⟨⟨a1,a2⟩,a3⟩,a4⟩,a5⟩,a6⟩:=h;refine⟨a1,a2,fun y hy hl=>(a3 y hy).resolve_left fun z=>z hl,fun y hy hf=>(a4 y hy).resolve_left fun z=>z hf,a5,fun j hj=>?_⟩;have h6:=a6 j (r_.mpr hj);cases e1:N'[nl+j]? with
|none=>rw[e1]at h6;cases h6
|some x=>cases e2:X.N[cap.getD j 0]? with
 |none=>rw[e1,e2]at h6;cases h6
 |some y=>rw[e1,e2]at h6;simp only[Vr,decide_eq_true_eq]at h6;exact⟨x,rfl,by rw[h6.1],h6.2⟩
variable{mb:List Md}{a b:Expr}{f fa fb:FE}{pos':Pos}
section
variable{c:Expr}{fc:FE}
theorem HP{R R':R2}{k k':D->D->Option D}(ho:dQ X.K R k)(ho':dQ X.K R' k'){σ:L2.St}{H:Hp}{Q:VK}(h:tE X g m (jA fa fb fc k k') σ H Q):zQ R R' (tB X g m fa) (tB X g m fb) (tB X g m fc) σ H Q:=by obtain⟨r,G,si,q⟩:=h;refine kY si q fun d1 d2 v1 v2 G2 H2 w r1 r2 q2=>?_;obtain⟨z,ez,q3⟩:=cX (bJ q2);obtain⟨cc,ec,q4⟩:=cX (bJ q3);refine ho G2 H2 v1 v2 d1 d2 z _ w.ok r1 r2 ez fun v G3 H3 w3 rv=>?_;cases z with
|bl b'=>cases ec;refine⟨_,rv.bl w3.ok,?_⟩;cases cc with
 |false=>rw[if_neg k_]at q4 ⊢;exact q4 _ G3 H3 (w.trans w3) (.scl (.bl _))
 |true=>rw[if_pos rfl]at q4 ⊢;refine⟨r,G3,(si.grow w).grow w3,gX (bJ q4) (w.trans w3) fun d3 q5 v3 G4 H4 w4 r3=>?_⟩;obtain⟨d,e,q6⟩:=cX q5;exact ho' G4 H4 v2 v3 d2 d3 d Q w4.ok ((r2.mono w3).mono w4) r3 e fun v G' H' w' z=>q6 v G' H' (((w.trans w3).trans w4).trans w') z
|_=>cases ec
theorem Ny{σ:L2.St}{H:Hp}{Q:Bool->Hp->Prop}(h:tQ X g m (aK f) σ H Q):tE X g m f σ H fun x H'=>∃k,x=.bl k/\Q k H':=by obtain⟨r,G,si,q⟩:=h;refine⟨r,G,si,bG (bJ q) fun d q1 v G' H' w rv=>?_⟩;obtain⟨b,e,q2⟩:=cX q1;cases d with
|bl b'=>cases e;exact⟨_,rv.bl w.ok,q2 G' H' w⟩
|_=>cases e
theorem OQ{op z:Qaf}{R R':R2}{k k':D->D->Option D}(hr:bx X (Vs op) R)(U:bx X (Vs z) R')(ho:dQ X.K R k)(ho':dQ X.K R' k')(ha:SB X g m a fa)(hb:SB X g m b fb)(hc:SB X g m c fc)(hm:Qav [op,z] [b,c]=false:=by with_unfolding_all rfl):SE X g m (.Compare a [op,z] [b,c] pos) (jA fa fb fc k k'):=PE.imp (O7 hr U ha hb hc hm) fun σ H Q h=>HP ho ho' h
theorem Pj{op z:Qaf}{R R':R2}{k k':D->D->Option D}(hr:bx X (Vs op) R)(U:bx X (Vs z) R')(ho:dQ X.K R k)(ho':dQ X.K R' k')(ha:SB X g m a fa)(hb:SB X g m b fb)(hc:SB X g m c fc)(hm:Qav [op,z] [b,c]=false:=by with_unfolding_all rfl):SQ X g m (.Compare a [op,z] [b,c] pos) (aK (jA fa fb fc k k')):=PT.imp (Pf hr U ha hb hc hm) fun σ H Q h=>HP ho ho' (Ny h)
theorem Ef{K:W.Frag}:dQ K (jO fun i j=>V.bl (decide (i<j))) fH:=lH fun _ _=>.bl _
theorem Ee{K:W.Frag}:dQ K (jO fun i j=>V.bl (decide (i<=j))) lj:=lH fun _ _=>.bl _
end
theorem JZ{K:W.Frag}{h:Heap}{mg:Str->Option a_}{x:Str}{st:Stmt}(KX:K.In h)(G:h.Ns Vv mg){f:Addr}{oc:a_}{od an:Option Addr}{osl:Array (Option a_)}{kV doc pm cdv ct:a_}(a:W.nsIn K Vv x=some (some (.ref f)))(l:K.lookup f=some ⟨oc,od,.func (W.fnOf x x (aJ st) (ay st) (aa st) .none kV doc pm an cdv ct),osl⟩)(c:W.codeIn K cdv x=true)(k:W.keepIn K (.ref f)=true):DefAt K mg x st:=⟨f,_,W.mg_of KX G a,cN l c k⟩
theorem DH{K:W.Frag}{h:Heap}{mg:Str->Option a_}{x:Str}{st:Stmt}{dds:List a_}(KX:K.In h)(G:h.Ns Vv mg){f T:Addr}{oc tc:a_}{od an td:Option Addr}{osl z:Array (Option a_)}{n:Nat}{kV doc pm cdv ct:a_}(a:W.nsIn K Vv x=some (some (.ref f)))(l:K.lookup f=some ⟨oc,od,.func (W.fnOf x x (aJ st) (ay st) (aa st) (.ref T) kV doc pm an cdv ct),osl⟩)(t:K.lookup T=some ⟨tc,td,.seq dds.toArray n,z⟩)(c:W.codeIn K cdv x=true)(k:W.keepIn K (.ref f)=true):DefAtD K mg x st dds:=⟨f,T,_,n,oc,od,kV,doc,pm,an,cdv,ct,osl,W.mg_of KX G a,t,rfl,l,c,k⟩
theorem J2{P:E_}{w:T_}{K:W.Frag}{mg:Str->Option a_}{x p:Str}{st:Stmt}{k:Nat}{F:List D->Res D}{fa:Addr}(z:mg x=some (.ref fa))(A:DefAt K mg x st)(hb:∀(kV doc pm:a_)(an:Option Addr)(cdv ct:a_)(us:List a_),us.length=[p].length->Yc (W.fnOf x x (aJ st) (ay st) (aa st) .none kV doc pm an cdv ct) ⟨us,[]⟩=pure ([p].zip us))(C:∀(f:Addr)(fd:VV),Fun K x x st f fd->∀base:Heap,FnOk P w K mg base bZ k f fd [p] (kx K false [.sh] F)):∃fd:VV,(∀(s:f_)(u:a_),Qai s fd ⟨[u],[]⟩ [(p,u)])/\∀base:Heap,K.In base->base.Ns Vv mg->FnOk P w K mg base bZ k fa fd [p] (kx K false [.sh] F):=by obtain⟨f,fd,h1,Fn⟩:=A.ex;rw[z]at h1;cases h1;refine⟨fd,fun s u=>?_,fun base _ _=>C fa fd Fn base⟩;obtain⟨oc,od,kV,doc,pm,an,cdv,ct,osl,rfl,lk,U⟩:=Fn.ex;exact .of_eq (hb kV doc pm an cdv ct [u] rfl)
theorem Kn{l:W.OpenLaw}{k:Nat}{q:E_}{Z:List Str}{XP:(Str->Option a_)->Heap->Prop}{YP:T_->Heap->Prop}{d:DefRec}{K:Params->W.Frag}{x:Str}{F:List D->Res D}(hn:l.most=some 63)(ac:d.params.defaults=[])(hr:Room k Zp)(hY:∀(w:T_)(h:Heap),YP w h->(K w.params).In h)(hF:∀ns:List Int,ns.length<=63->F [.lst (ns.map .int)]=.ok (.bl true))(C:∀(w:T_)(mg:Str->Option a_)(fa:Addr)(h:Heap),(K w.params).In h->h.Ns Vv mg->mg d.name=some (.ref fa) ->∃fd:VV,(∀(s:f_)(u:a_),Qai s fd ⟨[u],[]⟩ [(x,u)])/\∀base:Heap,(K w.params).In base->base.Ns Vv mg->FnOk l.prog w (K w.params) mg base bZ k fa fd [x] (kx (K w.params) false [.sh] F)):W.WalkO q Z XP YP l.row.toRowW d [] (fun f vs=>QaY f vs):=by
 refine L2.kR (n:=63) (k:=k) (x:=x) (CX:=fun _=>bZ) (sp:=fun w=>kx (K w.params) false [.sh] F) hn (by decide) ac hr hY C (fun w H a ns hl hO hS=>?_) fun _ _ _ _ _ z=>z;have U:∀(l:List Int),Paired Scl (l.map V.int) (l.map D.int):=fun l=>by induction l with
 |nil=>exact .nil
 |cons i l ih=>exact .cons (.int i) ih
 rcases hS with hS|hS
 .refine⟨fun b=>if b=a then some (.lst (ns.map D.int))else none,[.lst (ns.map .int)],fun b d' hb=>?_,.sh (.ref (if_pos rfl)) .nil,?_⟩
  .by_cases e:b=a
   .subst e;have Y:some (D.lst (ns.map D.int))=some d':=(if_pos rfl).symm.trans hb;cases Y;exact .lst hS (Paired.mono (fun _ _ z=>.scl z) (U ns))
   .have Y:(none:Option D)=some d':=(if_neg e).symm.trans hb;cases Y
  .rw[hF ns hl];intro v G' H' w' rv;exact rv.bl w'.ok
 .refine⟨fun _=>none,[.lst (ns.map .int)],fun b d' hb=>(by cases hb),.sh (.kc (.lst (.inr hS) (U ns))) .nil,?_⟩;rw[hF ns hl];intro v G' H' w' rv;exact rv.bl w'.ok
section
open AutoSeq1 (wpAny_loadPart')
section
variable{prog:E_}{w:T_}{A:Vu}{E:a_->f_->Prop}{s:f_}
theorem Su{it t:Addr}{i:Nat}{items}{x:a_}{Q:a_->f_->Prop}(hit:s.heap.IsTupleIter it t i)(ht:s.heap.IsTuple t items)(hx:items[i]? = some x)(hQ:∀h',h'.IsTupleIter it t (i+1)->YB it s.heap h'->Q x { s with heap:=h' }):u_ (D_ prog w) A (VH (.ref it)) Q E s:=by
 obtain⟨o,ho,hc,hd⟩:=id hit;obtain⟨ol,hol,_,nl,hdl⟩:=ht;unfold VH;refine b_ (V7 (name:=K_ "__next__") hit.typeIs F.slot_tuple_iterator_next
  (Xc F.slot_tuple_iterator_next hit.typeIs F.entry_tuple_iterator_next ?_ (F.args_tuple_iterator_next_1 _)))
 show u_ _ _ (Qa1 (.ref it) 0 >>= _) _ _ s;refine b_ (VD ho hd (x:=.ref t) rfl ?_);show u_ _ _ (if (Value.ref t==Value.none)=true then _ else _) _ _ s;rw[if_neg (show ¬ ((Value.ref t==Value.none)=true)from k_)];show u_ _ _ (Qa1 (.ref it) 1 >>= _) _ _ s;refine b_ (VD ho hd (x:=.int i 0) rfl ?_);show u_ _ _ (seqItems? (.ref t) >>= _) _ _ s;refine b_ (WR hol hdl ?_);simp only[WX,hx];refine b_ (Xe ho hd (by simp) (o_ ⟨x,rfl,o_ (hQ _ ?_ (ZX ..))⟩));exact⟨_,VO _ ho (Obj.isFreed_of_fields (Z_ hd _)),(Obj.cls_mapFields ..).trans hc,by rw[Z_ hd];simp[Yb]⟩
theorem Si{it t:Addr}{i:Nat}{items}{Q:a_->f_->Prop}(hh:A.handled=none)(hit:s.heap.IsTupleIter it t i)(ht:s.heap.IsTuple t items)(hx:items[i]? = none)(hE:∀h' e,Heap.ExtBut it s.heap h'->(∃o,h'.get? e=some o/\o.cls=.type "StopIteration")->E (.ref e) { s with heap:=h' }):u_ (D_ prog w) A (VH (.ref it)) Q E s:=by
 obtain⟨o,ho,hc,hd⟩:=id hit;obtain⟨ol,hol,_,nl,hdl⟩:=ht;unfold VH;refine b_ (V7 (name:=K_ "__next__") hit.typeIs F.slot_tuple_iterator_next
  (Xc F.slot_tuple_iterator_next hit.typeIs F.entry_tuple_iterator_next ?_ (F.args_tuple_iterator_next_1 _)))
 show u_ _ _ (Qa1 (.ref it) 0 >>= _) _ _ s;refine b_ (VD ho hd (x:=.ref t) rfl ?_);show u_ _ _ (if (Value.ref t==Value.none)=true then _ else _) _ _ s;rw[if_neg (show ¬ ((Value.ref t==Value.none)=true)from k_)];show u_ _ _ (Qa1 (.ref it) 1 >>= _) _ _ s;refine b_ (VD ho hd (x:=.int i 0) rfl ?_);show u_ _ _ (seqItems? (.ref t) >>= _) _ _ s;refine b_ (WR hol hdl ?_);simp only[WX,hx];refine b_ (Qaa (b_ (Xe ho hd (by simp) ?_)));show u_ _ _ (newExc (.type "StopIteration") [] >>= _) _ _ _;refine b_ ?_;simp only[newExc,newTuple];refine b_ (Wb ?_ (by size_fits));refine b_ (m:=firstArgMember _ _) (wpAny_of_eq (a:=Value.none) (by first|rfl|(simp only[firstArgMember];rfl)) ?_);refine Wb ?_ (by size_fits);simp only[raiseNew];refine b_ (wpAny_handled ?_)
 first|rw[show A.in1.handled=none from hh]|rw[hh]
 refine b_ (o_ (wpAny_throw ?_));exact hE _ _ (((ZX ..).extBut.push _).push _) ⟨_,z_ _ rfl,rfl⟩
end
theorem KW{prog:E_}{w:T_}{A:Vu}(hh:A.handled=none)(it l:Addr)(hne:l≠it)(items:Array a_):Z4 prog w A it [it,l] items.size (fun i v=>items[i]? = some v) (fun i h=>h.IsTupleIter it l i/\h.IsTuple l items) where
 live:=fun _ _ st=>let⟨o,ho,_⟩:=st.1;⟨o,ho⟩
 frame:=fun _ _ _ st hk=>⟨let⟨o,ho,r⟩:=st.1;⟨o,hk it (by simp) o ho,r⟩,let⟨o,ho,r⟩:=st.2;⟨o,hk l (by simp) o ho,r⟩⟩
 item:=fun i s Q E hi st hQ=>by refine Su st.1 st.2 (x:=items[i]) (by simp[hi]) fun h' hit' z=>?_;exact hQ _ h' s.toks (by simp[hi]) ⟨hit',st.2.extBut z.extBut hne⟩ z
 done:=fun s Q E st hE=>Si hh st.1 st.2 (by simp) hE
theorem So(l:Addr)(items:Array a_)(n:Nat)(z:Option Addr)(sl:Array (Option a_)) :
  Meets (YD.«enumerate.__new__» ⟨[.type "enumerate",.ref l],[]⟩) (fun _ R s=>s.heap.get? l=some { cls:=.type "tuple",dict:=z,data:=.seq items n,slots:=sl } /\
   R (.ok (.ret (.ref (s.heap.push { cls:=.type "tuple_iterator",data:=.fields #[.ref l,.int 0 0] }).objs.size)))
    { s with heap:=(s.heap.push { cls:=.type "tuple_iterator",data:=.fields #[.ref l,.int 0 0] }).push { cls:=.type "enumerate",data:=.fields #[.none,.bool false,.ref s.heap.objs.size,Yb 0,.none,.none] } }):=
 .of_wp fun prog w A R s h=>by
  obtain⟨hp,g,d,tk,os⟩:=s;obtain⟨hl,h⟩:=h;have U:=sub_enumerate;have hL:Heap.IsTuple (QaG ⟨hp,g,d,tk,os⟩) l items:=⟨_,hl,rfl,n,rfl⟩
  wp_walk using X1 hl
  refine wpAny_stack_any fun st=>o_ ?_;split
  .rename_i c _ _ _ _ _;cases(c==Value.type "enumerate")
   .wp_walk using X1 hl,Wk hL
    exact⟨_,rfl,h⟩
   .wp_walk using X1 hl,Wk hL
    exact⟨_,rfl,h⟩
  .wp_walk using X1 hl,Wk hL
   exact⟨_,rfl,h⟩
section
variable{prog:E_}{w:T_}{A:Vu}{E:a_->f_->Prop}{s:f_}
theorem Sr{l:Addr}{items:Array a_}{Q:a_->f_->Prop}(hL:s.heap.IsTuple l items)(h:∀h',IsEnum h' (s.heap.objs.size+1) s.heap.objs.size 0 .none->h'.IsTupleIter s.heap.objs.size l 0->h'.objs.size=s.heap.objs.size+2 ->(∀b o,s.heap.get? b=some o->h'.get? b=some o)->Q (.ref (s.heap.objs.size+1)) { s with heap:=h' }):u_ (D_ prog w) A (call (.type "enumerate") [.ref l]) Q E s:=by
 obtain⟨⟨c,z,dt,sl⟩,hl,hc,n,hd⟩:=hL;replace hc:c=.type "tuple" := hc;replace hd:dt=.seq items n:=hd;subst hc hd;refine callType_new F.called_enumerate (by decide) (F.typeCall_enumerate_1 _) (F.newCall_enumerate_1 _) (fun obj=>F.args_object_init_2 obj _) F.entry_enumerate_new
  (So l items n z sl) ⟨hl,?_⟩
 have hz:(s.heap.push { cls:=.type "tuple_iterator",data:=.fields #[.ref l,.int 0 0] }).objs.size=s.heap.objs.size+1:=VU ..;show _/\_;rw[hz];have he:IsEnum ((s.heap.push { cls:=.type "tuple_iterator",data:=.fields #[.ref l,.int 0 0] }).push
   { cls:=.type "enumerate",data:=.fields #[.none,.bool false,.ref s.heap.objs.size,Yb 0,.none,.none] }) (s.heap.objs.size+1) s.heap.objs.size 0 .none:=by
  have:=z_ (s.heap.push { cls:=.type "tuple_iterator",data:=.fields #[.ref l,.int 0 0] })
   (o:={ cls:=.type "enumerate",data:=.fields #[.none,.bool false,.ref s.heap.objs.size,Yb 0,.none,.none] }) rfl
  rw[hz]at this;exact this
 refine⟨⟨_,he,rfl⟩,h _ he ⟨_,c_ _ (z_ _ rfl),rfl,rfl⟩ (by rw[VU,hz]) fun b o x=>c_ _ (c_ _ x)⟩
end
theorem GQ{X:Cx}{pz:List (Addr×Obj)}{σ:L2.St}{H:Hp}{s:f_}{h':Heap}{ch:List Addr}{T:Addr}{o:HO}{t':Nat}(I:Inv X pz σ H s)(Y:∀b∈ch,dC X pz H b)(k:∀b ob,b∉ch->s.heap.get? b=some ob->h'.get? b=some ob)(hT:s.heap.objs.size<=T)(new:cp X.prog X.w (aD H T o) h' T o):Inv X pz σ (aD H T o) { s with heap:=h',toks:=t' }:=by
 have Z:H T=none:=I.hok.fresh hT;have trk:∀b u,H b=some u->b∉ch:=fun b u e hb=>by rw[(Y b hb).1]at e;cases e
 have ac:∀b ob,s.heap.get? b=some ob->b≠T:=fun b ob e=>J_ (I_ (y_ e) hT);have U:∀b u,H b=some u->aD H T o b=some u:=fun b u e=>by rw[bg (lN e Z)];exact e
 refine I.step (g':=s.gens) (d':=s.drawn) (ch:=ch) (fun b hb=>?_) (fun b ob _ _ hc e _=>k b ob hc e) (fun b ob _ _ hc e _=>⟨ob.slots,k b ob hc e⟩) (fun b ob hc e n=>by rw[bg (ac b ob e)];exact n)
  (fun b ob hc e=>⟨ob,k b ob hc e⟩) (fun b xs e=>U b _ e) (fun b ob u e=>U b _ e) (fun b ps e=>⟨#[],by rw[U b _ e];simp⟩) (fun m hm=>?_) (fun b u e=>?_) I.bare
 .obtain⟨z0,z1,z2,z3,z4,z5⟩:=Y b hb;exact⟨z3,z1,z4,z5⟩
 .obtain⟨ob,es,ep,ho,r⟩:=hm;exact⟨ob,es,ep,k _ ob (fun hb=>(Y _ hb).2.1 rfl) ho,r⟩
 .by_cases hb:b=T
  .subst hb;rw[bX]at e;cases e;exact new
  .rw[bg hb]at e;refine(I.hok b u e).stay (fun c v hc q=>k c v ?_ q) (fun c q=>U c _ q) fun c xs q=>U c _ q;rcases hc with z|z
   .rw[z];exact trk b u e
   .exact trk c _ z
def nU(sq:Hp->List V->Prop):It:=⟨fun i H=>∃xs x,sq H xs/\xs[i]? = some x,fun i H x H'=>∃p v,H p=none/\x=.ref p/\H'=aD H p (.tup [.int i,v])/\∀xs,sq H xs->xs[i]? = some v,fun i H=>∃xs,sq H xs/\xs.length=i⟩
theorem M6{P:E_}{w:T_}{H:Hp}{h:Heap}{T:Addr}{i:Nat}{tk:Tok}{x:a_}{v:V}(hT:h.get? T=some { cls:=.type "tuple",data:=.seq #[.int i tk,x] })(r:L2.aE v x):cp P w H h T (.tup [.int i,v]):=⟨by show 2<=sizeLine;decide,[.int i tk,x],.cons ⟨tk,rfl⟩ (.cons r .nil),⟨_,hT,rfl,0,rfl⟩,_,hT,rfl⟩
def fO(K:W.Frag)(t:Bool)(a:Addr)(H:Hp)(xs:List V):Prop:=match t with
|false=>bM K H a xs
|true=>cJ K H a xs
def ll(t:Bool)(a u:Addr)(i:Nat)(h:Heap):Prop:=match t with
|false=>h.IsListIter u a i
|true=>h.IsTupleIter u a i
def lT(t:Bool)(a:Addr)(xs:Array a_)(h:Heap):Prop:=match t with
|false=>h.IsList a xs
|true=>h.IsTuple a xs
theorem oR{t:Bool}{a u:Addr}{i:Nat}{h:Heap}(e:ll t a u i h):∃o,h.get? u=some o/\∀v,o.data≠.cell v:=by cases t <;> (obtain⟨o,ho,hc,hd⟩:=e;exact⟨o,ho,fun v z=>by rw[hd]at z;cases z⟩)
theorem oY{t:Bool}{a u:Addr}{i:Nat}{h h':Heap}(e:ll t a u i h)(k:∀o,h.get? u=some o->h'.get? u=some o):ll t a u i h':=by cases t <;> (obtain⟨o,ho,r⟩:=e;exact⟨o,k o ho,r⟩)
theorem Ow{t:Bool}{a:Addr}{xs:Array a_}{h h':Heap}(e:lT t a xs h)(k:∀o,h.get? a=some o->h'.get? a=some o):lT t a xs h':=by cases t <;> (obtain⟨o,ho,r⟩:=e;exact⟨o,k o ho,r⟩)
section
variable{X:Cx}{pz:List (Addr×Obj)}{σ:L2.St}{H:Hp}{s:f_}{t:Bool}{a u:Addr}{xs ys:List V}{i:Nat}
theorem tw(I:Inv X pz σ H s)(hq:fO X.K t a H xs):∃its:List a_,ar xs its/\lT t a its.toArray s.heap:=by cases t with
|false=>obtain⟨its,rv,p,hz⟩:=I.list hq;exact⟨its,rv,p.isList⟩
|true=>obtain⟨its,rv,p,hz⟩:=I.tuple hq;exact⟨its,rv,p⟩
theorem og(I:Inv X pz σ H s)(hc:X.calm=true)(hq:fO X.K t a H xs)(z:a≠u)(hi:ll t a u i s.heap):∃(its:List a_)(St:Nat->Heap->Prop),ar xs its/\Z4 X.prog X.w X.A.in1 u [u,a] its.toArray.size (fun i v=>its.toArray[i]? = some v) St/\St i s.heap/\∀j h',St j h'->ll t a u j h':=by obtain⟨its,rv,p⟩:=tw I hq;have hh:X.A.in1.handled=none:=I.ok.hd hc;cases t with
|false=>exact⟨its,_,rv,Draws.list hh u a z its.toArray,⟨hi,p⟩,fun j h' st=>st.1⟩
|true=>exact⟨its,_,rv,KW hh u a z its.toArray,⟨hi,p⟩,fun j h' st=>st.1⟩
theorem Ak(I:Inv X pz σ H s)(h1:fO X.K t a H xs)(h2:fO X.K t a H ys):xs=ys:=by cases t with
|false=>exact I.list_inj h1 h2
|true=>exact I.tuple_inj h1 h2
theorem pb(I:Inv X pz σ H s)(h1:fO X.K t a H xs):a<s.heap.objs.size:=by obtain⟨its,rv,p⟩:=tw I h1;cases t <;> (obtain⟨o,ho,_⟩:=p;exact y_ ho)
end
theorem HB{P:E_}{w:T_}{K:W.Frag}{elts:List Expr}{k:Nat}{pos:Pos}{t:Bool}(a it e:Addr)(Y:e≠it)(Z:a≠it)(KK:e≠a):Turn P w K (.Tuple elts k pos) (nU (fO K t a)) [e,it] e (fun i h=>(∃old,IsEnum h e it i old)/\ll t a it i h) where
 mem:=by simp
 obj:=fun i h st b hb=>by
  obtain⟨⟨old,he⟩,hi⟩:=st;rcases m_.mp hb with rfl|hb
  .exact⟨_,he,fun v z=>by have z':Data.fields _=Data.cell v:=z;cases z'⟩
  .rw[Vp.mp hb];exact oR hi
 keep:=fun i h h' st kk=>by obtain⟨⟨old,he⟩,hi⟩:=st;exact⟨⟨old,kk e (by simp) _ he⟩,oY hi fun o q=>kk it (by simp) o q⟩
 item:=by
  intro X hP hw hK hc i pz s σ H E I hf st hg;subst hP hw hK;obtain⟨xs,x,hq,hx⟩:=hg;obtain⟨⟨old,he⟩,hi⟩:=st;obtain⟨its,St,rv,D1,d1,f1⟩:=og I hc hq Z hi;obtain⟨o1,Id,_⟩:=oR hi;have hlt:i<its.toArray.size:=by have:=(j_.mp hx).1;rw[q_,<-rv.length];exact this
  refine wpAny_pyNext_enum_itemD D1 he d1 hlt Y (by simp[Y,KK]) fun y h' tk hP ho IO hT hsz hk=>?_;refine⟨_,rfl,wpAny_letOwnedTupleGo_enum ho fun ac BT U=>?_⟩;obtain⟨u,hu,ru⟩:=rv.get hx;have hy:y=u:=by
   have:its[i]? = some y:=by simpa using hP
   rw[hu]at this;exact(B_ this).symm
  subst hy;have Cl:s.heap.objs.size≠e:=Wn (y_ he);have ld:ac.get? s.heap.objs.size=some { cls:=.type "tuple",data:=.seq #[.int i tk,y] }:=(U.2 _ Cl).trans hT;refine⟨.ref s.heap.objs.size,aD H s.heap.objs.size (.tup [.int i,x]),GQ (s:=s) (h':=ac) (t':=tk+1) (ch:=[e,it]) I hf (fun b ob hb q=>?_) (w_ _) (M6 ld ru),rfl,⟨_,x,I.hok.fresh (w_ _),rfl,rfl,fun ys hy=>by rw[Ak I hy hq];exact hx⟩,⟨⟨_,by simpa using BT⟩,oY (f1 _ _ IO) fun o q=>(U.2 _ (Xt Y)).trans q⟩,fun b hb=>?_⟩
  .have ad:b≠e:=fun z=>hb (by simp[z]);exact(U.2 b ad).trans (hk b ob ad (fun z=>hb (by simp[z])) q)
  .rw[bg ?_]
   .exact(hf b hb).1
   .rcases m_.mp hb with rfl|hb
    .exact J_ (y_ he)
    .rw[Vp.mp hb];exact J_ (y_ Id)
 done:=by
  intro X hP hw hK hc i pz s σ H E I hf st hg;subst hP hw hK;obtain⟨xs,hq,hx⟩:=hg;obtain⟨⟨old,he⟩,hi⟩:=st;obtain⟨its,St,rv,D1,d1,f1⟩:=og I hc hq Z hi;obtain⟨f0,f1,f2,f3,f4,f5⟩:=hf it (by simp);have hn:its.toArray.size=i:=by rw[q_,<-rv.length];exact hx
  exact wpAny_pyNext_enum_endD D1 he (by rw[hn];exact d1) fun h' eb=>⟨rfl,I.turned (t':=s.toks) (fun b o hb q=>eb b o hb q) f0 f1 f3 f4 f5⟩
 self:=fun _ _ _ _ _ st h=>let⟨⟨_,he⟩,_⟩:=st;YZ he h
end
def kS:D->Option String
|.non=>some "NoneType"
|.bl _=>some "bool"
|.int _=>some "int"
|.str _=>some "str"
|.tup _=>some "tuple"
|.lst _=>some "list"
|.dic _=>some "dict"
|.obj _ _=>none
def fw(t T:String):Bool:=t==T || (t == "bool" && T == "int")
def ij(T:String)(d:D):Option D:=(kS d).map fun t=>.bl (fw t T)
def Jx(K:W.Frag)(x:V)(H:Hp)(t:String):Prop:=match x with
|.non=>t = "NoneType"
|.bl _=>t = "bool"
|.int _=>t = "int"
|.str _=>t = "str"
|.ref p=>(t = "list"/\∃xs,bM K H p xs)\/(t = "tuple"/\∃xs,cJ K H p xs)\/(t = "dict"/\∃kvs,Rd H p (.dK kvs))
|_=>False
theorem Me{K:W.Frag}{G:GH}{H:Hp}{v:V}{d:D}{t:String}(gk:bn K G H)(h:RB K G H v d)(e:kS d=some t):Jx K v H t:=by cases d with
|non=>cases e;rw[h.non gk];rfl
|bl b=>cases e;rw[h.bl gk];rfl
|int i=>cases e;rw[h.int gk];rfl
|str x=>cases e;rw[h.str gk];rfl
|tup ds=>cases e;obtain⟨a,xs,rfl,s,r⟩:=h.tup gk;exact .inr (.inl ⟨rfl,xs,s⟩)
|lst ds=>cases e;obtain⟨a,xs,rfl,s,r⟩:=h.lst gk;exact .inl ⟨rfl,xs,s⟩
|dic ds=>cases e;obtain⟨a,xs,rfl,s,r⟩:=h.dic gk;exact .inr (.inr ⟨rfl,xs,s⟩)
|obj _ _=>cases e
variable{p2:Pos}
theorem Oa:eY X (.builtin "isinstance") (fun xs H Q=>∃x t T b,xs=[x,.ty T]/\Jx X.K x H t/\W.kitOne X.K (.type t) (.type T)=some b/\Q (.bl b) H):=by
 intro pz s σ H xs us Q I r h;obtain⟨x,t,T,b,rfl,ty,e,q⟩:=h;obtain⟨u,w',rfl,rx,ry⟩:=tf r;cases ry;have fin:∀tk,EP X pz σ Q (.bool b) { s with toks:=tk }:=fun tk=>⟨.bl b,H,I.tok tk,rfl,q⟩
 cases x with
|non=>cases rx;cases(show t = "NoneType" from ty);exact W.kia_one W.kitx_none I.kIn True.intro e (fun z=>nomatch z) fin
|bl y=>cases rx;cases(show t = "bool" from ty);exact W.kia_one W.kitx_bool I.kIn True.intro e (fun z=>nomatch z) fin
|int i=>obtain⟨t,rfl⟩:=rx;cases ty;exact W.kia_one W.kitx_int I.kIn True.intro e (fun z=>nomatch z) fin
|str i=>obtain⟨t,rfl⟩:=rx;cases ty;exact W.kia_one W.kitx_str I.kIn True.intro e (fun z=>nomatch z) fin
|ref p=>
  cases rx;rcases ty with⟨rfl,xs,hq⟩|⟨rfl,xs,hq⟩|⟨rfl,kvs,hq⟩
  .obtain⟨its,_,pl,_⟩:=I.list hq;obtain⟨o,ho,hc,_⟩:=pl.isList;exact W.kia_one W.kitx_list I.kIn ⟨o,ho,hc⟩ e (fun z=>nomatch z) fin
  .obtain⟨its,_,pl,_⟩:=I.tuple hq;obtain⟨o,ho,hc,_⟩:=pl;exact W.kia_one W.kitx_tuple I.kIn ⟨o,ho,hc⟩ e (fun z=>nomatch z) fin
  .obtain⟨_,_,vs,_,pp⟩:=(show cp X.prog X.w H s.heap p (.dK kvs)from hq.ok I.hok)
   obtain⟨o,es,ep,h1,h2,_⟩:=pp;exact W.kia_one W.kitx_dict I.kIn ⟨o,h1,h2.1⟩ e (fun z=>nomatch z) fin
|_=>exact(show False from ty).elim
theorem pX(x:Str)(T:String)(hv:XB x=some (.type T))(hk:∀(d:D)(t:String),kS d=some t->W.kitOne X.K (.type t) (.type T)=some (fw t T))(hg:Gl X "isinstance")(hm:X.mg "isinstance" = none)(U:Gl X x)(z:X.mg x=none)(he:SB X g m e f)(hn:x≠"__name__" := by decide)(hd:(x==("__debug__" : Str))=false:=by decide)(hs1:i_ [e,.Name x p2] X.env=(false,eval e X.env)::i_ [.Name x p2] X.env:=by rfl)(Y:i_ [.Name x p2] X.env=(false,eval (.Name x p2) X.env)::i_ [] X.env:=by rfl)(Z:(backTo pos (i_ [.Name x p2] X.env)).any (·.1)=false:=by rfl):SE X g m (.Call (.Name "isinstance" p) [e,.Name x p2] [] pos) (f1 f (ij T)):=by
 refine PE.imp (kJ Oa hg hm (by first|exact Yy|rfl) (gJ he (gJ (NZ (v:=.ty T) U z hv rfl hn hd) jk Y) hs1) (by decide) (by decide) hs1 Z) fun σ H Q ⟨r,G,si,q⟩=>⟨r,G,si,bG (bJ q) fun d q1 v G1 H1 w1 r1=>?_⟩
 obtain⟨d',e',q2⟩:=cX q1;unfold ij at e';cases et:kS d with
|none=>rw[et]at e';cases e'
|some t=>rw[et]at e';cases e';exact⟨v,t,T,_,rfl,Me w1.ok r1 et,hk d t et,q2 _ G1 H1 w1 (.scl (.bl _))⟩
theorem uZ{d:D}{t:String}(h:kS d=some t){P:String->Prop}(h1:P "NoneType")(h2:P "bool")(h3:P "int")(h4:P "str")(h5:P "tuple")(h6:P "list")(h7:P "dict"):P t:=by cases d <;> cases h <;> assumption
theorem Nm(K:W.Frag)(d:D)(t:String)(h:kS d=some t):W.kitOne K (.type t) (.type "int")=some (fw t "int"):=uZ (P:=fun t=>W.kitOne K (.type t) (.type "int")=some (fw t "int")) h (by kernel_rfl) (by kernel_rfl) (by kernel_rfl) (by kernel_rfl) (by kernel_rfl) (by kernel_rfl) (by kernel_rfl)
theorem GR(K:W.Frag)(d:D)(t:String)(h:kS d=some t):W.kitOne K (.type t) (.type "bool")=some (fw t "bool"):=uZ (P:=fun t=>W.kitOne K (.type t) (.type "bool")=some (fw t "bool")) h (by kernel_rfl) (by kernel_rfl) (by kernel_rfl) (by kernel_rfl) (by kernel_rfl) (by kernel_rfl) (by kernel_rfl)
theorem Om(K:W.Frag)(d:D)(t:String)(h:kS d=some t):W.kitOne K (.type t) (.type "list")=some (fw t "list"):=uZ (P:=fun t=>W.kitOne K (.type t) (.type "list")=some (fw t "list")) h (by kernel_rfl) (by kernel_rfl) (by kernel_rfl) (by kernel_rfl) (by kernel_rfl) (by kernel_rfl) (by kernel_rfl)
theorem Qr(K:W.Frag)(d:D)(t:String)(h:kS d=some t):W.kitOne K (.type t) (.type "tuple")=some (fw t "tuple"):=uZ (P:=fun t=>W.kitOne K (.type t) (.type "tuple")=some (fw t "tuple")) h (by kernel_rfl) (by kernel_rfl) (by kernel_rfl) (by kernel_rfl) (by kernel_rfl) (by kernel_rfl) (by kernel_rfl)
variable{pos2:Pos}
def fD(lo:Int)(n:Nat):List V:=(e_ n).map fun(i:Nat)=>V.int (lo+(i:Int))
theorem Ms{K:W.Frag}{G:GH}(lo:Int)(n:Nat):cK K G (fD lo n) (dW lo n):=by
 unfold fD dW
 induction(e_ n)with
|nil=>exact .nil
|cons i l ih=>exact .cons (.scl (.int _)) ih
theorem B9:∀{xs:List V}{us:List a_},xs.length=us.length->(∀(j:Nat) v u,xs[j]? = some v->us[j]? = some u->L2.aE v u)->ar xs us
|[],[],_,_=>.nil
|v::xs,u::us,hl,h=>.cons (h 0 v u rfl rfl) (B9 (by simpa using hl) fun j a b e1 e2=>h (j+1) a b (by simpa using e1) (by simpa using e2))
|[],_::_,hl,_=>by simp at hl
|_::_,[],hl,_=>by simp at hl
theorem Po{lo:Int}{n:Nat}{acc:Array a_}(h:ItemsOf (fun i v=>∃t,v=.int (lo+i*1) t) acc n):ar (fD lo n) acc.toList:=by
 refine B9 (by simp[fD,h.1]) fun j v u e1 e2=>?_;have hj:j<n:=by have:=(j_.mp e1).1;simpa[fD]using this
 unfold fD at e1;rw[n_,WG hj]at e1;cases e1;obtain⟨t,rfl⟩:=h.2 j u (by rw[<-Xr];exact e2);exact⟨t,by simp⟩
theorem PY:eY X (.type "range") (fun xs H Q=>∃j,xs=[.int j]/\∀p,H p=none->Q (.ref p) (aD H p (.rng 0 j))):=by intro pz s σ H xs us Q I r h;obtain⟨j,rfl,q⟩:=h;obtain⟨u,rfl,t,rfl⟩:=gV r;refine call_range_1 ⟨.ref s.heap.objs.size,_,I.laid (o:=.rng 0 j) (fun b o e=>c_ _ e) (w_ _) ⟨_,_,_,z_ _ rfl⟩,rfl,q _ (I.hok.fresh (w_ _))⟩
theorem RF(hc:X.calm=true):eY X (.type "list") (fun xs H Q=>∃p lo hi,xs=[.ref p]/\H p=some (.rng lo hi)/\(-(2^62)<=lo/\lo<2^62/\-(2^62)<=hi/\hi<2^62)/\(hi-lo).toNat<=sizeLine/\∀l,H l=none->Q (.ref l) (aD H l (.lst (fD lo (hi-lo).toNat)))):=by
 intro pz s σ H xs us Q I r h;obtain⟨p,lo,hi,rfl,hp,⟨h1,h2,h3,h4⟩,hz,q⟩:=h;obtain⟨u,rfl,rx⟩:=gV r;cases rx;obtain⟨t,u,v,ho⟩:=(show cp X.prog X.w H s.heap p (.rng lo hi)from I.hok p _ hp)
 have e2:Y8 lo hi 1=(((hi-lo).toNat:Nat):Int):=by rw[rangeSize_one];split <;> omega
 refine call_list_range (I.ok.hd hc) (r:=p) (a:=lo) (b:=hi) (c:=1) ho (small_one h1 h2 h3 h4) e2 (by rw[Vw]at hz;omega) fun h' tk acc c' kp hS z=>?_;refine⟨.ref s.heap.objs.size,_,I.laid (t':=tk) kp (w_ _) (show cp X.prog X.w _ h' _ (.lst (fD lo (hi-lo).toNat))from⟨by unfold fD;rw[g_,WC];exact hz,acc.toList,c',Po z,by rw[ZL];exact hS⟩),rfl,q _ (I.hok.fresh (w_ _))⟩
def iw:List D->Option D
|[.int j]=>if-(2^62)<=j/\j<2^62/\j.toNat<=sizeLine then some (.lst (dW 0 j.toNat))else none
|_=>none
theorem Ko{H:Hp}{p l:Addr}{o:HO}(h:aD H p o l=none):H l=none/\l≠p:=by
 by_cases e:l=p
 .subst e;rw[bX]at h;cases h
 .rw[bg e]at h;exact⟨h,e⟩
theorem mI(hc:X.calm=true)(Y:Gl X "list")(Z:X.mg "list" = none)(hg:Gl X "range")(hm:X.mg "range" = none)(ha:iH X g m [a] fl)(hs:i_ [a] X.env=(false,eval a X.env)::i_ [] X.env:=by rfl)(z:i_ [.Call (.Name "range" p2) [a] [] pos2] X.env=(false,eval (.Call (.Name "range" p2) [a] [] pos2) X.env)::i_ [] X.env:=by rfl):SO X g m (.Call (.Name "list" p) [.Call (.Name "range" p2) [a] [] pos2] [] pos) (fC fl iw):=by
 refine PE.imp (o9 (RF hc) Y Z rfl (gJ (o9 PY hg hm boot_range ha (by decide) (by decide) hs rfl) jk z) (by decide) (by decide) z rfl) fun σ H Q ⟨r,G,si,q⟩=>⟨r,G,si,bG (bJ q) fun ds q1 vs G1 H1 w1 rs=>?_⟩
 obtain⟨d,e,q2⟩:=cX q1;unfold iw at e;split at e
 .split at e
  .rename_i j hj;cases e;cases rs with
  |cons r1 t=>cases t;refine⟨j,by rw[r1.int w1.ok],fun p hp=>⟨p,0,j,rfl,bX,⟨by decide,by decide,hj.1,hj.2.1⟩,by simpa using hj.2.2,fun l hl=>?_⟩⟩;obtain⟨U,hl2⟩:=Ko hl;have w2:=Grow.new w1.ok hp (.rng 0 j);have w3:=Grow.new w2.ok hl (.lst (fD 0 (j-0).toNat));refine q2 l G1 _ (w1.trans (w2.trans w3)) (w1.back U) ⟨w1.ok.isN U,.lst bX ?_⟩;rw[show j-0=j by omega];exact Ms 0 _
  .cases e
 .cases e
def DA(K:W.Frag)(r:V->List V->Hp->VK->Prop)(k:D->List D->Option D):Prop:=∀(G:GH)(H:Hp)(v:V)(d:D)(vs:List V)(ds:List D)(d':D)(Q:VK),bn K G H->RB K G H v d->Paired (RB K G H) vs ds->k d ds=some d' ->(∀v' G' H',Grow K G H G' H'->RG K G' v' d'->Q v' H')->r v vs H Q
def xA(T:String):D->Bool
|.lst _=>T == "list"
|.tup _=>T == "tuple"
|.dic _=>T == "dict"
|.str _=>T == "str"
|.int _=>T == "int"
|_=>false
theorem Mf{K:W.Frag}{G:GH}{H:Hp}{v:V}{d:D}{T:String}(gk:bn K G H)(h:RB K G H v d)(t:xA T d=true):nq K T v H:=by cases d with
|lst ds=>obtain⟨a,xs,rfl,s,r⟩:=h.lst gk;exact .inl ⟨Wj t,xs,s⟩
|tup ds=>
  have e:T = "tuple" := Wj t;rcases h with h|⟨a,rfl,o⟩
  .cases h with
  |scl s=>cases s
  |ref q=>cases gk _ _ q with
   |tup r s=>exact .inr (.inl ⟨e,.inr ⟨_,r⟩⟩)
  |kc k=>cases k with
   |tup r s z=>exact .inr (.inl ⟨e,.inl z⟩)
  .cases o.ob
|dic ds=>obtain⟨a,xs,rfl,s,r⟩:=h.dic gk;exact .inr (.inr (.inl ⟨Wj t,.inl ⟨xs,s⟩⟩))
|str x=>rw[h.str gk];exact Wj t
|int x=>rw[h.int gk];exact Wj t
|_=>cases t
def fM(T:String)(fo:FE)(fl:ao->Res (List D))(k:D->List D->Option D):FE:=fun r=>(fo r).bind fun d=>if xA T d=true then(fl r).bind fun ds=>cQ (k d ds)else .stuck
section
variable{o:Expr}{fo:FE}{apos cpos:Pos}{ro:Bool}{x name:Str}{T id:String}{R:V->List V->Hp->VK->Prop}{k:D->List D->Option D}
theorem fB(pa:Zn T)(slot:Slot T name id)(BT:QaX (.builtin id)=pure (.type "method_descriptor"))(ad:lv X id R)(hk:DA X.K R k)(ho:SB X g m o fo)(ha:iH X g m (e::es) fl)(Y:W3 o name X.env (eval o X.env)=eval o X.env:=by rfl)(ac:((backTo cpos (i_ (e::es) X.env)).all (fun x=>! x.1)&&(Y_ cpos (X8 [] X.env)).all (fun x=>x.1.isSome)&&decide ((e::es).length+([]:List Qam).length+(if ([]:List Qam).isEmpty then 0 else 1)<30))=true:=by rfl)(Z:(apos.endLine==cpos.line)=true:=by rfl)(ld:i_ (e::es) X.env=(false,eval e X.env)::i_ es X.env:=by rfl)(U:(backTo cpos (i_ es X.env)).any (·.1)=false:=by rfl):SE X g m (.Call (.Attribute o name apos) (e::es) [] cpos) (fM T fo fl k):=by
 refine PE.imp (D7 pa slot BT ad ho ha Y ac Z ld U) fun σ H Q ⟨r,G,si,q⟩=>⟨r,G,si,bG (bJ q) fun d q1 v G1 H1 w1 r1=>?_⟩
 by_cases ht:xA T d=true
 .rw[if_pos ht]at q1;refine⟨Mf w1.ok r1 ht,r,G1,si.grow w1,gX (bJ q1) w1 fun ds q2 vs G2 H2 w2 rs=>?_⟩;obtain⟨d',e',q3⟩:=cX q2;exact hk G2 H2 v d vs ds d' Q w2.ok (r1.mono w2) rs e' fun v' G' H' w' z=>q3 v' G' H' ((w1.trans w2).trans w') z
 .rw[if_neg ht]at q1;exact q1.elim
def j8(x:V):List V->Option Nat
|[]=>none
|y::xs=>if i0 y x=true then some 0 else(j8 x xs).map (· + 1)
def ir(x:D):List D->Option Nat
|[]=>none
|y::xs=>if eV y x=true then some 0 else(ir x xs).map (· + 1)
theorem Au(x:D):∀ds:List D,j8 (gD x) (ds.map gD)=ir x ds
|[]=>rfl
|y::ds=>by show(if i0 (gD y) (gD x)=true then some 0 else(j8 (gD x) (ds.map gD)).map (· + 1))=if eV y x=true then some 0 else(ir x ds).map (· + 1);rw[Au x ds];rfl
theorem At{x:V}{xs:List V}{us:List a_}{j:Nat}(h0:ar xs us)(f:xs.all gy=true)(h:j8 x xs=some j):∃hj:j<us.length,eB x us[j]=true/\∀i (hi:i<us.length),i<j->eB x us[i]=false:=by induction h0 generalizing j with
|nil=>cases h
|@cons y u xs us r t ih=>
  rw[WN,Vr]at f;unfold j8 at h;by_cases hy:i0 y x=true
  .rw[if_pos hy]at h;cases h;exact⟨Nat.zero_lt_succ _,by show eB x u=true;rw[tF r f.1];exact hy,fun i _ hlt=>absurd hlt (Nat.not_lt_zero _)⟩
  .rw[if_neg hy]at h;cases e:j8 x xs with
  |none=>rw[e]at h;cases h
  |some z=>rw[e]at h;cases h;obtain⟨a,b,c⟩:=ih f.2 e;refine⟨Nat.succ_lt_succ a,b,fun i hi hlt=>?_⟩;cases i with
   |zero=>show eB x u=false;rw[tF r f.1];simpa using hy
   |succ i=>exact c i (Zt hi) (Zt hlt)
def F1(K:W.Frag):V->List V->Hp->VK->Prop:=fun x vs H Q=>∃p xs y j,x=.ref p/\vs=[y]/\bM K H p xs/\gy y=true/\xs.all gy=true/\j8 y xs=some j/\Q (.int j) H
def F2(K:W.Frag):V->List V->Hp->VK->Prop:=fun x vs H Q=>∃p xs y j,x=.ref p/\vs=[y]/\cJ K H p xs/\gy y=true/\xs.all gy=true/\j8 y xs=some j/\Q (.int j) H
theorem o8:lv X "list.index" (F1 X.K):=by
 intro pz s σ H x vs v us Q I rx rv h;obtain⟨p,xs,y,j,rfl,rfl,hq,fy,fx,e,q⟩:=h;cases rx;obtain⟨u,rfl,ru⟩:=gV rv;obtain⟨its,r,pl,hz⟩:=I.list hq;obtain⟨o,n,ho,hc,hd,hs⟩:=pl;obtain⟨a,b,c⟩:=At r fx e;have hl:=r.length;obtain⟨ocls,odict,odata,oslots⟩:=o;simp only at hc hd hs;subst hc hd hs;refine YK VT ⟨_,ho,rfl⟩ PySem.F.entry_list_index (PySem.F.args_list_index_2 _ _)
  (SeqAt.list_indexAt p its.toArray n none oslots u (eB y) j (by simpa using a) (by rw[Vw]at hz;omega) (by simpa using b) (fun i hi hlt=>by simpa using c i (by simpa using hi) hlt)) ⟨ho,fun w hw=>mR ru fy r fx w (by simpa using hw),⟨.int j,H,I.tok _,⟨_,rfl⟩,q⟩⟩
theorem uR:lv X "tuple.index" (F2 X.K):=by
 intro pz s σ H x vs v us Q I rx rv h;obtain⟨p,xs,y,j,rfl,rfl,hq,fy,fx,e,q⟩:=h;cases rx;obtain⟨u,rfl,ru⟩:=gV rv;obtain⟨its,r,pl,hz⟩:=I.tuple hq;obtain⟨o,ho,hc,n,hs⟩:=pl;obtain⟨a,b,c⟩:=At r fx e;have hl:=r.length;obtain⟨ocls,odict,odata,oslots⟩:=o;simp only at hc hs;subst hc hs;refine YK Wp ⟨_,ho,rfl⟩ PySem.F.entry_tuple_index (PySem.F.args_tuple_index_2 _ _)
  (Sc p its.toArray n odict oslots u (eB y) j (by simpa using a) (by simpa using b) (fun i hi hlt=>by simpa using c i (by simpa using hi) hlt)) ⟨ho,fun w hw=>mR ru fy r fx w (by simpa using hw),⟨.int j,H,I.tok _,⟨_,rfl⟩,q⟩⟩
def EM:D->List D->Option D
|.lst ds,[x]=>if cz x=true/\ds.all cz=true then(ir x ds).map fun j=>.int j else none
|.tup ds,[x]=>if cz x=true/\ds.all cz=true then(ir x ds).map fun j=>.int j else none
|_,_=>none
theorem HR{K:W.Frag}{G:GH}{H:Hp}{ds:List D}{xs:List V}{x d':D}{v:V}(gk:bn K G H)(rs:cK K G xs ds)(rx:RB K G H v x)(e:(if cz x=true/\ds.all cz=true then(ir x ds).map fun j=>D.int j else none)=some d'):∃j:Nat,d'=.int j/\gy v=true/\xs.all gy=true/\j8 v xs=some j:=by
 by_cases hc:cz x=true/\ds.all cz=true
 .rw[if_pos hc]at e;obtain⟨e1,f1⟩:=RB.flat rx gk hc.1;obtain⟨e3,f3⟩:=DN rs gk hc.2;cases ef:ir x ds with
 |none=>rw[ef]at e;cases e
 |some j=>rw[ef]at e;cases e;exact⟨j,rfl,f1,f3,by rw[e1,e3,Au];exact ef⟩
 .rw[if_neg hc]at e;cases e
def kn(d:D)(ds:List D):Option D:=match d with
|.lst _=>EM d ds
|_=>none
def oQ(d:D)(ds:List D):Option D:=match d with
|.tup _=>EM d ds
|_=>none
theorem o7{K:W.Frag}:DA K (F1 K) kn:=by intro G H v d vs ds d' Q gk rv rs e q;cases d with
|lst zs=>cases ds with
 |nil=>cases e
 |cons x t=>cases t with
  |nil=>cases rs with
   |cons r1 rt=>cases rt;obtain⟨a,xs,rfl,s,r⟩:=rv.lst gk;obtain⟨j,rfl,h1,h2,h3⟩:=HR gk r r1 e;exact⟨a,xs,_,j,rfl,rfl,s,h1,h2,h3,q _ G H (Grow.refl gk) (.scl (.int _))⟩
  |cons _ _=>cases e
|_=>cases e
theorem uQ{K:W.Frag}:DA K (F2 K) oQ:=by intro G H v d vs ds d' Q gk rv rs e q;cases d with
|tup zs=>cases ds with
 |nil=>cases e
 |cons x t=>cases t with
  |nil=>cases rs with
   |cons r1 rt=>cases rt;obtain⟨a,xs,rfl,s,r⟩:=rv.tup gk;obtain⟨j,rfl,h1,h2,h3⟩:=HR gk r r1 e;exact⟨a,xs,_,j,rfl,rfl,s,h1,h2,h3,q _ G H (Grow.refl gk) (.scl (.int _))⟩
  |cons _ _=>cases e
|_=>cases e
def lF(xs:List V):Bool:=xs.all fun x=>match x with|.int _=>true|_=>false
theorem Q3{xs:List V}(h:lF xs=true):xs.all gy=true:=by unfold lF at h;rw[Wl]at h ⊢;intro x hx;have:=h x hx;cases x <;> first|rfl|exact absurd this k_
theorem Hx{k:Int}{t:Tok}:∀{xs:List V}{us:List a_},ar xs us->lF xs=true->∀u∈us,Qay u (.int k t) (eB (.int k) u)
|_,_,.nil,_=>fun u hu=>by cases hu
|y::xs,u::us,.cons r rt,f=>fun u' hu=>by unfold lF at f;rw[WN,Vr]at f;cases y with
 |int i=>
   obtain⟨t',rfl⟩:=r;rcases m_.mp hu with rfl|hu
   .exact MeetsSeq.EqGives.int i k t' t
   .exact Hx rt f.2 u' hu
 |_=>exact absurd f.1 k_
def EA:V->List V->Hp->VK->Prop:=fun x vs H Q=>∃l xs k j,x=.ref l/\vs=[.int k]/\H l=some (.lst xs)/\lF xs=true/\j8 (.int k) xs=some j/\Q .non (aD H l (.lst (xs.eraseIdx j)))
theorem uS:lv X "list.remove" EA:=by
 intro pz s σ H x vs v us Q I rx rv h;obtain⟨l,xs,k,j,rfl,rfl,hH,hi,e,q⟩:=h;cases rx;obtain⟨u,rfl,t,rfl⟩:=gV rv;obtain⟨hz,its,n,r,hl,eo⟩:=I.lstM hH;obtain⟨a,b,c⟩:=At r (Q3 hi) e;have z:∀y,y∈its.toArray->Qay y (.int k t) (eB (.int k) y):=fun y hy=>Hx r hi y (by simpa using hy);have hsz:its.toArray.size<=sizeLine:=by rw[q_];omega
 refine YK Wq ⟨_,eo,rfl⟩ PySem.F.entry_list_remove (PySem.F.args_list_remove_2 _ _) (MeetsSeq.list_remove l its.toArray n (.int k t) (eB (.int k)) z j (by simpa using a) (by simpa using b) (fun i hi hlt=>by simpa using c i (by simpa using hi) hlt) hsz) ⟨eo,?_⟩;refine⟨.non,_,I.lset (its':=its.eraseIdx j) hH eo ?_ ?_ ?_,rfl,q⟩
 .apply Array.toList_inj.mp;simp[Array.toList_eraseIdxIfInBounds]
 .exact ar.eraseIdx j r
 .have:=List.length_eraseIdx_le xs j;omega
def isInt:D->Bool
|.int _=>true
|_=>false
theorem KB{K:W.Frag}{G:GH}{H:Hp}{xs:List V}{ds:List D}(h:cK K G xs ds)(gk:bn K G H)(hf:ds.all isInt=true):lF xs=true/\xs=ds.map gD:=by induction h with
|nil=>exact⟨rfl,rfl⟩
|@cons x d xs ds r t ih=>rw[WN,Vr]at hf;obtain⟨h1,h2⟩:=ih hf.2;cases d with
 |int i=>have e:=r.int gk;subst e;refine⟨?_,by rw[Vq,<-h2];rfl⟩;show lF _=true;unfold lF at h1 ⊢;rw[WN,h1];rfl
 |_=>exact absurd hf.1 k_
def remD:D->List D->Option D
|.lst ds,[.int k]=>if ds.all isInt=true then(ir (.int k) ds).map fun j=>.lst (ds.eraseIdx j)else none
|_,_=>none
theorem tU{K:W.Frag}:j3 K EA remD:=by
 intro G H a d vs ds d' Q gk ow rs e q;unfold remD at e;split at e
 .split at e
  .rename_i zs k hall;cases ef:ir (.int k) zs with
  |none=>rw[ef]at e;cases e
  |some j=>rw[ef]at e;cases e;cases ow.ob with
   |lst r s=>cases rs with
    |cons r1 t=>cases t;obtain⟨h1,h2⟩:=KB s gk hall;refine⟨a,_,k,j,rfl,by rw[r1.int gk],r,h1,?_,q _ (.lst bX (Paired.er j s))⟩;rw[h2];exact(Au (.int k) zs).trans ef
  .cases e
 .cases e
end
def cj:Nat->List D->List D
|_,[]=>[]
|i,d::ds=>.tup [.int i,d]::cj (i+1) ds
theorem qj:∀(i:Nat)(ds:List D),(cj i ds).length=ds.length
|_,[]=>rfl
|i,d::ds=>congrArg (· + 1) (qj (i+1) ds)
theorem Ar:∀(i j:Nat)(ds:List D),(cj i ds)[j]? = (ds[j]?).map fun d=>D.tup [.int ((i+j:Nat):Int),d]
|_,_,[]=>by simp[cj]
|i,0,d::ds=>by simp[cj]
|i,j+1,d::ds=>by show(cj (i+1) ds)[j]? = _;rw[Ar (i+1) j ds];simp only[List.getElem?_cons_succ];rw[show i+1+j=i+(j+1)by omega]
theorem Gs{K:W.Frag}{ds:List D}{G0:GH}{sq:Hp->List V->Prop}(h:∀G H,bv G0 G->bn K G H->∃xs,sq H xs/\cK K G xs ds):Yields K (nU sq) (cj 0 ds) G0:=by
 refine⟨fun G H i w gk hi=>?_,fun G H i x H' d w gk y e=>?_,fun G H w gk=>?_⟩
 .obtain⟨xs,s,r⟩:=h G H w gk;rw[qj]at hi;have hl:=Paired.length r;exact⟨xs,xs[i],s,d_ (by omega)⟩
 .obtain⟨xs,s,r⟩:=h G H w gk;obtain⟨p,v,hp,rfl,rfl,hv⟩:=y;rw[Ar]at e;cases ed:ds[i]? with
 |none=>rw[ed]at e;cases e
 |some d0=>rw[ed]at e;simp only[VZ,YU,Qaq]at e;subst e;obtain⟨v',e1,rv⟩:=Paired.get r ed;have:=hv xs s;rw[e1]at this;cases this;exact⟨_,Grow.newF gk hp (.tup (.inl bX) (.cons (.scl (.int _)) (.cons rv .nil))),.ref gK⟩
 .obtain⟨xs,s,r⟩:=h G H w gk;rw[qj];exact⟨xs,s,Paired.length r⟩
def fJ(f:FE):FI:=fun r=>(f r).bind fun d=>(cQ (bN d)).bind fun ds=>.ok (cj 0 ds)
section
variable{elts:List Expr}{kk:Nat}
theorem FR{te:TE}(hg:Gl X "enumerate")(hm:X.mg "enumerate" = none)(he:PE X e te)(hs:i_ [e] X.env=(false,eval e X.env)::i_ [] X.env:=by rfl):PI X (.Tuple elts kk pos2) (.Call (.Name "enumerate" p) [e] [] pos) (fun σ H R=>te σ H fun x H1=>(∃a,x=.ref a/\(∃xs,bM X.K H1 a xs)/\R (nU fun H xs=>bM X.K H a xs) H1)\/∃a,x=.ref a/\(∃xs,cJ X.K H1 a xs)/\R (nU fun H xs=>cJ X.K H a xs) H1):=by
 intro pz s σ H R I h;refine Call_ (oE I hg hm boot_enumerate (WK (aX (gJ he jk hs pos pz s σ H (fun vs H1=>match vs with
 |[x]=>(∃a,x=.ref a/\(∃xs,bM X.K H1 a xs)/\R (nU fun H xs=>bM X.K H a xs) H1)\/∃a,x=.ref a/\(∃xs,cJ X.K H1 a xs)/\R (nU fun H xs=>cJ X.K H a xs) H1
 |_=>False) I h) fun us s1 ⟨vs,H1,I1,r1,q1⟩=>?_) hs rfl))
 .cases r1 with
 |nil=>exact q1.elim
 |@cons x u xs us rx rt=>cases rt with
 |cons _ _=>exact q1.elim
 |nil=>
  have fin:∀{h':Heap},h'.objs.size=s1.heap.objs.size+2->(∀b o,s1.heap.get? b=some o->h'.get? b=some o)->∀b∈[s1.heap.objs.size+1,s1.heap.objs.size],dC X pz H1 b:=fun hz kp b hb=>by
   have z:s1.heap.objs.size<=b:=by
    rcases m_.mp hb with rfl|hb
    .exact ZE _
    .rw[Vp.mp hb];exact w_ _
   exact I1.fpOk z (I1.hok.fresh z)
  rcases q1 with⟨a,rfl,⟨xs,hq⟩,q⟩|⟨a,rfl,⟨xs,hq⟩,q⟩
  .cases rx;obtain⟨its,rv,pl,hz⟩:=I1.list hq;refine call_enumerate_list pl.isList fun h' he hi hsz kp=>YZ he ?_;exact⟨_,[s1.heap.objs.size+1,s1.heap.objs.size],_,_,H1,rfl,I1.kept (t':=s1.toks) kp,HB (t:=false) a _ _ (Wn (Wi _)) (J_ (pb (t:=false) I1 hq)) (Wn (WB (pb (t:=false) I1 hq))),⟨⟨_,he⟩,hi⟩,fin hsz kp,q⟩
  .cases rx;obtain⟨its,rv,pl,hz⟩:=I1.tuple hq;refine Sr (show s1.heap.IsTuple a its.toArray from pl) fun h' he hi hsz kp=>YZ he ?_;exact⟨_,[s1.heap.objs.size+1,s1.heap.objs.size],_,_,H1,rfl,I1.kept (t':=s1.toks) kp,HB (t:=true) a _ _ (Wn (Wi _)) (J_ (pb (t:=true) I1 hq)) (Wn (WB (pb (t:=true) I1 hq))),⟨⟨_,he⟩,hi⟩,fin hsz kp,q⟩
theorem yY(hg:Gl X "enumerate")(hm:X.mg "enumerate" = none)(he:SE X g m e f)(hs:i_ [e] X.env=(false,eval e X.env)::i_ [] X.env:=by rfl):i7 X g m (.Tuple elts kk pos2) (.Call (.Name "enumerate" p) [e] [] pos) (fJ f):=by
 refine PI.imp (FR hg hm he hs) fun σ H R ⟨r,G,si,q⟩=>⟨r,G,si,bG (bJ q) fun d q v G' H' w rv=>?_⟩
 obtain⟨ds,e,q⟩:=cX (bJ q);cases d with
|lst ds'=>cases e;obtain⟨a,xs,rfl,s,rs⟩:=rv.lst w.ok;refine .inl ⟨a,rfl,⟨xs,s⟩,q _ G' H' w (Gs fun G H le gk=>?_)⟩;obtain⟨b,ys,e,s',r'⟩:=(rv.mono le).lst gk;cases e;exact⟨ys,s',r'⟩
|tup ds'=>cases e;obtain⟨a,xs,rfl,s,rs⟩:=rv.tup w.ok;refine .inr ⟨a,rfl,⟨xs,s⟩,q _ G' H' w (Gs fun G H le gk=>?_)⟩;obtain⟨b,ys,e,s',r'⟩:=(rv.mono le).tup gk;cases e;exact⟨ys,s',r'⟩
|_=>cases e
end
def eh(ns:List Int):List Int:=ns.foldl WE []
theorem RE(ns:List Int):ZI (fun i=>ns.getD i 0) ns.length=eh ns:=by unfold ZI eh;congr 1;refine List.ext_getElem (by simp) fun i h1 h2=>?_;simp[s_,h2]
def dR:List D->Option (List Int)
|[]=>some []
|.int i::ds=>(dR ds).map (i::·)
|_=>none
theorem Ay{K:W.Frag}{G:GH}{H:Hp}(gk:bn K G H){ds:List D}{xs:List V}{ns:List Int}(h:cK K G xs ds)(e:dR ds=some ns):xs=ns.map V.int:=by induction h generalizing ns with
|nil=>cases e;rfl
|@cons x d xs ds r t ih=>cases d with
 |int i=>have e':(dR ds).map (i::·)=some ns:=e;cases q:dR ds with
  |none=>rw[q]at e';cases e'
  |some ms=>rw[q]at e';cases e';rw[r.int gk,ih q];rfl
 |_=>cases e
theorem PZ(hc:X.calm=true):eY X (.type "set") (fun xs H Q=>∃p ns,xs=[.ref p]/\(bM X.K H p (ns.map V.int)\/cJ X.K H p (ns.map V.int))/\ns.length+1<Xd/\∀l,H l=none->Q (.ref l) (aD H l (.set (fun k=>(eh ns).any (· == k)) (eh ns).length))):=by
 intro pz s σ H xs us Q I r h;obtain⟨p,ns,rfl,hq,hb,q⟩:=h;obtain⟨u,rfl,rx⟩:=gV r;cases rx;have fin:∀(its:List a_)(h':Heap)(tk:Nat),its.length=ns.length->h'.SetOf (intKind X.prog X.w) s.heap.objs.size (fun k=>(ZI (fun i=>ns.getD i 0) its.toArray.size).any (· == k)) (ZI (fun i=>ns.getD i 0) its.toArray.size).length ->(∀b o,b<s.heap.objs.size->s.heap.get? b=some o->h'.get? b=some o)->EP X pz σ Q (.ref s.heap.objs.size) { s with heap:=h',toks:=tk }:=fun its h' tk hl hS kp=>by rw[show its.toArray.size=ns.length by rw[q_];exact hl,RE]at hS;exact⟨.ref s.heap.objs.size,_,I.laid (t':=tk) (fun b o e=>kp b o (y_ e) e) (w_ _) (show cp X.prog X.w _ h' _ (.set _ _)from hS),rfl,q _ (I.hok.fresh (w_ _))⟩
 rcases hq with hq|hq
 .obtain⟨its,r',pl,hz⟩:=I.list hq;have hl:=r'.length;rw[g_]at hl;exact call_set_list (I.ok.hd hc) pl.isList (by simpa using A5 r') (by rw[q_];omega) fun h' tk hS kp=>fin its h' tk hl.symm hS kp
 .obtain⟨its,r',pl,hz⟩:=I.tuple hq;have hl:=r'.length;rw[g_]at hl;exact Rj (I.ok.hd hc) (show s.heap.IsTuple p its.toArray from pl) (by simpa using A5 r') (by rw[q_];omega) fun h' tk he=>fin its h' tk hl.symm he.1 he.2
theorem PX:eY X (.builtin "len") (fun xs H Q=>∃p S n,xs=[.ref p]/\H p=some (.set S n)/\Q (.int n) H):=by
 intro pz s σ H xs us Q I r h;obtain⟨p,S,n,rfl,hp,q⟩:=h;obtain⟨u,rfl,rx⟩:=gV r;cases rx;obtain⟨o,es,ep,t,ho,z,hd,_,_,hb,hf,hn⟩:=(show cp X.prog X.w H s.heap p (.set S n)from I.hok p _ hp)
 refine call_len_set ho z hd hf ?_ ⟨.int n,H,I.tok _,⟨_,by rw[hn]⟩,q⟩;have h4:(es.size:Int)<4096:=by unfold Xd at hb;omega
 exact Int.lt_of_lt_of_le h4 (by decide)
def lB:D->Option D
|.lst ds=>(dR ds).bind fun ns=>if ns.length+1<Xd then some (.int (eh ns).length)else none
|.tup ds=>(dR ds).bind fun ns=>if ns.length+1<Xd then some (.int (eh ns).length)else none
|_=>none
theorem GA(hc:X.calm=true)(hg:Gl X "len")(hm:X.mg "len" = none)(ac:Gl X "set")(Z:X.mg "set" = none)(ha:SB X g m a f)(hs:i_ [a] X.env=(false,eval a X.env)::i_ [] X.env:=by rfl)(Y:i_ [.Call (.Name "set" p2) [a] [] pos2] X.env=(false,eval (.Call (.Name "set" p2) [a] [] pos2) X.env)::i_ [] X.env:=by rfl):SE X g m (.Call (.Name "len" p) [.Call (.Name "set" p2) [a] [] pos2] [] pos) (f1 f lB):=by
 refine PE.imp (kJ PX hg hm QaZ (gJ (o9 (PZ hc) ac Z (by first|exact PyProof.Rows.boot_set|rfl) (gJ ha jk hs) (by decide) (by decide) hs rfl) jk Y) (by decide) (by decide) Y rfl) fun σ H Q ⟨r,G,si,q⟩=>⟨r,G,si,bG (bJ q) fun d q1 v G1 H1 w1 r1=>?_⟩
 obtain⟨d',e,q2⟩:=cX q1;have U:∀{ds:List D}{xs:List V}{b:Addr},cK X.K G1 xs ds->v=.ref b->(bM X.K H1 b xs\/cJ X.K H1 b xs)->(dR ds).bind (fun ns=>if ns.length+1<Xd then some (D.int (eh ns).length)else none)=some d' ->∃p ns,[v]=[V.ref p]/\(bM X.K H1 p (ns.map V.int)\/cJ X.K H1 p (ns.map V.int))/\ns.length+1<Xd/\∀l,H1 l=none->∃p S n,[V.ref l]=[V.ref p]/\aD H1 l (.set (fun k=>(eh ns).any (· == k)) (eh ns).length) p=some (.set S n)/\Q (.int n) (aD H1 l (.set (fun k=>(eh ns).any (· == k)) (eh ns).length)):=fun{ds xs b} rs ev hs he=>by cases ea:dR ds with
 |none=>rw[ea]at he;cases he
 |some ns=>
   rw[ea]at he;have z:(if ns.length+1<Xd then some (D.int (eh ns).length)else none)=some d':=he;by_cases hl:ns.length+1<Xd
   .rw[if_pos hl]at z;cases z;have ex:=Ay w1.ok rs ea;subst ex;exact⟨b,ns,by rw[ev],hs,hl,fun l hl'=>⟨l,_,_,rfl,bX,q2 _ G1 _ (w1.trans (Grow.new w1.ok hl' _)) (.scl (.int _))⟩⟩
   .rw[if_neg hl]at z;cases z
 cases d with
|lst ds=>obtain⟨b,xs,ev,hs,rs⟩:=r1.lst w1.ok;exact U rs ev (.inl hs) e
|tup ds=>obtain⟨b,xs,ev,hs,rs⟩:=r1.tup w1.ok;exact U rs ev (.inr hs) e
|_=>cases e
theorem cp.isS{P:E_}{w:T_}{H:Hp}{h:Heap}{a:Addr}{o:HO}(x:cp P w H h a o):h.get? a≠none:=by
 have s:∀{u:Obj},h.get? a=some u->h.get? a≠none:=fun e z=>by rw[z]at e;cases e
 cases o with
|lst xs=>obtain⟨_,_,_,_,e⟩:=x;exact s e
|tup xs=>obtain⟨_,_,_,⟨_,e,_⟩,_⟩:=x;exact s e
|dK kvs=>obtain⟨_,_,_,_,o,_,_,e,_⟩:=x;exact s e
|dT kvs=>obtain⟨_,_,_,_,o,_,_,e,_⟩:=x;exact s e
|set S n=>obtain⟨o,_,_,_,e,_⟩:=x;exact s e
|ins C dx fs=>obtain⟨_,_,_,e,_⟩:=x;exact s e
|own y=>obtain⟨_,e⟩:=x;exact s e
|xd fs=>obtain⟨_,⟨_,_,_,e,_⟩,_⟩:=x;exact s e
|rng lo hi=>obtain⟨_,_,_,e⟩:=x;exact s e
|frz ob u=>obtain⟨e,_⟩:=x;exact s e
|tbl ps=>exact s (show h.get? a=some _ from x)
|met f y=>exact s (show h.get? a=some _ from x)
|ext φ=>obtain⟨_,⟨_,e⟩,_⟩:=x;exact s e
section
variable{pz:List (Addr×Obj)}{σ:L2.St}{H:Hp}{s:f_}
theorem Inv.laidN{D:Addr}{ys:List V}{its:List a_}{c:Nat}{h':Heap}(I:Inv X pz σ H s)(hD:s.heap.get? D=none)(ad:D≠X.env.locals)(k:∀b o,b≠X.env.locals->s.heap.get? b=some o->h'.get? b=some o)(Z:∀m,s.heap.Ns X.env.locals m->h'.Ns X.env.locals m)(ho:h'.get? D=some { cls:=.type "list",data:=.seq its.toArray c })(rv:ar ys its)(hz:ys.length<=sizeLine)(t':Nat):Inv X pz σ (aD H D (.lst ys)) { s with heap:=h',toks:=t' }:=by
 have ac:H D=none:=by cases q:H D with
 |none=>rfl
 |some u=>exact absurd hD (cp.isS (I.hok D u q))
 have neD:∀b o,s.heap.get? b=some o->b≠D:=fun b o e z=>by rw[z,hD]at e;cases e
 have U:∀b u,H b=some u->aD H D (.lst ys) b=some u:=fun b u e=>by rw[bg (lN e ac)];exact e
 have Y:∀b u,H b=some u->b≠X.env.locals:=fun b u e z=>by rw[z,I.free]at e;cases e
 refine I.step (g':=s.gens) (d':=s.drawn) (ch:=[]) (fun b hb=>absurd hb (by simp)) (fun b ob hL _ _ e _=>k b ob hL e) (fun b ob hL _ _ e _=>⟨ob.slots,k b ob hL e⟩) (fun b ob _ e n=>by rw[bg (neD b ob e)];exact n)
  (fun b ob _ e=>?_) (fun b xs e=>U b _ e) (fun b ob u e=>U b _ e) (fun b ps e=>⟨#[],by rw[U b _ e];simp⟩) Z (fun b u e=>?_) I.bare
 .by_cases hb:b=X.env.locals
  .subst hb;obtain⟨m,hn,_⟩:=I.loc;obtain⟨o,_,_,ho',_⟩:=Z m hn;exact⟨o,ho'⟩
  .exact⟨ob,k b ob hb e⟩
 .by_cases hb:b=D
  .subst hb;rw[bX]at e;cases e;exact⟨hz,its,c,rv,ho⟩
  .rw[bg hb]at e;refine(I.hok b u e).stay (fun cc v hc q=>k cc v ?_ q) (fun cc q=>U cc _ q) fun cc xs q=>U cc _ q;rcases hc with z|z
   .rw[z];exact Y b u e
   .exact Y cc _ z
theorem MV{h:Heap}{L:Addr}{m m':Str->Option a_}(a:h.Ns L m)(b:h.Ns L m'):m=m':=by obtain⟨o,es,ep,e,d,_,f⟩:=a;obtain⟨o',z,U,e',d',_,f'⟩:=b;rw[e]at e';cases e';rw[d]at d';cases d';funext x;rw[<-f,<-f']
end
end DL
namespace DL
open PySem PyProof.Rows PySem.SeqAt PySem.MeetsSeq PySem.MeetsSeq2 PySem.MeetsSeq3 L2
section
open PySem.AutoSeq1 (wpAny_loadPart')
end
end DL
namespace DL
open PySem PyProof.Rows L2
end DL
namespace DL
open PySem PySem.Spec PyProof.Rows L2
section
variable{X:Cx}{pz:List (Addr×Obj)}{σ:L2.St}{H:Hp}{s:f_}
theorem Inv.keptN{h':Heap}(I:Inv X pz σ H s)(k:∀b o,b≠X.env.locals->s.heap.get? b=some o->h'.get? b=some o)(Y:∀m,s.heap.Ns X.env.locals m->h'.Ns X.env.locals m)(t':Nat):Inv X pz σ H { s with heap:=h',toks:=t' }:=by
 have U:∀b u,H b=some u->b≠X.env.locals:=fun b u e z=>by rw[z,I.free]at e;cases e
 refine I.step (g':=s.gens) (d':=s.drawn) (ch:=[]) (fun b hb=>absurd hb (by simp)) (fun b ob hL _ _ e _=>k b ob hL e) (fun b ob hL _ _ e _=>⟨ob.slots,k b ob hL e⟩) (fun b ob _ e n=>n)
  (fun b ob _ e=>?_) (fun b xs e=>e) (fun b ob u e=>e) (fun b ps e=>⟨#[],by rw[e];simp⟩) Y (fun b u e=>?_) I.bare
 .by_cases hb:b=X.env.locals
  .subst hb;obtain⟨m,hn,_⟩:=I.loc;obtain⟨o,_,_,ho',_⟩:=Y m hn;exact⟨o,ho'⟩
  .exact⟨ob,k b ob hb e⟩
 .refine(I.hok b u e).stay (fun cc v hc q=>k cc v ?_ q) (fun cc q=>q) fun cc xs q=>q;rcases hc with z|z
  .rw[z];exact U b u e
  .exact U cc _ z
end
section
variable{X:Cx}{g:GE}{m:List Md}{e a b:Expr}{es:List Expr}{fl:ao->Res (List D)}{fa fb:FE}{pos p:Pos}
def Ez(K:W.Frag):R2:=fun x y H Q=>∃a b ys,x=.ref a/\y=.ref b/\cJ K H a []/\cJ K H b ys/\Q (.ref b) H
theorem M2:bx X (Xa .Add) (Ez X.K):=by
 intro pz s σ H x y v u Q I rx ry h;obtain⟨a,b,ys,rfl,rfl,ha,hb,q⟩:=h;cases rx;cases ry;obtain⟨its,r1,p1,_⟩:=I.tuple ha;obtain⟨ld,r2,p2,_⟩:=I.tuple hb;cases r1;obtain⟨⟨cls,dd,data,sl⟩,ho,hc,n,hd⟩:=id p1;obtain⟨⟨BT,Z,ad,ac⟩,z,Y,n2,U⟩:=id p2;simp only at hc hd Y U;subst hc hd Y U;exact Zg ⟨_,ho,rfl⟩ ⟨_,z,rfl⟩ Za Z3 Yd X9 (XY _ _)
  (tuple_addW0 a b _ _ n n2 dd Z sl ac rfl) ⟨ho,z,⟨.ref b,H,I,rfl,q⟩⟩
def addE:D->D->Option D
|.tup [],.tup b=>some (.tup b)
|a,b=>addA a b
theorem Mq{K:W.Frag}:dQ K (fun x y H Q=>Ez K x y H Q\/((∃i j,x=.int i/\y=.int j/\Q (.int (i+j)) H)\/(∃i j,x=.str i/\y=.str j/\i.length+j.length<=sizeLine/\Q (.str (i++j)) H)\/tm K x y H Q\/yO K x y H Q)) addE:=by
 intro G H v1 v2 d1 d2 d Q gk r1 r2 e q;unfold addE at e;split at e
 .cases e;rcases r1 with r1|⟨a',_,oo⟩
  .rcases r2 with r2|⟨a',_,oo⟩
   .obtain⟨a,xs,rfl,s1,t1⟩:=r1.tup gk;obtain⟨b,ys,rfl,s2,t2⟩:=r2.tup gk;cases t1;exact .inl ⟨a,b,ys,rfl,rfl,s1,s2,q _ G H (Grow.refl gk) r2⟩
   .cases oo.ob
  .cases oo.ob
 .exact .inr (FG G H v1 v2 d1 d2 d Q gk r1 r2 e q)
theorem tq(ha:SB X g m a fa)(hb:SB X g m b fb):SE X g m (.BinOp a .Add b pos) (f2 fa fb addE):=ma (bx.or M2 (bx.or E9 (bx.or HV (bx.or Ae Gg)))) Mq ha hb
end
end DL
namespace DL
open PySem PyProof.Rows L2
section
open PySem.AutoSeq1 (wpAny_loadPart')
end
end DL
namespace DL
open PySem PyProof.Rows PySem.W
abbrev at0(p:Array Nat)(i:Nat):Nat:=p.getD i 0
section
variable{n:Nat}{c:Nat->Nat->Bool}(as:∀i j,c i j=true->c j i=false)(tr:∀i j k,c j i=false->c k j=false->c k i=false)
def Le(c:Nat->Nat->Bool)(i j:Nat):Prop:=c j i=false
def Dn(c:Nat->Nat->Bool)(p:Array Nat)(k:Nat):Prop:=∀i,i+1<k->Le c (at0 p (i+1)) (at0 p i)
include tr in
include as tr in
include tr in
include as tr in
include as tr in
include as tr in
include as tr in
include as tr in
include as tr in
include as tr in
include as tr in
include as tr in
end
end DL
section
namespace DL
end DL
end
namespace DL
open PySem PySem.Spec PyProof.Rows L2
variable{X:Cx}{pz:List (Addr×Obj)}{σ:L2.St}{H:Hp}{s:f_}
theorem P8(bs:List Bool):((e_ bs.length).all fun i=>bs.getD i true)=bs.all id:=by
 rw[R_,Wl,Wl];constructor
 .intro h b hb;obtain⟨i,hi,rfl⟩:=V1 hb;have:=h i (r_.mpr hi);simpa[s_,hi]using this
 .intro h i hi;have hi:=r_.mp hi;have:=h bs[i] (VR _);simpa[s_,hi]using this
theorem P9(bs:List Bool):((e_ bs.length).any fun i=>bs.getD i true)=bs.any id:=by
 rw[R_,V0,V0];constructor
 .rintro⟨i,hi,h⟩
  have hi:=r_.mp hi;exact⟨bs[i],VR _,by simpa[s_,hi]using h⟩
 .rintro⟨b,hb,h⟩
  obtain⟨i,hi,rfl⟩:=V1 hb;exact⟨i,r_.mpr hi,by simpa[s_,hi]using h⟩
theorem HC(hc:X.calm=true)(I:Inv X pz σ H s){p:Addr}{bs:List Bool}(hq:bM X.K H p (bs.map V.bl)){A:Vu}(hA:A.handled=none){E:a_->f_->Prop}{Q:a_->f_->Prop}(h:∀I fp wr n P St tr it s₂,it=Value.ref I->Walks X.prog X.w A I fp wr n P St->St 0 s₂.heap->TruthOf X.prog X.w A P tr->n=bs.length->(∀i,tr i=bs.getD i true) ->(∀(h':Heap)(tk:Nat),(∀(b:Addr)(o:Obj),¬b∈wr->s₂.heap.get? b=some o->h'.get? b=some o)->Inv X pz σ H { heap:=h',gens:=s₂.gens,drawn:=s₂.drawn,toks:=tk,os:=s₂.os })->Q it s₂):u_ (D_ X.prog X.w) A (Z7 (.ref p)) Q E s:=by
 obtain⟨its,rv,pl,hz⟩:=I.list hq;have hl:=rv.length;rw[g_]at hl;refine ZM pl.isList fun s₂ e2 hi hlt hne=>?_;refine h s.heap.objs.size [s.heap.objs.size,p] [s.heap.objs.size] its.toArray.size _ _ (fun i=>bs.getD i true) _ s₂ rfl (Walks.list hA _ p hne its.toArray) hi ?_ (by rw[q_,hl]) (fun i=>rfl) fun h' tk k=>?_
 .intro i v s' Q' E' hv ac;have Y:its[i]? = some v:=by simpa using hv
  have hi:i<its.length:=(j_.mp Y).1;have Z:i<(bs.map V.bl).length:=by rw[g_];omega
  obtain⟨u,h1,h3⟩:=rv.get (i:=i) (x:=(bs.map V.bl)[i]) (d_ Z);rw[Y]at h1;cases h1;rw[Zc]at h3;have h3':v=Value.bool bs[i]:=h3;subst h3';have e:bs.getD i true=bs[i]:=by
   have hb:i<bs.length:=by omega
   simp[s_,hb]
  have U:Q' (bs.getD i true) s':=ac;rw[e]at U;exact o_ U
 .subst e2;have ne:∀b o,s.heap.get? b=some o->¬ b∈[s.heap.objs.size]:=fun b o e z=>by have:=Vp.mp z;subst this;exact absurd (y_ e) (VY _)
  exact Inv.keptN I (fun b o _ e=>k b o (ne b o e) (c_ _ e)) (fun m ⟨o,es,ep,e,z⟩=>⟨o,es,ep,k _ _ (ne _ _ e) (c_ _ e),z⟩) tk
theorem Oz(hc:X.calm=true):eY X (.builtin "all") (fun xs H Q=>∃(p:Addr)(bs:List Bool),xs=[.ref p]/\bM X.K H p (bs.map V.bl)/\Q (.bl (bs.all id)) H):=by intro pz s σ H xs us Q I r h;obtain⟨p,bs,rfl,hq,q⟩:=h;obtain⟨u,rfl,rx⟩:=gV r;cases rx;refine call_all_walk (HC hc I hq (show X.A.in1.handled=none from I.ok.hd hc) fun J fp wr n P St tr it s₂ e1 e2 e3 e4 e5 e6 e7=>⟨J,fp,wr,n,P,St,tr,e1,e2,e3,e4,fun h' tk k=>?_⟩);have et:tr=fun i=>bs.getD i true:=funext e6;rw[e5,et,P8];exact⟨.bl (bs.all id),H,e7 h' tk k,rfl,q⟩
theorem OA(hc:X.calm=true):eY X (.builtin "any") (fun xs H Q=>∃(p:Addr)(bs:List Bool),xs=[.ref p]/\bM X.K H p (bs.map V.bl)/\Q (.bl (bs.any id)) H):=by intro pz s σ H xs us Q I r h;obtain⟨p,bs,rfl,hq,q⟩:=h;obtain⟨u,rfl,rx⟩:=gV r;cases rx;refine call_any_walk (HC hc I hq (show X.A.in1.handled=none from I.ok.hd hc) fun J fp wr n P St tr it s₂ e1 e2 e3 e4 e5 e6 e7=>⟨J,fp,wr,n,P,St,tr,e1,e2,e3,e4,fun h' tk k=>?_⟩);have et:tr=fun i=>bs.getD i true:=funext e6;rw[e5,et,P9];exact⟨.bl (bs.any id),H,e7 h' tk k,rfl,q⟩
def jd:List D->Option (List Bool)
|[]=>some []
|.bl b::ds=>(jd ds).map (b::·)
|_=>none
theorem FH{K:W.Frag}{G:GH}{H:Hp}(gk:bn K G H){ds:List D}{xs:List V}{bs:List Bool}(h:cK K G xs ds)(e:jd ds=some bs):xs=bs.map V.bl:=by induction h generalizing bs with
|nil=>cases e;rfl
|@cons x d xs ds r t ih=>cases d with
 |bl b=>have e':(jd ds).map (b::·)=some bs:=e;cases e1:jd ds with
  |none=>rw[e1]at e';cases e'
  |some bs'=>rw[e1]at e';cases e';rw[ih e1,Vq,(RG.rb (H:=H) r).bl gk]
 |_=>cases e
def allD:List D->Option D
|[.lst ds]=>(jd ds).map fun bs=>.bl (bs.all id)
|_=>none
def anyD:List D->Option D
|[.lst ds]=>(jd ds).map fun bs=>.bl (bs.any id)
|_=>none
theorem KN{K:W.Frag}:n9 K (fun xs H Q=>∃(p:Addr)(bs:List Bool),xs=[.ref p]/\bM K H p (bs.map V.bl)/\Q (.bl (bs.all id)) H) allD:=by
 intro G H vs ds d Q gk rs e q;unfold allD at e;split at e
 .rename_i zs;cases ek:jd zs with
 |none=>rw[ek]at e;cases e
 |some bs=>rw[ek]at e;cases e;cases rs with
  |cons r1 t=>cases t;obtain⟨b,xs,rfl,s,r⟩:=r1.lst gk;have ex:=FH gk r ek;subst ex;exact⟨b,bs,rfl,s,q _ G H (Grow.refl gk) (.scl (.bl _))⟩
 .cases e
theorem KO{K:W.Frag}:n9 K (fun xs H Q=>∃(p:Addr)(bs:List Bool),xs=[.ref p]/\bM K H p (bs.map V.bl)/\Q (.bl (bs.any id)) H) anyD:=by
 intro G H vs ds d Q gk rs e q;unfold anyD at e;split at e
 .rename_i zs;cases ek:jd zs with
 |none=>rw[ek]at e;cases e
 |some bs=>rw[ek]at e;cases e;cases rs with
  |cons r1 t=>cases t;obtain⟨b,xs,rfl,s,r⟩:=r1.lst gk;have ex:=FH gk r ek;subst ex;exact⟨b,bs,rfl,s,q _ G H (Grow.refl gk) (.scl (.bl _))⟩
 .cases e
variable{g:GE}{m:List Md}{e:Expr}{es:List Expr}{fl:ao->Res (List D)}{pos p:Pos}
theorem JU(hc:X.calm=true)(hg:Gl X "all")(hm:X.mg "all" = none)(ha:iH X g m (e::es) fl)(he:i_ (e::es) X.env=(false,eval e X.env)::i_ es X.env:=by rfl)(z:(backTo pos (i_ es X.env)).any (·.1)=false:=by rfl):SE X g m (.Call (.Name "all" p) (e::es) [] pos) (fC fl allD):=iS KN (kJ (Oz hc) hg hm PyProof.Rows.boot_all ha (by decide) (by decide) he z)
theorem sY(hc:X.calm=true)(hg:Gl X "any")(hm:X.mg "any" = none)(ha:iH X g m (e::es) fl)(he:i_ (e::es) X.env=(false,eval e X.env)::i_ es X.env:=by rfl)(z:(backTo pos (i_ es X.env)).any (·.1)=false:=by rfl):SE X g m (.Call (.Name "any" p) (e::es) [] pos) (fC fl anyD):=iS KO (kJ (OA hc) hg hm PyProof.Rows.boot_any ha (by decide) (by decide) he z)
def dL(ks:List Int):Int:=ks.getD (XJ (fun i j=>decide (ks.getD i 0<ks.getD j 0)) (ks.length-1)) 0
theorem A3(f:Nat->Int):∀k,XJ (fun i j=>decide (f i<f j)) k<=k/\∀i,i<=k->f (XJ (fun i j=>decide (f i<f j)) k)<=f i
|0=>⟨w_ _,fun i hi=>by
   have:i=0:=by omega
   subst this;exact ZN _⟩
|k+1=>by
  obtain⟨h1,h2⟩:=A3 f k;rw[Qbn];by_cases h:f (k+1)<f (XJ (fun i j=>decide (f i<f j)) k)
  .rw[if_pos (by simpa using h)];refine⟨w_ _,fun i hi=>?_⟩;by_cases z:i=k+1
   .subst z;exact ZN _
   .have:=h2 i (by omega);omega
  .rw[if_neg (by simpa using h)];refine⟨by omega,fun i hi=>?_⟩;by_cases z:i=k+1
   .subst z;omega
   .exact h2 i (by omega)
theorem Av{ks:List Int}(h:ks≠[]):dL ks∈ks:=by
 have hp:=WH.mpr h;have h1:=(A3 (fun i=>ks.getD i 0) (ks.length-1)).1;unfold dL;have hlt:XJ (fun i j=>decide (ks.getD i 0<ks.getD j 0)) (ks.length-1)<ks.length:=by omega
 rw[s_,d_ hlt];exact VR _
theorem qd{ks:List Int}{x:Int}(h:x∈ks):dL ks<=x:=by
 obtain⟨i,hi,rfl⟩:=V1 h;have:=(A3 (fun i=>ks.getD i 0) (ks.length-1)).2 i (by omega);have e:ks.getD i 0=ks[i]:=by simp[s_,hi]
 simp only[e]at this;exact this
theorem PN{prog:E_}{w:T_}{A:Vu}{E:a_->f_->Prop}{s:f_}{l:Addr}{its:Array a_}{Q:a_->f_->Prop}(h:s.heap.IsTuple l its)(k:∀s₂:f_,s₂={ s with heap:=s.heap.push { cls:=Value.type "tuple_iterator",data:=Data.fields #[Value.ref l,Value.int 0 0] } }->s₂.heap.IsTupleIter s.heap.objs.size l 0/\s₂.heap.IsTuple l its->(∀b:Nat,b∈[s.heap.objs.size,l]->b<s₂.heap.objs.size)->l≠s.heap.objs.size->Q (Value.ref s.heap.objs.size) s₂):u_ (D_ prog w) A (Z7 (Value.ref l)) Q E s:=by
 have lt:l<s.heap.objs.size:=by obtain⟨o,e,_⟩:=id h;exact y_ e
 refine Wk h (k _ rfl ⟨⟨_,z_ _ rfl,rfl,rfl⟩,h.push _⟩ ?_ (J_ lt));intro b hb;have z1:∀ob:Obj,(s.heap.push ob).objs.size=s.heap.objs.size+1:=fun _=>VU ..;rw[z1];simp only[m_,G_,or_false]at hb;rcases hb with rfl|rfl
 .exact Wi _
 .exact WB lt
abbrev xR(K:W.Frag)(cmp:Int->Int->Bool):List V->Hp->VK->Prop:=fun xs H Q=>∃(p:Addr)(ks:List Int),xs=[.ref p]/\(bM K H p (ks.map V.int)\/cJ K H p (ks.map V.int))/\ks≠[]/\Q (.int (ks.getD (XJ (fun i j=>cmp (ks.getD i 0) (ks.getD j 0)) (ks.length-1)) 0)) H
theorem He{b:String}{op:Qaf}(hc:X.calm=true)(cmp:Int->Int->Bool)(walk:∀{A:Vu}{E:a_->f_->Prop}{s:f_}{x:a_}{Q:a_->f_->Prop},u_ (D_ X.prog X.w) A.in1 (Z7 x) (fun it s₂=>∃I fp wr G n P St bt,it=Value.ref I/\WalksS X.prog X.w A.in1 I fp wr G n P St/\St 0 s₂/\(∀b:Addr,b∈fp->b<s₂.heap.objs.size)/\0<n/\CmpOf X.prog X.w A.in1 op P bt/\∀(v:a_)(s':f_),P (XJ bt (n-1)) v->Moved wr G s₂ s'->Q v s') E s->u_ (D_ X.prog X.w) A (call (Value.builtin b) [x]) Q E s)(hcmp:∀(A:Vu)(s:f_)(a:Int)(t:Tok)(c:Int)(u:Tok)(E Q:a_->f_->Prop),Q (.bool (cmp a c)) s->u_ (D_ X.prog X.w) A (QaD op (.int a t) (.int c u)) Q E s):eY X (.builtin b) (xR X.K cmp):=by
 intro pz s σ H xs us Q I r h;obtain⟨p,ks,rfl,hq,hne,q⟩:=h;obtain⟨u,rfl,rx⟩:=gV r;cases rx;have hA:X.A.in1.handled=none:=I.ok.hd hc;have hp:=WH.mpr hne;have fin:∀(its:List a_)(ob:Obj)(St:Nat->Heap->Prop),ar (ks.map V.int) its->Walks X.prog X.w X.A.in1 s.heap.objs.size [s.heap.objs.size,p] [s.heap.objs.size] its.toArray.size (fun i v=>its.toArray[i]? = some v) St->St 0 (s.heap.push ob)->(∀b:Nat,b∈[s.heap.objs.size,p]->b<(s.heap.push ob).objs.size) ->∃I fp wr G n P St bt,Value.ref s.heap.objs.size=Value.ref I/\WalksS X.prog X.w X.A.in1 I fp wr G n P St/\St 0 { s with heap:=s.heap.push ob }/\(∀b:Addr,b∈fp->b<(s.heap.push ob).objs.size)/\0<n/\CmpOf X.prog X.w X.A.in1 op P bt/\∀(v:a_)(s':f_),P (XJ bt (n-1)) v->Moved wr G { s with heap:=s.heap.push ob } s'->EP X pz σ Q v s':=by
  intro its ob St rv W hi hlt;have hl:=rv.length;rw[g_]at hl;have gi:∀i v,its[i]? = some v->∃t,v=Value.int (ks.getD i 0) t:=fun i v hv=>by
   have hi:i<its.length:=(j_.mp hv).1;have Z:i<(ks.map V.int).length:=by rw[g_];omega
   obtain⟨u,h1,h3⟩:=rv.get (i:=i) (x:=(ks.map V.int)[i]) (d_ Z);rw[hv]at h1;cases h1;rw[Zc]at h3;have Y:i<ks.length:=by omega
   rw[s_,d_ Y];exact h3
  refine⟨s.heap.objs.size,[s.heap.objs.size,p],[s.heap.objs.size],_,its.toArray.size,_,_,fun i j=>cmp (ks.getD i 0) (ks.getD j 0),rfl,W.toS,hi,hlt,by rw[q_];omega,?_,fun v s' hv M=>?_⟩
  .intro i j vi vj s' Q' E' h1 h2 ac;obtain⟨t1,rfl⟩:=gi i vi (by simpa using h1);obtain⟨t2,rfl⟩:=gi j vj (by simpa using h2);exact hcmp _ s' _ t1 _ t2 E' Q' ac
  .have hsz:its.toArray.size-1=ks.length-1:=by rw[q_];omega
   rw[hsz]at hv;obtain⟨t,rfl⟩:=gi _ v (by simpa using hv);have ne:∀b o,s.heap.get? b=some o->¬ b∈[s.heap.objs.size]:=fun b o e z=>by have:=Vp.mp z;subst this;exact absurd (y_ e) (VY _)
   obtain⟨h',g',d',tk,os'⟩:=s';have e1:g'=s.gens:=M.gens;have e3:d'=s.drawn:=M.drawn;have e4:os'=s.os:=M.os;subst e1 e3 e4;exact⟨.int _,H,Inv.keptN I (fun b o _ e=>M.heap b o (ne b o e) (c_ _ e)) (fun m ⟨o,es,ep,e,z⟩=>⟨o,es,ep,M.heap _ _ (ne _ _ e) (c_ _ e),z⟩) tk,⟨_,rfl⟩,q⟩
 rcases hq with hq|hq
 .obtain⟨its,rv,pl,hz⟩:=I.list hq;exact walk (ZM pl.isList fun s₂ e2 hi hlt U=>by subst e2;exact fin its _ _ rv (Walks.list hA _ p U its.toArray) hi hlt)
 .obtain⟨its,rv,pl,hz⟩:=I.tuple hq;exact walk (PN pl fun s₂ e2 hi hlt U=>by subst e2;exact fin its _ _ rv (Qbp hA _ p U its.toArray) hi hlt)
def sX(z:List Int->Int):List D->Option D
|[.lst (d::ds)]=>(dR (d::ds)).map fun ks=>.int (z ks)
|[.tup (d::ds)]=>(dR (d::ds)).map fun ks=>.int (z ks)
|_=>none
theorem GZ{K:W.Frag}{cmp:Int->Int->Bool}{z:List Int->Int}(hz:∀ks:List Int,ks.getD (XJ (fun i j=>cmp (ks.getD i 0) (ks.getD j 0)) (ks.length-1)) 0=z ks):n9 K (xR K cmp) (sX z):=by
 intro G H vs ds d Q gk rs e q;have key:∀(y:D)(ys:List D)(v:V)(b:Addr)(xs:List V),v=.ref b->(bM K H b xs\/cJ K H b xs)->cK K G xs (y::ys)->(dR (y::ys)).map (fun ks=>D.int (z ks))=some d->xR K cmp [v] H Q:=fun y ys v b xs ev s r e=>by cases ek:dR (y::ys)with
 |none=>rw[ek]at e;cases e
 |some ks=>
   rw[ek]at e;cases e;have hl:=Paired.length r;have ex:=Ay gk r ek;subst ex;refine⟨b,ks,by rw[ev],s,?_,by rw[hz];exact q _ G H (Grow.refl gk) (.scl (.int _))⟩
   rintro rfl
   simp at hl
 unfold sX at e;split at e
 .cases rs with
 |cons r1 t=>cases t;obtain⟨b,xs,ev,s,r⟩:=r1.lst gk;exact key _ _ _ b xs ev (.inl s) r e
 .cases rs with
 |cons r1 t=>cases t;obtain⟨b,xs,ev,s,r⟩:=r1.tup gk;exact key _ _ _ b xs ev (.inr s) r e
 .cases e
abbrev je:List D->Option D:=sX dL
theorem tt(hc:X.calm=true)(hg:Gl X "min")(hm:X.mg "min" = none)(ha:iH X g m (e::es) fl)(he:i_ (e::es) X.env=(false,eval e X.env)::i_ es X.env:=by rfl)(U:(backTo pos (i_ es X.env)).any (·.1)=false:=by rfl):SE X g m (.Call (.Name "min" p) (e::es) [] pos) (fC fl je):=iS (GZ (z:=dL) fun _=>rfl) (kJ (He hc (fun a b=>decide (a<b)) call_min_walkS fun _ s a t c u E Q h=>HT.jN _ s a t c u X.prog X.w E Q h) hg hm PyProof.Rows.boot_min ha (by decide) (by decide) he U)
def lx(h0 H:Hp):Prop:=∀a o,h0 a=some o->H a=some o
structure YieldsB(K:W.Frag)(h0:Hp)(J:It)(ds:List D)(G0:GH):Prop where
 go:∀G H (i:Nat),bv G0 G->bn K G H->lx h0 H->i<ds.length->J.go i H
 yld:∀G H (i:Nat) x H' d,bv G0 G->bn K G H->lx h0 H->J.yld i H x H'->ds[i]? = some d->∃G',Grow K G H G' H'/\RG K G' x d
 stop:∀G H,bv G0 G->bn K G H->lx h0 H->J.stop ds.length H
theorem Yields.toH{K:W.Frag}{h0:Hp}{J:It}{ds:List D}{G0:GH}(y:Yields K J ds G0):YieldsB K h0 J ds G0:=⟨fun G H i w gk _ hi=>y.go G H i w gk hi,fun G H i x H' d w gk _ q e=>y.yld G H i x H' d w gk q e,fun G H w gk _=>y.stop G H w gk⟩
def SM(X:Cx)(g:GE)(m:List Md)(f:FI):TI:=fun σ H R=>∃r G,SI X g m r G σ H/\fin (f r) (fun ds=>∀J G' H',Grow X.K G H G' H'->YieldsB X.K g.h0 J ds G'->R J H') (XW X σ G H)
def nQ(X:Cx)(g:GE)(m:List Md)(tg iter:Expr)(f:FI):Prop:=PI X tg iter (SM X g m f)
def SR(X:Cx)(g:GE)(m:List Md)(f:FE):TE:=fun σ H Q=>∃r G,SI X g m r G σ H/\fin (f r) (fun d=>∀v G' H',Grow X.K G H G' H'->Bw X.K g.h0 G' H' v d->Q v H') (XW X σ G H)
def Dw(X:Cx)(g:GE)(m:List Md)(e:Expr)(f:FE):Prop:=PE X e (SR X g m f)
variable{pos2:Pos}{elts:List Expr}{kk:Nat}
section
variable{m' mb:List Md}{tg a iter:Expr}{f:FE}{ro:Bool}{sts:List Stmt}{s1:FS}
theorem Jq(i:Nat){x:Str}(hm:m[i]? = some .bw:=by rfl)(hN:X.N[i]? = some x:=by rfl)(hv:iG X.env.scope x:=by first|exact Or.inl rfl|exact Or.inr (Or.inl rfl)|exact Or.inr (Or.inr rfl))(hd:(x==("__debug__" : Str))=false:=by decide)(z:(x==("__classdict__" : Str))=false:=by decide):Dw X g m (.Name x pos) fun r=>cg r i:=by refine PE.imp (jD hN hv hd z) fun σ H Q ⟨r,G,si,q⟩=>?_;obtain⟨d,e,k⟩:=As q;obtain⟨v,e1,e2⟩:=si.bw i d e hm;exact⟨v,e1,k _ G H (Grow.refl si.gok) e2⟩
theorem FO{K:W.Frag}{h0:Hp}{G0 G:GH}{H0 H:Hp}{a:Addr}{ds:List D}(o:Own K G0 H0 a (.lst ds))(h:h0 a≠none)(o0:lx h0 H0)(le:bv G0 G)(o1:lx h0 H):∃xs,bM K H a xs/\cK K G xs ds:=by cases e:h0 a with
|none=>exact absurd e h
|some u=>have h1:=o0 a u e;have h2:=o1 a u e;cases o.ob with
 |lst r s=>rw[h1]at r;cases r;exact⟨_,bM.of h2,cK.mono s le⟩
theorem Mh{K:W.Frag}{h0:Hp}{ds:List D}{G0:GH}{a:Addr}(h:∀G H,bv G0 G->bn K G H->lx h0 H->∃xs,bM K H a xs/\cK K G xs ds):YieldsB K h0 (sH K a) ds G0:=by
 refine⟨fun G H i w gk o hi=>?_,fun G H i x H' d w gk o y e=>?_,fun G H w gk o=>?_⟩
 .obtain⟨xs,s,r⟩:=h G H w gk o;have hl:=Paired.length r;exact⟨xs,xs[i],s,d_ (by omega)⟩
 .obtain⟨xs,s,r⟩:=h G H w gk o;obtain⟨rfl,y⟩:=y;obtain⟨v,e1,rv⟩:=Paired.get r e;have:=y xs s;rw[e1]at this;cases this;exact⟨G,Grow.refl gk,rv⟩
 .obtain⟨xs,s,r⟩:=h G H w gk o;exact⟨xs,s,XD (Paired.length r)⟩
theorem SI.oldIn{r:ao}{G:GH}{st:L2.St}{H:Hp}(s:SI X g m r G st H):lx g.h0 H:=s.old
theorem Kw(h:Dw X g m e f):nQ X g m tg e (aU bN f):=by
 refine PI.imp (zH h) fun σ H R ⟨r,G,si,q⟩=>⟨r,G,si,bG (bJ q) fun d q v G' H' w rv=>?_⟩
 obtain⟨ds,e,q⟩:=cX q;cases d with
|lst ds'=>
  cases e;rcases rv with rv|⟨a,rfl,o,ho⟩
  .obtain⟨a,xs,rfl,s,rs⟩:=rv.lst w.ok;exact .inl ⟨a,rfl,⟨xs,s⟩,q _ G' H' w (Ab rv).toH⟩
  .cases o.ob with
  |lst r s=>exact .inl ⟨a,rfl,⟨_,bM.of r⟩,q _ G' H' w (Mh fun G2 H2 le _ o2=>FO o ho (si.grow w).oldIn le o2)⟩
|tup ds'=>
  cases e;rcases rv with rv|⟨a,rfl,o,ho⟩
  .obtain⟨a,xs,rfl,s,rs⟩:=rv.tup w.ok;exact .inr ⟨a,rfl,⟨xs,s⟩,q _ G' H' w (zS rv).toH⟩
  .cases o.ob
|_=>cases e
theorem Aa{K:W.Frag}{h0:Hp}{ds:List D}{G0:GH}{sq:Hp->List V->Prop}(h:∀G H,bv G0 G->bn K G H->lx h0 H->∃xs,sq H xs/\cK K G xs ds):YieldsB K h0 (nU sq) (cj 0 ds) G0:=by
 refine⟨fun G H i w gk o hi=>?_,fun G H i x H' d w gk o y e=>?_,fun G H w gk o=>?_⟩
 .obtain⟨xs,s,r⟩:=h G H w gk o;rw[qj]at hi;have hl:=Paired.length r;exact⟨xs,xs[i],s,d_ (by omega)⟩
 .obtain⟨xs,s,r⟩:=h G H w gk o;obtain⟨p,v,hp,rfl,rfl,hv⟩:=y;rw[Ar]at e;cases ed:ds[i]? with
 |none=>rw[ed]at e;cases e
 |some d0=>rw[ed]at e;simp only[VZ,YU,Qaq]at e;subst e;obtain⟨v',e1,rv⟩:=Paired.get r ed;have:=hv xs s;rw[e1]at this;cases this;exact⟨_,Grow.newF gk hp (.tup (.inl bX) (.cons (.scl (.int _)) (.cons rv .nil))),.ref gK⟩
 .obtain⟨xs,s,r⟩:=h G H w gk o;rw[qj];exact⟨xs,s,Paired.length r⟩
theorem Nh(hg:Gl X "enumerate")(hm:X.mg "enumerate" = none)(he:Dw X g m e f)(hs:i_ [e] X.env=(false,eval e X.env)::i_ [] X.env:=by rfl):nQ X g m (.Tuple elts kk pos2) (.Call (.Name "enumerate" p) [e] [] pos) (fJ f):=by
 refine PI.imp (FR hg hm he hs) fun σ H R ⟨r,G,si,q⟩=>⟨r,G,si,bG (bJ q) fun d q v G' H' w rv=>?_⟩
 obtain⟨ds,e,q⟩:=cX (bJ q);cases d with
|lst ds'=>
  cases e;rcases rv with rv|⟨a,rfl,o,ho⟩
  .obtain⟨a,xs,rfl,s,rs⟩:=rv.lst w.ok;refine .inl ⟨a,rfl,⟨xs,s⟩,q _ G' H' w (Aa fun G H le gk _=>?_)⟩;obtain⟨b,ys,e,s',r'⟩:=(rv.mono le).lst gk;cases e;exact⟨ys,s',r'⟩
  .cases o.ob with
  |lst r s=>exact .inl ⟨a,rfl,⟨_,bM.of r⟩,q _ G' H' w (Aa fun G2 H2 le _ o2=>FO o ho (si.grow w).oldIn le o2)⟩
|tup ds'=>
  cases e;rcases rv with rv|⟨a,rfl,o,ho⟩
  .obtain⟨a,xs,rfl,s,rs⟩:=rv.tup w.ok;refine .inr ⟨a,rfl,⟨xs,s⟩,q _ G' H' w (Aa fun G H le gk _=>?_)⟩;obtain⟨b,ys,e,s',r'⟩:=(rv.mono le).tup gk;cases e;exact⟨ys,s',r'⟩
  .cases o.ob
|_=>cases e
theorem EW(hp:Y7 (D_ X.prog X.w) X.A X.env X.xe)(hc:X.calm=true){ft:FT}{fi:FI}(hi:nQ X g m tg iter fi)(hg:SG X g m tg ft m)(hb:fP X g ro m m sts s1 m)(hs:∀x,Wa iter X.env x=pure x:=by intro _;rfl):SS X g ro mb m (.For tg iter sts [] pos) (eF m fi ft s1) m:=by
 refine⟨rfl,PS.imp (zJ hp hc hi hg.2 hb.2 hs) fun D σ H ⟨r,G,si,q⟩=>⟨r,G,si,bG (gC si rfl q) fun ds q J G0 H0 w0 Y=>?_⟩⟩;refine⟨fun i n σ H=>∃r G,SI X g m r G σ H/\bv G0 G/\i<=ds.length/\n=ds.length-i/\cD X g ro m mb G D (aI ft s1 (ds.drop i) r),⟨ds.length,r,G0,si.grow w0,bv.refl G0,VM _,rfl,cD.gle q w0.ge⟩,?_⟩
 rintro i n σ1 H1 ⟨r1,G1,si1,le1,hi,rfl,q1⟩
 by_cases hlt:i<ds.length
 .have hd:ds.drop i=ds[i]::ds.drop (i+1):=Wh hlt;rw[hd]at q1;unfold aI at q1;refine .inr ⟨Y.go G1 H1 i le1 si1.gok si1.oldIn hlt,fun σ' H'=>∃r G,SI X g m r G σ' H'/\bv G0 G/\cD X g ro m mb G D (aI ft s1 (ds.drop (i+1)) r),fun σ' H' ⟨r',G',si',Z,q'⟩=>⟨ds.length-(i+1),by omega,r',G',si',Z,hlt,rfl,q'⟩,fun x H' y=>?_⟩;obtain⟨G',w',rv⟩:=Y.yld G1 H1 i x H' ds[i] le1 si1.gok si1.oldIn y (d_ hlt);have Z:bv G0 G':=le1.trans w'.ge;cases ac:ft ds[i] r1 with
 |none=>simp only[ac]at q1;exact q1.elim
 |some r2=>simp only[ac]at q1;refine⟨r1,G',ds[i],si1.grow w',rv,r2,ac,fun σ2 ad=>⟨r2,G',ad,?_⟩⟩;cases eb:s1 r2 with
  |nx r'=>simp only[eb]at q1;exact fun σ3 G3 H3 z U=>⟨r',G3,U,Z.trans z,cD.gle q1 (bv.trans w'.ge z)⟩
  |ct r'=>simp only[eb]at q1;exact fun σ3 G3 H3 z U=>⟨r',G3,U,Z.trans z,cD.gle q1 (bv.trans w'.ge z)⟩
  |bk r'=>simp only[eb]at q1;exact fun σ3 G3 H3 z U=>q1 σ3 G3 H3 (bv.trans w'.ge z) U
  |rt d=>simp only[eb]at q1;exact q1
  |exc x r'=>simp only[eb]at q1;exact fun pz e s' σ3 G3 H3 z=>q1 pz e s' σ3 G3 H3 (bv.trans w'.ge z)
  |stuck=>simp only[eb]at q1;exact q1
 .have e:i=ds.length:=by omega
  subst e;rw[XH]at q1;exact .inl ⟨Y.stop G1 H1 le1 si1.gok si1.oldIn,q1 σ1 G1 H1 (bv.refl _) si1⟩
end
section
open HT (sIx)
section
variable{prog:E_}{w:T_}{A:Vu}{E:a_->f_->Prop}{s:f_}
theorem RI{t sl:Addr}{items:Array a_}{vl vu:a_}{lo hi:Option Int}{Q:a_->f_->Prop}(ht:IsTup s.heap t items)(hs:s.heap.IsSliceOf sl vl vu .none)(pl:Zh vl lo)(pu:Zh vu hi)(hw:sIx items.size 0 lo=0/\sIx items.size items.size hi=items.size)(h:Q (.ref t) s):u_ (D_ prog w) A (Zi (.ref t) (.ref sl)) Q E s:=by
 obtain⟨os,Y,U,Z⟩:=id hs;have z:s.TypeIs (.ref sl) "slice" := ⟨os,Y,U⟩
 unfold Zi
 try with_reducible refine W2 ?_
 first|refine b_ (o_ ?_)|skip
 refine b_ (Qaj ht.typeIs (by decide) (b_ (V7 (name:=K_ "__getitem__") ht.typeIs VF (Xc VF ht.typeIs PyProof.Rows.entry_tuple_getitem ?_ (PyProof.Rows.args_tuple_getitem _ _)))));show u_ _ _ (YJ (.ref t) >>= _) _ _ s;refine b_ (PyProof.Rows.tupleItemsOf_ ht (b_ (Zj z ?_)));rw[if_pos (by decide)];refine b_ (HT.cF hs pl pu ?_);rw[hw.1,hw.2];show u_ _ _ (if (((0:Nat):Int)==0&&(1:Int)==1&&(items.size-0)==items.size)=true then _ else _) _ _ s;rw[if_pos (by simp)];show u_ _ _ (YM (.ref t) >>= _) _ _ s;unfold YM;refine b_ (b_ (Zj ht.typeIs (o_ ?_)));rw[if_pos (by decide)];refine b_ (Qaa ?_);show u_ _ _ (ret (.ref t)) _ _ s;exact o_ ⟨_,rfl,o_ h⟩
end
def CT(K:W.Frag):V->Option Int->Option Int->Hp->VK->Prop:=fun x lo hi H Q=>∃a xs,x=.ref a/\cJ K H a xs/\(sIx xs.length 0 lo=0/\sIx xs.length xs.length hi=xs.length)/\Q (.ref a) H
theorem OT{X:Cx}:jY X (CT X.K):=by
 intro pz s σ H x v vl vu lo hi sl Q I rx hs pl pu h;obtain⟨a,xs,rfl,hx,hw,q⟩:=h;cases rx;obtain⟨its,r,ht,hz⟩:=I.tuple hx;have hlen:its.toArray.size=xs.length:=by rw[q_];exact r.length.symm
 exact⟨"tuple",_,VF.lookup,ht.typeIs,RI ht hs pl pu (by rw[hlen];exact hw) ⟨.ref a,H,I,rfl,q⟩⟩
def kU(d:D)(lo hi:Option Int):Option D:=match d with
|.tup ds=>some (.tup (bf ds lo hi))
|.lst ds=>some (.lst (bf ds lo hi))
|_=>none
def cO(fa:FE)(fl fh:FP):FE:=fun r=>(fa r).bind fun d=>(fl r).bind fun lo=>(fh r).bind fun hi=>cQ (kU d lo hi)
section
variable{X:Cx}{g:GE}{m:List Md}{e:Expr}{f fa:FE}{pos p2:Pos}
theorem NX{R:V->Option Int->Option Int->Hp->Prop}{fl fh:FP}{r:ao}{G:GH}{σ:L2.St}{H:Hp}{q:D->Prop}(si:SI X g m r G σ H)(h:fin (cO fa fl fh r) q (XW X σ G H))(hk:∀d lo hi v G2 H2 d',Grow X.K G H G2 H2->RB X.K G2 H2 v d->kU d lo hi=some d'->q d'->R v lo hi H2):tB X g m fa σ H fun x H1=>tP X g m fl σ H1 fun l H2=>tP X g m fh σ H2 fun u H3=>R x l u H3:=by refine⟨r,G,si,bG (bJ h) fun d h1 v G1 H1 w1 r1=>⟨r,G1,si.grow w1,gX (bJ h1) w1 fun lo h2 G2 H2 w2=>⟨r,G2,(si.grow w1).grow w2,?_⟩⟩⟩;refine gX (bJ h2) (w1.trans w2) fun hi h3 G3 H3 w3=>?_;obtain⟨d',e,h4⟩:=cX h3;exact hk d lo hi v G3 H3 d' ((w1.trans w2).trans w3) ((r1.mono w2).mono w3) e h4
theorem P5{α:Type}{ds:List α}{lo hi:Option Int}(h:sIx ds.length 0 lo=0/\sIx ds.length ds.length hi=ds.length):bf ds lo hi=ds:=by unfold bf;rw[h.1,h.2];simp
theorem jy{lo hi:Option Expr}{fl fh:FP}(he:SB X g m e f)(hl:lX X g m lo fl)(hu:lX X g m hi fh):SE X g m (.Subscript e (.Slice lo hi none p2) pos) (cO f fl fh):=by refine PE.imp (Aw (jY.or OT (jY.or Aj E2)) he hl hu) fun σ H Q ⟨r,G,si,q⟩=>?_;refine NX si q fun d lo hi v G2 H2 d' w r1 e q2=>?_;cases d with
|tup ds=>
  cases e;rcases r1 with r1|⟨a',_,oo⟩
  .obtain⟨a,xs,rfl,s,r⟩:=r1.tup w.ok;by_cases hw:sIx ds.length 0 lo=0/\sIx ds.length ds.length hi=ds.length
   .refine .inl ⟨a,xs,rfl,s,by rw[Paired.length r];exact hw,?_⟩;rw[P5 hw]at q2;exact q2 _ G2 H2 w r1
   .rw[<-Paired.length r]at hw;refine .inr (.inr ⟨a,xs,rfl,s,hw,fun p hp=>?_⟩);exact q2 _ _ _ (w.trans (Grow.newF w.ok hp (.tup (.inl bX) (pN r lo hi)))) (.ref gK)
  .cases oo.ob
|lst ds=>cases e;obtain⟨a,xs,rfl,s,r⟩:=r1.lst w.ok;exact .inr (.inl ⟨a,xs,rfl,s,fun p hp=>q2 _ _ _ (w.trans (Grow.newF w.ok hp (.lst (.inl bX) (pN r lo hi)))) (.ref gK)⟩)
|_=>cases e
end
end
section
open AutoSeq1 (wpAny_loadPart')
structure ZA(zp ti to u1 u2:Addr)(f1 f2:List Addr):Prop where
 a1:ti≠zp
 a2:to≠zp
 a3:u1≠zp
 a4:u2≠zp
 a5:to≠u1
 a6:to≠u2
 a7:u1≠u2
 a8:ti≠to/\ti≠u1/\ti≠u2
 b1:zp∉f1/\to∉f1/\u2∉f1
 b2:zp∉f2/\to∉f2/\u1∉f2
theorem _root_.PySem.Draws.at'{prog:E_}{w:T_}{A:Vu}{it:Addr}{fp:List Addr}{n:Nat}{P:Nat->a_->Prop}{St:Nat->Heap->Prop}(D:Z4 prog w A it fp n P St){i:Nat}{h h':Heap}{c:Addr}(st:St i h)(e:Heap.ExtBut c h h')(hc:c∉fp):St i h':=D.frame i h h' st fun b hb o q=>e b o (by rintro rfl;exact hc hb) q
section
variable{prog:E_}{w:T_}{A:Vu}{E:a_->f_->Prop}{s:f_}{zp ti to u1 u2:Addr}{f1 f2:List Addr}{n1 n2:Nat}{P1 P2:Nat->a_->Prop}{St1 St2:Nat->Heap->Prop}{p q:a_}
theorem QO{i:Nat}{Q:a_->f_->Prop}(Z:ZA zp ti to u1 u2 f1 f2)(D1:Z4 prog w A u1 f1 n1 P1 St1)(D2:Z4 prog w A u2 f2 n2 P2 St2)(hz:YN s.heap zp ti to .none)(hi:W5 s.heap ti (.ref u1) (.ref u2))(ho:W5 s.heap to p q)(s1:St1 i s.heap)(s2:St2 i s.heap)(l1:i<n1)(l2:i<n2)(hQ:∀x y h' tk,P1 i x->P2 i y->YN h' zp ti to (Yb s.heap.objs.size)->W5 h' to x y->St1 (i+1) h'->St2 (i+1) h'->W5 h' s.heap.objs.size x y->h'.objs.size=s.heap.objs.size+1 ->(∀c o,c≠zp->c≠to->c≠u1->c≠u2->s.heap.get? c=some o->h'.get? c=some o)->Q (.ref s.heap.objs.size) { s with heap:=h',toks:=tk }):u_ (D_ prog w) A (YD.«zip.__next__» ⟨[.ref zp],[]⟩) (fun fin s'=>∃v,fin=.done (.ret v)/\Q v s') E s:=by
 show u_ _ _ (Qa1 (.ref zp) 2 >>= _) _ _ _;refine b_ (VD hz rfl (x:=.bool false) rfl ?_);show u_ _ _ (Qa1 (.ref zp) 3 >>= _) _ _ _;refine b_ (VD hz rfl (x:=.ref ti) rfl (b_ (WR hi rfl ?_)));show u_ _ _ (V3 (.ref zp) >>= _) _ _ _;refine b_ ?_;unfold V3;refine b_ (VD hz rfl (x:=.none) rfl (o_ ?_));simp only[if_true];refine b_ (Qaa (b_ (VD hz rfl (x:=.ref to) rfl (b_ (WS hz (by simp) fun g1 ld k1=>?_)))));replace ld:YN g1 zp ti to .ellipsis:=ld;refine b_ ?_;simp only[Qaz,QaN,WW,ZO];refine b_ (b_ (Y4 ?_));show u_ _ _ (VH (.ref u1) >>= _) _ _ _;refine b_ (D1.item i _ _ _ l1 (D1.at' s1 k1.extBut Z.b1.1) fun x g2 t2 px S9 k2=>o_ ?_);have KK:W5 g2 to p q:=k2.extBut _ _ Z.a5 (k1.extBut _ _ Z.a2 ho);refine b_ (WR KK rfl (b_ (Ys KK fun g3 ac k3=>?_)));replace ac:W5 g3 to x q:=ac;refine b_ (QaH (o_ ?_));refine b_ (b_ (Y4 ?_));show u_ _ _ (VH (.ref u2) >>= _) _ _ _;refine b_ (D2.item i _ _ _ l2 (D2.at' (D2.at' (D2.at' s2 k1.extBut Z.b2.1) k2.extBut Z.b2.2.2) k3.extBut Z.b2.2.1) fun y g4 t4 py ST k4=>o_ ?_);have BT:W5 g4 to x q:=k4.extBut _ _ Z.a6 ac;refine b_ (WR BT rfl (b_ (Ys BT fun g5 U k5=>?_)));replace U:W5 g5 to x y:=U;refine b_ (QaH (o_ (o_ ?_)));refine b_ (WR U rfl (b_ (wpAny_newTuple ?_)));have hsz:g5.objs.size=s.heap.objs.size:=by rw[k5.1,k4.1,k3.1,k2.1,k1.1]
 have Id:YN g5 zp ti to .ellipsis:=k5.extBut _ _ Z.a2.symm (k4.extBut _ _ Z.a4.symm (k3.extBut _ _ Z.a2.symm (k2.extBut _ _ Z.a3.symm ld)));have LE:St1 (i+1) g5:=D1.at' (D1.at' (D1.at' S9 k3.extBut Z.b1.2.1) k4.extBut Z.b1.2.2) k5.extBut Z.b1.2.1;have LT:St2 (i+1) g5:=D2.at' ST k5.extBut Z.b2.2.1;have ad:zp<g5.objs.size:=y_ Id;show u_ _ _ (XU (.ref zp) (.ref g5.objs.size) >>= _) _ _ _;refine b_ ?_;unfold XU;have S4:YN (g5.push { cls:=.type "tuple",data:=.seq #[x,y] }) zp ti to .ellipsis:=c_ _ Id;refine b_ (WS S4 (by simp) fun g7 Y k7=>?_);replace Y:YN g7 zp ti to (Yb g5.objs.size):=Y;refine WS Y (by simp) fun g8 z k8=>?_;replace z:YN g8 zp ti to (Yb g5.objs.size):=z;have up:∀c o,c≠zp->g5.get? c=some o->g8.get? c=some o:=fun c o c1 e=>k8.extBut _ _ c1 (k7.extBut _ _ c1 (c_ _ e));have Cl:W5 g8 g5.objs.size x y:=k8.extBut _ _ (Wn ad) (k7.extBut _ _ (Wn ad) (z_ _ rfl));have IO:g8.objs.size=g5.objs.size+1:=by rw[k8.1,k7.1,VU]
 rw[hsz]at z Cl IO;refine o_ ⟨_,rfl,?_⟩;show Q (.ref g5.objs.size) _;rw[hsz];refine hQ x y g8 _ px py z (up _ _ Z.a2 U) (D1.frame _ _ _ LE fun b hb o e=>up b o (by rintro rfl;exact Z.b1.1 hb) e) (D2.frame _ _ _ LT fun b hb o e=>up b o (by rintro rfl;exact Z.b2.1 hb) e) Cl IO fun c o c1 c2 c3 c4 e=>up c o c1 ?_;exact k5.extBut _ _ c2 (k4.extBut _ _ c4 (k3.extBut _ _ c2 (k2.extBut _ _ c3 (k1.extBut _ _ c1 e))))
theorem OZ{i:Nat}{Q:Fin->f_->Prop}(Z:ZA zp ti to u1 u2 f1 f2)(D1:Z4 prog w A u1 f1 n1 P1 St1)(D2:Z4 prog w A u2 f2 n2 P2 St2)(hz:YN s.heap zp ti to .none)(hi:W5 s.heap ti (.ref u1) (.ref u2))(ho:W5 s.heap to p q)(s1:St1 i s.heap)(s2:St2 i s.heap)(U:i=n1\/(i<n1/\i=n2))(hE:∀h' e tk,(∀c o,c≠zp->c≠to->c≠u1->c≠u2->s.heap.get? c=some o->h'.get? c=some o)->(∃o,h'.get? e=some o/\o.cls=.type "StopIteration")->E (.ref e) { s with heap:=h',toks:=tk }):u_ (D_ prog w) A (YD.«zip.__next__» ⟨[.ref zp],[]⟩) Q E s:=by
 show u_ _ _ (Qa1 (.ref zp) 2 >>= _) _ _ _;refine b_ (VD hz rfl (x:=.bool false) rfl ?_);show u_ _ _ (Qa1 (.ref zp) 3 >>= _) _ _ _;refine b_ (VD hz rfl (x:=.ref ti) rfl (b_ (WR hi rfl ?_)));show u_ _ _ (V3 (.ref zp) >>= _) _ _ _;refine b_ ?_;unfold V3;refine b_ (VD hz rfl (x:=.none) rfl (o_ ?_));simp only[if_true];refine b_ (Qaa (b_ (VD hz rfl (x:=.ref to) rfl (b_ (WS hz (by simp) fun g1 ac k1=>?_)))));replace ac:YN g1 zp ti to .ellipsis:=ac;refine b_ ?_;simp only[Qaz,QaN,WW,ZO];refine b_ (b_ (Y4 ?_));show u_ _ _ (VH (.ref u1) >>= _) _ _ _;rcases U with U|⟨hlt,U⟩
 .subst U;refine b_ (D1.done _ _ _ (D1.at' s1 k1.extBut Z.b1.1) fun g2 e k2 he=>?_);obtain⟨oe,z,Y⟩:=he;have ld:YN g2 zp ti to .ellipsis:=k2 _ _ Z.a3.symm ac;have ad:e≠zp:=fun x=>by subst x;rw[ld]at z;cases z;simp at Y
  exact WS ld (by simp) fun g3 _ k3=>hE g3 e _ (fun c o c1 _ c3 _ x=>k3.extBut _ _ c1 (k2 _ _ c3 (k1.extBut _ _ c1 x))) ⟨oe,k3.extBut _ _ ad z,Y⟩
 .subst U;refine b_ (D1.item _ _ _ _ hlt (D1.at' s1 k1.extBut Z.b1.1) fun x g2 t2 px Id k2=>o_ ?_);have BT:W5 g2 to p q:=k2.extBut _ _ Z.a5 (k1.extBut _ _ Z.a2 ho);refine b_ (WR BT rfl (b_ (Ys BT fun g3 IO k3=>?_)));refine b_ (QaH (o_ ?_));refine b_ (b_ (Y4 ?_));show u_ _ _ (VH (.ref u2) >>= _) _ _ _;refine b_ (D2.done _ _ _ (D2.at' (D2.at' (D2.at' s2 k1.extBut Z.b2.1) k2.extBut Z.b2.2.2) k3.extBut Z.b2.2.1) fun g4 e k4 he=>?_);obtain⟨oe,z,Y⟩:=he;have Cl:YN g4 zp ti to .ellipsis:=k4 _ _ Z.a4.symm (k3.extBut _ _ Z.a2.symm (k2.extBut _ _ Z.a3.symm ac));have ad:e≠zp:=fun x=>by subst x;rw[Cl]at z;cases z;simp at Y
  exact WS Cl (by simp) fun g5 _ k5=>hE g5 e _ (fun c o c1 c2 c3 c4 x=>k5.extBut _ _ c1 (k4 _ _ c4 (k3.extBut _ _ c2 (k2.extBut _ _ c3 (k1.extBut _ _ c1 x))))) ⟨oe,k5.extBut _ _ ad z,Y⟩
theorem Rt{i:Nat}{Q:Option a_->f_->Prop}(Z:ZA zp ti to u1 u2 f1 f2)(D1:Z4 prog w A.in1 u1 f1 n1 P1 St1)(D2:Z4 prog w A.in1 u2 f2 n2 P2 St2)(hz:YN s.heap zp ti to .none)(hi:W5 s.heap ti (.ref u1) (.ref u2))(ho:W5 s.heap to p q)(s1:St1 i s.heap)(s2:St2 i s.heap)(l1:i<n1)(l2:i<n2)(hQ:∀x y h' tk,P1 i x->P2 i y->YN h' zp ti to (Yb s.heap.objs.size)->W5 h' to x y->St1 (i+1) h'->St2 (i+1) h'->W5 h' s.heap.objs.size x y->h'.objs.size=s.heap.objs.size+1 ->(∀c o,c≠zp->c≠to->c≠u1->c≠u2->s.heap.get? c=some o->h'.get? c=some o)->Q (some (.ref s.heap.objs.size)) { s with heap:=h',toks:=tk }):u_ (D_ prog w) A (Qau (.ref zp)) Q E s:=by
 have hT:s.TypeIs (.ref zp) "zip" := ⟨_,hz,rfl⟩
 unfold Qau;exact b_ (wpAny_attempt (V7 (name:=K_ "__next__") hT F.slot_zip_next (Xc F.slot_zip_next hT F.entry_zip_next
   (QO Z D1 D2 hz hi ho s1 s2 l1 l2 fun x y h' tk b1 b2 b3 b4 b5 b6 b7 b8 b9=>o_ (hQ x y h' tk b1 b2 b3 b4 b5 b6 b7 b8 b9)) (F.args_zip_next_1 _))))
theorem R5{i:Nat}{Q:Option a_->f_->Prop}(Z:ZA zp ti to u1 u2 f1 f2)(D1:Z4 prog w A.in1 u1 f1 n1 P1 St1)(D2:Z4 prog w A.in1 u2 f2 n2 P2 St2)(hz:YN s.heap zp ti to .none)(hi:W5 s.heap ti (.ref u1) (.ref u2))(ho:W5 s.heap to p q)(s1:St1 i s.heap)(s2:St2 i s.heap)(z:i=n1\/(i<n1/\i=n2))(hQ:∀h' tk,(∀c o,c≠zp->c≠to->c≠u1->c≠u2->s.heap.get? c=some o->h'.get? c=some o)->Q none { s with heap:=h',toks:=tk }):u_ (D_ prog w) A (Qau (.ref zp)) Q E s:=by
 have hT:s.TypeIs (.ref zp) "zip" := ⟨_,hz,rfl⟩
 unfold Qau;refine b_ (wpAny_attempt (V7 (name:=K_ "__next__") hT F.slot_zip_next (Xc F.slot_zip_next hT F.entry_zip_next (OZ Z D1 D2 hz hi ho s1 s2 z fun h' e tk hk he=>?_) (F.args_zip_next_1 _))));obtain⟨o,ho,hc⟩:=he;exact b_ (wpAny_isInstance (T := "StopIteration") (b:=true) ⟨o,ho,hc⟩ isSubtype_stop (o_ (hQ _ _ hk)))
end
abbrev js(c:String)(l:Addr):Obj:={ cls:=.type c,data:=.fields #[.ref l,.int 0 0] }
abbrev vC(h:Heap)(c1 c2:String)(l1 l2:Addr):Heap:=(h.push (js c1 l1)).push (js c2 l2)
abbrev vB(h:Heap)(c1 c2:String)(l1 l2:Addr):Heap:=(vC h c1 c2 l1 l2).push { cls:=.type "tuple",data:=.seq #[.ref h.objs.size,.ref (h.push (js c1 l1)).objs.size] }
abbrev o6(h:Heap)(c1 c2:String)(l1 l2:Addr):Heap:=(vB h c1 c2 l1 l2).push { cls:=.type "tuple",data:=.seq #[.none,.none] }
abbrev lG(h:Heap)(c1 c2:String)(l1 l2:Addr):Heap:=(o6 h c1 c2 l1 l2).push { cls:=.type "zip",data:=.fields #[.none,.bool false,.bool false,.ref (vC h c1 c2 l1 l2).objs.size,.ref (vB h c1 c2 l1 l2).objs.size] }
abbrev li(t:Bool):String:=match t with
|false => "list_iterator"
|true => "tuple_iterator"
theorem Ej{prog:E_}{w:T_}{A:Vu}{E:a_->f_->Prop}{s:f_}{t:Bool}{l:Addr}{xs:Array a_}{Q:a_->f_->Prop}(e:lT t l xs s.heap)(h:Q (.ref s.heap.objs.size) { s with heap:=s.heap.push (js (li t) l) }):u_ (D_ prog w) A (Z7 (.ref l)) Q E s:=by cases t with
|false=>exact Qao e h
|true=>exact Wk e h
theorem Ot(t1 t2:Bool)(l1 l2:Addr)(xs ys:Array a_):Meets (YD.«zip.__new__» ⟨[.type "zip",.ref l1,.ref l2],[]⟩) (fun _ R s=>lT t1 l1 xs s.heap/\lT t2 l2 ys s.heap /\R (.ok (.ret (.ref (o6 s.heap (li t1) (li t2) l1 l2).objs.size))) { s with heap:=lG s.heap (li t1) (li t2) l1 l2 }):=
 .of_wp fun prog w A R s h=>by
  obtain⟨hp,gg,dd,tk,os⟩:=s;obtain⟨q1,q2,h⟩:=h;have z:=sub_zip;have e1:lT t1 l1 xs (QaG ⟨hp,gg,dd,tk,os⟩):=q1;have e2:lT t2 l2 ys (QaG ⟨hp.push (js (li t1) l1),gg,dd,tk,os⟩):=Ow q2 fun o=>c_ _
  wp_walk using Ej e1,Ej e2
  exact⟨_,rfl,h⟩
section
variable{prog:E_}{w:T_}{A:Vu}{E:a_->f_->Prop}{s:f_}
def sF(s:f_)(c1 c2:String)(l1 l2:Addr)(Q:a_->f_->Prop):Prop:=∀h',YN h' (s.heap.objs.size+4) (s.heap.objs.size+2) (s.heap.objs.size+3) .none->W5 h' (s.heap.objs.size+2) (.ref s.heap.objs.size) (.ref (s.heap.objs.size+1)) ->W5 h' (s.heap.objs.size+3) .none .none->h'.get? s.heap.objs.size=some (js c1 l1)->h'.get? (s.heap.objs.size+1)=some (js c2 l2) ->(∀c o,s.heap.get? c=some o->h'.get? c=some o)->Q (.ref (s.heap.objs.size+4)) { s with heap:=h' }
theorem MS{c1 c2:String}{l1 l2:Addr}{Q:a_->f_->Prop}(h:sF s c1 c2 l1 l2 Q):(∃o,(lG s.heap c1 c2 l1 l2).get? (o6 s.heap c1 c2 l1 l2).objs.size=some o/\o.cls=.type "zip")/\Q (.ref (o6 s.heap c1 c2 l1 l2).objs.size) { s with heap:=lG s.heap c1 c2 l1 l2 }:=by
 have z1:(s.heap.push (js c1 l1)).objs.size=s.heap.objs.size+1:=VU ..;have z2:(vC s.heap c1 c2 l1 l2).objs.size=s.heap.objs.size+2:=by rw[VU,z1]
 have z3:(vB s.heap c1 c2 l1 l2).objs.size=s.heap.objs.size+3:=by rw[VU,z2]
 have z4:(o6 s.heap c1 c2 l1 l2).objs.size=s.heap.objs.size+4:=by rw[VU,z3]
 have g5:(lG s.heap c1 c2 l1 l2).get? (o6 s.heap c1 c2 l1 l2).objs.size=some _:=z_ _ rfl;have g4:(lG s.heap c1 c2 l1 l2).get? (vB s.heap c1 c2 l1 l2).objs.size=some _:=c_ _ (z_ _ rfl);have g3:(lG s.heap c1 c2 l1 l2).get? (vC s.heap c1 c2 l1 l2).objs.size=some _:=c_ _ (c_ _ (z_ _ rfl));have g2:(lG s.heap c1 c2 l1 l2).get? (s.heap.push (js c1 l1)).objs.size=some (js c2 l2):=c_ _ (c_ _ (c_ _ (z_ _ rfl)));have g1:(lG s.heap c1 c2 l1 l2).get? s.heap.objs.size=some (js c1 l1):=c_ _ (c_ _ (c_ _ (c_ _ (z_ _ rfl))));rw[z2,z3,z4]at g5;rw[z1,z2]at g3;rw[z3]at g4;rw[z1]at g2;rw[z4];exact⟨⟨_,g5,rfl⟩,h _ g5 g3 g4 g1 g2 fun c o x=>c_ _ (c_ _ (c_ _ (c_ _ (c_ _ x))))⟩
end
end
theorem Fp{t:Bool}{a u:Addr}{h:Heap}(e:h.get? u=some (js (li t) a)):ll t a u 0 h:=by cases t <;> exact⟨_,e,rfl,rfl⟩
section
variable{t:Bool}{a u:Addr}{xs ys:List V}{i:Nat}
theorem PL{h':Heap}{ch:List Addr}{t':Nat}(I:Inv X pz σ H s)(U:∀b∈ch,dC X pz H b)(k:∀b ob,b∉ch->s.heap.get? b=some ob->h'.get? b=some ob):Inv X pz σ H { s with heap:=h',toks:=t' }:=by
 have trk:∀b u,H b=some u->b∉ch:=fun b u e hb=>by rw[(U b hb).1]at e;cases e
 refine I.step (g':=s.gens) (d':=s.drawn) (ch:=ch) (fun b hb=>?_) (fun b ob _ _ hc e _=>k b ob hc e) (fun b ob _ _ hc e _=>⟨ob.slots,k b ob hc e⟩) (fun b ob hc e n=>n)
  (fun b ob hc e=>⟨ob,k b ob hc e⟩) (fun b xs e=>e) (fun b ob u e=>e) (fun b ps e=>⟨#[],by rw[e];simp⟩) (fun m hm=>?_) (fun b u e=>?_) I.bare
 .obtain⟨z0,z1,z2,z3,z4,z5⟩:=U b hb;exact⟨z3,z1,z4,z5⟩
 .obtain⟨ob,es,ep,ho,r⟩:=hm;exact⟨ob,es,ep,k _ ob (fun hb=>(U _ hb).2.1 rfl) ho,r⟩
 .refine(I.hok b u e).stay (fun c v hc q=>k c v ?_ q) (fun c q=>q) fun c xs q=>q;rcases hc with z|z
  .rw[z];exact trk b u e
  .exact trk c _ z
end
def xI(sq1 sq2:Hp->List V->Prop):It:=⟨fun i H=>∃xs ys x y,sq1 H xs/\sq2 H ys/\xs[i]? = some x/\ys[i]? = some y,fun i H x H'=>∃p v u,H p=none/\x=.ref p/\H'=aD H p (.tup [v,u])/\(∀xs,sq1 H xs->xs[i]? = some v)/\∀ys,sq2 H ys->ys[i]? = some u,fun i H=>∃xs ys,sq1 H xs/\sq2 H ys/\min xs.length ys.length=i⟩
theorem O5{P:E_}{w:T_}{H:Hp}{h:Heap}{T:Addr}{x y:a_}{v u:V}(hT:h.get? T=some { cls:=.type "tuple",data:=.seq #[x,y] })(r1:L2.aE v x)(r2:L2.aE u y):cp P w H h T (.tup [v,u]):=⟨by show 2<=sizeLine;decide,[x,y],.cons r1 (.cons r2 .nil),⟨_,hT,rfl,0,rfl⟩,_,hT,rfl⟩
theorem OW{P:E_}{w:T_}{K:W.Frag}{elts:List Expr}{k:Nat}{pos:Pos}{t1 t2:Bool}(a b zp ti to u1 u2:Addr)(Z:ZA zp ti to u1 u2 [u1,a] [u2,b])(h1:a≠u1)(h2:b≠u2):Turn P w K (.Tuple elts k pos) (xI (fO K t1 a) (fO K t2 b)) [zp,ti,to,u1,u2] zp (fun i h=>YN h zp ti to .none/\W5 h ti (.ref u1) (.ref u2)/\(∃p q,W5 h to p q)/\ll t1 a u1 i h/\ll t2 b u2 i h) where
 mem:=by simp
 obj:=fun i h st c hc=>by
  obtain⟨hz,hi,⟨p,q,ho⟩,s1,s2⟩:=st;simp only[m_,G_,or_false]at hc;rcases hc with rfl|rfl|rfl|rfl|rfl
  .exact⟨_,hz,fun v z=>by have z':Data.fields _=Data.cell v:=z;cases z'⟩
  .exact⟨_,hi,fun v z=>by have z':Data.seq _ _=Data.cell v:=z;cases z'⟩
  .exact⟨_,ho,fun v z=>by have z':Data.seq _ _=Data.cell v:=z;cases z'⟩
  .exact oR s1
  .exact oR s2
 keep:=fun i h h' st kk=>by obtain⟨hz,hi,⟨p,q,ho⟩,s1,s2⟩:=st;exact⟨kk zp (by simp) _ hz,kk ti (by simp) _ hi,⟨p,q,kk to (by simp) _ ho⟩,oY s1 fun o e=>kk u1 (by simp) o e,oY s2 fun o e=>kk u2 (by simp) o e⟩
 item:=by
  intro X hP hw hK hc i pz s σ H E I hf st hg;subst hP hw hK;obtain⟨xs,ys,x,y,q1,q2,hx,hy⟩:=hg;obtain⟨hz,hi,⟨p,q,ho⟩,s1,s2⟩:=st;obtain⟨Y,St1,ad,D1,d1,f1⟩:=og I hc q1 h1 s1;obtain⟨ac,St2,ld,D2,d2,f2⟩:=og I hc q2 h2 s2;have l1:i<Y.toArray.size:=by have:=(j_.mp hx).1;rw[q_,<-ad.length];exact this
  have l2:i<ac.toArray.size:=by have:=(j_.mp hy).1;rw[q_,<-ld.length];exact this
  refine Rt Z D1 D2 hz hi ho d1 d2 l1 l2 fun vx vy h' tk px py LT LE KK Id hT hsz hk=>⟨_,rfl,wpAny_letOwnedTupleGo_zip LT fun BT Cl U=>?_⟩
  obtain⟨wx,e1,r1⟩:=ad.get hx;obtain⟨wy,e2,r2⟩:=ld.get hy;have ex:vx=wx:=by
   have:Y[i]? = some vx:=by simpa using px
   rw[e1]at this;exact(B_ this).symm
  have ey:vy=wy:=by
   have:ac[i]? = some vy:=by simpa using py
   rw[e2]at this;exact(B_ this).symm
  subst ex ey;have nT:∀c o,s.heap.get? c=some o->s.heap.objs.size≠c:=fun c o e=>Wn (y_ e);have IO:BT.get? s.heap.objs.size=some { cls:=.type "tuple",data:=.seq #[vx,vy] }:=(U.2 _ (nT _ _ hz)).trans hT;obtain⟨o1,S4,_⟩:=oR s1;obtain⟨o2,ST,_⟩:=oR s2;refine⟨.ref s.heap.objs.size,aD H s.heap.objs.size (.tup [x,y]),GQ (s:=s) (h':=BT) (t':=tk) (ch:=[zp,to,u1,u2]) I (fun c hc=>hf c ?_) (fun c ob hb e=>?_) (w_ _) (O5 IO r1 r2),rfl,⟨_,x,y,I.hok.fresh (w_ _),rfl,rfl,fun zs hz=>by rw[Ak I hz q1];exact hx,fun zs hz=>by rw[Ak I hz q2];exact hy⟩,⟨Cl,?_,⟨vx,vy,?_⟩,?_,?_⟩,fun c hc=>?_⟩
  .simp only[m_,G_,or_false]at hc ⊢;rcases hc with rfl|rfl|rfl|rfl <;> simp
  .simp only[m_,G_,or_false,not_or]at hb;exact(U.2 c hb.1).trans (hk c ob hb.1 hb.2.1 hb.2.2.1 hb.2.2.2 e)
  .exact(U.2 _ Z.a1).trans (hk _ _ Z.a1 Z.a8.1 Z.a8.2.1 Z.a8.2.2 hi)
  .exact(U.2 _ Z.a2).trans LE
  .exact oY (f1 _ _ KK) fun o e=>(U.2 _ Z.a3).trans e
  .exact oY (f2 _ _ Id) fun o e=>(U.2 _ Z.a4).trans e
  .rw[bg ?_]
   .exact(hf c hc).1
   .simp only[m_,G_,or_false]at hc;rcases hc with rfl|rfl|rfl|rfl|rfl
    .exact(nT _ _ hz).symm
    .exact(nT _ _ hi).symm
    .exact(nT _ _ ho).symm
    .exact(nT _ _ S4).symm
    .exact(nT _ _ ST).symm
 done:=by
  intro X hP hw hK hc i pz s σ H E I hf st hg;subst hP hw hK;obtain⟨xs,ys,q1,q2,hm⟩:=hg;obtain⟨hz,hi,⟨p,q,ho⟩,s1,s2⟩:=st;obtain⟨Y,St1,ad,D1,d1,f1⟩:=og I hc q1 h1 s1;obtain⟨ac,St2,ld,D2,d2,f2⟩:=og I hc q2 h2 s2;have l1:=ad.length;have l2:=ld.length;refine R5 Z D1 D2 hz hi ho d1 d2 ?_ fun h' tk hk=>⟨rfl,PL (h':=h') (t':=tk) (ch:=[zp,to,u1,u2]) I (fun c hc=>hf c ?_) fun c ob hb e=>?_⟩
  .rw[q_,q_];omega
  .simp only[m_,G_,or_false]at hc ⊢;rcases hc with rfl|rfl|rfl|rfl <;> simp
  .simp only[m_,G_,or_false,not_or]at hb;exact hk c ob hb.1 hb.2.1 hb.2.2.1 hb.2.2.2 e
 self:=fun _ _ _ _ _ st h=>wpAny_pyIter_zip st.1 h
def il(fa fb:FE):FI:=fun r=>(fa r).bind fun d=>(fb r).bind fun e=>(cQ (bN d)).bind fun ds=>(cQ (bN e)).bind fun es=>.ok (XG (fun a b=>D.tup [a,b]) ds es)
theorem O0{α β γ:Type}(f:α->β->γ):∀(l:List α)(r:List β)(i:Nat),(XG f l r)[i]? = (match l[i]?,r[i]? with|some a,some b=>some (f a b)|_,_=>none):=fun l r i=>by rw[Zz];cases l[i]? <;> cases r[i]? <;> rfl
theorem Ml{K:W.Frag}{ds es:List D}{G0:GH}{sq1 sq2:Hp->List V->Prop}(h1:∀G H,bv G0 G->bn K G H->∃xs,sq1 H xs/\cK K G xs ds)(h2:∀G H,bv G0 G->bn K G H->∃xs,sq2 H xs/\cK K G xs es):Yields K (xI sq1 sq2) (XG (fun a b=>D.tup [a,b]) ds es) G0:=by
 refine⟨fun G H i w gk hi=>?_,fun G H i x H' d w gk y e=>?_,fun G H w gk=>?_⟩
 .obtain⟨xs,s1,r1⟩:=h1 G H w gk;obtain⟨ys,s2,r2⟩:=h2 G H w gk;rw[YA]at hi;have l1:=Paired.length r1;have l2:=Paired.length r2;exact⟨xs,ys,xs[i]'(by omega),ys[i]'(by omega),s1,s2,d_ _,d_ _⟩
 .obtain⟨xs,s1,r1⟩:=h1 G H w gk;obtain⟨ys,s2,r2⟩:=h2 G H w gk;obtain⟨p,v,u,hp,rfl,rfl,hv,hu⟩:=y;rw[O0]at e;cases e1:ds[i]? with
 |none=>rw[e1]at e;cases e
 |some d1=>cases e2:es[i]? with
  |none=>rw[e1,e2]at e;cases e
  |some d2=>rw[e1,e2]at e;cases e;obtain⟨v',z1,rv⟩:=Paired.get r1 e1;obtain⟨u',z2,ru⟩:=Paired.get r2 e2;have a1:=hv xs s1;have a2:=hu ys s2;rw[z1]at a1;cases a1;rw[z2]at a2;cases a2;exact⟨_,Grow.newF gk hp (.tup (.inl bX) (.cons rv (.cons ru .nil))),.ref gK⟩
 .obtain⟨xs,s1,r1⟩:=h1 G H w gk;obtain⟨ys,s2,r2⟩:=h2 G H w gk;refine⟨xs,ys,s1,s2,?_⟩;rw[YA,Paired.length r1,Paired.length r2]
section
variable{e1 e2:Expr}{fa fb:FE}
theorem Nr{pz:List (Addr×Obj)}{σ:L2.St}{H:Hp}{s:f_}{t1 t2:Bool}{a b:Addr}{xs ys:List V}{E:a_->f_->Prop}{Q:a_->f_->Prop}(I:Inv X pz σ H s)(q1:fO X.K t1 a H xs)(q2:fO X.K t2 b H ys)(h:sF s (li t1) (li t2) a b Q):u_ (D_ X.prog X.w) X.A (call (.type "zip") [.ref a,.ref b]) Q E s:=by obtain⟨U,_,p1⟩:=tw I q1;obtain⟨z,_,p2⟩:=tw I q2;exact callType_new F.called_zip (by decide) (F.typeCall_zip_2 _ _) (F.newCall_zip_2 _ _) (fun obj=>F.args_object_init_3 obj _ _) F.entry_zip_new (Ot t1 t2 a b U.toArray z.toArray) ⟨p1,p2,MS h⟩
theorem ke{x y:Nat}(h:x≠y):(show Addr from x)≠(show Addr from y):=h
theorem oV{x u a:Nat}(h1:x≠u)(h2:x≠a):(show Addr from x)∉[(show Addr from u),(show Addr from a)]:=fun h=>by
 rcases m_.mp h with h|h
 .exact h1 h
 .exact h2 (Vp.mp h)
theorem Mm{a b k:Nat}(la:a<k)(lb:b<k):ZA (show Addr from k+4) (show Addr from k+2) (show Addr from k+3) (show Addr from k) (show Addr from k+1) [(show Addr from k),(show Addr from a)] [(show Addr from k+1),(show Addr from b)]:=⟨ke (by omega),ke (by omega),ke (by omega),ke (by omega),ke (by omega),ke (by omega),ke (by omega),⟨ke (by omega),ke (by omega),ke (by omega)⟩,⟨oV (by omega) (by omega),oV (by omega) (by omega),oV (by omega) (by omega)⟩,⟨oV (by omega) (by omega),oV (by omega) (by omega),oV (by omega) (by omega)⟩⟩
theorem Ks{c k:Nat}(h:c=k+4\/c=k+2\/c=k+3\/c=k\/c=k+1):k<=c:=by omega
theorem Lw{ta tb:TE}(hg:Gl X "zip")(hm:X.mg "zip" = none)(ha:PE X e1 ta)(hb:PE X e2 tb)(hs:i_ [e1,e2] X.env=(false,eval e1 X.env)::i_ [e2] X.env:=by rfl)(U:i_ [e2] X.env=(false,eval e2 X.env)::i_ [] X.env:=by rfl)(Y:(backTo pos (i_ [e2] X.env)).any (·.1)=false:=by rfl):PI X (.Tuple elts kk pos2) (.Call (.Name "zip" p) [e1,e2] [] pos) (fun σ H R=>ta σ H fun x H1=>tb σ H1 fun y H2=>∃(t1 t2:Bool)(a b:Addr),x=.ref a/\y=.ref b/\(∃xs,fO X.K t1 a H2 xs)/\(∃ys,fO X.K t2 b H2 ys)/\R (xI (fO X.K t1 a) (fO X.K t2 b)) H2):=by
 intro pz s σ H R I h;refine Call_ (oE I hg hm boot_zip (WK (aX (gJ ha (gJ hb jk U) hs pos pz s σ H (fun vs H2=>match vs with
 |[x,y]=>∃(t1 t2:Bool)(a b:Addr),x=.ref a/\y=.ref b/\(∃xs,fO X.K t1 a H2 xs)/\(∃ys,fO X.K t2 b H2 ys)/\R (xI (fO X.K t1 a) (fO X.K t2 b)) H2
 |_=>False) I h) fun us s1 ⟨vs,H1,I1,r1,q1⟩=>?_) hs Y))
 cases r1 with
|nil=>exact q1.elim
|@cons x u xs us rx rt=>cases rt with
|nil=>exact q1.elim
|@cons y u' xs' us' ry Z=>cases Z with
|cons _ _=>exact q1.elim
|nil=>
 obtain⟨t1,t2,a,b,rfl,rfl,⟨zs,z1⟩,⟨ws,z2⟩,q⟩:=q1;cases rx;cases ry;have la:=pb I1 z1;have lb:=pb I1 z2;refine Nr I1 z1 z2 fun h' hz hi ho o1 o2 kp=>wpAny_pyIter_zip hz ?_;refine⟨_,[s1.heap.objs.size+4,s1.heap.objs.size+2,s1.heap.objs.size+3,s1.heap.objs.size,s1.heap.objs.size+1],_,_,H1,rfl,I1.kept (t':=s1.toks) kp,OW (t1:=t1) (t2:=t2) a b _ _ _ _ _ (Mm la lb) (J_ la) (J_ (WB lb)),⟨hz,hi,⟨_,_,ho⟩,Fp o1,Fp o2⟩,fun c hc=>?_,q⟩;have z:s1.heap.objs.size<=c:=by simp only[m_,G_,or_false]at hc;exact Ks hc
 exact I1.fpOk z (I1.hok.fresh z)
theorem yH(hg:Gl X "zip")(hm:X.mg "zip" = none)(ha:SE X g m e1 fa)(hb:SE X g m e2 fb)(hs:i_ [e1,e2] X.env=(false,eval e1 X.env)::i_ [e2] X.env:=by rfl)(z:i_ [e2] X.env=(false,eval e2 X.env)::i_ [] X.env:=by rfl)(U:(backTo pos (i_ [e2] X.env)).any (·.1)=false:=by rfl):i7 X g m (.Tuple elts kk pos2) (.Call (.Name "zip" p) [e1,e2] [] pos) (il fa fb):=by
 refine PI.imp (Lw hg hm ha hb hs z U) fun σ H R ⟨r,G,si,q⟩=>⟨r,G,si,bG (bJ q) fun d q v G1 H1 w1 rv=>⟨r,G1,si.grow w1,?_⟩⟩
 refine gX (bJ q) w1 fun e q u G2 H2 w2 ru=>?_;obtain⟨ds,ed,q⟩:=cX (bJ q);obtain⟨es,ee,q⟩:=cX (bJ q);have Y:=rv.mono w2.ge;have one:∀{v:V}{d:D}{ds:List D},RG X.K G2 v d->bN d=some ds->∃(t:Bool)(a:Addr),v=.ref a/\(∃xs,fO X.K t a H2 xs)/\∀G H,bv G2 G->bn X.K G H->∃xs,fO X.K t a H xs/\cK X.K G xs ds:=by intro v d ds rv ed;cases d with
 |lst ds'=>cases ed;obtain⟨a,xs,rfl,s,rs⟩:=rv.lst w2.ok;refine⟨false,a,rfl,⟨xs,s⟩,fun G H le gk=>?_⟩;obtain⟨b,ys,e,s',r'⟩:=(rv.mono le).lst gk;cases e;exact⟨ys,s',r'⟩
 |tup ds'=>cases ed;obtain⟨a,xs,rfl,s,rs⟩:=rv.tup w2.ok;refine⟨true,a,rfl,⟨xs,s⟩,fun G H le gk=>?_⟩;obtain⟨b,ys,e,s',r'⟩:=(rv.mono le).tup gk;cases e;exact⟨ys,s',r'⟩
 |_=>cases ed
 obtain⟨t1,a,rfl,x1,y1⟩:=one Y ed;obtain⟨t2,b,rfl,x2,y2⟩:=one ru ee;exact⟨t1,t2,a,b,rfl,rfl,x1,x2,q _ G2 H2 (w1.trans w2) (Ml y1 y2)⟩
end
end DL
namespace DL
open PySem PyProof.Rows L2
variable{X:Cx}{g:GE}{m mb:List Md}{e a b o c:Expr}{f fa fb fc:FE}{pos pos':Pos}
theorem Hu:∀ds:List D,zdH ds=ds.map bL
|[]=>by unfold zdH;rfl
|d::ds=>by unfold zdH;rw[Hu ds];rfl
open Classical in
def inT(x c:D):Option D:=match c with
|.tup ds=>if cn 60 x/\cn 60 (.tup ds)then some (.bl (ds.any fun y=>ky y x))else none
|_=>none
def sf(K:W.Frag):R2:=fun x y H Q=>∃(G:GH)(d:D)(ds:List D),bn K G H/\RB K G H x d/\RB K G H y (.tup ds)/\cn 60 d/\cn 60 (.tup ds)/\Q (.bl (ds.any fun z=>ky z d)) H
theorem LM(hu:X.A.units+64<Xb):bx X (Vs .In) (sf X.K):=by
 intro pz s σ H x y v u Q I rx ry h;obtain⟨G,d,ds,gk,r1,r2,s1,s2,q⟩:=h;obtain⟨as,h1⟩:=oZ I gk 60 d x v s1 r1 rx;obtain⟨bs,h2⟩:=oZ I gk 60 (.tup ds) y u s2 r2 ry;have e:bL (.tup ds)=PyData.tuple (zdH ds):=by rw[bL]
 rw[e]at h2;obtain⟨c1,c2⟩:=zU 60 d s1;obtain⟨k1,k2⟩:=uD (k:=59) (zU 59) ds (mJ.mp s2);refine SeqAt.in_tuple_reads h2 h1 k1 c1 ?_ ⟨.bl _,H,I,rfl,?_⟩
 .have:min (Yx (zdH ds)) (bL d).depth<=60:=VL (Qaw _ _) c2;omega
 .rw[Hu,WY];exact q
theorem Ky{K:W.Frag}:dQ K (sf K) inT:=by
 intro G H v1 v2 d1 d2 d Q gk r1 r2 e q;unfold inT at e;split at e
 .rename_i ds;split at e
  .rename_i hs;cases e;exact⟨G,d1,ds,gk,r1,r2,hs.1,hs.2,q _ G H (Grow.refl gk) (.scl (.bl _))⟩
  .cases e
 .cases e
theorem JW(hu:X.A.units+64<Xb)(ha:SB X g m a fa)(hb:SB X g m b fb)(hm:Wo .In b=false:=by rfl):SE X g m (.Compare a [.In] [b] pos) (f2 fa fb inT):=n5 (LM hu) Ky ha hb hm
end DL
namespace DL
open PySem PySem.Spec PyProof.Rows L2
def eS(ks:List Int):Int:=ks.getD (XJ (fun i j=>decide (ks.getD i 0>ks.getD j 0)) (ks.length-1)) 0
theorem A2(f:Nat->Int):∀k,XJ (fun i j=>decide (f i>f j)) k<=k/\∀i,i<=k->f i<=f (XJ (fun i j=>decide (f i>f j)) k)
|0=>⟨w_ _,fun i hi=>by
   have:i=0:=by omega
   subst this;exact ZN _⟩
|k+1=>by
  obtain⟨h1,h2⟩:=A2 f k;rw[Qbn];by_cases h:f (k+1)>f (XJ (fun i j=>decide (f i>f j)) k)
  .rw[if_pos (by simpa using h)];refine⟨w_ _,fun i hi=>?_⟩;by_cases z:i=k+1
   .subst z;exact ZN _
   .have:=h2 i (by omega);omega
  .rw[if_neg (by simpa using h)];refine⟨by omega,fun i hi=>?_⟩;by_cases z:i=k+1
   .subst z;omega
   .exact h2 i (by omega)
theorem GU{ks:List Int}(h:ks≠[]):eS ks∈ks:=by
 have hp:=WH.mpr h;have h1:=(A2 (fun i=>ks.getD i 0) (ks.length-1)).1;unfold eS;have hlt:XJ (fun i j=>decide (ks.getD i 0>ks.getD j 0)) (ks.length-1)<ks.length:=by omega
 rw[s_,d_ hlt];exact VR _
theorem F7{ks:List Int}{x:Int}(h:x∈ks):x<=eS ks:=by
 obtain⟨i,hi,rfl⟩:=V1 h;have:=(A2 (fun i=>ks.getD i 0) (ks.length-1)).2 i (by omega);have e:ks.getD i 0=ks[i]:=by simp[s_,hi]
 simp only[e]at this;exact this
theorem Pm(A:Vu)(s:f_)(a:Int)(t:Tok)(c:Int)(u:Tok)(prog:E_)(w:T_)(E:a_->f_->Prop)(Q:a_->f_->Prop)(h:Q (.bool (decide (a>c))) s):u_ (D_ prog w) A (QaD .Gt (.int a t) (.int c u)) Q E s:=(PyProof.Rows.gt_int h:u_ (D_ prog w) A (Vs .Gt (.int a t) (.int c u)) Q E s)
abbrev mv:List D->Option D:=sX eS
variable{X:Cx}{g:GE}{m:List Md}{e:Expr}{es:List Expr}{fl:ao->Res (List D)}{pos p:Pos}
theorem EY(hc:X.calm=true)(hg:Gl X "max")(hm:X.mg "max" = none)(ha:iH X g m (e::es) fl)(he:i_ (e::es) X.env=(false,eval e X.env)::i_ es X.env:=by rfl)(U:(backTo pos (i_ es X.env)).any (·.1)=false:=by rfl):SE X g m (.Call (.Name "max" p) (e::es) [] pos) (fC fl mv):=iS (GZ (z:=eS) fun _=>rfl) (kJ (He hc (fun a b=>decide (a>b)) call_max_walkS fun _ s a t c u E Q h=>Pm _ s a t c u X.prog X.w E Q h) hg hm PyProof.Rows.boot_max ha (by decide) (by decide) he U)
def ss:aY->D
|.inl i=>.int i
|.inr x=>.str x
theorem MO(k:aY):Scl (kV k) (ss k):=by cases k with
|inl i=>exact .int i
|inr x=>exact .str x
theorem LZ{P:E_}{w:T_}{k:aY}{u:a_}(h:(gW P w).is k u=true):aE (kV k) u:=by
 rcases keyIs_shape h with⟨i,t,rfl,rfl⟩|⟨x,t,rfl,rfl⟩
 .exact⟨t,rfl⟩
 .exact⟨t,rfl⟩
section
variable{o:Expr}{fo:FE}{pos':Pos}
theorem R1(hc:X.calm=true):eY X (.type "list") (fun xs H Q=>∃d kvs,xs=[.ref d]/\Rd H d (.dK kvs)/\∀l,H l=none->Q (.ref l) (aD H l (.lst (kvs.map fun kv=>kV kv.1)))):=by
 intro pz s σ H xs us Q I r h;obtain⟨d,kvs,rfl,hd,q⟩:=h;obtain⟨u,rfl,rx⟩:=gV r;cases rx;obtain⟨z1,Y,Z,r1,ac⟩:=(show cp X.prog X.w H s.heap d (.dK kvs)from hd.ok I.hok)
 obtain⟨ep,ad⟩:=ac.dictAt;have l1:=Paired.length r1;refine W.kdl_call (W.kdl_dict (knd:=gW X.prog X.w) (kvs:=Z) (ep:=ep) Y) (I.ok.hd hc) ad (by omega) fun h' tk acc c' kp hS z=>?_;have U:ar (kvs.map fun kv=>kV kv.1) acc.toList:=by refine B9 (by have h1:=z.1;have h2:acc.toList.length=acc.size:=XQ;rw[g_];omega) fun j v u e1 e2=>?_;obtain⟨k,x,hk,hi⟩:=z.2 j u (by rw[<-Xr];exact e2);rw[n_]at e1;cases e3:kvs[j]? with
 |none=>rw[e3]at e1;cases e1
 |some kv=>rw[e3]at e1;cases e1;obtain⟨ld,e4,e5⟩:=DL.Paired.get r1 hk;rw[e3]at e4;cases e4;have e6:kv.1=k:=e5.1;show L2.aE (kV kv.1) u;rw[e6];exact LZ hi
 refine⟨.ref s.heap.objs.size,_,I.laid (t':=tk) kp (w_ _) (show cp X.prog X.w _ h' _ (.lst (kvs.map fun kv=>kV kv.1))from⟨by rw[g_];exact z1,acc.toList,c',U,by rw[ZL];exact hS⟩),rfl,q _ (I.hok.fresh (w_ _))⟩
def zB:D->Option D
|.dic kvs=>some (.lst (kvs.map fun kv=>ss kv.1))
|_=>none
theorem D9{K:W.Frag}{G:GH}:∀{ps:List (aY×V)}{kvs:List (aY×D)},im K G ps kvs->cK K G (ps.map fun kv=>kV kv.1) (kvs.map fun kv=>ss kv.1)
|_,_,.nil=>.nil
|p::_,q::_,.cons r t=>.cons (show RG K G (kV p.1) (ss q.1)by rw[r.1];exact .scl (MO _)) (D9 t)
theorem LJ(hc:X.calm=true)(hg:Gl X "list")(hm:X.mg "list" = none)(ho:SB X g m o fo)(z:i_ [o] X.env=(false,eval o X.env)::i_ [] X.env:=by rfl):SO X g m (.Call (.Name "list" pos') [o] [] pos) (f1 fo zB):=by
 refine PE.imp (o9 (R1 hc) hg hm rfl (gJ ho jk z) (by decide) (by decide) z rfl) fun σ H Q ⟨r,G,si,q⟩=>⟨r,G,si,bG (bJ q) fun d q1 v G1 H1 w1 r1=>?_⟩
 obtain⟨d',e,q2⟩:=cX q1;cases d with
|dic kvs=>
  cases e;obtain⟨a,ps,rfl,hs,rs⟩:=r1.dic w1.ok;refine⟨a,ps,rfl,hs,fun l hl=>?_⟩;have w3:=Grow.new w1.ok hl (.lst (ps.map fun kv=>kV kv.1));exact q2 l G1 _ (w1.trans w3) (by cases q:H l with
  |none=>rfl
  |some u=>rw[w1.he _ _ q]at hl;cases hl) ⟨w1.ok.isN hl,.lst bX (D9 rs)⟩
|_=>cases e
end
variable{σ:L2.St}{H:Hp}
section
variable{i:Nat}{m' m1:List Md}{r r':ao}{w:List (List D)}{G G':GH}{σ':L2.St}{H':Hp}
abbrev S2:=ao->List (List D)->Option (ao×List (List D))
variable{st:Stmt}{sts:List Stmt}{ro:Bool}{mb:List Md}{s1:FS}{f1 f2:S2}{tg iter:Expr}
end
def ik(x:Int):List Int->List Int
|[]=>[x]
|y::l=>if x<=y then x::y::l else y::ik x l
def dU:List Int->List Int
|[]=>[]
|x::l=>ik x (dU l)
theorem AD(x:Int):∀l:List Int,(ik x l).Perm (x::l)
|[]=>.refl _
|y::l=>by
  unfold ik;by_cases h:x<=y
  .rw[if_pos h]
  .rw[if_neg h];exact((AD x l).cons y).trans (.swap x y l)
theorem uW:∀l:List Int,(dU l).Perm l
|[]=>.refl _
|x::l=>(AD x (dU l)).trans ((uW l).cons x)
theorem Fo(x:Int):∀l:List Int,l.Pairwise (·<=·)->(ik x l).Pairwise (·<=·)
|[],_=>by unfold ik;simp
|y::l,h=>by
  rw[Xj]at h;unfold ik;by_cases hx:x<=y
  .rw[if_pos hx,Xj,Xj];refine⟨fun z hz=>?_,h⟩;rcases m_.mp hz with rfl|hz
   .exact hx
   .exact Int.le_trans hx (h.1 z hz)
  .rw[if_neg hx,Xj];refine⟨fun z hz=>?_,Fo x l h.2⟩;rcases m_.mp ((AD x l).mem_iff.mp hz)with rfl|hz
   .omega
   .exact h.1 z hz
theorem z9:∀l:List Int,(dU l).Pairwise (·<=·)
|[]=>.nil
|x::l=>Fo x _ (z9 l)
theorem yM:∀{a b:List Int},a.Perm b->a.Pairwise (·<=·)->b.Pairwise (·<=·)->a=b
|[],b,p,_,_=>(List.nil_perm.mp p).symm
|x::a,[],p,_,_=>absurd (List.perm_nil.mp p) (by simp)
|x::a,y::b,p,ha,hb=>by
  rw[Xj]at ha hb;have h1:y<=x:=by
   rcases m_.mp (p.mem_iff.mp p_)with e|e
   .omega
   .exact hb.1 x e
  have h2:x<=y:=by
   rcases m_.mp (p.mem_iff.mpr p_)with e|e
   .omega
   .exact ha.1 y e
  have e:x=y:=by omega
  subst e;rw[yM (List.Perm.cons_inv p) ha.2 hb.2]
section
variable{pz:List (Addr×Obj)}{s:f_}
theorem Rm:eY X (.builtin "sorted") (fun xs H Q=>∃p ks,xs=[.ref p]/\bM X.K H p (ks.map V.int)/\ks.length<64/\∀l,H l=none->Q (.ref l) (aD H l (.lst ((dU ks).map V.int)))):=by
 intro pz s σ H xs us Q I r h;obtain⟨p,ks,rfl,hq,ad,q⟩:=h;obtain⟨u,rfl,rx⟩:=gV r;cases rx;obtain⟨its,rv,pl,hz⟩:=I.list hq;have ia:YW its ks:=by simpa using A5 rv
 obtain⟨mF,F⟩:=I.fr;refine W.kso_sorted F (Ov (g:=X.base) (h:=s.heap) (L:=X.env.locals)) pl.isList ia ad fun D vs' ld c h' F' N' hlt iv Z BT ac _=>?_;have Y:s.heap.get? D=none:=by cases z:s.heap.get? D with
 |none=>rfl
 |some o=>have zn:=(N' _ (p_)).2;exact absurd (hlt (D,o) (Im zn.1 zn.2 z)) (VY _)
 have U:∀b o,b≠X.env.locals->s.heap.get? b=some o->h'.get? b=some o:=fun b o hb e=>by cases z:X.base.get? b with
 |some o'=>have:=I.bk b o' z;rw[e]at this;cases this;exact F'.keep b o z
 |none=>exact(N' (b,o) (t_ _ (Im hb z e))).1
 have oD:=(N' _ p_)
 have e:ld=dU ks:=yM (BT.trans (uW ks).symm) ac (z9 ks);subst e;refine⟨.ref D,_,Inv.laidN (t':=_) (its:=vs') I Y oD.2.1 U (fun m hm=>by rw[MV hm F.ns];exact F'.ns) oD.1 (AM iv) ?_,rfl,q D ?_⟩
 .rw[g_,Z,Vw];omega
 .cases z:H D with
 |none=>rfl
 |some u=>exact absurd Y (cp.isS (I.hok D u z))
end
def oq:List D->Option D
|[.lst ds]=>(dR ds).bind fun ks=>if ks.length<64 then some (.lst ((dU ks).map .int))else none
|_=>none
section
variable{a b:Expr}{fa fb:FE}
theorem Hy{k:Nat}(hr:Room k X.A)(hg:Gl X "sorted")(hm:X.mg "sorted" = none)(ha:iH X g m [a] fl)(hs:i_ [a] X.env=(false,eval a X.env)::i_ [] X.env:=by rfl):SO X g m (.Call (.Name "sorted" p) [a] [] pos) (fC fl oq):=by
 refine Er (R:=fun xs H Q=>∃p ks,xs=[.ref p]/\bM X.K H p (ks.map V.int)/\ks.length<64/\∀l,H l=none->Q (.ref l) (aD H l (.lst ((dU ks).map V.int)))) ?_ (kJ Rm hg hm (by first|exact PyProof.Rows.boot_sorted|rfl) ha (by decide) (by decide) hs rfl);intro G H vs ds d Q gk rs e q;unfold oq at e;split at e
 .rename_i zs;cases ek:dR zs with
 |none=>rw[ek]at e;cases e
 |some ks=>
   rw[ek]at e;have e':(if ks.length<64 then some (D.lst ((dU ks).map .int))else none)=some d:=e;by_cases z:ks.length<64
   .rw[if_pos z]at e';cases e';cases rs with
   |cons r1 t=>
     cases t;obtain⟨b,xs,rfl,s,r⟩:=r1.lst gk;have ex:=Ay gk r ek;subst ex;refine⟨b,ks,rfl,s,z,fun l hl'=>q l G _ (Grow.new gk hl' _) hl' ⟨gk.isN hl',.lst bX ?_⟩⟩;have:∀l:List Int,cK X.K G (l.map V.int) (l.map D.int):=fun l=>by induction l with
     |nil=>exact .nil
     |cons x l ih=>exact .cons (.scl (.int x)) ih
     exact this _
   .rw[if_neg z]at e';cases e'
 .cases e
end
abbrev FW:=ao->Res D
end DL
section
namespace DL
section
open PySem PyProof.Rows PySem.W PySem.Calls
variable{prog:E_}{w:T_}{A:Vu}{E:a_->f_->Prop}{s:f_}{l:Addr}{vs:List a_}{ns:List Int}
end
open PySem PySem.Spec PyProof.Rows L2
end DL
end
section
namespace DL
section
open PySem PyProof.Rows
variable{prog:E_}{w:T_}{A:Vu}{R:QaT->f_->Prop}{I S:Addr}{fp wr:List Addr}{n:Nat}{P:Nat->a_->Prop}{St:Nat->Heap->Prop}{TP:Heap->Prop}{bt:Nat->Nat->Bool}
end
end DL
end
namespace DL
open PySem PySem.Spec PyProof.Rows L2
end DL
namespace DL
open PySem PySem.Spec PyProof.Rows L2 PySem.W PySem.Calls
def SV(K:W.Frag)(ro:Bool)(ms:List Md)(F:List D->Res D):Sp:=fun vs H Q E=>∃G ds,bn K G H/\ArgsOk K G H ms vs ds /\fin (F ds) (fun d=>∀v G' H',Grow K G H G' H'->RV ro K H G' H' v d->Q v H') fun x=>∀C od nm fs G' H',x=xD nm fs->XN K nm C->XF G' od fs->Grow K G H G' H'->E (.ref C) od H'
variable{X:Cx}{ps:List Str}{dvs:List V}{ds:List a_}{p pos:Pos}{e:Expr}{es:List Expr}
section
variable{k:Nat}{f:Addr}{fd:VV}{sp:Sp}{x:Str}{t:TA}
def DX(X:Cx)(σ:L2.St)(H:Hp)(E:XK):Prop:=∀pz s a cls od H' s',Inv X pz σ H s->Fly X.prog X.w X.stack H s H' a cls od s'->E cls od H'->X.xe (.ref a) s'
theorem NQ{pz:List (Addr×Obj)}{σ:L2.St}{H:Hp}{s:f_}{Q:VK}{E:XK}{us:List a_}{vs:List V}(F:FnOk X.prog X.w X.K X.mg X.base (xK X.prog X.w) k f fd ps sp)(hr:Room k X.A)(hb:g6 X.K fd ps ds)(hd:ar dvs ds)(I:Inv X pz σ H s)(hx:DX X σ H E)(r:ar vs us)(h:sp (vs++dvs) H Q E):u_ (D_ X.prog X.w) X.A (call (.ref f) us) (EP X pz σ Q) X.xe s:=by
 have r2:ar (vs++dvs) (us++ds):=r.append hd;have hl:(us++ds).length=ps.length:=by rw[<-r2.length];exact F.len _ _ _ _ h
 refine X3 (Xi (F.run X.A X.stack s H ⟨us,[]⟩ (us++ds) (vs++dvs) Q E hr I.env0 (hb s us I.kIn hl) r2 h) fun r s' hq=>?_);cases r with
|error e=>obtain⟨a,cls,H',od,rfl,fl,q⟩:=hq;exact hx pz s a cls od H' s' I fl q
|ok fl=>cases fl with
 |ret u=>exact I.after hq
 |next=>exact VC hq
 |brk=>exact VC hq
 |cont=>exact VC hq
theorem O6(F:FnOk X.prog X.w X.K X.mg X.base (xK X.prog X.w) k f fd ps sp)(hr:Room k X.A)(hg:Gl X x)(hm:X.mg x=some (.ref f))(hk:W.keepIn X.K (.ref f)=true)(hb:g6 X.K fd ps ds)(hd:ar dvs ds)(ha:PA X (e::es) t)(z:(x==("__debug__" : Str))=false:=by decide)(he:i_ (e::es) X.env=(false,eval e X.env)::i_ es X.env:=by rfl)(U:(backTo pos (i_ es X.env)).any (·.1)=false:=by rfl):PE X (.Call (.Name x p) (e::es) [] pos) (fun σ H Q=>t σ H fun vs H1=>∃E,sp (vs++dvs) H1 Q E/\DX X σ H1 E):=by intro pz s σ H Q I h;refine WQ (mH I hg hm ?_ z);refine W.callWith_K (h₀:=X.base) I.ok.mod.kin hk (aX (ha pos pz s σ H _ I h) fun us s1 ⟨vs,H1,I1,r,E,q,px⟩=>⟨I1.kIn,?_⟩) he U;exact NQ F hr hb hd I1 px r q
end
section
variable{P:E_}{w:T_}{K:W.Frag}{mg:Str->Option a_}{base:Heap}
structure CalleeX(P:E_)(w:T_)(K:W.Frag)(mg:Str->Option a_)(base:Heap)(x:Str)(ps:List Str)(ds:List a_)(k:Nat)(ro:Bool)(ms:List Md)(F:List D->Res D):Prop where
 ex:∃f fd,mg x=some (.ref f)/\W.keepIn K (.ref f)=true/\g6 K fd ps ds/\FnOk P w K mg base (xK P w) k f fd ps (SV K ro ms F)
end
variable{g:GE}{m ms:List Md}{fl:ao->Res (List D)}{F:List D->Res D}{C:Addr}
section
variable{ro:Bool}{mb:List Md}{k:Nat}{dds:List D}{x:Str}{np:Pos}
def iq(fl:ao->Res (List D))(dds:List D)(F:List D->Res D):FE:=fun r=>(fl r).bind fun ds=>F (ds++dds)
theorem NS(c:CalleeX X.prog X.w X.K X.mg X.base x ps ds k false (ms++L_ dds.length .sh) F)(hr:Room k X.A)(hd:ar dvs ds)(z:Paired Scl dvs dds)(ha:jt X g m (e::es) ms fl)(hg:Gl X x:=by rfl)(Y:(x==("__debug__" : Str))=false:=by decide)(he:i_ (e::es) X.env=(false,eval e X.env)::i_ es X.env:=by rfl)(U:(backTo pos (i_ es X.env)).any (·.1)=false:=by rfl):SE X g m (.Call (.Name x p) (e::es) [] pos) (iq fl dds F):=by
 obtain⟨fa,fd,h1,h2,h3,G1⟩:=c.ex;refine PE.imp (O6 G1 hr hg h1 h2 h3 hd ha Y he U) fun σ H Q ⟨r,G,si,q⟩=>⟨r,G,si,?_⟩
 cases ez:fl r with
|ok zs=>
  unfold iq at q;rw[ez]at q;intro vs G' H' w' rs;refine⟨fun cls od H2=>∃C nm fs G2,cls=.ref C/\F (zs++dds)=.exc (xD nm fs)/\XN X.K nm C/\XF G2 od fs/\Grow X.K G' H' G2 H2,⟨G',zs++dds,w'.ok,rs.app z,?_⟩,?_⟩
  .cases ef:F (zs++dds)with
  |ok d=>replace q:fin (F (zs++dds)) _ _:=q;rw[ef]at q;exact fun v G2 H2 w2 rv=>q v G2 H2 (w'.trans w2) rv
  |exc y=>exact fun C od nm fs G2 H2 hy xn xf w2=>⟨C,nm,fs,G2,rfl,by rw[hy],xn,xf,w2⟩
  |stuck=>replace q:fin (F (zs++dds)) _ _:=q;rw[ef]at q;exact q
  .intro pz s a cls od H2 s' I fl ⟨C,nm,fs,G2,hc,ef,xn,xf,w2⟩;subst hc;replace q:fin (F (zs++dds)) _ _:=q;rw[ef]at q;exact q pz (.ref a) s' G2 H2 (w'.trans w2) (fl.inv I) ⟨pz,s,H',a,C,od,nm,fs,rfl,rfl,xn,xf,I,fl⟩
|exc x=>unfold iq at q;rw[ez]at q;exact q
|stuck=>unfold iq at q;rw[ez]at q;exact q
end
variable{E:a_->f_->Prop}{s:f_}
section
variable{M:QaR}{A:Vu}{nm q nmT qT:Str}{N T NT:Addr}{bs bm bsT bmT:List a_}{hdct hdctT:Bool}{sn snT:List Str}{sub subT':List a_}{ab abT:Bool}{col colT:Option Bool}{dd ddT:Option Addr}{k0 k1 k2 k3 k5 t0 t1 t2 t3 t5:Option a_}{newId newIdT:String}
theorem R3{e:Addr}{oe:Obj}{Q:Bool->f_->Prop}(hC:s.heap.get? C=some (Wx nm q C N bs bm hdct sn sub ab col dd k0 k1 k2 k3 k5 newId))(hT:s.heap.get? T=some (Wx nmT qT T NT bsT bmT hdctT snT subT' abT colT ddT t0 t1 t2 t3 t5 newIdT))(he:s.heap.get? e=some oe)(hc:oe.cls=.ref C)(hb:bmT.contains (Value.type "BaseException")=true)(hq:Q ((Value.ref C::bm).contains (.ref T)) s):u_ M A (excMatches (.ref e) (.ref T)) Q E s:=by unfold excMatches;refine b_ (wpAny_isInstance (T := "type") (b:=false) ⟨_,hT,rfl⟩ (by rw[ZH];kernel_rfl) ?_);rw[if_neg k_];refine b_ (o_ ?_);simp only[WW,ZO];refine b_ (b_ ?_);unfold isExcClass isType;refine b_ (b_ (b_ (YH hT (o_ ?_))));rw[if_pos rfl];obtain⟨hh,hg,z,ht,ho⟩:=s;refine W_ hT ?_;rw[X5,hb,Zq];rw[if_neg (by simp)];refine o_ (o_ ?_);refine b_ ?_;unfold QaX;refine b_ (YH he (o_ ?_));rw[hc];refine b_ (b_ (b_ (W_ hC ?_)));cases hm:(Value.ref C::bm).contains (Value.ref T)with
|true=>rw[hm]at hq;rw[if_pos rfl];exact o_ (o_ (o_ hq))
|false=>rw[hm]at hq;rw[if_neg k_];exact o_ (o_ (o_ hq))
end
def XO(K:W.Frag)(C:Addr)(bm:List a_):Prop:=∃N nm q bs hdct sn sub ab col dd k0 k1 k2 k3 k5 newId,K.lookup C=some (Wx nm q C N bs bm hdct sn sub ab col dd k0 k1 k2 k3 k5 newId)
abbrev _root_.L2.Cx.held(X:Cx)(v:a_):Cx:={ X with A:=X.A.mark (some v),calm:=false,xe:=fun _ _=>False }
variable{pz:List (Addr×Obj)}{σ:L2.St}{H:Hp}
section
variable{H':Hp}{s':f_}{a:Addr}{od:Option Addr}
theorem Inv.held(I:Inv X pz σ H s)(v:a_):Inv (X.held v) pz σ H s:=⟨⟨I.ok.mod,I.ok.kind,I.ok.glob,I.ok.blt,I.ok.above,I.ok.inj,I.ok.has,I.ok.cab,(fun h=>nomatch h),I.ok.frames,I.ok.stk,I.ok.exf,I.ok.bs,I.ok.bsz,I.ok.noex,I.ok.exfs,I.ok.funs,I.ok.frf⟩,I.os,I.bare,I.base,I.loc,I.cell,I.free,I.freeC,I.pin,I.hok,I.len⟩
theorem Inv.unheld{v:a_}(hh:X.calm=true->X.A.handled=none)(I:Inv (X.held v) pz σ H s):Inv X pz σ H s:=⟨⟨I.ok.mod,I.ok.kind,I.ok.glob,I.ok.blt,I.ok.above,I.ok.inj,I.ok.has,I.ok.cab,hh,I.ok.frames,I.ok.stk,I.ok.exf,I.ok.bs,I.ok.bsz,I.ok.noex,I.ok.exfs,I.ok.funs,I.ok.frf⟩,I.os,I.bare,I.base,I.loc,I.cell,I.free,I.freeC,I.pin,I.hok,I.len⟩
theorem Fly.noted{E:a_->f_->Prop}{M:QaR}{Q:Unit->f_->Prop}(F:Fly X.prog X.w X.stack H s H' a (.ref C) od s')(I:Inv X pz σ H s)(U:X.stack=X.env::X.outer)(ac:X.env.frame=some X.env.locals)(q:∀h' oe vs tb ot ts,Inv X pz σ (aD H' a (.ext (nM a C od))) { heap:=h',gens:=s'.gens,drawn:=s'.drawn,toks:=s'.toks,os:=s'.os }->H' a=none->h'.get? a=some oe->oe.cls=.ref C->oe.data=.fields vs->vs[1]? = some (.ref tb)->h'.get? tb=some ot->ot.data=.fields ts->ts[3]? = some Value.none ->Q () { heap:=h',gens:=s'.gens,drawn:=s'.drawn,toks:=s'.toks,os:=s'.os }):u_ M X.A (Yl (.ref a) X.env) (fun _ s2=>u_ M X.A (Xq (.ref a) none) Q E s2) E s':=by
 obtain⟨B,hB,ad,Z,⟨oe,vs,r1,r2,r3,r4,r5⟩,hd,hH⟩:=F.ex;have BT:H' a=none:=by cases e:H' a with
 |none=>rfl
 |some u=>obtain⟨o',z⟩:=hH a u e;rw[ad]at z;cases z
 have KK:a∉cV X.stack:=fun z=>by obtain⟨_,o,e1,nf⟩:=Z.mem z;rw[r1]at e1;cases e1;exact nf vs r4
 have hs1:1<vs.size:=by rcases r5 with z|⟨_,_,_,z,_⟩|⟨_,_,_,_,_,z,_⟩ <;> exact(VW.mp z).1
 have LE:∀b o,s.heap.get? b=some o->b≠a:=fun b o e z=>by rw[z]at e;obtain⟨o',z2⟩:=hd a o e KK;rw[ad]at z2;cases z2
 have fin:∀(T:Option Addr) h',(∀b,T=some b->B.get? b=none)->Lft (cV (X.env::X.outer)) a oe vs T Value.none s'.heap h'->Q () { heap:=h',gens:=s'.gens,drawn:=s'.drawn,toks:=s'.toks,os:=s'.os }:=fun T h' hT l=>by
  rw[<-U]at l;have same:∀b o,(∃o',B.get? b=some o')->s'.heap.get? b=some o->h'.get? b=some o:=fun b o ⟨o',e⟩ h=>by refine l.keep b o (fun z=>?_) (fun z=>by rw[z,ad]at e;cases e) (fun z=>by rw[hT b z]at e;cases e) h;rw[(Z.mem z).1]at e;cases e
  obtain⟨tb,ot,ts,t1,t2,t3,t4,t5,t6⟩:=l.obj;have Id:cS X.prog X.w H' h':=fun b u e=>by
   refine(F.hok b u e).stay (fun c v hc e1=>same c v ?_ e1) (fun _ z=>z) fun _ _ z=>z;rcases hc with hc|hc
   .rw[hc];exact hH b u e
   .exact hH c _ hc
  have hne:∀b u,H' b=some u->b≠a:=fun b u e z=>by rw[z,BT]at e;cases e
  have Cl:cS X.prog X.w (aD H' a (.ext (nM a C od))) h':=fun b u e=>by
   by_cases hb:b=a
   .subst hb;rw[bX]at e;cases e;exact⟨⟨_,_,t3,r2,r3,rfl⟩,⟨_,t3⟩,fun h1 h2 ⟨oe',vs',z1,z2,z3,z4⟩ k=>⟨oe',vs',k _ z1,z2,z3,z4⟩⟩
   .rw[bg hb]at e;refine(Id b u e).stay (fun _ _ _ z=>z) (fun c z=>?_) fun c xs z=>?_
    .rw[bg (hne c _ z)];exact z
    .rw[bg (hne c _ z)];exact z
  have I2:Inv X pz σ (aD H' a (.ext (nM a C od))) { heap:=h',gens:=s'.gens,drawn:=s'.drawn,toks:=s'.toks,os:=s'.os }:=by
   refine I.call' (ch:=[]) F.os ⟨fun b o e n f z=>?_,fun b o e n f z=>?_,fun b o e n z=>?_,fun b o e z=>?_,fun b xs e=>?_,fun b o u e=>?_,fun b ps e=>?_⟩ Cl F.bare fun b z=>absurd z (by simp)
   .exact same b o (hd b o e f) (F.un.keep b o e n f z)
   .obtain⟨sl,e1⟩:=F.un.slot b o e n f z;obtain⟨_,o2,e2,nf⟩:=Z.mem f;rw[e1]at e2;cases e2;obtain⟨IO,e3⟩:=l.slot b _ e1 nf;exact⟨IO,e3⟩
   .rw[bg (LE b o e)];exact F.un.free b o e n z
   .obtain⟨o1,e1⟩:=F.un.there b o e z;by_cases f:b∈cV X.stack
    .obtain⟨_,o2,e2,nf⟩:=Z.mem f;obtain⟨sl,e3⟩:=l.slot b _ e2 nf;exact⟨_,e3⟩
    .exact⟨o1,same b o1 (hd b o e f) e1⟩
   .have:=F.un.tups b xs e;rw[bg (hne b _ this)];exact this
   .have:=F.un.frzs b o u e;rw[bg (hne b _ this)];exact this
   .obtain⟨mo,this⟩:=F.un.tbls b ps e;exact⟨mo,by rw[bg (hne b _ this)];exact this⟩
  exact q h' _ _ tb ot ts I2 BT t3 r2 rfl (S_ hs1) t4 t5 t6
 have ld:u_ M X.A (Yl (.ref a) X.env) (fun _ s2=>sV a s2.heap/\u_ M X.A (Xq (.ref a) none) Q E s2) E s'->u_ M X.A (Yl (.ref a) X.env) (fun _ s2=>u_ M X.A (Xq (.ref a) none) Q E s2) E s':=fun z=>VG z (fun _ _ z=>z.2) fun _ _ z=>z;have Y:=Z;rw[U]at Y;rcases r5 with z|⟨T,oT,ts,z1,z2,z3,z4,z5,z6⟩|⟨l,T,oT,ts,zl,z1,z2,z3,z4,z5,z6⟩
 .exact ld (uK (T:=none) (by rw[I.ok.frames,U]) Y ac r1 r4 (fl:=none) (.inl ⟨z,rfl⟩) fun h' l=>fin none h' (fun b e=>nomatch e) l)
 .exact ld (uK (T:=some T) (by rw[I.ok.frames,U]) Y ac r1 r4 (fl:=none) (.inr (.inl ⟨T,oT,ts,rfl,z1,z3,z4,z5,z6⟩)) fun h' l=>fin (some T) h' (fun b e=>by cases e;exact z2) l)
 .have hl:l=X.env.locals:=by unfold nr at zl;rw[U]at zl;exact(B_ (ac.symm.trans (show X.env.frame=some l from zl))).symm
  subst hl;exact ld (uK (T:=some T) (by rw[I.ok.frames,U]) Y ac r1 r4 (fl:=none) (.inr (.inr ⟨T,oT,ts,rfl,z1,z3,z4,z5,z6⟩)) fun h' l=>fin (some T) h' (fun b e=>by cases e;exact z2) l)
end
theorem SI.cx{X X':Cx}{g:GE}{m:List Md}{r:ao}{G:GH}{st:L2.St}{H:Hp}(s:SI X g m r G st H)(h:X'.K=X.K):SI X' g m r G st H:=by
 constructor
 .rw[h];exact s.gok
 .exact s.old
 .exact s.ge
 .exact s.gf
 .exact s.lm
 .exact s.lr
 .rw[h];exact s.sh
 .rw[h];exact s.ow
 .rw[h];exact s.bw
 .exact s.dis
 .exact s.lk
abbrev _root_.L2.Cx.tr(X:Cx)(ps:List (Addr×Obj))(E:a_->f_->Prop):Cx:={ X with pn:=ps,xe:=E }
section
variable{pins':List (Addr×Obj)}
theorem Inv.tr(I:Inv X pz σ H s)(E:a_->f_->Prop):Inv (X.tr (X.pn++pz) E) [] σ H s:=⟨⟨I.ok.mod,I.ok.kind,I.ok.glob,I.ok.blt,I.ok.above,I.ok.inj,I.ok.has,I.ok.cab,I.ok.hd,I.ok.frames,I.ok.stk,I.ok.exf,I.ok.bs,I.ok.bsz,I.ok.noex,I.ok.exfs,I.ok.funs,I.ok.frf⟩,I.os,I.bare,I.base,I.loc,I.cell,I.free,I.freeC,fun p hp=>I.pin p (by rw[Wg]at hp;exact hp),I.hok,I.len⟩
theorem Inv.untr(I:Inv (X.tr (X.pn++pz) E) pins' σ H s):Inv X pz σ H s:=⟨⟨I.ok.mod,I.ok.kind,I.ok.glob,I.ok.blt,I.ok.above,I.ok.inj,I.ok.has,I.ok.cab,I.ok.hd,I.ok.frames,I.ok.stk,I.ok.exf,I.ok.bs,I.ok.bsz,I.ok.noex,I.ok.exfs,I.ok.funs,I.ok.frf⟩,I.os,I.bare,I.base,I.loc,I.cell,I.free,I.freeC,fun p hp=>I.pin p (Xx _ hp),I.hok,I.len⟩
theorem SP.untr{D:Ends}{f:Flow}(h:SP (X.tr (X.pn++pz) E) [] D f s):SP X pz D f s:=by cases f with
|next=>obtain⟨σ',H',I,q⟩:=h;exact⟨σ',H',Inv.untr I,q⟩
|brk=>obtain⟨σ',H',I,q⟩:=h;exact⟨σ',H',Inv.untr I,q⟩
|cont=>obtain⟨σ',H',I,q⟩:=h;exact⟨σ',H',Inv.untr I,q⟩
|ret u=>obtain⟨v,σ',H',I,r,q⟩:=h;exact⟨v,σ',H',Inv.untr I,r,q⟩
end
def pH(K:W.Frag)(T:Addr)(hit:Str->Bool):Prop:=∀nm C,hit nm=true->XN K nm C->∃bm,XO K C bm/\(Value.ref C::bm).contains (.ref T)=true
def Sw:D->Option Str
|.obj 0 ((_,.str nm)::_)=>some nm
|_=>none
structure XA(K:W.Frag)(C:Addr)(bm:List a_):Prop where
 ob:XO K C bm
 be:bm.contains (Value.type "BaseException")=true
 bo:bm.contains (Value.type "object")=true
 ga:YO K (.ref C) "__getattribute__" = some (some (.builtin "BaseException.__getattribute__"))
 gn:YO K (.ref C) "__getattr__" = some none
 gc:YO K (.ref C) "__class__" = some (some (.builtin "object.__class__"))
 gg:specialIn K (.builtin "object.__class__") "__get__" = some (some (.builtin "getset_descriptor.__get__"))
 gt:takesIn K (.builtin "object.__class__")=some true
section
variable{k:Nat}{x:Str}
theorem Fu(c:CalleeX X.prog X.w X.K X.mg X.base x ps [] k false ms F)(hr:Room k X.A)(ha:jt X g m (e::es) ms fl)(hg:Gl X x:=by rfl)(z:(x==("__debug__" : Str))=false:=by decide)(he:i_ (e::es) X.env=(false,eval e X.env)::i_ es X.env:=by rfl)(U:(backTo pos (i_ es X.env)).any (·.1)=false:=by rfl):SE X g m (.Call (.Name x p) (e::es) [] pos) (iq fl [] F):=NS (ms:=ms) (dds:=[]) (dvs:=[]) (ds:=[]) (by rw[show(L_ ([]:List D).length Md.sh)=[]from rfl,Wg];exact c) hr .nil .nil ha hg z he U
end
theorem XN.uniq{K:W.Frag}{nm:Str}{C c:Addr}(h:XN K nm C)(k:(K.all fun e=>match e.2.data with|.cls cd=>cd.name != nm || e.1==c|_=>true)=true):C=c:=by
 obtain⟨o,cd,h1,h2,h3⟩:=h;have hm:(C,o)∈(K:List (Addr×Obj)):=by
  have key:∀l:List (Addr×Obj),l.lookup C=some o->(C,o)∈l:=by
   intro l
   induction l with
  |nil=>intro h;cases h
  |cons q l ih=>
    intro h;rw[Wv]at h;split at h
    .rename_i hb;have:=Wj hb;cases h;rw[this];exact p_
    .exact t_ _ (ih h)
  exact key K h1
 have:=List.all_eq_true.mp k _ hm;simp only[h2]at this;rw[h3]at this;simpa using this
end DL
namespace DL
open PySem PySem.Spec PyProof.Rows L2
theorem gT.get{K:W.Frag}{G:GH}{fs:List (Str×V)}{ds:List (Str×D)}{d:D}{f:Str}(h:gT K G fs ds)(l:ds.lookup f=some d):∃v,fs.lookup f=some v/\RG K G v d:=by induction h with
|nil=>cases l
|@cons p q fs ds r _ ih=>
  obtain⟨a,v⟩:=p;obtain⟨b,d'⟩:=q;obtain⟨r1,r2⟩:=r;have r1:a=b:=r1;subst r1;rw[Wv]at l ⊢;split at l
  .cases l;exact⟨v,rfl,r2⟩
  .exact ih l
theorem gT.no{K:W.Frag}{G:GH}{fs:List (Str×V)}{ds:List (Str×D)}{f:Str}(h:gT K G fs ds)(l:ds.lookup f=none):fs.lookup f=none:=by induction h with
|nil=>rfl
|@cons p q fs ds r _ ih=>
  obtain⟨a,v⟩:=p;obtain⟨b,d'⟩:=q;obtain⟨r1,r2⟩:=r;have r1:a=b:=r1;subst r1;rw[Wv]at l ⊢;split at l
  .cases l
  .exact ih l
theorem RB.ins{K:W.Frag}{G:GH}{H:Hp}{v:V}{k:Str}{nm:Str}{ds:List (Str×D)}(gk:bn K G H)(h:RB K G H v (.obj 2 ((k,.str nm)::ds))):∃a C dx fs,v=.ref a/\H a=some (.ins C dx fs)/\XN K nm C/\gT K G fs ds/\RG K G v (.obj 2 ((k,.str nm)::ds)):=by
 rcases h with h|⟨a,rfl,h⟩
 .cases h with
 |scl s=>cases s
 |@ref a _ e=>have e':=e;cases gk _ _ e with
  |ins r n f=>exact⟨_,_,_,_,rfl,r,n,f,.ref e'⟩
 |kc k=>cases k
 .cases h.ob
def gu(K:W.Frag)(f:Str)(hit:Str->Bool):Prop:=∀nm C,hit nm=true->XN K nm C->Cls K C/\kE K C f
def dg(hit:Str->Bool)(f:Str):D->Option D
|.obj 2 ((_,.str nm)::ds)=>if hit nm=true then ds.lookup f else none
|_=>none
variable{X:Cx}{g:GE}{m:List Md}{e o:Expr}{es:List Expr}{fl:ao->Res (List D)}{fe fo:FE}{f nm mt:Str}{C:Addr}{p pos apos:Pos}{hit:Str->Bool}
section
variable{ro:Bool}{mb:List Md}{a:Expr}{x:Str}{p2 np:Pos}
theorem pV(hx:gu X.K f hit)(he:SB X g m e fe)(hb:W3 e f X.env (eval e X.env)=eval e X.env:=by rfl):SE X g m (.Attribute e f pos) (f1 fe (dg hit f)):=by
 refine PE.imp (Lj he hb) fun σ H Q ⟨r,G,si,q⟩=>⟨r,G,si,bG (bJ q) fun d q1 v G1 H1 w1 r1=>?_⟩
 obtain⟨d',e',q2⟩:=cX q1;unfold dg at e';split at e'
 .rename_i k nm ds;split at e'
  .rename_i hh;obtain⟨a,C,dx,fs,rfl,ha,xn,rf,_⟩:=RB.ins w1.ok r1;obtain⟨cl,na⟩:=hx nm C hh xn;obtain⟨v',l,rv⟩:=rf.get e';exact⟨a,C,dx,fs,v',rfl,ha,cl,na,l,q2 v' G1 H1 w1 rv⟩
  .cases e'
 .cases e'
def sP(tab:Str->Option Bool):D->Option D
|.obj 2 ((_,.str nm)::_)=>(tab nm).map .bl
|_=>none
def lw(K:W.Frag)(c:a_)(tab:Str->Option Bool):Prop:=∀nm b C,tab nm=some b->XN K nm C->Cls K C/\W.findIn K (.ref C) "__class__" = some (some (.builtin "object.__class__")) /\W.specialIn K (.builtin "object.__class__") "__get__" = some (some (.builtin "getset_descriptor.__get__"))/\W.takesIn K (.builtin "object.__class__")=some true/\W.mroIn K C (.type "object")=some true/\W.kitOne K (.ref C) c=some b
theorem Ob{c:a_}{cv:V}(z:∀u,aE cv u->u=c):eY X (.builtin "isinstance") (fun xs H Q=>∃x t b,xs=[x,cv]/\TyOf X.K H x t/\W.kitOne X.K t c=some b/\Q (.bl b) H):=by intro pz s σ H xs us Q I r h;obtain⟨x,t,b,rfl,ty,e,q⟩:=h;obtain⟨u,w',rfl,rx,ry⟩:=tf r;have:=z _ ry;subst this;exact PM I rx ty e fun tk=>⟨.bl b,H,I.tok tk,rfl,q⟩
theorem EX{T:Addr}{tab:Str->Option Bool}(z:X.mg x=some (.ref T))(hx:lw X.K (.ref T) tab)(U:Gl X x)(hg:Gl X "isinstance")(hm:X.mg "isinstance" = none)(he:SB X g m e fe)(hd:(x==("__debug__" : Str))=false:=by decide)(hs1:i_ [e,.Name x p2] X.env=(false,eval e X.env)::i_ [.Name x p2] X.env:=by rfl)(Y:i_ [.Name x p2] X.env=(false,eval (.Name x p2) X.env)::i_ [] X.env:=by rfl)(Z:(backTo pos (i_ [.Name x p2] X.env)).any (·.1)=false:=by rfl):SE X g m (.Call (.Name "isinstance" p) [e,.Name x p2] [] pos) (f1 fe (sP tab)):=by
 refine PE.imp (kJ (Ob (c:=.ref T) (cv:=.ref T) fun u h=>h) hg hm (by first|exact Yy|rfl) (gJ he (gJ (N4 (v:=.ref T) U z rfl hd) jk Y) hs1) (by decide) (by decide) hs1 Z) fun σ H Q ⟨r,G,si,q⟩=>⟨r,G,si,bG (bJ q) fun d q1 v G1 H1 w1 r1=>?_⟩
 obtain⟨d',e',q2⟩:=cX q1;unfold sP at e';split at e'
 .rename_i k nm ds;cases ht:tab nm with
 |none=>rw[ht]at e';cases e'
 |some b=>rw[ht]at e';cases e';obtain⟨a,C,dx,fs,rfl,ha,xn,rf,_⟩:=RB.ins w1.ok r1;obtain⟨cl,h1,h2,h3,h4,h5⟩:=hx nm b C ht xn;exact⟨.ref a,.ref C,b,rfl,.ins ha cl h1 h2 h3 h4,h5,q2 _ G1 H1 w1 (.scl (.bl _))⟩
 .cases e'
end
theorem MU{r:Res D}{q:D->Prop}{x:D->Prop}(h:fin (lU r) q x):fin r q fun _=>False:=by cases r with
|ok a=>exact h
|exc e=>exact(show False from h).elim
|stuck=>exact(show False from h).elim
def rQ(K:W.Frag)(ro:Bool)(nm:Str)(ms:List Md)(F:List D->Res D):Sp:=fun vs H Q _=>∃G k fs ds,bn K G H/\ArgsOk K G H (.sh::ms) vs (.obj 2 ((k,.str nm)::fs)::ds)/\fin (F (.obj 2 ((k,.str nm)::fs)::ds)) (fun d=>∀v G' H',Grow K G H G' H'->RV ro K H G' H' v d->Q v H') fun _=>False
structure CalleeM(P:E_)(w:T_)(K:W.Frag)(mg:Str->Option a_)(base:Heap)(mt:Str)(ps:List Str)(k:Nat)(hit:Str->Bool)(ms:List Md)(F:List D->Res D):Prop where
 ex:∀nm C,hit nm=true->XN K nm C->Cls K C/\∃f fd,Meth K C mt f/\g6 K fd ps []/\FnOk P w K mg base bZ k f fd ps (rQ K false nm ms F)
theorem MH{K:W.Frag}{ro:Bool}{nm:Str}{ms:List Md}{F F':List D->Res D}(hF:∀k fs ds,F' (.obj 2 ((k,.str nm)::fs)::ds)=F (.obj 2 ((k,.str nm)::fs)::ds)){vs:List V}{H:Hp}{Q:VK}{E:XK}(h:rQ K ro nm ms F' vs H Q E):kx K ro (.sh::ms) F vs H Q E:=by obtain⟨G,k,fs,ds,gk,rs,q⟩:=h;rw[hF]at q;exact⟨G,_,gk,rs,q⟩
def yC(hit:Str->Bool)(F F':List D->Res D):List D->Res D
|.obj 2 ((k,.str nm)::fs)::ds=>if hit nm=true then F (.obj 2 ((k,.str nm)::fs)::ds)else F' (.obj 2 ((k,.str nm)::fs)::ds)
|_=>.stuck
variable{P:E_}{w:T_}{K:W.Frag}{mg:Str->Option a_}{base:Heap}{ps:List Str}{ms:List Md}{F:List D->Res D}
section
variable{k:Nat}{hit':Str->Bool}{F':List D->Res D}
theorem Gw{nm:Str}{vs:List V}{H:Hp}{Q:VK}{E:XK}(hF:∀k fs ds,F' (.obj 2 ((k,.str nm)::fs)::ds)=F (.obj 2 ((k,.str nm)::fs)::ds))(h:rQ K false nm ms F' vs H Q E):rQ K false nm ms F vs H Q E:=by obtain⟨G,k,fs,ds,gk,rs,q⟩:=h;rw[hF]at q;exact⟨G,k,fs,ds,gk,rs,q⟩
theorem CalleeM.mono{j:Nat}(c:CalleeM P w K mg base mt ps j hit ms F)(h:j<=k):CalleeM P w K mg base mt ps k hit ms F:=⟨fun nm C hh xn=>let⟨cl,f,fd,m,b,fo⟩:=c.ex nm C hh xn;⟨cl,f,fd,m,b,fo.mono h⟩⟩
theorem CalleeM.or(c:CalleeM P w K mg base mt ps k hit ms F)(c':CalleeM P w K mg base mt ps k hit' ms F'):CalleeM P w K mg base mt ps k (fun nm=>hit nm || hit' nm) ms (yC hit F F'):=by refine⟨fun nm C hh xn=>?_⟩;cases e:hit nm with
|true=>obtain⟨cl,f,fd,m,b,fo⟩:=c.ex nm C e xn;refine⟨cl,f,fd,m,b,fo.imp fun vs H Q E h=>Gw (fun k fs ds=>?_) h⟩;show(if hit nm=true then _ else _)=_;rw[if_pos e]
|false=>rw[e,Qbf]at hh;obtain⟨cl,f,fd,m,b,fo⟩:=c'.ex nm C hh xn;refine⟨cl,f,fd,m,b,fo.imp fun vs H Q E h=>Gw (fun k fs ds=>?_) h⟩;show(if hit nm=true then _ else _)=_;rw[if_neg (by rw[e];exact k_)]
end
def xX(hit:Str->Bool)(mt:Str)(fo:FE)(fl:ao->Res (List D))(F:List D->Res D):FE:=fun r=>(fo r).bind fun d=>match d with
|.obj 2 ((k,.str nm)::fs)=>if hit nm=true/\fs.lookup mt=none then(fl r).bind fun ds=>lU (F (.obj 2 ((k,.str nm)::fs)::ds))else .stuck
|_=>.stuck
section
variable{k:Nat}
theorem MB{pl:Sem Bool}(c:CalleeM X.prog X.w X.K X.mg X.base mt ps k hit ms F)(hr:Room k X.A)(ho:SE X g m o fo)(ha:jt X g m (e::es) ms fl)(Y:i_ (e::es) X.env=(false,eval e X.env)::i_ es X.env:=by rfl)(Z:(backTo pos (i_ es X.env)).any (·.1)=false:=by rfl)(ht:eval (.Call (.Attribute o mt apos) (e::es) [] pos) X.env=(do
   let ov <-eval o X.env
   ZR apos.atName
   let(f,first) <-Yo [ov] (ZS ov mt pl)
   QaU pos f first (backTo pos (i_ (e::es) X.env)) (Y_ pos (X8 [] X.env))):=by rfl):SE X g m (.Call (.Attribute o mt apos) (e::es) [] pos) (xX hit mt fo fl F):=by
 intro pz s σ H Q I ⟨r,G,si,q⟩;refine Ro (pl:=pl) ho I ⟨r,G,si,bG (bJ q) fun d q1 v G1 H1 w1 r1=>?_⟩ ht;split at q1
 .rename_i k nm fs;split at q1
  .rename_i hh;obtain⟨a,C,dx,fv,rfl,U,xn,rf,rg⟩:=RB.ins w1.ok r1.rb;obtain⟨cl,f,fd,me,bd,z⟩:=c.ex nm C hh.1 xn;refine⟨a,C,dx,fv,f,rfl,U,cl,me,rf.no hh.2,fun s1 I1=>?_⟩;refine W.callWith_K (first:=[.ref a]) (h₀:=X.base) I.ok.mod.kin me.kp (aX (ha pos pz s1 σ H1 (fun vs H2=>rQ X.K false nm ms F (.ref a::vs) H2 Q (fun _ _ _=>False)) I1 ⟨r,G1,si.grow w1,?_⟩) fun us s2 ⟨vs,H2,I2,r2,q2⟩=>⟨I2.kIn,?_⟩) Y Z
   .cases ez:fl r with
   |ok zs=>rw[ez,bind_ok]at q1;intro vs G2 H2 w2 rs;have q3:=MU q1;exact⟨G2,_,fs,zs,w2.ok,.sh (rg.mono w2.ge) rs,bG q3 fun d k v G3 H3 w3 rv=>k v G3 H3 (w1.trans (w2.trans w3)) rv⟩
   |exc x=>rw[ez]at q1;exact XW.grow q1 w1
   |stuck=>rw[ez]at q1;exact q1
   .exact Fg (dvs:=[]) (ds:=[]) (us:=.ref a::us) (vs:=.ref a::vs) z hr bd .nil yU I2 (.cons rfl r2) (by rw[Wg];exact q2)
  .exact q1.elim
 .exact q1.elim
end
structure MethAt(K:W.Frag)(nm mt qual:Str)(st:Stmt):Prop where
 ex:∃C f fd,(∀C',XN K nm C'->C'=C)/\Cls K C/\Meth K C mt f/\Fun K mt qual st f fd
theorem Ad{nm mt qual:Str}{st:Stmt}{N ps:List Str}{k:Nat}{ms:List Md}{fs:FS}{m':List Md}(A:MethAt K nm mt qual st)(S:FnScope N ps (aa st))(U:ms.length+1=ps.length)(hb:∀(kV doc pm:a_)(an:Option Addr)(cdv ct:a_)(us:List a_),us.length=ps.length->Yc (W.fnOf mt qual (aJ st) (ay st) (aa st) .none kV doc pm an cdv ct) ⟨us,[]⟩=pure (ps.zip us))(z:∀(f:Addr)(cdv:a_)(A:Vu)(outer:List Env)(s:f_)(H:Hp)(g:GE)(E:XK),Room k (A.deeper (XS qual (aa st) s.heap.objs.size f cdv)) ->fP (ba bZ P w K mg base N qual (aa st) f cdv A outer s H E).nox g false [] (iy N.length (.sh::ms)) (ay st) fs m'):CalleeM P w K mg base mt ps (k+1) (fun x=>x==nm) ms fun ds=>aH false (fs (a9 N.length ds)):=by obtain⟨C,f,fd,hC,cl,me,F⟩:=A.ex;refine⟨fun Y C' hh xn=>?_⟩;have e:=Wj hh;subst e;have:=hC C' xn;subst this;exact⟨cl,f,fd,me,F.binds hb,(yX F S (by rw[Q_];exact U) (z f)).imp fun vs H Q E h=>MH (fun _ _ _=>rfl) h⟩
def nZ(f:Str)(v:D):List (Str×D)->List (Str×D)
|[]=>[(f,v)]
|(g,x)::r=>if g=f then(g,v)::r else(g,x)::nZ f v r
theorem gT.put{K:W.Frag}{G:GH}{f:Str}{y:V}{d:D}(r:RG K G y d){fs:List (Str×V)}{ds:List (Str×D)}(h:gT K G fs ds):gT K G (L2.putF f y fs) (nZ f d ds):=by induction h with
|nil=>exact .cons ⟨rfl,r⟩ .nil
|@cons p q fs ds r0 t ih=>
  obtain⟨a,v⟩:=p;obtain⟨b,d'⟩:=q;have r1:a=b:=r0.1;subst r1;show gT K G (if a=f then(a,y)::fs else(a,v)::L2.putF f y fs) (if a=f then(a,d)::ds else(a,d')::nZ f d ds);by_cases z:a=f
  .rw[if_pos z,if_pos z];exact .cons ⟨rfl,r⟩ t
  .rw[if_neg z,if_neg z];exact .cons r0 ih
theorem gT.mono{K:W.Frag}{G G':GH}{fs:List (Str×V)}{ds:List (Str×D)}(h:gT K G fs ds)(ge:∀a d,G a=some d->G' a=some d):gT K G' fs ds:=Paired.mono (fun _ _ r=>⟨r.1,r.2.mono ge⟩) h
theorem gT.len{K:W.Frag}{G:GH}{fs:List (Str×V)}{ds:List (Str×D)}(h:gT K G fs ds):fs.length=ds.length:=by induction h with
|nil=>rfl
|cons _ _ ih=>rw[Q_,Q_,ih]
section
variable{r:ao}{G G':GH}{σ:L2.St}{H H':Hp}{x dx:Addr}{fs fs':List (Str×V)}
theorem SI.ins(s:SI X g m r G σ H)(e:H x=some (.ins C dx fs))(hg:g.h0 x=none)(hG:G x=none):SI X g m r G σ (aD H x (.ins C dx fs')):=by
 have ne:∀b d,G b=some d->b≠x:=fun b d h z=>by subst z;rw[hG]at h;cases h
 have own:∀{b:Addr}{d:D},Own X.K G H b d->b≠x:=fun{b d} o z=>by subst z;cases o.ob with
 |lst r _=>rw[e]at r;cases r
 |dic r _=>rw[e]at r;cases r
 have ow:∀{b:Addr}{d:D},Own X.K G H b d->Own X.K G (aD H x (.ins C dx fs')) b d:=fun{b d} o=>⟨o.un,o.ob.mono (fun _ _ z=>z) fun u hu=>by rw[bg (own o)];exact hu⟩
 refine⟨fun b d h=>(s.gok b d h).mono (fun _ _ z=>z) fun u hu=>by rw[bg (ne b d h)];exact hu,fun b u h=>?_,s.ge,s.gf,s.lm,s.lr,s.sh,fun i d h1 h2=>?_,fun i d h1 h2=>?_,s.dis,s.lk⟩
 .rw[bg (fun z=>by subst z;rw[hg]at h;cases h)];exact s.old b u h
 .obtain⟨a,q1,q2,q3⟩:=s.ow i d h1 h2;exact⟨a,q1,ow q2,q3⟩
 .obtain⟨v,q1,q2⟩:=s.bw i d h1 h2;refine⟨v,q1,?_⟩;rcases q2 with q2|⟨a,rfl,q2,q3⟩
  .exact .inl q2
  .exact .inr ⟨a,rfl,ow q2,q3⟩
end
abbrev FN:=ao->List (Str×D)->Res (List (Str×D))
structure NI(X:Cx)(g:GE)(m:List Md)(x C dx:Addr)(r:ao)(ds:List (Str×D))(G:GH)(σ:L2.St)(H:Hp):Prop where
 si:SI X g m r G σ H
 me:σ[0]? = some (some (V.ref x))
 ob:∃fs,H x=some (.ins C dx fs)/\gT X.K G fs ds
 od:H dx=some (.own x)
 gx:G x=none
 hx:g.h0 x=none
 hd:g.h0 dx=none
def C3(X:Cx)(g:GE)(m:List Md)(x C dx:Addr)(r:ao)(G:GH)(σ:L2.St)(E:Ends):Res (List (Str×D))->Prop
|.ok ds=>∀G' H',bv G G'->NI X g m x C dx r ds G' σ H'->E.nx σ H'
|_=>False
def tN(X:Cx)(g:GE)(m:List Md)(C:Addr)(f:FN):TS:=fun D σ H=>∃r ds G x dx,NI X g m x C dx r ds G σ H/\C3 X g m x C dx r G σ D (f r ds)
def sD(X:Cx)(g:GE)(m:List Md)(C:Addr)(st:List Stmt)(f:FN):Prop:=dD X st (tN X g m C f)
def Jt{α:Type}(x:Res α)(k:α->Res (List (Str×D))):Res (List (Str×D)):=match x with
|.ok a=>k a
|_=>.stuck
section
variable{x0:Str}{pos':Pos}{sts:List Stmt}{s2:FN}
theorem xY:sD X g m C [] fun _ ds=>.ok ds:=dD.imp FZ fun D σ H ⟨r,ds,G,x,dx,ni,q⟩=>q G H (bv.refl G) ni
def gR(f:Str)(fe:FE)(s2:FN):FN:=fun r ds=>Jt (fe r) fun d=>if ds.length<900 then s2 r (nZ f d ds)else .stuck
theorem M1{α:Type}{x:Res α}{k:α->Res (List (Str×DL.D))}{D:Ends}{r:ao}{a dx:Addr}{G:GH}{σ:L2.St}{Z:DL.D->Prop}(h:C3 X g m a C dx r G σ D (Jt x k)):fin x (fun y=>C3 X g m a C dx r G σ D (k y)) Z:=by cases x with
|ok a=>exact h
|exc e=>exact(show False from h).elim
|stuck=>exact h
theorem tM(cl:Cls X.K C)(na:kE X.K C f)(hN:X.N[0]? = some x0)(hv:iG X.env.scope x0)(he:SE X g m e fe)(h2:sD X g m C sts s2)(hd:(x0==("__debug__" : Str))=false:=by decide)(Y:(x0==("__classdict__" : Str))=false:=by decide)(hs:XC e (some (.Attribute (.Name x0 p) f pos')) pos.line X.env=pure false:=by rfl):sD X g m C (.Assign [.Attribute (.Name x0 p) f pos'] e pos::sts) (gR f fe s2):=by
 refine dD.imp (Ax (MJ (jD hN hv hd Y) he hs) h2) fun D σ H ⟨r,ds,G,x,dx,ni,q⟩=>⟨r,G,ni.si,bG (M1 q) fun d q1 v G1 H1 w1 r1=>?_⟩
 split at q1
 .rename_i hl;obtain⟨fs,hx,rf⟩:=ni.ob;have U:=w1.he _ _ hx;refine⟨_,ni.me,x,C,dx,fs,rfl,U,cl,na,by rw[rf.len];omega,r,nZ f d ds,G1,x,dx,⟨(ni.si.grow w1).ins U ni.hx ?_,ni.me,⟨_,bX,(rf.mono w1.ge).put r1⟩,?_,?_,ni.hx,ni.hd⟩,?_⟩
  .rw[w1.gf x (by rw[hx];simp)];exact ni.gx
  .rw[bg (fun z=>by have h1:=w1.he _ _ ni.od;rw[z,U]at h1;cases h1)];exact w1.he _ _ ni.od
  .rw[w1.gf x (by rw[hx];simp)];exact ni.gx
  .cases ez:s2 r (nZ f d ds)with
  |ok zs=>rw[ez]at q1;exact fun G' H' le n'=>q1 G' H' (bv.trans w1.ge le) n'
  |exc e=>rw[ez]at q1;exact q1
  |stuck=>rw[ez]at q1;exact q1
 .exact(show False from q1).elim
end
abbrev lZ:=List D->Res (List (Str×D))
def nu(K:W.Frag)(C:Addr)(nm:Str)(ms:List Md)(F:lZ):Sp:=fun vs H Q _=>∃G H1 x dx us ds,H=aD (aD H1 dx (.own x)) x (.ins C dx [])/\H1 x=none/\H1 dx=none/\dx≠x/\vs=.ref x::us/\bn K G H1/\ArgsOk K G H1 ms us ds /\fin (F ds) (fun fd=>∀G' H',Grow K G H1 G' H'->G' x=some (iD nm fd)->Q .non H') fun _=>False
structure CalleeN(P:E_)(w:T_)(K:W.Frag)(mg:Str->Option a_)(base:Heap)(x nm:Str)(ps:List Str)(dv:List a_)(k:Nat)(ms:List Md)(F:lZ):Prop where
 ex:∃C f fd,mg x=some (.ref C)/\Mk K C f/\g6 K fd ps dv/\FnOk P w K mg base bZ k f fd ps (nu K C nm ms F)
def j9(nm:Str)(fl:ao->Res (List D))(dds:List D)(F:lZ):FE:=fun r=>(fl r).bind fun ds=>match F (ds++dds)with
|.ok fd=>.ok (iD nm fd)
|_=>.stuck
section
variable{ms':List Md}{x:Str}{k:Nat}{F:lZ}{dvs:List V}{dv:List a_}{dds:List D}
theorem make_core{C:Addr}{vs:List V}{zs:List D}{G:GH}{H:Hp}{Q:VK}(gk:bn X.K G H)(rs:ArgsOk X.K G H ms vs zs)(z:Paired Scl dvs dds)(q:fin (match F (zs++dds)with|.ok fd=>Res.ok (iD nm fd)|_=>.stuck) (fun d=>∀v G' H',Grow X.K G H G' H'->RG X.K G' v d->Q v H') fun _=>False):∀a dx,H a=none->H dx=none->dx≠a->nu X.K C nm (ms++L_ dds.length .sh) F (.ref a::(vs++dvs)) (aD (aD H dx (.own a)) a (.ins C dx [])) (fun v H2=>v=.non/\Q (.ref a) H2) E0:=by intro a dx h1 h2 h3;refine⟨G,H,a,dx,vs++dvs,zs++dds,rfl,h1,h2,h3,rfl,gk,rs.app z,?_⟩;cases ez:F (zs++dds)with
|ok fd=>rw[ez]at q;exact fun G' H' w hg=>⟨rfl,q _ G' H' w (.ref hg)⟩
|exc e=>rw[ez]at q;exact(show False from q).elim
|stuck=>rw[ez]at q;exact(show False from q).elim
theorem oK(c:CalleeN X.prog X.w X.K X.mg X.base x nm ps dv k ms' F)(hr:Room (k+1) X.A)(ha:jt X g m (e::es) ms fl)(z:ms'=ms++L_ dds.length .sh:=by rfl)(hg:Gl X x:=by rfl)(hd:ar dvs dv:=by exact .nil)(U:Paired Scl dvs dds:=by exact .nil)(Z:(x==("__debug__" : Str))=false:=by decide)(he:i_ (e::es) X.env=(false,eval e X.env)::i_ es X.env:=by rfl)(Y:(backTo pos (i_ es X.env)).any (·.1)=false:=by rfl):SE X g m (.Call (.Name x p) (e::es) [] pos) (j9 nm fl dds F):=by
 subst z;obtain⟨C,f,fd,h1,h2,h3,h4⟩:=c.ex;refine PE.imp (N6 h2 h4 hr hg h1 h3 hd yU ha Z he Y) fun σ H Q ⟨r,G,si,q⟩=>⟨r,G,si,?_⟩
 unfold j9 at q;cases ez:fl r with
|ok zs=>rw[ez,bind_ok]at q;intro vs G' H' w' rs;refine make_core w'.ok rs U (bG (Hk q ?_) fun d k v G2 H2 w2 rv=>k v G2 H2 (w'.trans w2) rv);intro e he;split at he <;> cases he
|exc x=>rw[ez]at q;exact q
|stuck=>rw[ez]at q;exact q
end
structure MakeAt(K:W.Frag)(mg:Str->Option a_)(x nm qual:Str)(st:Stmt):Prop where
 ex:∃C f fd,mg x=some (.ref C)/\XN K nm C/\Cls K C/\Mk K C f/\Fun K "__init__" qual st f fd
theorem OV{X:Cx}{N:List Str}{ms:List Md}{us:List V}{ds:List D}{G:GH}{H:Hp}{x C dx:Addr}(gk:bn X.K G H)(rs:ArgsOk X.K G H ms us ds)(hn:ms.length+1<=N.length)(h1:H x=none)(h2:H dx=none)(h3:dx≠x):NI X ⟨G,H,fun _=>none⟩ (iy N.length (.sh::ms)) x C dx (none::(ds.map some++L_ (N.length-(ds.length+1)) none)) [] G (L2.br N (.ref x::us)) (aD (aD H dx (.own x)) x (.ins C dx [])):=by
 have s0:=AC (X:=X) (N:=N) (ms:=.sh::ms) (vs:=.non::us) (ds:=.non::ds) gk (.sh (.scl .non) rs) (by simpa using hn);have e1:(L2.br N (.ref x::us)).length=(L2.br N (.non::us)).length:=by unfold L2.br;simp
 have U:∀i:Nat,i≠0->(L2.br N (.ref x::us))[i]? = (L2.br N (.non::us))[i]?:=fun i hi=>by
  obtain⟨j,rfl⟩:∃j,i=j+1:=⟨i-1,by omega⟩
  unfold L2.br;simp
 have er:∀i d,(none::(ds.map some++L_ (N.length-(ds.length+1)) none):ao)[i]? = some (some d)->i≠0/\(a9 N.length (.non::ds))[i]? = some (some d):=fun i d h=>by cases i with
 |zero=>simp at h
 |succ j=>refine⟨by omega,?_⟩;unfold a9;simpa using h
 have w:Grow X.K G H G (aD (aD H dx (.own x)) x (.ins C dx [])):=by
  have hx:aD H dx (.own x) x=none:=by rw[bg h3.symm];exact h1
  have he:∀b o,H b=some o->aD (aD H dx (.own x)) x (.ins C dx []) b=some o:=fun b o hb=>by rw[bg (fun z=>by rw[z,h1]at hb;cases hb),bg (fun z=>by rw[z,h2]at hb;cases hb)];exact hb
  exact⟨fun b d hb=>(gk b d hb).mono (fun _ _ z=>z) (fun u hu=>he b u hu),he,fun _ _ z=>z,fun _ _=>rfl⟩
 have s1:SI X ⟨G,H,fun _=>none⟩ (iy N.length (.sh::ms)) (none::(ds.map some++L_ (N.length-(ds.length+1)) none)) G (L2.br N (.ref x::us)) H:=by
  refine⟨s0.gok,s0.old,s0.ge,s0.gf,by rw[e1];exact s0.lm,?_,fun i d h hm=>?_,fun i d h hm=>?_,fun i d h hm=>?_,fun i j a d e Y hi hj=>?_,fun i o h=>(nomatch h)⟩
  .rw[e1,<-s0.lr];unfold a9;simp
  .obtain⟨z,q⟩:=er i d h;rw[U i z];exact s0.sh i d q hm
  .obtain⟨z,q⟩:=er i d h;rw[U i z];exact s0.ow i d q hm
  .obtain⟨z,q⟩:=er i d h;rw[U i z];exact s0.bw i d q hm
  .obtain⟨z,q⟩:=er i d hi;obtain⟨z',q'⟩:=er j e hj;rw[U i z,U j z'];exact s0.dis i j a d e Y q q'
 refine⟨s1.grow w,?_,⟨[],bX,.nil⟩,by rw[bg h3,bX],gk.isN h1,h1,h2⟩;unfold L2.br;simp
theorem Nd{x qual nm:Str}{st:Stmt}{f C:Addr}{fd:VV}{N ps:List Str}{k:Nat}{ms:List Md}{fn:FN}(F:Fun K "__init__" qual st f fd)(xn:XN K nm C)(S:FnScope N ps (aa st))(Y:ms.length+1=ps.length)(U:∀(cdv:a_)(A:Vu)(outer:List Env)(s:f_)(H:Hp)(g:GE)(E:XK),Room k (A.deeper (XS qual (aa st) s.heap.objs.size f cdv)) ->sD (ba bZ P w K mg base N qual (aa st) f cdv A outer s H E).nox g (iy N.length (.sh::ms)) C (ay st) fn):FnOk P w K mg base bZ (k+1) f fd ps (nu K C nm ms fun ds=>fn (none::(ds.map some++L_ (N.length-(ds.length+1)) none)) []):=by
 refine F.ok S (fun vs H Q E ⟨G,H1,a,dx,us,ds,_,_,_,_,hv,gk,rs,q⟩=>by rw[hv,Q_,rs.len.1];exact Y) fun cdv A outer s H vs Q E hr h=>?_;obtain⟨G,H1,a,dx,us,ds,rfl,h1,h2,h3,rfl,gk,rs,q⟩:=h;have Z:ps.length<=N.length:=by have:=congrArg WM S.pre;rw[Vz]at this;omega
 refine⟨_,U cdv A outer s _ ⟨G,H1,fun _=>none⟩ E hr,_,[],G,a,dx,OV gk rs (by omega) h1 h2 h3,?_⟩;cases ez:fn (none::(ds.map some++L_ (N.length-(ds.length+1)) none)) []with
|ok fd=>simp only[ez]at q;have q':=q;intro G' H' le ni;obtain⟨fs,ho,rf⟩:=ni.ob;have w:=ni.si.grown;refine q' (gset G' a (iD nm fd)) H' ⟨ni.si.gok.gset ni.gx (.ins ho xn rf),w.he,fun b d hb=>jE ni.gx b d (w.ge b d hb),fun b hb=>?_⟩ gK;rw[jF (fun z=>hb (by rw[z];exact h1))];exact w.gf b hb
|exc e=>simp only[ez]at q;exact q
|stuck=>simp only[ez]at q;exact q
theorem Ac{x nm qual:Str}{st:Stmt}{N ps:List Str}{k:Nat}{ms:List Md}{fn:FN}(A:MakeAt K mg x nm qual st)(S:FnScope N ps (aa st))(U:ms.length+1=ps.length)(hb:∀(kV doc pm:a_)(an:Option Addr)(cdv ct:a_)(us:List a_),us.length=ps.length->Yc (W.fnOf "__init__" qual (aJ st) (ay st) (aa st) .none kV doc pm an cdv ct) ⟨us,[]⟩=pure (ps.zip us))(z:∀(C:Addr),XN K nm C->∀(f:Addr)(cdv:a_)(A:Vu)(outer:List Env)(s:f_)(H:Hp)(g:GE)(E:XK),Room k (A.deeper (XS qual (aa st) s.heap.objs.size f cdv)) ->sD (ba bZ P w K mg base N qual (aa st) f cdv A outer s H E).nox g (iy N.length (.sh::ms)) C (ay st) fn):CalleeN P w K mg base x nm ps [] (k+1) ms fun ds=>fn (none::(ds.map some++L_ (N.length-(ds.length+1)) none)) []:=by obtain⟨C,f,fd,h1,xn,cl,mk,F⟩:=A.ex;exact⟨C,f,fd,h1,mk,F.binds hb,Nd (x:=x) F xn S U (z C xn f)⟩
end DL
namespace DL
open PySem PySem.Spec PyProof.Rows L2 PySem.W PySem.Calls
def fY(K:W.Frag)(C:Addr):Option (List a_×Str):=match K.lookup C with
|some ⟨.type "type",_,.cls cd,sl⟩=>(match cd.mro,sl.toList with
 |.ref C'::bm,[_,_,_,_,some (.builtin _),_]=>if (C'==C && ! cd.hasDel)=true then some (bm,cd.name)else none
 |_,_=>none)
|_=>none
theorem yN{K:W.Frag}{C:Addr}{bm:List a_}{nm:Str}(h:fY K C=some (bm,nm)):XO K C bm/\XN K nm C:=by
 unfold fY at h;split at h
 .rename_i dict cd sl hk;split at h
  .rename_i C' Y k0 k1 k2 k3 n k5 hm hs;split at h
   .rename_i hc;cases h;simp only[Vr,beq_iff_eq,Yf]at hc;obtain⟨rfl,hd⟩:=hc;refine⟨?_,_,cd,hk,rfl,rfl⟩;obtain⟨U,bs,mro,ns,q,hdct,sn,sub,ab,col,z⟩:=cd;have e1:mro=Value.ref C'::bm:=hm;have e2:z=false:=hd;subst e1 e2;have e3:sl = #[k0,k1,k2,k3,some (Value.builtin n),k5]:=by cases sl with
    |mk l=>exact congrArg Array.mk hs
    subst e3;exact⟨_,_,_,_,_,_,_,_,_,_,_,_,_,_,_,_,hk⟩
   .cases h
  .cases h
 .cases h
def f8(K:W.Frag)(nm:Str)(c:Addr):Bool:=K.all fun e=>match e.2.data with
|.cls cd=>cd.name != nm || e.1==c
|_=>true
structure CF(K:W.Frag)(nm:Str)(c:Addr)(bm:List a_):Prop where
 xa:XA K c bm
 xn:XN K nm c
 un:f8 K nm c=true
theorem xN{K:W.Frag}{nm:Str}{c:Addr}{bm:List a_}(o:fY K c=some (bm,nm))(be:bm.contains (Value.type "BaseException")=true)(bo:bm.contains (Value.type "object")=true)(ga:YO K (.ref c) "__getattribute__" = some (some (.builtin "BaseException.__getattribute__")))(gn:YO K (.ref c) "__getattr__" = some none)(gc:YO K (.ref c) "__class__" = some (some (.builtin "object.__class__")))(gg:specialIn K (.builtin "object.__class__") "__get__" = some (some (.builtin "getset_descriptor.__get__")))(gt:takesIn K (.builtin "object.__class__")=some true)(un:f8 K nm c=true):CF K nm c bm:=⟨⟨(yN o).1,be,bo,ga,gn,gc,gg,gt⟩,(yN o).2,un⟩
theorem CF.eq{K:W.Frag}{nm:Str}{c C:Addr}{bm:List a_}(f:CF K nm c bm)(h:XN K nm C):C=c:=XN.uniq h f.un
theorem J0{K:W.Frag}{T:Addr}{hit:Str->Bool}(l:List (Str×Addr×List a_))(h:∀q∈l,CF K q.1 q.2.1 q.2.2/\(Value.ref q.2.1::q.2.2).contains (.ref T)=true)(hh:∀nm,hit nm=true->∃q∈l,q.1=nm):pH K T hit:=by intro nm C hn xn;obtain⟨q,hq,rfl⟩:=hh nm hn;obtain⟨f,hc⟩:=h q hq;have:=f.eq xn;subst this;exact⟨_,f.xa.ob,hc⟩
end DL
namespace DL
open PySem PySem.Spec PyProof.Rows L2
def oP(s:Stmt)(j:Nat):Stmt:=match s with
|.ClassDef _ _ _ b _ _ _ _ _ _ _=>b.getD j s
|_=>s
def rT:D->Bool
|.non=>true
|.bl _=>true
|.int _=>true
|.str _=>true
|_=>false
theorem RB.sc{K:W.Frag}{G:GH}{H:Hp}{v:V}{d:D}(h:RB K G H v d)(hd:rT d=true):RG K G v d:=by
 rcases h with h|⟨a,rfl,h⟩
 .exact h
 .cases h.ob with
 |lst _ _=>cases hd
 |dic _ _=>cases hd
def rW(m:List Md)(f:FE):FS:=fun r=>gY m r (f r) fun d=>if rT d=true then .rt d else .stuck
section
variable{X:Cx}{g:GE}{m mb:List Md}{e:Expr}{f:FE}{pos:Pos}
theorem MD(he:SB X g m e f):SS X g false mb m (.Return (some e) pos) (rW m f) m:=by
 refine⟨rfl,PS.imp (Fc he) fun D σ H ⟨r,G,si,q⟩=>⟨r,G,si,bG (gC si rfl q) fun d q v G' H' w rv=>?_⟩⟩;split at q
 .rename_i hd;exact q v G' H' (si.grow w).grown (rv.sc hd)
 .exact q.elim
end
def iQ(K:W.Frag)(C:Addr)(nm:Str):Bool:=match K.lookup C with
|some o=>(match o.data with
 |.cls cd=>cd.name==nm
 |_=>false)
|none=>false
theorem KH{K:W.Frag}{C:Addr}{nm:Str}(h:iQ K C nm=true):XN K nm C:=by
 unfold iQ at h;split at h
 .rename_i o e;split at h
  .rename_i cd ed;exact⟨o,cd,e,ed,Wj h⟩
  .cases h
 .cases h
structure OC(K:W.Frag)(nm:Str)(C:Addr):Prop where
 un:∀C',XN K nm C'->C'=C
 xn:XN K nm C
 cl:Cls K C
theorem xO{K:W.Frag}{nm:Str}{C:Addr}(x:iQ K C nm=true)(u:f8 K nm C=true)(a:W.plainGet K C Y9=true)(b:W.hasDictIn K C=true)(c:W.plainOver K C=true)(d:W.findIn K (.ref C) "__setattr__" = some (some (.builtin "object.__setattr__"))):OC K nm C:=⟨fun C' h=>XN.uniq h u,KH x,⟨a,b,c,d⟩⟩
theorem sJ{K:W.Frag}{f:Str}{hit:Str->Bool}(l:List (Str×Addr))(h:∀q∈l,OC K q.1 q.2/\kE K q.2 f)(hh:∀nm,hit nm=true->nm∈l.map (·.1)):gu K f hit:=fun nm C hn xn=>by obtain⟨q,hq,rfl⟩:=C_.mp (hh nm hn);obtain⟨o,na⟩:=h q hq;rw[o.un C xn];exact⟨o.cl,na⟩
theorem DG{K:W.Frag}{c:a_}{tab:Str->Option Bool}(g1:W.specialIn K (.builtin "object.__class__") "__get__" = some (some (.builtin "getset_descriptor.__get__")))(g2:W.takesIn K (.builtin "object.__class__")=some true)(l:List (Str×Addr×Bool))(h:∀q∈l,OC K q.1 q.2.1/\W.findIn K (.ref q.2.1) "__class__" = some (some (.builtin "object.__class__"))/\W.mroIn K q.2.1 (.type "object")=some true/\W.kitOne K (.ref q.2.1) c=some q.2.2)(hh:∀nm b,tab nm=some b->∃q∈l,q.1=nm/\q.2.2=b):lw K c tab:=fun nm b C hn xn=>by obtain⟨q,hq,rfl,rfl⟩:=hh nm b hn;obtain⟨o,h1,h2,h3⟩:=h q hq;rw[o.un C xn];exact⟨o.cl,h1,g1,g2,h2,h3⟩
theorem xM{K:W.Frag}{nm mt qual:Str}{st:Stmt}{C f:Addr}{fd:VV}(o:OC K nm C)(h1:W.findIn K (.ref C) mt=some (some (.ref f)))(h2:W.isFn K (.ref f)=true)(F:Fun K mt qual st f fd):MethAt K nm mt qual st:=⟨C,f,fd,o.un,o.cl,⟨h1,h2,F.kp⟩,F⟩
theorem xL{K:W.Frag}{mg:Str->Option a_}{x nm qual:Str}{st:Stmt}{C f:Addr}{fd:VV}(o:OC K nm C)(hm:mg x=some (.ref C))(h1:W.makesIn K C=true)(h2:W.findIn K (.ref C) "__init__" = some (some (.ref f)))(h3:W.isFn K (.ref f)=true)(h4:W.keepIn K (.ref C)=true)(F:Fun K "__init__" qual st f fd):MakeAt K mg x nm qual st:=⟨C,f,fd,hm,o.xn,o.cl,⟨h1,h2,h3,h4⟩,F⟩
end DL
namespace DL
open PySem PySem.Spec PyProof.Rows L2 PySem.W PySem.Calls
section
variable{X:Cx}{pz:List (Addr×Obj)}{σ:L2.St}{H H':Hp}{s s':f_}{a C T:Addr}{od:Option Addr}
theorem P4{xT:Str}{bm bmT:List a_}{np ac:Pos}{ld:Stmt}{U:List Stmt}{t:TS}{D:Ends}{rest:List ExceptHandler}(F:Fly X.prog X.w X.stack H s H' a (.ref C) od s')(I:Inv X pz σ H s)(IO:X.stack=X.env::X.outer)(Id:X.env.frame=some X.env.locals)(KK:X.calm=true)(cT:X.mg xT=some (.ref T))(oT:XO X.K T bmT)(BT:bmT.contains (Value.type "BaseException")=true)(oC:XO X.K C bm)(hit:(Value.ref C::bm).contains (.ref T)=true)(hg:Gl X xT)(hs:dD (X.held (.ref a)) (ld::U) t)(q:H' a=none->t { nx:=D.nx,rt:=D.rt } σ (aD H' a (.ext (nM a C od))))(ad:(xT==("__debug__" : Str))=false:=by decide):u_ (D_ X.prog X.w) X.A (Yl (.ref a) X.env) (fun _ s₂=>u_ (D_ X.prog X.w) X.A (Xq (.ref a) none) (fun _ LT=>u_ (D_ X.prog X.w) X.A (handleBy (.ref a) X.env (.ExceptHandler (some (.Name xT np)) none (ld::U) ac::rest)) (SP X pz D) X.xe LT) X.xe s₂) X.xe s':=by
 refine F.noted I IO Id fun h' oe vs tb ot ts I1 Cl e1 e2 e3 e4 e5 e6 e7=>?_;refine wpAny_handleBy_cons ?_ (by intro z;cases z);have Ih:=Inv.held I1 (.ref a);refine codeAny_handlers_test (mH (X:=X.held (.ref a)) Ih hg cT ?_ ad);obtain⟨N1,Tk,q1,Tn,Tf,Ti,S4,Th,S9,Te,a0,a1,a2,a3,a5,Tj,z1⟩:=oC;obtain⟨N2,Tl,q2,Td,Tm,Ta,LE,Tb,ST,Tc,c0,c1,c2,c3,c5,Tg,z2⟩:=oT;refine R3 (I1.kIn _ _ z1) (I1.kIn _ _ z2) e1 e2 BT ?_;rw[hit,if_pos rfl];refine codeAny_handlers_suite ?_;unfold Xq;refine b_ (VD e1 e3 e4 ?_);rw[if_pos (by rfl)];have Z:3<ts.size:=(VW.mp e7).1;refine Xe e5 e6 Z ?_;have I2:Inv X pz σ (aD H' a (.ext (nM a C od))) { heap:=h'.update tb (VA fun v=>v.setIfInBounds 3 Value.none),gens:=s'.gens,drawn:=s'.drawn,toks:=s'.toks,os:=s'.os }:=by
  refine I1.kept fun b u e=>?_;show(h'.update tb _).get? b=some u;by_cases hb:b=tb
  .subst hb;have Y:h'.get? b=some ot:=e5;have:u=ot:=by rw[show h'.get? b=some u from e]at Y;cases Y;rfl
   subst this;have mf:VA (fun v=>v.setIfInBounds 3 Value.none) u=u:=by
    obtain⟨c,d,da,sl⟩:=u;have:da=.fields ts:=e6;subst this;show({ cls:=c,dict:=d,data:=.fields (ts.setIfInBounds 3 Value.none),slots:=sl }:Obj)=_;have:ts.setIfInBounds 3 Value.none=ts:=by
     refine Z9 fun j=>?_;by_cases hj:3=j
     .subst hj;rw[S_ Z,e7]
     .rw[Array.getElem?_setIfInBounds_ne hj]
    rw[this]
   have nf:(VA (fun v=>v.setIfInBounds 3 Value.none) u).isFreed=false:=by obtain⟨c,d,da,sl⟩:=u;have:da=.fields ts:=e6;subst this;rfl
   have:=VO (VA fun v=>v.setIfInBounds 3 Value.none) Y nf;rw[mf]at this;exact this
  .rw[VS _ _ _ _ hb];exact e
 refine VG (hs pz _ σ _ _ (Inv.held I2 (.ref a)) (q Cl)) (fun f s4 h4=>?_) fun _ _ z=>VC z;cases f with
|next=>obtain⟨σ',H2,I4,k⟩:=h4;exact⟨σ',H2,Inv.unheld I.ok.hd I4,k⟩
|brk=>obtain⟨σ',H2,I4,k⟩:=h4;exact k.elim
|cont=>obtain⟨σ',H2,I4,k⟩:=h4;exact k.elim
|ret u=>obtain⟨v,σ',H2,I4,rv,k⟩:=h4;exact⟨v,σ',H2,Inv.unheld I.ok.hd I4,rv,k⟩
end
def jK(m1:List Md)(hit:Str->Bool)(fb fh:FS):FS:=fun r=>match fb r with
|.nx r'=>.nx (forget m1 r')
|.rt d=>.rt d
|.exc x r'=>(match Sw x with
 |some nm=>if hit nm=true then(match fh r' with
  |.nx r2=>.nx r2
  |.rt d=>.rt d
  |_=>.stuck)else .stuck
 |none=>.stuck)
|_=>.stuck
section
variable{X:Cx}{g:GE}{ro:Bool}{m m1 mb:List Md}{T:Addr}{fb fh:FS}
theorem ME{xT:Str}{bmT:List a_}{np Z pos:Pos}{body U:List Stmt}{ad:Stmt}{hit:Str->Bool}(ST:X.stack=X.env::X.outer)(LE:X.env.frame=some X.env.locals)(ac:X.calm=true)(cT:X.mg xT=some (.ref T))(oT:XO X.K T bmT)(Cl:bmT.contains (Value.type "BaseException")=true)(hk:pH X.K T hit)(hg:Gl X xT)(hb:∀ps E,fP (X.tr ps E) g ro [] m body fb m1)(hs:∀a,fP (X.held (.ref a)) g ro [] (eZ m1) (ad::U) fh (eZ m1))(BT:(xT==("__debug__" : Str))=false:=by decide):SS X g ro mb m (.Try body [.ExceptHandler (some (.Name xT np)) none (ad::U) Z] [] [] pos) (jK m1 hit fb fh) (eZ m1):=by
 have IO:(eZ m1).length=m.length:=by rw[eZ,g_];exact(hb [] fun _ _=>False).1
 refine⟨IO,fun pz s σ H D I ⟨r,G,si,q⟩=>?_⟩;refine wpAny_Try_except ?_;generalize hE:(fun(e:a_)(s₁:f_)=>u_ (D_ X.prog X.w) X.A (Yl e X.env) (fun _ s₂=>u_ (D_ X.prog X.w) X.A (Xq e none) (fun _ S9=>u_ (D_ X.prog X.w) X.A (handleBy e X.env [.ExceptHandler (some (.Name xT np)) none (ad::U) Z]) (SP X pz D) X.xe S9) X.xe s₂) X.xe s₁)=E';have key:cD (X.tr (X.pn++pz) E') g ro m1 [] G { nx:=D.nx,rt:=D.rt } (fb r):=by unfold jK at q;cases e:fb r with
 |nx r'=>rw[e]at q;exact fun σ' G' H' le si'=>q σ' G' H' le (SI.cx (X':=X) si' rfl).forget
 |rt d=>rw[e]at q;exact q
 |bk r'=>rw[e]at q;exact q.elim
 |ct r'=>rw[e]at q;exact q.elim
 |stuck=>rw[e]at q;exact q
 |exc x r'=>
   rw[e]at q;intro pins' ev s' σ' G' H' le si' I' ex;obtain⟨S4,s1,H1,a,C,od,nm,ds,rfl,rfl,xn,xf,I1,fl⟩:=ex;show E' (.ref a) s';rw[<-hE];replace q:cD X g ro (eZ m1) mb G D (if hit nm=true then(match fh r' with
   |.nx r2=>.nx r2
   |.rt d=>.rt d
   |_=>.stuck)else .stuck):=q
   split at q
   .rename_i hh;obtain⟨bm,oC,hc⟩:=hk nm C hh xn;refine P4 (D:=D) fl (Inv.untr I1) ST LE ac cT oT Cl oC hc hg (hs a).2 (fun Y=>?_) BT;have KK:G' a=none:=si'.gok.isN Y;have w:Grow X.K G' H' (gset G' a (xD nm ds)) (aD H' a (.ext (nM a C od))):=by
     have ge:∀b d,G' b=some d->gset G' a (xD nm ds) b=some d:=fun b d e=>by
      have:b≠a:=by rintro rfl;rw[KK]at e;cases e
      rw[jF this];exact e
     refine⟨fun b d e=>?_,fun b o e=>?_,ge,fun b h=>?_⟩
     .by_cases hb:b=a
      .subst hb;rw[gK]at e;cases e;exact .exc bX xn (xf.mono ge)
      .rw[jF hb]at e;exact(si'.gok b d e).mono ge fun o z=>by rw[bg hb];exact z
     .have:b≠a:=by rintro rfl;rw[Y]at e;cases e
      rw[bg this];exact e
     .have:b≠a:=by rintro rfl;exact h Y
      exact jF this
    have ld:=(SI.cx (X':=X) si' rfl).grow w;refine⟨_,_,SI.cx ld rfl,?_⟩;cases e2:fh r' with
   |nx r2=>rw[e2]at q;exact fun σ2 G2 H2 Id LT=>q σ2 G2 H2 (le.trans (bv.trans w.ge Id)) (SI.cx LT rfl)
   |rt d=>rw[e2]at q;exact q
   |bk _=>rw[e2]at q;exact q.elim
   |ct _=>rw[e2]at q;exact q.elim
   |exc _ _=>rw[e2]at q;exact q.elim
   |stuck=>rw[e2]at q;exact q.elim
   .exact q.elim
 refine VG ((hb (X.pn++pz) E').2 [] s σ H _ (Inv.tr I E') ⟨r,G,SI.cx si rfl,key⟩) (fun f s1 h1=>?_) fun e s1 h1=>?_
 .have h2:=SP.untr h1;cases f with
 |next=>obtain⟨σ',H',I',k⟩:=h2;exact Xn ⟨σ',H',I',k⟩
 |brk=>obtain⟨σ',H',I',k⟩:=h2;exact k.elim
 |cont=>obtain⟨σ',H',I',k⟩:=h2;exact k.elim
 |ret u=>exact h2
 .exact h1
end
end DL
namespace DL
open PySem PySem.Spec PyProof.Rows L2 PySem.W
def sI{α:Type}(P:α->Prop):List α->Prop
|[]=>True
|a::l=>P a/\sI P l
abbrev QL:=List (Str×Addr×List a_)
end DL
namespace DL
open PySem PySem.Spec PyProof.Rows L2 PySem.W PySem.Calls
abbrev dF(C t:Addr)(od:Option Addr):Obj:={ cls:=.ref C,dict:=od,data:=.fields #[.ref t,.none,.none,.none,.bool false,.none] }
variable{prog:E_}{w:T_}{A:Vu}{E:a_->f_->Prop}{h:Heap}{gs:Array GenState}{os:OsState}{nm ql:Str}{C N:Addr}{bm sub:List a_}{sn:List Str}{ab:Bool}{col:Option Bool}{dd:Option Addr}{k0 k1 k2 k3 k5:Option a_}{nw:String}
section
variable{dr:Drawn}{tk:Nat}
variable{fI:Addr}{bs bB:List a_}{hdct:Bool}{B ini:String}{mN:Str->Option a_}{us:List a_}{oI:Obj}
theorem Nx{Q:Fin->f_->Prop}(XF:ExcBaseFacts B nw ini bB)(T:ZU h bB bm)(hC:h.get? C=some (Wx nm ql C N bs bm hdct sn sub ab col dd k0 k1 k2 k3 k5 nw))(hn:h.Ns N mN)(hi:mN "__init__" = some (.ref fI))(hf:h.get? fI=some oI)(ad:oI.cls=.type "function")(hz:us.length<=sizeLine)(hq:∀h' e,Qa2 h h' e (.ref C) us->u_ (D_ prog w) A (call (.ref fI) (.ref e::us)) (fun r s'=>r=.none/\Q (.done (.ret (.ref e))) s') E ⟨h',gs,dr,tk,os⟩):u_ (D_ prog w) A (YD.«type.__call__» ⟨.ref C::us,[]⟩) Q E ⟨h,gs,dr,tk,os⟩:=by
 repeat (first
  |with_reducible refine Xu hC ?_
  |with_reducible refine wpAny_madeBy_exc hC ?_
  |wp_step)
 refine codeAny_call_builtin_code (YL _ XF.quiet) (wpAny_check_new_subT XF T hC (codeAny_exc_new_subT XF T hC ?_ hz));show u_ _ _ _ _ _ _;have hk:∀b o,h.get? b=some o->((h.push { cls:=.type "tuple",data:=.seq us.toArray }).push (dF C h.objs.size none)).get? b=some o:=fun b o e=>c_ _ (c_ _ e);have hg:((h.push { cls:=.type "tuple",data:=.seq us.toArray }).push (dF C h.objs.size none)).get? (h.objs.size+1)=some (dF C h.objs.size none):=by heap_get
 have ac:((h.push { cls:=.type "tuple",data:=.seq us.toArray }).push (dF C h.objs.size none)).get? h.objs.size=some { cls:=.type "tuple",data:=.seq us.toArray }:=c_ _ (Qar rfl rfl);have U:=hk _ _ hC;have Z:=hk _ _ hf;have ld:=hn.keeps hk;have T1:=T.keeps hk;have Y:(Value.ref C::bm).contains (.ref C)=true:=by simp
 unfold Qa3
 repeat (first
  |with_reducible refine Xu hg ?_
  |(with_reducible refine W_ U ?_;rw[Y])
  |wp_step)
 show u_ _ _ (typeLookup (.ref C) _) _ _ _;refine wpAny_typeLookup_tail U ld T1 XF.mroIs XF.init.lookup ?_;rw[hi];refine W2 (b_ ?_);unfold bindSpecial;refine b_ (Zj (T := "function") ⟨_,Z,ad⟩ ?_);rw[if_pos (by decide)];refine o_ (b_ (VG (hq _ (h.objs.size+1) ⟨hk,Xw (ZE _),h.objs.size,hg,Xw (w_ _),ac⟩) (fun r s' hr=>?_) fun _ _ z=>z));obtain⟨rfl,hQ⟩:=hr
 wp_walk
 exact hQ
theorem PU{Q:a_->f_->Prop}(XF:ExcBaseFacts B nw ini bB)(T:ZU h bB bm)(hC:h.get? C=some (Wx nm ql C N bs bm hdct sn sub ab col dd k0 k1 k2 k3 k5 nw))(hn:h.Ns N mN)(hi:mN "__init__" = some (.ref fI))(hf:h.get? fI=some oI)(z:oI.cls=.type "function")(hz:us.length<=sizeLine)(hq:∀h' e,Qa2 h h' e (.ref C) us->u_ (D_ prog w) (A.under (.builtin "type.__call__" ⟨.ref C::us,[]⟩)) (call (.ref fI) (.ref e::us)) (fun r s'=>r=.none/\Q (.ref e) s') E ⟨h',gs,dr,tk,os⟩):u_ (D_ prog w) A (call (.ref C) us) Q E ⟨h,gs,dr,tk,os⟩:=by
 have f1:=tc_lookup;have f2:=tc_bind (.ref C);have hT:Qbg ⟨h,gs,dr,tk,os⟩ (.ref C) "type" := ⟨_,hC,rfl⟩
 refine X3 (codeAny_of_tree ?_);show u_ _ _ (callAny (.ref C) _) _ _ _
 repeat (any_goals (first
  |assumption
  |with_reducible refine Xu hC ?_
  |wp_step))
 exact⟨rfl,codeAny_call_builtin_at (YL _ (by decide+kernel)) entry_typeCall (wpAny_check_type_call_sub hC (Nx XF T hC hn hi hf z hz fun h' e hm=>hq h' e hm))⟩
theorem Pk{M:QaR}{s:f_}{x:Sem a_}{env:Env}{Q:Flow->f_->Prop}(hb:bm.contains (.type "BaseException")=true)(hh:A.handled=none)(hx:u_ M A x (fun v s1=>∃e t od,v=.ref e/\s1.heap.get? C=some (Wx nm ql C N bs bm hdct sn sub ab col dd k0 k1 k2 k3 k5 nw)/\s1.heap.get? e=some (dF C t od)/\E (.ref e) s1) E s):u_ M A (raiseStmt env (some x) none) Q E s:=by
 have U:(Value.ref C::bm).contains (.type "BaseException")=true:=by rw[X5,hb,Zq]
 unfold raiseStmt;refine b_ (VG hx (fun v s1 h1=>?_) fun _ _ z=>z);obtain⟨e,t,od,rfl,hC,he,hE⟩:=h1;obtain⟨hp,g,d,tk,os⟩:=s1
 repeat (first
  |with_reducible refine Xu he ?_
  |with_reducible refine Xu hC ?_
  |(with_reducible refine W_ hC ?_;rw[U])
  |wp_step)
 exact wpAny_raiseNew_none hh hE
end
theorem Ru{self:a_}{bm:List a_}{h:Heap}(T:ZU h hX bm):refuseLoop self "__setattr__" bm=pure ():=by induction T with
|base=>exact Y5.passes self
|own _ _ _ _ ih=>rw[refuseLoop_ref];exact ih
variable{K:W.Frag}{name:Str}
section
variable{dr:Drawn}{tk:Nat}
variable{e t:Addr}{bs:List a_}{v:a_}
theorem CN{Q:Unit->f_->Prop}(kin:K.In h)(hC:h.get? C=some (Wx nm ql C N bs bm true sn sub ab col dd k0 k1 k2 k3 k5 nw))(T:ZU h hX bm)(he:h.get? e=some (dF C t none))(g0:YO K (.ref C) "__setattr__" = some (some (.builtin "object.__setattr__")))(g1:YO K (.ref C) name=some none)(hq:∀h' dx tk',h.get? dx=none->h'.get? e=some (dF C t (some dx))->h'.Ns1 dx (fun y=>if y=name then some v else none)->(∀b o,b≠e->h.get? b=some o->h'.get? b=some o)->Q () ⟨h',gs,dr,tk',os⟩):u_ (D_ prog w) A (setAttr (.ref e) name v) Q E ⟨h,gs,dr,tk,os⟩:=by
 have f3:=Y5.slot.bind (.ref e);have ad:(Value.ref C::bm).contains (.type "object")=true:=by rw[X5,GJ T (by decide+kernel),Zq]
 have L0:Looks (D_ prog w) h (Qa3 (.ref e) (.type "object")) true:=by intro A Q E s k q;unfold Qa3;refine b_ (Ym (k _ _ he) ?_);obtain⟨hh,a1,a2,a3,a4⟩:=s;exact W_ (k _ _ hC) (by rw[ad];exact q)
 unfold setAttr callSpecial? specialOf;refine b_ (wpAny_mkText ?_);refine b_ (b_ (b_ (Ym he (looks_findIn kin g0 _ _ _ _ (fun b o e=>e) ?_))));refine W2 ?_;rw[f3];refine b_ (o_ (b_ (X3 ?_)));have SF:=PySem.F.store_object;refine Yr SF.slot.plain SF.entry (@check_slot (D_ prog w) _ _ ⟨h,gs,dr,tk+1,os⟩ "object.__setattr__" "object" "__setattr__" (.ref e) [.str name tk,v] [] _ SF.kind SF.split L0 (SF.args (.ref e) (.str name tk) v) ?_);show u_ _ _ (YD.«object.__setattr__» ⟨[.ref e,.str name tk,v],[]⟩) _ _ _;rw[osa_eq,refuse_eq];refine b_ (b_ (Ym he (b_ (wpAny_mroOf_exc hC ?_))));rw[refuseLoop_ref,Ru T];refine o_ (b_ (Ym he (b_ (looks_findIn kin g1 _ _ _ _ (fun b o e=>e) ?_))));refine b_ ?_;show u_ _ _ (pure none) _ _ _;refine o_ ?_;have Y:(h.push { cls:=.type "dict",data:=.dict #[] }).get? e=some (dF C t none):=c_ _ he;have U:e≠h.objs.size:=J_ (y_ he);refine b_ (o_ (b_ (b_ (YH he (b_ ?_)))));unfold classData;refine b_ (wpAny_load hC (o_ ?_));refine b_ (wpAny_alloc' (b_ (wpAny_update' Y (o_ ?_))));have Id:((h.push { cls:=.type "dict",data:=.dict #[] }).update e fun o=>{ o with dict:=some h.objs.size }).get? h.objs.size=some { cls:=.type "dict",data:=.dict #[] }:=(VS _ _ _ _ U.symm).trans (Qar rfl rfl);have hnd:((h.push { cls:=.type "dict",data:=.dict #[] }).update e fun o=>{ o with dict:=some h.objs.size }).Ns h.objs.size (fun _=>none):=⟨_,#[],_,Id,rfl,fun e he=>absurd he (by simp),fun _=>rfl⟩
 show u_ _ _ (Yn h.objs.size (.str name tk) name v) _ _ _;unfold Yn QaA;refine b_ (o_ (b_ (wpAny_nsSet1 (Qag hnd) fun h' Z hs=>?_)));obtain⟨oD,KK,IO,ld,ac,BT⟩:=Z.count (Within.cons name v Within.nil);refine b_ (wpAny_lookBehind ld (by rw[ac];exact pastItsLine_dict (VL BT (by rw[Q_,QaJ,Vw];omega))) ?_);have Cl:h'.get? e=some (dF C t (some h.objs.size)):=(hs.2 e U).trans (VO _ Y rfl);refine o_ (show u_ _ _ (pure (some Value.none)) _ _ _ from o_ (o_ (hq h' h.objs.size _ (Xw (w_ _)) Cl Z fun b o hb z=>?_)));exact(hs.2 b (J_ (y_ z))).trans ((VS _ _ _ _ hb).trans (c_ _ z))
theorem Nq{x:a_}{Q:a_->f_->Prop}(hC:h.get? C=some (Wx nm ql C N bs bm true sn sub ab col dd k0 k1 k2 k3 k5 "ValueError.__new__"))(T:ZU h hX bm)(he:h.get? e=some (dF C t none))(hq:∀h' t',h'.get? e=some (dF C t' none)->(∀b o,b≠e->h.get? b=some o->h'.get? b=some o)->Q .none ⟨h',gs,dr,tk,os⟩):u_ (D_ prog w) A (call (.builtin "ValueError.__init__") [.ref e,x]) Q E ⟨h,gs,dr,tk,os⟩:=by
 have XF:=YQ;refine X3 (Yr XF.init.plain XF.initEntry (wpAny_check_init_subT XF T hC he rfl ?_))
 wp_walk
 refine hq _ h.objs.size ?_ fun b o hb z=>?_
 .rw[VO _ (c_ _ he) rfl];rfl
 .rw[VS _ _ _ _ hb];exact c_ _ z
end
def XR(e C:Addr)(od:Option Addr):Heap->Prop:=fun h=>∃t,h.get? e=some (dF C t od)
theorem XR.ok{P:E_}{w:T_}{H:Hp}{h:Heap}{e C t:Addr}{od:Option Addr}(x:h.get? e=some (dF C t od)):cp P w H h e (.ext (XR e C od)):=⟨⟨t,x⟩,⟨_,x⟩,fun h1 h2 ⟨t,q⟩ k=>⟨t,k _ q⟩⟩
structure XI(K:W.Frag)(C:Addr)(bm:List a_)(f:Str):Prop where
 ob:∃N nm q bs sn sub ab col dd k0 k1 k2 k3 k5,K.lookup C=some (Wx nm q C N bs bm true sn sub ab col dd k0 k1 k2 k3 k5 "ValueError.__new__")
 tl:∀h,K.In h->ZU h hX bm
 g0:YO K (.ref C) "__setattr__" = some (some (.builtin "object.__setattr__"))
 g1:YO K (.ref C) f=some none
structure XT(K:W.Frag)(T:Addr):Prop where
 sp:specialIn K (.ref T) "__getattribute__" = some (some (.builtin "type.__getattribute__"))
 rd:readsIn K T (.type "type")=true
 fc:findCls K (.ref T) (.type "type") "__init__" = some (.val (.builtin "ValueError.__init__"))
variable{e:Expr}{X:Cx}{pos:Pos}
section
variable{ps:List Expr}{te:TE}{n k:Nat}{c:L2.St->Prop}{v₁ v₂:Expr}
def PJ(X:Cx)(ps:List Expr)(n:Nat)(c:L2.St->Prop):Prop:=∀(pz:List (Addr×Obj))(s:f_)(σ:L2.St)(H:Hp)(out:Str)(Q:a_->f_->Prop),Inv X pz σ H s->c σ->out.length+n<=1000000 ->(∀x t s',x.length<=sizeLine->Inv X pz σ H s'->Q (.str x t) s')->u_ (D_ X.prog X.w) X.A (joinParts out (Yt ps X.env)) Q X.xe s
theorem Ly:PJ X [] 0 c:=fun pz s σ H out Q I _ hl q=>by
 have hz:out.length<=sizeLine:=by rw[Vw];omega
 exact joinParts_nil (q out _ _ hz (I.tok _)) hz
theorem FU(he:PE X e te)(hr:PJ X ps n c)(h:∀σ H Q,c σ->(∀x:Str,x.length<=k->Q (.str x) H)->te σ H Q)(hs:Yt (e::ps) X.env=eval e X.env::Yt ps X.env:=by rfl):PJ X (e::ps) (k+n) c:=fun pz s σ H out Q I hc hl q=>by
 rw[hs];refine joinParts_cons (aX (he pz s σ H (fun x H1=>∃y:Str,y.length<=k/\x=.str y/\H1=H) I (h σ H _ hc fun x hx=>⟨x,hx,rfl,rfl⟩)) fun u s1 ⟨x,H1,I1,r,y,hy,hx,hH⟩=>?_);subst hx hH;obtain⟨t,rfl⟩:=(show ∃t,u=Value.str y t from r)
 have e1:(out++y).length=out.length+y.length:=strLen_append _ _;refine⟨by rw[Vw];omega,hr pz s1 σ _ _ Q I1 hc (by omega) q⟩
theorem Lz{a:Str}{j:Nat}{p:Pos}(hr:PJ X ps n c)(hs:Yt (.Constant (.str a) j p::ps) X.env=eval (.Constant (.str a) j p) X.env::Yt ps X.env:=by rfl):PJ X (.Constant (.str a) j p::ps) (a.length+n) c:=FU Fa hr (fun σ H Q _ q=>q a (w_ _)) hs
theorem Ll{tv:TE}(hv:PE X e tv):PE X (.FormattedValue e (-1) none pos) (fun σ H Q=>tv σ H fun x H1=>∃i:Int,x=.int i/\i.natAbs.log2<64/\∀z:Str,z.length<=65->Q (.str z) H1):=by
 intro pz s σ H Q I h;refine FormattedValue_plain (aX (hv pz s σ H _ I h) fun u s1 ⟨x,H1,I1,r,i,hx,hi,q⟩=>?_);subst hx;obtain⟨t,rfl⟩:=(show ∃t,u=Value.int i t from r)
 refine formatField_int_small (by omega) ⟨.str (K_ (toString i)),H1,I1.tok _,⟨_,rfl⟩,q _ ?_⟩;rw[PySem.ofString_length];exact int_text_length_le (by omega) hi
theorem Lx{j:Nat}{x:Str}{p:Pos}(hN:X.N[j]? = some x)(hv:iG X.env.scope x)(hr:PJ X ps n c)(hc:∀σ,c σ->∃i:Int,σ[j]? = some (some (.int i))/\i.natAbs.log2<64)(hd:(x==("__debug__" : Str))=false:=by decide)(z:(x==("__classdict__" : Str))=false:=by decide)(hs:Yt (.FormattedValue (.Name x p) (-1) none pos::ps) X.env=eval (.FormattedValue (.Name x p) (-1) none pos) X.env::Yt ps X.env:=by rfl):PJ X (.FormattedValue (.Name x p) (-1) none pos::ps) (65+n) c:=FU (Ll (jD hN hv hd z)) hr (fun σ H Q h q=>by obtain⟨i,e1,e2⟩:=hc σ h;exact⟨_,e1,i,rfl,e2,q⟩) hs
theorem JO(h:PJ X (v₁::v₂::ps) n c)(hn:n<=1000000)(hs:Yt (v₁::v₂::ps) X.env=eval v₁ X.env::eval v₂ X.env::Yt ps X.env:=by rfl):PE X (.JoinedStr (v₁::v₂::ps) pos) (fun σ H Q=>c σ/\∀x:Str,x.length<=sizeLine->Q (.str x) H):=by
 intro pz s σ H Q I ⟨hc,q⟩;refine JoinedStr_many ?_;have:=h pz s σ H Y9 (EP X pz σ Q) I hc (by show 0+n<=_;omega) fun x t s' hx I'=>⟨.str x,H,I',⟨t,rfl⟩,q x hx⟩
 rw[hs]at this;exact this
end
variable{t:TA}{a:Expr}{p apos:Pos}
section
variable{as:List Expr}{x:Str}{T:Addr}{pl:Sem Bool}
theorem N5(hg:Gl X x)(hm:X.mg x=some (.ref T))(hT:XT X.K T)(ha:PA X (a::as) t)(Y:(x==("__debug__" : Str))=false:=by decide)(ht:eval (.Call (.Attribute (.Name x p) "__init__" apos) (a::as) [] pos) X.env=(do
   let ov <-eval (.Name x p) X.env
   ZR apos.atName
   let(f,first) <-Yo [ov] (ZS ov "__init__" pl)
   QaU pos f first (backTo pos (i_ (a::as) X.env)) (Y_ pos (X8 [] X.env))):=by rfl)(hs:i_ (a::as) X.env=(false,eval a X.env)::i_ as X.env:=by rfl)(U:(backTo pos (i_ as X.env)).any (·.1)=false:=by rfl):PE X (.Call (.Attribute (.Name x p) "__init__" apos) (a::as) [] pos) (fun σ H Q=>t σ H fun vs H1=>∃e C bm f y,vs=[.ref e,y]/\H1 e=some (.ext (XR e C none))/\XI X.K C bm f/\Q .non H1):=by
 intro pz s σ H Q I h;refine methodCall_KW (pl:=pl) (mH I hg hm ?_ Y) ht;refine method_cls I.kIn hT.sp (cls_value (mc:=.type "type") I.kIn hT.rd hT.fc rfl ?_);have I0:=I.tok (s.toks+1);have hA:=ha pos pz _ σ H _ I0 h;rw[hs]at hA ⊢;refine Ye (by show(false || (backTo pos (i_ as X.env)).any (·.1))=false;rw[U] <;> rfl) (ZF ?_);refine aX hA fun us s1 ⟨vs,H1,I1,r,e,C,bm,f,y,hv,he,xi,q⟩=>?_;subst hv;obtain⟨u,z,rfl,r1,r2⟩:=tf r;cases(show u=Value.ref e from r1);obtain⟨⟨t,g1⟩,_,_⟩:=I1.hok e _ he;obtain⟨N,nm,ql,bs,sn,sub,ab,col,dd,k0,k1,k2,k3,k5,ob⟩:=xi.ob;refine Nq (I1.kIn _ _ ob) (xi.tl _ I1.kIn) g1 fun h' t' g2 g3=>⟨.non,H1,?_,rfl,q⟩
 have:=I1.write (x:=e) (e:=e) (o:=.ext (XR e C none)) (h':=h') (t':=s1.toks) (by rw[he];trivial) (.inl rfl) g3 ⟨_,g2⟩ (XR.ok g2);rw[show aD H1 e (.ext (XR e C none))=H1 from by funext b;unfold aD;split <;> simp_all]at this;exact this
theorem NH{o v:Expr}{f:Str}{to tv:TE}{p':Pos}(ho:PE X o to)(hv:PE X v tv)(hs:XC v (some (.Attribute o f p')) pos.line X.env=pure false:=by rfl):PS X (.Assign [.Attribute o f p'] v pos) (fun D σ H=>tv σ H fun y H1=>to σ H1 fun x H2=>∃e C bm,x=.ref e/\H2 e=some (.ext (XR e C none))/\XI X.K C bm f/\∀dx,H2 dx=none->dx≠e->D.nx σ (aD (aD H2 dx (.xd [(f,y)])) e (.ext (XR e C (some dx))))):=by
 intro pz s σ H D I h;refine Yh (aX (hv pz s σ H _ I h) fun u s1 ⟨y,H1,I1,ry,q⟩=>aX (ho pz s1 σ H1 _ I1 q) fun ov s2 ⟨x,H2,I2,rx,e,C,bm,ex,he,xi,q2⟩=>?_) hs;subst ex;obtain rfl:ov=Value.ref e:=rx;obtain⟨⟨t,g1⟩,_,_⟩:=I2.hok e _ he;obtain⟨N,nm,ql,bs,sn,sub,ab,col,dd,k0,k1,k2,k3,k5,ob⟩:=xi.ob;refine CN I2.kIn (I2.kIn _ _ ob) (xi.tl _ I2.kIn) g1 xi.g0 xi.g1 fun h' dx tk' n1 n2 n3 n4=>?_;have U:H2 dx=none:=by cases z:H2 dx with
 |none=>rfl
 |some ho=>obtain⟨o,z2⟩:=zN (I2.hok dx _ z);rw[n1]at z2;cases z2
 have Y:dx≠e:=fun z=>by rw[z,g1]at n1;cases n1
 have old:∀b u,H2 b=some u->b≠e->aD (aD H2 dx (.xd [(f,y)])) e (.ext (XR e C (some dx))) b=some u:=fun b u hb hne=>by rw[bg hne,bg (fun z=>by rw[z,U]at hb;cases hb)];exact hb
 refine⟨σ,aD (aD H2 dx (.xd [(f,y)])) e (.ext (XR e C (some dx))),?_,q2 dx U Y⟩;refine I2.call' (ch:=[]) rfl ⟨fun b o hb hn _ _=>n4 b o (fun z=>by rw[z,he]at hn;cases hn) hb,fun b o hb hn _ _=>⟨o.slots,n4 b o (fun z=>by rw[z,he]at hn;cases hn) hb⟩,fun b o hb hn _=>?_,fun b o hb _=>?_,fun b xs hb=>old b _ hb (fun z=>by rw[z,he]at hb;cases hb),fun b o u hb=>old b _ hb (fun z=>by rw[z,he]at hb;cases hb),fun b ps hb=>⟨#[],by simpa using old b _ hb (fun z=>by rw[z,he]at hb;cases hb)⟩⟩ (fun b u hb=>?_) I2.bare fun b hb=>absurd hb (by simp)
 .rw[bg (fun z=>by rw[z,he]at hn;cases hn),bg (fun z=>by rw[z,n1]at hb;cases hb)];exact hn
 .by_cases z:b=e
  .exact⟨_,by rw[z];exact n2⟩
  .exact⟨o,n4 b o z hb⟩
 .by_cases z:b=e
  .subst z;rw[bX]at hb;cases hb;exact XR.ok n2
  .rw[bg z]at hb;by_cases z2:b=dx
   .subst z2;rw[bX]at hb;cases hb;refine⟨_,n3,fun g=>?_⟩;show c8 (Wv g [(f,y)]) _;rw[Wv];by_cases hg:g=f
    .subst hg;simp only[beq_self_eq_true,if_pos];exact ry
    .rw[show(g==f)=false from by simpa using hg,if_neg hg];exact True.intro
   .rw[bg z2]at hb;refine(I2.hok b u hb).stay (fun c v hc Z=>n4 c v (fun zz=>?_) Z) (fun c hc=>old c _ hc fun zz=>by rw[zz,he]at hc;cases hc) fun c xs hc=>old c _ hc fun zz=>by rw[zz,he]at hc;cases hc
    rcases hc with rfl|hc
    .exact z zz
    .rw[zz,he]at hc;cases hc
end
theorem JJ{K:W.Frag}{h:Heap}{N:Addr}{mg:Str->Option a_}{n:Str}{v:a_}(X:K.In h)(G:h.Ns N mg)(e:nsIn K N n=some (some v)):mg n=some v:=by
 obtain⟨o,es,ep,ho,hd,_,hf⟩:=G;unfold nsIn at e;split at e
 .rename_i c d z n' sl q;have hx:=X _ _ q;rw[ho]at hx;cases hx;cases hd;split at e
  .rename_i en he;rw[<-hf];unfold nsFind findBy;rw[<-Z8,he]
   first|exact B_ e|(cases e;rfl)
  .split at e <;> cases e
 .cases e
def xE(C:Addr)(f:Str):Sp:=fun vs H Q _=>∃e i,vs=[.ref e,.int i]/\i.natAbs.log2<64/\H e=some (.ext (XR e C none))/\∀dx,H dx=none->dx≠e->Q .non (aD (aD H dx (.xd [(f,.int i)])) e (.ext (XR e C (some dx))))
def cI(σ:L2.St):Prop:=∃i:Int,σ[1]? = some (some (.int i))/\i.natAbs.log2<64
def CH(K:W.Frag)(f:Str):TS:=rM (Ek (fun σ H Q=>yT (kT 0) (yT (fun σ H Q=>cI σ/\∀x:Str,x.length<=sizeLine->Q (.str x) H) rN) σ H fun vs H1=>∃e C bm f y,vs=[.ref e,y]/\H1 e=some (.ext (XR e C none))/\XI K C bm f/\Q .non H1))
 (fun D σ H=>kT 1 σ H fun y H1=>kT 0 σ H1 fun x H2=>∃e C bm,x=.ref e/\H2 e=some (.ext (XR e C none))/\XI K C bm f/\∀dx,H2 dx=none->dx≠e->D.nx σ (aD (aD H2 dx (.xd [(f,y)])) e (.ext (XR e C (some dx)))))
theorem Nj{P:E_}{w:T_}{K:W.Frag}{mg:Str->Option a_}{base:Heap}{qual y f:Str}{st:Stmt}{fI C:Addr}{fd:VV}{bm:List a_}{k:Nat}(F:Fun K "__init__" qual st fI fd)(S:FnScope ["self",y] ["self",y] (aa st))(xi:XI K C bm f)(hb:∀(cdv:a_)(A:Vu)(outer:List Env)(s:f_)(H:Hp)(E:XK),dD (ba bZ P w K mg base ["self",y] qual (aa st) fI cdv A outer s H E).nox (ay st) (CH K f)):FnOk P w K mg base bZ (k+1) fI fd ["self",y] (xE C f):=by
 refine F.ok S (fun vs H Q E ⟨e,i,h,_⟩=>by rw[h];rfl) fun cdv A outer s H vs Q E hr ⟨e,i,hv,hi,he,q⟩=>⟨_,hb cdv A outer s H E,?_⟩
 subst hv;exact⟨_,rfl,⟨i,rfl,hi⟩,fun x _=>⟨e,C,bm,f,_,rfl,he,xi,_,rfl,_,rfl,e,C,bm,rfl,he,xi,fun dx h1 h2=>q dx h1 h2⟩⟩
structure XCI(P:E_)(w:T_)(K:W.Frag)(mg:Str->Option a_)(base:Heap)(x:Str)(C:Addr)(f:Str):Prop where
 bound:mg x=some (.ref C)
 keep:keepIn K (.ref C)=true
 ex:∃bm fI fd y oI N nm ql bs sn sub ab col dd k0 k1 k2 k3 k5,XI K C bm f/\K.lookup C=some (Wx nm ql C N bs bm true sn sub ab col dd k0 k1 k2 k3 k5 "ValueError.__new__")/\nsOkIn K N=true/\nsIn K N "__init__" = some (some (.ref fI))/\K.lookup fI=some oI/\oI.cls=.type "function" /\g6 K fd ["self",y] []/\FnOk P w K mg base bZ 1 fI fd ["self",y] (xE C f)
variable{pz:List (Addr×Obj)}{σ:L2.St}{H:Hp}{s:f_}
theorem Inv.exc{h':Heap}{e C:Addr}{vs:List a_}(I:Inv X pz σ H s)(m:s.heap.MadeExcOf h' e (.ref C) vs):H e=none/\Inv X pz σ (aD H e (.ext (XR e C none))) { heap:=h',gens:=s.gens,drawn:=s.drawn,toks:=s.toks,os:=s.os }:=by
 obtain⟨t,m1,m2,m3⟩:=m.there;have hn:H e=none:=by cases z:H e with
 |none=>rfl
 |some u=>obtain⟨o,z2⟩:=zN (I.hok e u z);rw[m.new]at z2;cases z2
 have old:∀b u,H b=some u->aD H e (.ext (XR e C none)) b=some u:=fun b u hb=>by rw[bg (fun z=>by rw[z,hn]at hb;cases hb)];exact hb
 refine⟨hn,I.call' (ch:=[]) rfl ⟨fun b o hb _ _ _=>m.keeps b o hb,fun b o hb _ _ _=>⟨o.slots,m.keeps b o hb⟩,fun b o hb hz _=>?_,fun b o hb _=>⟨o,m.keeps b o hb⟩,fun b xs hb=>old b _ hb,fun b o u hb=>old b _ hb,fun b ps hb=>⟨#[],by simpa using old b _ hb⟩⟩ (fun b u hb=>?_) I.bare fun b hb=>absurd hb (by simp)⟩
 .rw[bg (fun z=>by rw[z,m.new]at hb;cases hb)];exact hz
 .by_cases z:b=e
  .subst z;rw[bX]at hb;cases hb;exact XR.ok m1
  .rw[bg z]at hb;exact(I.hok b u hb).stay (fun c v _ hc=>m.keeps c v hc) (fun c hc=>old c _ hc) fun c xs hc=>old c _ hc
theorem Fly.init{s':f_}{h':Heap}{e C dx:Addr}{vs:List a_}{f:Str}{y:V}(I:Inv X pz σ H s)(m:s.heap.MadeExcOf h' e (.ref C) vs)(os:s'.os=s.os)(bare:Ya s'.gens)(un:Un (cV X.stack) [] (aD H e (.ext (XR e C none))) (aD (aD (aD H e (.ext (XR e C none))) dx (.xd [(f,y)])) e (.ext (XR e C (some dx)))) h' s'.heap)(hok:cS X.prog X.w (aD (aD (aD H e (.ext (XR e C none))) dx (.xd [(f,y)])) e (.ext (XR e C (some dx)))) s'.heap)(ld:aD H e (.ext (XR e C none)) dx=none)(ad:dx≠e):H dx=none/\Fly X.prog X.w X.stack H s (aD H dx (.xd [(f,y)])) e (.ref C) (some dx) s':=by
 obtain⟨hn,I2⟩:=Inv.exc I m;have hd:H dx=none:=by rw[bg ad]at ld;exact ld
 have ne:∀b o,s.heap.get? b=some o->b≠e:=fun b o hb z=>by rw[z,m.new]at hb;cases hb
 have up:∀b,b≠e->aD (aD (aD H e (.ext (XR e C none))) dx (.xd [(f,y)])) e (.ext (XR e C (some dx))) b=aD H dx (.xd [(f,y)]) b:=fun b hb=>by
  rw[bg hb];by_cases z:b=dx
  .subst z;rw[bX,bX]
  .rw[bg z,bg z,bg hb]
 have Y:∀b,b≠e->aD H e (.ext (XR e C none)) b=H b:=fun b hb=>bg hb;have Cl:aD H dx (.xd [(f,y)]) e=none:=by rw[bg ad.symm];exact hn
 have BT:∀b u,aD H dx (.xd [(f,y)]) b=some u->b≠e:=fun b u hb z=>by rw[z,Cl]at hb;cases hb
 obtain⟨⟨t,g1⟩,_,_⟩:=hok e _ bX;have Z:Un (cV X.stack) [] H (aD H dx (.xd [(f,y)])) s.heap s'.heap:=by
  refine⟨fun b o hb hz hf hx=>un.keep b o (m.keeps b o hb) (by rw[Y b (ne b o hb)];exact hz) hf hx,fun b o hb hz hf hx=>un.slot b o (m.keeps b o hb) (by rw[Y b (ne b o hb)];exact hz) hf hx,fun b o hb hz hx=>?_,fun b o hb hx=>un.there b o (m.keeps b o hb) hx,fun b xs hb=>?_,fun b o u hb=>?_,fun b ps hb=>?_⟩
  .rw[<-up b (ne b o hb)];exact un.free b o (m.keeps b o hb) (by rw[Y b (ne b o hb)];exact hz) hx
  .have U:b≠e:=fun z=>by rw[z,hn]at hb;cases hb
   rw[<-up b U];exact un.tups b xs (by rw[Y b U];exact hb)
  .have U:b≠e:=fun z=>by rw[z,hn]at hb;cases hb
   rw[<-up b U];exact un.frzs b o u (by rw[Y b U];exact hb)
  .have U:b≠e:=fun z=>by rw[z,hn]at hb;cases hb
   rw[<-up b U];exact un.tbls b ps (by rw[Y b U];exact hb)
 have ac:cS X.prog X.w (aD H dx (.xd [(f,y)])) s'.heap:=fun b u hb=>by
  refine(hok b u (by rw[up b (BT b u hb)];exact hb)).stay (fun c v _ hc=>hc) (fun c hc=>?_) fun c xs hc=>?_
  .have:c≠e:=fun z=>by rw[z,bX]at hc;cases hc
   rw[<-up c this];exact hc
  .have:c≠e:=fun z=>by rw[z,bX]at hc;cases hc
   rw[<-up c this];exact hc
 refine⟨hd,os,bare,Z,ac,hideAll s'.heap (e::cV X.stack),fun b o hb=>of_hideAll _ hb,hideAll_none _ p_,?_,⟨_,_,g1,rfl,fun d hd=>by cases hd;rfl,rfl,.inl rfl⟩,fun b o hb hf=>?_,fun b u hb=>?_⟩
 .have key:∀l:List Env,(∀b∈cV l,b∈cV X.stack)->s.heap.FunFrames X.base l->s'.heap.FunFrames (hideAll s'.heap (e::cV X.stack)) l:=by
   intro l
   induction l with
  |nil=>intro _ _;unfold ZJ;trivial
  |cons env l ih=>intro hs hf;unfold ZJ at hf ⊢;obtain⟨f1,⟨L,o,f2,f3,f4,f5⟩,f6⟩:=hf;have hL:L∈cV X.stack:=hs L (by unfold cV;rw[WF,f2];exact p_);obtain⟨sl,Id⟩:=Z.slot L o f4 (I.stkFree L hL) hL (by simp);refine⟨f1,⟨L,_,f2,hideAll_none _ (t_ _ hL),Id,f5⟩,ih (fun b hb=>hs b ?_) f6⟩;unfold cV;rw[WF,f2];exact t_ _ hb
  exact key X.stack (fun _ hb=>hb) I.stack
 .obtain⟨o',ho'⟩:=Z.there b o hb (by simp);exact⟨o',hideAll_get _ ho' fun z=>by
   rcases m_.mp z with z|z
   .exact ne b o hb z
   .exact hf z⟩
 .obtain⟨o,eo⟩:=zN (ac b u hb);refine⟨o,hideAll_get _ eo fun z=>?_⟩;rcases m_.mp z with z|z
  .exact BT b u hb z
  .have h1:=I.stkFree b z;by_cases zz:b=dx
   .obtain⟨_,ob,IO,_⟩:=I.stack.mem z;have:=Z.free b ob IO h1 (by simp);rw[this]at hb;cases hb
   .rw[bg zz,h1]at hb;cases hb
variable{f:Str}{np cpos:Pos}
section
variable{x:Str}
theorem Qe{Q:Flow->f_->Prop}(I:Inv X pz σ H s)(hc:X.calm=true)(c:XCI X.prog X.w X.K X.mg X.base x C f)(hr:Room 2 X.A)(hg:Gl X x)(ha:PA X [a] t)(h:t σ H fun vs H1=>∃i,vs=[.int i]/\i.natAbs.log2<64/\∀s1 e dx s',Inv X pz σ H1 s1->H1 dx=none->Fly X.prog X.w X.stack H1 s1 (aD H1 dx (.xd [(f,.int i)])) e (.ref C) (some dx) s'->X.xe (.ref e) s')(BT:(x==("__debug__" : Str))=false:=by decide)(he:i_ [a] X.env=(false,eval a X.env)::i_ [] X.env:=by rfl)(ld:(backTo cpos (i_ [] X.env)).any (·.1)=false:=by rfl):u_ (D_ X.prog X.w) X.A (exec (.Raise (some (.Call (.Name x np) [a] [] cpos)) none pos) X.env) Q X.xe s:=by
 obtain⟨bm,fI,fd,y,oI,N,nm,ql,bs,sn,sub,ab,col,dd,k0,k1,k2,k3,k5,xi,ob,U,Z,ad,ac,Y,F⟩:=c.ex;rw[arm_exec_Raise];refine b_ (XV (Pk (C:=C) (nm:=nm) (ql:=ql) (N:=N) (bs:=bs) (bm:=bm) (hdct:=true) (sn:=sn) (sub:=sub) (ab:=ab) (col:=col) (dd:=dd) (k0:=k0) (k1:=k1) (k2:=k2) (k3:=k3) (k5:=k5) (nw := "ValueError.__new__") (GJ (xi.tl _ I.kIn) (by decide+kernel)) (I.ok.hd hc)
  (b_ (VG (WQ (mH I hg c.bound ?_ BT)) (fun v s3 h3=>b_ (XV (o_ h3))) fun _ _ z=>z))))
 refine callWith_K (h₀:=X.base) I.ok.mod.kin c.keep (aX (ha cpos pz s σ H _ I h) fun us s1 ⟨vs,H1,I1,r,i,hv,hi,q⟩=>⟨I1.kIn,?_⟩) he ld;subst hv;obtain⟨u,rfl,ru⟩:=r.one;obtain⟨hp,gs,dr,tk,os⟩:=s1;refine PU (us:=[u]) YQ (xi.tl _ I1.kIn) (I1.kIn _ _ ob) (QaO (isNs_of_in I1.kIn U)) ?_ (I1.kIn _ _ ad) ac (by rw[Vw];show 1<=16777216;decide) fun h' e m=>?_
 .exact JJ I1.kIn (QaO (isNs_of_in I1.kIn U)) Z
 obtain⟨hn,I2⟩:=Inv.exc I1 m;have e0:=I2.env0.make C [u] [];refine X3 (Xi (F.run _ X.stack _ _ ⟨[.ref e,u],[]⟩ [.ref e,u] [.ref e,.int i] (fun v H'=>v=.non/\∃dx,aD H1 e (.ext (XR e C none)) dx=none/\dx≠e/\H'=aD (aD (aD H1 e (.ext (XR e C none))) dx (.xd [(f,.int i)])) e (.ext (XR e C (some dx)))) (fun _ _ _=>False) (hr.make C [u] []) e0 (Y _ [.ref e,u] I2.kIn rfl) (.cons rfl (.cons ru .nil)) ⟨e,i,rfl,hi,bX,fun dx h1 h2=>⟨rfl,dx,h1,h2,rfl⟩⟩) fun r s' hq=>?_);cases r with
|error e=>exact VC hq
|ok fl=>cases fl with
 |ret z=>obtain⟨v,H',o1,o2,o3,o4,o5,rfl,dx,d1,d2,rfl⟩:=hq;obtain⟨hd,fl⟩:=Fly.init I1 m o1 o2 o3 o4 d1 d2;obtain⟨⟨t,g1⟩,_,_⟩:=o4 e _ bX;exact⟨o5,e,t,some dx,rfl,(I1.call' (ch:=[]) fl.os fl.un fl.hok fl.bare (fun b z=>absurd z (by simp))).kIn _ _ ob,g1,q _ e dx s' I1 hd fl⟩
 |next=>exact VC hq
 |brk=>exact VC hq
 |cont=>exact VC hq
end
def tp(m:List Md)(nm f:Str)(fl:ao->Res (List D)):FS:=fun r=>gY m r (fl r) fun ds=>match ds with
|[.int i]=>if i.natAbs.log2<64 then .exc (xD nm [(f,.int i)]) (forget m r)else .stuck
|_=>.stuck
variable{g:GE}{ro:Bool}{m mb:List Md}{fl:ao->Res (List D)}
section
variable{fe:FE}{x:Str}
theorem OR(hc:X.calm=true)(c:XCI X.prog X.w X.K X.mg X.base x C f)(xn:XN X.K nm C)(hr:Room 2 X.A)(hg:Gl X x)(ha:SA X g m [a] fl)(z:(x==("__debug__" : Str))=false:=by decide)(he:i_ [a] X.env=(false,eval a X.env)::i_ [] X.env:=by rfl)(U:(backTo p (i_ [] X.env)).any (·.1)=false:=by rfl):SS X g ro mb m (.Raise (some (.Call (.Name x np) [a] [] p)) none pos) (tp m nm f fl) m:=by
 refine⟨rfl,fun pz s σ H D I ⟨r,G,si,q⟩=>?_⟩;refine Qe I hc c hr hg ha ⟨r,G,si,?_⟩ z he U;refine bG (gC si rfl q) fun ds q vs G' H' w' rs=>?_;split at q
 .rename_i i;split at q
  .rename_i hi;cases rs with
  |cons r1 rest=>cases rest;have hv:=r1.int w'.ok;subst hv;refine⟨i,rfl,hi,fun s1 e dx s' I1 hd fl=>?_⟩;have gw:Grow X.K G' H' (gset G' dx (.obj 1 [(f,.int i)])) (aD H' dx (.xd [(f,.int i)])):=Grow.newF w'.ok hd (OB.fld bX (.cons ⟨rfl,.scl (.int i)⟩ .nil));exact q pz (.ref e) s' σ _ _ (w'.trans gw).ge (by have:=(si.grow (w'.trans gw)).forget;exact this) (fl.inv I1) ⟨pz,s1,H',e,C,some dx,nm,[(f,.int i)],rfl,rfl,xn,gK,I1,fl⟩
  .exact q.elim
 .exact q.elim
end
def C1(K:W.Frag)(C:Addr):Option Addr:=match K.lookup C with
|some ⟨_,_,.cls cd,_⟩=>some cd.ns
|_=>none
def iI(K:W.Frag)(C N:Addr):Bool:=match K.lookup C with
|some ⟨.type "type",_,.cls cd,sl⟩=>(match cd.mro,sl.toList with
 |.ref C'::bm,[_,_,_,_,some (.builtin n),_]=>C'==C&&n == "ValueError.__new__" && ! cd.hasDel&&cd.hasDict&&tailIn K hX bm&&nsOkIn K cd.ns&&cd.ns==N
 |_,_=>false)
|_=>false
theorem KI{K:W.Frag}{C N:Addr}(h:iI K C N=true):∃bm,(∃nm q bs sn sub ab col dd k0 k1 k2 k3 k5,K.lookup C=some (Wx nm q C N bs bm true sn sub ab col dd k0 k1 k2 k3 k5 "ValueError.__new__"))/\tailIn K hX bm=true/\nsOkIn K N=true:=by
 unfold iI at h;split at h
 .rename_i dict cd sl hk;split at h
  .rename_i C' bm k0 k1 k2 k3 n k5 hm hs;simp only[Vr,beq_iff_eq,Yf]at h;obtain⟨⟨⟨⟨⟨⟨rfl,rfl⟩,hd⟩,hx⟩,ht⟩,hn⟩,rfl⟩:=h;obtain⟨U,bs,mro,ns,q,hdct,sn,sub,ab,col,z⟩:=cd;have e1:mro=Value.ref C'::bm:=hm;have e2:z=false:=hd;have e4:hdct=true:=hx;subst e1 e2 e4;have e3:sl = #[k0,k1,k2,k3,some (Value.builtin "ValueError.__new__"),k5]:=by cases sl with
   |mk l=>exact congrArg Array.mk hs
   subst e3;exact⟨bm,⟨_,_,_,_,_,_,_,_,_,_,_,_,_,hk⟩,ht,hn⟩
  .cases h
 .cases h
theorem En{K:W.Frag}{C N:Addr}{bm:List a_}{nm:Str}(h:iI K C N=true)(o:fY K C=some (bm,nm)):(∃nm q bs sn sub ab col dd k0 k1 k2 k3 k5,K.lookup C=some (Wx nm q C N bs bm true sn sub ab col dd k0 k1 k2 k3 k5 "ValueError.__new__"))/\tailIn K hX bm=true/\nsOkIn K N=true:=by
 obtain⟨z,⟨Cl,q,bs,sn,sub,ab,col,dd,k0,k1,k2,k3,k5,h1⟩,h2,h3⟩:=KI h;obtain⟨⟨N1,ld,q1,IO,ac,Z,U,Id,Y,BT,a0,a1,a2,a3,a5,ad,z1⟩,_⟩:=yN o;rw[h1]at z1;have:z=bm:=by have e1:=congrArg Obj.data (B_ z1);have e2:=Data.cls.inj e1;have e3:=congrArg ClassData.mro e2;exact(List.cons.inj e3).2
 subst this;exact⟨⟨_,_,_,_,_,_,_,_,_,_,_,_,_,h1⟩,h2,h3⟩
theorem DF{K:W.Frag}{C N:Addr}{bm:List a_}{nm f:Str}(h:iI K C N=true)(o:fY K C=some (bm,nm))(g0:YO K (.ref C) "__setattr__" = some (some (.builtin "object.__setattr__")))(g1:YO K (.ref C) f=some none):XI K C bm f:=by obtain⟨⟨z,q,bs,sn,sub,ab,col,dd,k0,k1,k2,k3,k5,h1⟩,h2,h3⟩:=En h o;exact⟨⟨N,z,q,bs,sn,sub,ab,col,dd,k0,k1,k2,k3,k5,h1⟩,fun h kin=>tail_of_in kin h2,g0,g1⟩
theorem J4{P:E_}{w:T_}{K:W.Frag}{h:Heap}{mg:Str->Option a_}{x y f qual nm:Str}{C N fI:Addr}{bm:List a_}{st:Stmt}{fd:VV}(KX:K.In h)(G:h.Ns Vv mg)(a:nsIn K Vv x=some (some (.ref C)))(kp:keepIn K (.ref C)=true)(z:iI K C N=true)(o:fY K C=some (bm,nm))(xi:XI K C bm f)(i:nsIn K N "__init__" = some (some (.ref fI)))(F:Fun K "__init__" qual st fI fd)(fc:typeIn K (.ref fI)=some (.type "function"))(hb:∀(kV doc pm:a_)(an:Option Addr)(cdv ct:a_)(us:List a_),us.length=([("self" : Str),y]).length->Yc (W.fnOf "__init__" qual (aJ st) (ay st) (aa st) .none kV doc pm an cdv ct) ⟨us,[]⟩=pure (([("self" : Str),y]).zip us))(ok:∀base,FnOk P w K mg base bZ 1 fI fd ["self",y] (xE C f))(base:Heap):XCI P w K mg base x C f:=by obtain⟨⟨U,q,bs,sn,sub,ab,col,dd,k0,k1,k2,k3,k5,h1⟩,h2,h3⟩:=En z o;obtain⟨oI,lI,hI⟩:=Zo.mp (show(K.lookup fI).map (·.cls)=some (.type "function")from fc);exact⟨mg_of KX G a,kp,bm,fI,fd,y,oI,N,U,q,bs,sn,sub,ab,col,dd,k0,k1,k2,k3,k5,xi,h1,h3,i,lI,hI,F.binds hb,ok base⟩
def Kx(s:Stmt):Stmt:=match s with
|.ClassDef _ _ _ (d::_) _ _ _ _ _ _ _=>d
|_=>s
section
variable{P:E_}{mg:Str->Option a_}{base:Heap}
theorem GV{x:Str}{st:Stmt}{N ps:List Str}{k:Nat}{ro:Bool}{ms:List Md}{fs:FS}{m':List Md}{dds:List a_}(A:DefAtD K mg x st dds)(S:FnScope N ps (aa st))(Y:ms.length=ps.length)(hb:∀(T:Addr)(kV doc pm:a_)(an:Option Addr)(cdv ct:a_)(us:List a_),us.length=ps.length->∃kk:Option (Array a_)->Sem (List (Str×a_)),Yc (W.fnOf x x (aJ st) (ay st) (aa st) (.ref T) kV doc pm an cdv ct) ⟨us,[]⟩=seqItems? (.ref T) >>= kk/\kk (some dds.toArray)=pure (ps.zip (us++[])))(z:∀(f:Addr)(cdv:a_)(A:Vu)(outer:List Env)(s:f_)(H:Hp)(g:GE)(E:XK),Room k (A.deeper (XS x (aa st) s.heap.objs.size f cdv)) ->fP (ba (xK P w) P w K mg base N x (aa st) f cdv A outer s H E) g ro [] (iy N.length ms) (ay st) fs m'):CalleeX P w K mg base x ps [] (k+1) ro ms fun ds=>aH ro (fs (a9 N.length ds)):=by
 obtain⟨f,T,o,n,oc,od,kV,doc,pm,an,cdv,ct,osl,h1,hT,hd,lk,ac,kp⟩:=A.ex;refine⟨f,W.fnOf x x (aJ st) (ay st) (aa st) (.ref T) kV doc pm an cdv ct,h1,kp,fun s us KX hl=>?_,?_⟩
 .obtain⟨kk,e1,e2⟩:=hb T kV doc pm an cdv ct us (by simpa using hl);exact BindsTo.of_defaults rfl (KX _ _ hT) hd e1 e2
 .refine DO lk ac S (fun vs H Q E ⟨G,ds,gk,rs,q⟩=>rs.len.1.trans Y) fun A outer s H vs Q E hr h=>?_;obtain⟨G,ds,gk,rs,q⟩:=h;have BT:ps.length<=N.length:=by have:=congrArg WM S.pre;rw[Vz]at this;omega
  refine⟨_,(z f cdv A outer s H ⟨G,H,fun _=>none⟩ E hr).2,a9 N.length ds,G,AC gk rs (by omega),?_⟩;replace q:fin (aH ro (fs (a9 N.length ds))) _ _:=q;cases e:fs (a9 N.length ds)with
 |nx r'=>rw[e]at q;cases ro with
  |false=>exact fun σ' G' H' _ si=>q .non G' H' si.grown (.scl .non)
  |true=>exact q.elim
 |rt d=>rw[e]at q;exact fun v G' H' wg rv=>q v G' H' wg rv
 |bk r'=>rw[e]at q;exact q.elim
 |ct r'=>rw[e]at q;exact q.elim
 |exc x r'=>rw[e]at q;intro pz ev s' σ' G' H' le si I ex;obtain⟨ld,s1,H1,a,C,U,nm,ad,rfl,rfl,xn,xf,I1,fl⟩:=ex;exact fl.leaves I1 rfl rfl rfl fun s'' Z=>⟨a,_,H',U,rfl,Z,q C U nm ad G' H' rfl xn xf si.grown⟩
 |stuck=>rw[e]at q;exact q
end
variable{tg:Expr}
theorem NG{iter:Expr}{body:List Stmt}{wi:TI}{g:TG}{tb:TS}{pos:Pos}(hc:X.calm=true)(hi:PI X tg iter wi)(hg:PG X.nox tg g)(hb:dD X.nox body tb)(hs:∀x,Wa iter X.env x=pure x:=by intro _;rfl):PS X (.For tg iter body [] pos) (rO wi g tb):=by
 intro pz s σ H D I h;refine wpAny_For (aX (hi pz s σ H _ I h) fun v s1 h1=>aX h1 fun itv s2 h2=>?_) hs;obtain⟨it,fp,tn,J,H2,e,I2,T,ad,f2,W,⟨m0,w0⟩,Z⟩:=h2;subst e;have Y:∀{H':Hp},(∀b∈fp,H' b=none)->∀b∈fp,dC X pz H' b:=fun hn b hb=>⟨hn b hb,(f2 b hb).2⟩
 refine ZV (fun n s'=>∃i σ' H',L2.Inv X pz σ' H' s'/\tn i s'.heap/\(∀b∈fp,H' b=none)/\W i n σ' H') ?_ m0 ⟨0,σ,H2,I2,ad,fun b hb=>(f2 b hb).1,w0⟩
 rintro n s3 ⟨i,σ3,H3,I3,st3,fr3,w3⟩
 rcases Z i n σ3 H3 w3 with⟨stop,qn⟩|⟨go,N,hN,step⟩
 .refine VG (T.done X rfl rfl rfl hc i pz s3 σ3 H3 (fun _ _=>False) I3 (Y fr3) st3 stop) (fun r s4 ⟨hr,I4⟩=>?_) fun _ _ z=>VC z;subst hr;exact Xn ⟨σ3,H3,I4,qn⟩
 .refine VG (T.item X rfl rfl rfl hc i pz s3 σ3 H3 (fun _ _=>False) I3 (Y fr3) st3 go) (fun r s4 ⟨u,hr,h4⟩=>?_) fun _ _ z=>VC z;subst hr;refine VG h4 (fun _ s5 ⟨x,H5,I5,r5,y5,st5,fr5⟩=>?_) fun _ _ z=>VC z;have ac:=I5.pinned (Y fr5) (T.obj _ _ st5);refine VG (hg _ s5 σ3 H5 x u _ (ac.wish _) r5 (step x H5 y5)) (fun _ s6 ⟨σ6,H6,I6,q6⟩=>?_) fun _ _ z=>VC z;refine VG (hb _ s6 σ6 H6 _ I6 q6) (fun f s7 q7=>?_) fun _ _ z=>VC z;have again:∀{U:L2.St}{H7:Hp},L2.Inv X (pz++oG fp s5.heap) U H7 s7->N U H7->∃m,m<n/\∃i σ' H',L2.Inv X pz σ' H' s7/\tn i s7.heap/\(∀b∈fp,H' b=none)/\W i m σ' H':=fun{U H7} I7 n7=>by obtain⟨m',hm,w7⟩:=hN U H7 n7;refine⟨m',hm,i+1,U,H7,I7.unpinned,T.keep _ _ _ st5 fun b hb o e=>(I7.pin (b,o) (P_ _ (P_ _ (ph hb e)))).1,fun b hb=>?_,w7⟩;obtain⟨o,e,d⟩:=T.obj _ _ st5 b hb;exact(I7.pin (b,o) (P_ _ (P_ _ (ph hb e)))).2.1
  cases f with
 |next=>obtain⟨U,H7,I7,n7⟩:=q7;exact again I7.unwish n7
 |cont=>obtain⟨U,H7,I7,n7⟩:=q7;exact again I7.unwish n7
 |brk=>obtain⟨U,H7,I7,q7⟩:=q7;exact⟨U,H7,I7.unwish.unpinned,q7⟩
 |ret v=>obtain⟨x7,U,H7,I7,r7,q7⟩:=q7;exact⟨x7,U,H7,I7.unwish.unpinned,r7,q7⟩
def ii(s:FS):FS:=fun r=>match s r with
|.exc _ _=>.stuck
|o=>o
def tJ(m:List Md)(fi:FI)(ft:FT)(body:FS):FS:=fun r=>gY m r (fi r) fun ds=>aI ft (ii body) ds r
section
variable{iter:Expr}{sts:List Stmt}{s1:FS}
theorem MA(hc:X.calm=true){ft:FT}{fi:FI}(hi:i7 X g m tg iter fi)(hg:SG X.nox g m tg ft m)(hb:fP X.nox g ro m m sts s1 m)(hs:∀x,Wa iter X.env x=pure x:=by intro _;rfl):SS X g ro mb m (.For tg iter sts [] pos) (tJ m fi ft s1) m:=by
 refine⟨rfl,PS.imp (NG hc hi hg.2 hb.2 hs) fun D σ H ⟨r,G,si,q⟩=>⟨r,G,si,bG (gC si rfl q) fun ds q J G0 H0 w0 Y=>?_⟩⟩;refine⟨fun i n σ H=>∃r G,SI X g m r G σ H/\bv G0 G/\i<=ds.length/\n=ds.length-i/\cD X g ro m mb G D (aI ft (ii s1) (ds.drop i) r),⟨ds.length,r,G0,si.grow w0,bv.refl G0,VM _,rfl,cD.gle q w0.ge⟩,?_⟩
 rintro i n σ1 H1 ⟨r1,G1,si1,le1,hi,rfl,q1⟩
 by_cases hlt:i<ds.length
 .have hd:ds.drop i=ds[i]::ds.drop (i+1):=Wh hlt;rw[hd]at q1;unfold aI at q1;refine .inr ⟨Y.go G1 H1 i le1 si1.gok hlt,fun σ' H'=>∃r G,SI X g m r G σ' H'/\bv G0 G/\cD X g ro m mb G D (aI ft (ii s1) (ds.drop (i+1)) r),fun σ' H' ⟨r',G',si',ad,q'⟩=>⟨ds.length-(i+1),by omega,r',G',si',ad,hlt,rfl,q'⟩,fun x H' y=>?_⟩;obtain⟨G',w',rv⟩:=Y.yld G1 H1 i x H' ds[i] le1 si1.gok y (d_ hlt);have ad:bv G0 G':=le1.trans w'.ge;cases ld:ft ds[i] r1 with
 |none=>simp only[ld]at q1;exact q1.elim
 |some r2=>
   simp only[ld]at q1;have U:SI X g m r1 G' σ1 H':=si1.grow w';refine⟨r1,G',ds[i],⟨U.gok,U.old,U.ge,U.gf,U.lm,U.lr,U.sh,U.ow,U.bw,U.dis,U.lk⟩,rv,r2,ld,fun σ2 BT=>⟨r2,G',BT,?_⟩⟩;have back:∀{m:List Md}{r:ao}{G:GH}{σ:L2.St}{H:Hp},SI X.nox g m r G σ H->SI X g m r G σ H:=fun z=>⟨z.gok,z.old,z.ge,z.gf,z.lm,z.lr,z.sh,z.ow,z.bw,z.dis,z.lk⟩
   have en:ii s1 r2=match s1 r2 with
   |.exc _ _=>.stuck
   |o=>o:=rfl
   cases eb:s1 r2 with
  |nx r'=>simp only[en,eb]at q1;exact fun σ3 G3 H3 Z ac=>⟨r',G3,back ac,ad.trans Z,cD.gle q1 (bv.trans w'.ge Z)⟩
  |ct r'=>simp only[en,eb]at q1;exact fun σ3 G3 H3 Z ac=>⟨r',G3,back ac,ad.trans Z,cD.gle q1 (bv.trans w'.ge Z)⟩
  |bk r'=>simp only[en,eb]at q1;exact fun σ3 G3 H3 Z ac=>q1 σ3 G3 H3 (bv.trans w'.ge Z) (back ac)
  |rt d=>simp only[en,eb]at q1;exact q1
  |exc x r'=>simp only[en,eb]at q1;exact q1.elim
  |stuck=>simp only[en,eb]at q1;exact q1.elim
 .have e:i=ds.length:=by omega
  subst e;rw[XH]at q1;exact .inl ⟨Y.stop G1 H1 le1 si1.gok,q1 σ1 G1 H1 (bv.refl _) si1⟩
end
def nS(K:W.Frag)(r:V->List V->Hp->VK->Prop)(mk:D->List D->Option D):Prop:=∀(G:GH)(H:Hp)(a:Addr)(d:D)(vs:List V)(ds:List D)(d':D)(Q:VK),bn K G H->Own K G H a d->cK K G vs ds->mk d ds=some d' ->(∀o' v,OwnO K G (aD H a o') a d'->Q v (aD H a o'))->r (.ref a) vs H Q
section
variable{pos':Pos}{x:Str}{T id:String}{R:V->List V->Hp->VK->Prop}{mk:D->List D->Option D}
theorem Qg(i:Nat)(hm:m[i]? = some .ow)(hk:nS X.K R mk){D0:Ends}{σ:L2.St}{H:Hp}(h:tS X g ro m m mb (cH T m i fl mk) D0 σ H):∃v,σ[i]? = some (some v)/\nq X.K T v H/\tL X g m fl σ H fun xs H2=>R v xs H2 fun _ H1=>D0.nx σ H1:=by obtain⟨r,G,si,k⟩:=h;unfold cH at k;cases er:r[i]? with
|none=>simp only[er]at k;exact(show False from k).elim
|some oo=>cases oo with
 |none=>simp only[er]at k;exact(show False from k).elim
 |some d=>
   simp only[er]at k;by_cases ht:rL T d=true
   .rw[if_pos ht]at k;obtain⟨a,h1,h2,h3⟩:=si.mut hm er;refine⟨_,h1,E5 h2 ht,r,G,si,bG (gC si rfl k) fun ds k2 vs G' H' w rs=>?_⟩;cases em:mk d ds with
   |none=>simp only[em]at k2;exact(show False from k2).elim
   |some d'=>simp only[em]at k2;obtain⟨a',z,U,h3'⟩:=(si.grow w).mut hm er;rw[h1]at z;cases z;exact hk G' H' a d vs ds d' _ w.ok U rs em fun o' _ ob=>k2 σ G' _ w.ge (h3' o' d' ob)
   .rw[if_neg ht]at k;exact(show False from k).elim
theorem NU(i:Nat)(hm:m[i]? = some .ow)(pa:Zn T)(slot:Slot T name id)(ac:QaX (.builtin id)=pure (.type "method_descriptor"))(Z:lv X id R)(hk:nS X.K R mk)(hN:X.N[i]? = some x)(hv:iG X.env.scope x)(hd:(x==("__debug__" : Str))=false:=by decide)(Y:(x==("__classdict__" : Str))=false:=by decide)(z:W3 (.Name x pos') name X.env (eval (.Name x pos') X.env)=eval (.Name x pos') X.env:=by rfl)(U:(apos.endLine==cpos.line)=true:=by rfl):SS X g ro mb m (.Expr (.Call (.Attribute (.Name x pos') name apos) [] [] cpos) pos) (cH T m i ae mk) m:=by refine⟨rfl,PS.imp (tY (Li pa slot ac Z (jD hN hv hd Y) z U)) fun D0 σ H h=>?_⟩;obtain⟨v,h1,h2,r,G,si,k⟩:=Qg i hm hk h;exact⟨v,h1,h2,k [] G H (Grow.refl si.gok) .nil⟩
end
def popD:D->List D->Option D
|.lst ds,[]=>if ds.isEmpty=true then none else some (.lst ds.dropLast)
|_,_=>none
theorem MI{K:W.Frag}:nS K rX popD:=by
 intro G H a d vs ds d' Q gk ow rs e q;unfold popD at e;split at e
 .rename_i zs;split at e
  .cases e
  .rename_i hz;cases e;cases ow.ob with
  |@lst xs _ r s=>
    cases rs;have hl:=Paired.length s;have hp:0<xs.length:=by rw[hl];cases zs with
    |nil=>exact absurd rfl hz
    |cons _ _=>simp
    refine⟨a,xs,xs[xs.length-1]'(by omega),rfl,rfl,r,d_ (by omega),q _ _ (.lst bX ?_)⟩;rw[ZB,ZB,hl];exact Paired.tk _ s
 .cases e
end DL
namespace DL
open PySem PySem.Spec PyProof.Rows L2 PySem.W PySem.Calls PySem.Builtin PySem.Builtin.Str
end DL
section
namespace L2
open PySem PySem.Spec PyProof.Rows
theorem dM{sc:X7}{x:Str}(h:(match sc.names.lookup x with|some .local=>true|some .cell=>true|_=>false)=true):j5 sc x:=by
 revert h;unfold j5;split <;> intro h
 .exact .inl (by assumption)
 .exact .inr (by assumption)
 .cases h
theorem bV{N P:List Str}{sc:X7}(h:(decide (sc.kind=.function) && ! sc.isCoroutine && ! sc.isGenerator&&decide N.Nodup&&decide (N.take P.length=P)&&(P.all fun x=>match sc.names.lookup x with|some .local=>true|some .cell=>true|_=>false)&&sc.names.all fun y=>decide (y.2≠.free))=true:=by decide+kernel):FnScope N P sc:=by simp only[Vr,decide_eq_true_eq,Yf,Wl]at h;obtain⟨⟨⟨⟨⟨⟨a,b⟩,c⟩,d⟩,e⟩,f⟩,k⟩:=h;exact⟨a,b,c,d,e,fun x hx=>dM (f x hx),k⟩
end L2
namespace DL
open PySem PySem.Spec PyProof.Rows L2
section
variable{X:Cx}{g:GE}{m mb ms:List Md}{e a b:Expr}{es:List Expr}{f fa fb:FE}{x:Str}{p pos pos':Pos}{ro:Bool}{fl:ao->Res (List D)}{k:Nat}{ps:List Str}{F:List D->Res D}
theorem bE(h:SE X g m e f):SB X g m e f:=SE.toB h
theorem iB{i:Int}{j:Nat}:SB X g m (.Constant (.int i) j pos) fun _=>.ok (.int i):=bE n6
theorem xB(hu:X.A.units+1<Xb)(ha:SB X g m a fa)(hb:SB X g m b fb)(hs:zX b:=by intro _ _;rfl):SB X g m (.Subscript a b pos) (f2 fa fb ax):=bE (di hu ha hb hs)
theorem cb(i:Nat)(hN:X.N.Nodup)(he:SE X g m e f)(hi:X.N[i]? = some x:=by rfl)(hx:j5 X.env.scope x:=by exact dM rfl)(hs:XC e (some (.Name x pos')) pos.line X.env=pure false:=by rfl)(hf:X.fn x=true\/X.env.scope.names.lookup x=some .local:=by first|exact .inl rfl|exact .inr rfl|assumption):SS X g ro mb m (.Assign [.Name x pos'] e pos) (ap m i f) (m.set i .sh):=K0 i hN hi hx he hs hf
theorem bK(i:Nat)(hN:X.N.Nodup)(hi:X.N[i]? = some x:=by rfl)(hx:j5 X.env.scope x:=by exact dM rfl)(hf:X.fn x=true\/X.env.scope.names.lookup x=some .local:=by first|exact .inl rfl|exact .inr rfl|assumption):SG X g m (.Name x pos) (aG i) (m.set i .sh):=Kr i hN hi hx hf
theorem aV(c:Callee X.prog X.w X.K X.mg X.base x ps [] k false ms F)(ha:jt X g m (e::es) ms fl)(hr:Room k X.A:=by exact Room.mono ‹_› (by decide))(hg:Gl X x:=by rfl)(z:(x==("__debug__" : Str))=false:=by decide)(he:i_ (e::es) X.env=(false,eval e X.env)::i_ es X.env:=by rfl)(U:(backTo pos (i_ es X.env)).any (·.1)=false:=by rfl):SE X g m (.Call (.Name x p) (e::es) [] pos) (aF fl [] F):=zD (dds:=[]) c hr ha (by simp) hg .nil .nil z he U
end
theorem cu{P:E_}{w:T_}{K:W.Frag}{mg:Str->Option a_}{base:Heap}{x:Str}{st:Stmt}{N ps:List Str}{k:Nat}{ro:Bool}{ms:List Md}{fs:FS}{m':List Md}(A:DefAt K mg x st)(S:FnScope N ps (aa st))(z:∀(f:Addr)(cdv:a_)(A:Vu)(outer:List Env)(s:f_)(H:Hp)(g:GE)(E:XK),Room k (A.deeper (XS x (aa st) s.heap.objs.size f cdv))->(A.deeper (XS x (aa st) s.heap.objs.size f cdv)).units+1<Xb ->fP (ba bZ P w K mg base N x (aa st) f cdv A outer s H E).nox g ro [] (iy N.length ms) (ay st) fs m')(U:ms.length=ps.length:=by rfl)(hb:∀(kV doc pm:a_)(an:Option Addr)(cdv ct:a_)(us:List a_),us.length=ps.length->Yc (W.fnOf x x (aJ st) (ay st) (aa st) .none kV doc pm an cdv ct) ⟨us,[]⟩=pure (ps.zip us):=by intro _ _ _ _ _ _ us hl;rcases us with _|⟨_,_|⟨_,_|⟨_,_|⟨_,_|⟨_,_|⟨_,_⟩⟩⟩⟩⟩⟩ <;> first|(exfalso;revert hl;simp;done)|kernel_rfl):Callee P w K mg base x ps [] (k+1) ro ms fun ds=>aH ro (fs (a9 N.length ds)):=zK A S U hb fun f cdv A outer s H g E hr=>z f cdv A outer s H g E hr (ju hr)
end DL
end
section
namespace Rg
theorem kB{α:Type}[DecidableEq α]:∀{l m:List α},l.Nodup->(∀x∈l,x∈m)->l.length<=m.length
|[],_,_,_=>VM _
|a::l,m,hn,hs=>by
  have z:=VQ.mp hn;have h1:=kB (l:=l) (m:=m.erase a) z.2 fun x hx=>by
   have U:x≠a:=by rintro rfl;exact z.1 hx
   exact(Xz U).mpr (hs x (t_ _ hx))
  have ha:a∈m:=hs a p_;rw[Ws ha]at h1;have:=Xk ha;simp only[Q_];omega
theorem RZ{α:Type}{p:α->Bool}{l:List α}(h:l.Nodup):(l.filter p).Nodup:=List.Pairwise.filter p h
structure S where
 line:List Nat
 things:List Nat
section
variable(W:Nat->List Nat)(O:Nat->Option Nat)
def best(row things:List Nat):Nat:=(row.find? fun x=>decide (x∈things)).getD 0
def it{α:Type}(f:α->α):Nat->α->α
|0,x=>x
|n+1,x=>it f n (f x)
structure Ok(s:S):Prop where
 nl:s.line.Nodup
 nt:s.things.Nodup
 le:s.line.length<=s.things.length
 row:∀h∈s.line,∀x∈s.things,x∈W h
 inj:∀h k x,O h=some x->O k=some x->h=k
 own:∀h∈s.line,∀x,O h=some x->x∈s.things
variable{W O}
theorem E8{row things:List Nat}(h:∃x∈row,x∈things):best row things∈things:=by unfold best;cases e:row.find? fun x=>decide (x∈things)with
|none=>obtain⟨x,h1,h2⟩:=h;have:=Qab.mp e x h1;simp[h2]at this
|some x=>have:=List.find?_some e;simpa using this
variable{s:S}
def less(E C:List Nat):List Nat:=E.filter fun h=>decide (h∉C)
theorem PB{p q:Nat->Bool}{l:List Nat}(h:∀x∈l,p x=q x):l.filter p=l.filter q:=by induction l with
|nil=>rfl
|cons a l ih=>rw[WP,WP,h a p_,ih fun x hx=>h x (t_ _ hx)]
end
end Rg
end
section
namespace Rg
end Rg
end
section
namespace Rg
section
variable{W W':Nat->List Nat}{O:Nat->Option Nat}{s:S}{a b:Nat->Nat}
theorem GN{l:List Nat}{h:Nat}(hn:l.Nodup):l.erase h=l.filter fun x=>decide (x≠h):=by induction l with
|nil=>rfl
|cons b l ih=>
  have z:=VQ.mp hn;by_cases q:b=h
  .subst q;rw[List.erase_cons_head,WP,if_neg (by simp)];symm;rw[ZY];intro x hx;have:x≠b:=by rintro rfl;exact z.1 hx
   simpa using this
  .rw[ZP (by simpa using q),WP,if_pos (by simpa using q),ih z.2]
theorem Ao:∀{C l:List Nat},l.Nodup->C.foldl (fun l h=>l.erase h) l=l.filter fun x=>decide (x∉C)
|[],l,_=>by symm;simp[ZY]
|h::C,l,hn=>by rw[Yz,Ao (by rw[GN hn];exact RZ hn),GN hn,List.filter_filter];refine PB fun x _=>?_;by_cases q:x=h <;> by_cases z:x∈C <;> simp[q,z]
end
end Rg
end
section
namespace Rg
section
variable(W:Nat->List Nat)(d:Nat->Nat)
def nO:List Nat->List Nat->Prop
|[],_=>True
|h::l,T=>best (W h) T=d h/\nO l (T.erase (d h))
def eN:List Nat->List Nat->Nat->Nat
|[],_=>fun _=>0
|h::l,T=>fun x=>if x=h then best (W h) T else eN l (T.erase (best (W h) T)) x
variable{W d}
theorem Hm{d':Nat->Nat}:∀{o T:List Nat},(∀x∈o,d x=d' x)->nO W d o T->nO W d' o T
|[],_,_,_=>trivial
|h::l,T,e,s=>by have e1:=e h p_;exact⟨by rw[<-e1];exact s.1,by rw[<-e1];exact Hm (fun x hx=>e x (t_ _ hx)) s.2⟩
theorem xS:∀(o T:List Nat),o.Nodup->nO W (eN W o T) o T
|[],_,_=>trivial
|h::l,T,hn=>by
  have z:=VQ.mp hn;have e:eN W (h::l) T h=best (W h) T:=by simp[eN]
  refine⟨e.symm,?_⟩;rw[e];refine Hm (fun x hx=>?_) (xS l _ z.2);have:x≠h:=by rintro rfl;exact z.1 hx
  simp[eN,this]
theorem ET:∀{o T:List Nat},nO W d o T->T.Nodup->o.length<=T.length->(∀h∈o,∀x∈T,x∈W h)->(∀h∈o,d h∈T)/\∀h∈o,∀l∈o,o.Nodup->d h=d l->h=l
|[],_,_,_,_,_=>⟨fun _ h=>(nomatch h),fun _ h=>(nomatch h)⟩
|a::o,T,s,hT,hl,hr=>by
  have hp:0<T.length:=by simp at hl;omega
  have hx:T[0]∈T:=VR _;have hb:d a∈T:=by rw[<-s.1];exact E8 ⟨T[0],hr a p_ _ hx,hx⟩
  have hlen:(T.erase (d a)).length=T.length-1:=Ws hb;obtain⟨h1,h2⟩:=ET s.2 (hT.erase _) (by rw[hlen];simp at hl;omega) fun h hh x hx=>hr h (t_ _ hh) x (Xs hx);have h3:∀h∈o,d h≠d a:=fun h hh e=>by have:=h1 h hh;rw[e]at this;exact(List.Nodup.mem_erase_iff hT).mp this |>.1 rfl
  refine⟨fun h hh=>?_,fun h hh l hl' hn e=>?_⟩
  .rcases m_.mp hh with rfl|hh
   .exact hb
   .exact Xs (h1 h hh)
  .have Z:=VQ.mp hn;rcases m_.mp hh with z|Y
   .rcases m_.mp hl' with z'|U
    .exact z.trans z'.symm
    .subst z;exact absurd e.symm (h3 l U)
   .rcases m_.mp hl' with z'|U
    .subst z';exact absurd e (h3 h Y)
    .exact h2 h Y l U Z.2 e
end
end Rg
end
section
namespace Rg
section
variable{W:Nat->List Nat}{O:Nat->Option Nat}{s:S}{a b:Nat->Nat}
theorem idx_inj{row:List Nat}{x y:Nat}(hx:x∈row)(hy:y∈row)(h:row.idxOf x=row.idxOf y):x=y:=by have h1:=Xl (Y6.mpr hx);have h2:=Xl (Y6.mpr hy);rw[<-h1,<-h2];congr 1
end
end Rg
end
section
namespace Rg
end Rg
end
section
namespace Rg
end Rg
end
section
namespace Rg
end Rg
end
section
namespace Rg
section
variable{W:Nat->List Nat}{d:Nat->Nat}
def lk(W:Nat->List Nat)(h x y:Nat):Prop:=(W h).idxOf x<(W h).idxOf y
instance (W:Nat->List Nat) (h x y:Nat):Decidable (lk W h x y):=by unfold lk;infer_instance
def env(W:Nat->List Nat)(d:Nat->Nat)(h:Nat)(others:List Nat):List Nat:=others.filter fun o=>decide (lk W h (d o) (d h))
def stay(W:Nat->List Nat)(d:Nat->Nat)(hands:List Nat):List Nat:=hands.filter fun h=>!(env W d h hands).isEmpty
end
end Rg
end
section
namespace Rg
theorem Ah:∀{l m:List Nat},l.Nodup->(∀x∈l,x∈m)->m.length<=l.length->l.Perm m
|[],m,_,_,hl=>by have:m=[]:=List.eq_nil_of_length_eq_zero (by simpa using hl);rw[this]
|a::l,m,hn,hs,hl=>by
  have z:=VQ.mp hn;have ha:=hs a p_;refine List.Perm.trans ?_ (List.perm_cons_erase ha).symm;refine List.Perm.cons a (Ah z.2 (fun x hx=>?_) ?_)
  .have:x≠a:=by rintro rfl;exact z.1 hx
   exact(Xz this).mpr (hs x (t_ _ hx))
  .rw[Ws ha];simp at hl;omega
end Rg
end
namespace Law
open PySem PySem.Spec PyProof.Rows L2 DL
abbrev gv(i:Nat):DL.FE:=fun r=>DL.cg r i
abbrev ci(i:Int):DL.FE:=fun _=>.ok (.int i)
abbrev aM:List DL.Md:=[.bw,.bw]
abbrev bT:List DL.Md:=[.bw,.bw,.bw,.bw,.ow,.sh]
abbrev cf:List DL.Md:=[.bw,.bw,.bw,.bw]
abbrev cw:List DL.Md:=[.bw,.bw,.bw]
abbrev cM:List DL.Md:=[.sh,.sh]
abbrev de:List DL.Md:=[.bw,.bw,.bw,.sh,.sh,.sh]
abbrev dc:List DL.Md:=[.sh,.sh,.sh,.sh,.sh,.sh,.sh,.sh,.sh,.sh,.sh,.sh,.sh]
abbrev dA:List DL.Md:=[.bw,.bw,.sh,.sh]
abbrev dI:List DL.Md:=[.bw,.bw,.sh]
abbrev dH:List DL.Md:=[.bw,.bw,.bw,.bw,.sh,.sh,.sh,.ow,.sh]
abbrev dZ:List DL.Md:=[.bw,.bw,.bw,.ow,.ow,.ow,.sh,.ow,.sh,.sh]
abbrev dY:List DL.Md:=[.bw,.sh,.sh]
abbrev dX:List DL.Md:=[.sh,.sh,.sh]
abbrev eR:List DL.Md:=[.bw,.bw,.bw,.bw,.sh,.sh,.sh,.sh,.sh]
abbrev fG:List DL.Md:=[.sh,.bw,.bw,.ow,.sh,.sh]
abbrev fF:List DL.Md:=[.bw,.bw,.bw,.bw,.sh,.ow]
abbrev gb:List DL.Md:=[.bw,.bw,.bw,.bw,.sh,.sh]
abbrev gP:List DL.Md:=[.bw,.bw,.ow,.sh,.sh]
abbrev gO:List DL.Md:=[.bw,.bw,.bw,.bw,.sh]
abbrev gN:List DL.Md:=[.bw,.sh]
abbrev gM:List DL.Md:=[.bw,.sh,.sh,.sh]
abbrev ig:List DL.Md:=[.bw,.sh,.ow,.sh]
abbrev ie:List DL.Md:=[.bw,.sh,.bw,.bw,.sh,.sh]
abbrev ic:List DL.Md:=[.sh,.sh,.sh,.sh,.sh,.sh,.sh,.sh]
abbrev iZ:List DL.Md:=[.bw,.bw,.bw,.ow,.ow,.ow,.sh,.sh,.sh,.sh]
abbrev iY:List DL.Md:=[.bw,.bw,.sh,.sh,.bw,.sh,.sh,.sh]
abbrev iX:List DL.Md:=[.bw,.bw,.sh,.sh,.bw,.sh,.sh,.ow]
abbrev iW:List DL.Md:=[.bw,.bw,.ow,.ow]
abbrev iV:List DL.Md:=[.sh,.sh,.ow,.ow,.sh]
abbrev iU:List DL.Md:=[.bw,.bw,.ow]
abbrev jU:List DL.Md:=[.sh,.bw,.ow,.sh]
abbrev jT:List DL.Md:=[.bw,.bw,.ow,.ow,.sh]
abbrev jS:List DL.Md:=[.bw,.sh,.ow,.sh,.sh]
abbrev jR:List DL.Md:=[.sh,.sh,.sh,.sh]
abbrev lc:List DL.Md:=[.bw,.bw,.sh,.sh,.ow,.sh]
abbrev k9:List DL.Md:=[.bw,.sh,.ow,.sh,.sh,.sh]
abbrev nF:List DL.Md:=[.bw,.bw,.sh,.sh,.sh,.sh]
abbrev nE:List DL.Md:=[.bw,.sh,.sh,.sh,.sh,.sh]
abbrev nA:List DL.Md:=[.sh,.sh,.sh,.sh,.sh,.sh,.sh,.sh,.sh,.sh,.sh,.ow,.sh]
abbrev sk:List DL.Md:=[.bw,.bw,.bw,.bw,.bw,.bw,.sh,.bw,.sh,.sh]
abbrev sj:List DL.Md:=[.bw,.bw,.bw,.ow,.ow,.sh,.sh,.sh,.sh,.sh]
theorem Eb{α:Type}(us:List α)(h:us.length=1):∃a0,us=[a0]:=by match us,h with
|[_],_=>exact⟨_,rfl⟩
theorem pT{α:Type}(us:List α)(h:us.length=2):∃a0 a1,us=[a0,a1]:=by match us,h with
|[_,_],_=>exact⟨_,_,rfl⟩
theorem sR{α:Type}(us:List α)(h:us.length=3):∃a0 a1 a2,us=[a0,a1,a2]:=by match us,h with
|[_,_,_],_=>exact⟨_,_,_,rfl⟩
def bS(i:Nat):Stmt:=YE.main.body.getD i (.Pass ⟨0,0,0,0⟩)
structure Txt(K:W.Frag)(mg:Str->Option a_):Prop where
 b_len:mg "len" = none
 b_range:mg "range" = none
 b_tuple:mg "tuple" = none
 b_list:mg "list" = none
 b_min:mg "min" = none
 b_enumerate:mg "enumerate" = none
 b_isinstance:mg "isinstance" = none
 b_bool:mg "bool" = none
 b_int:mg "int" = none
 b_any:mg "any" = none
 b_zip:mg "zip" = none
 b_all:mg "all" = none
 b_max:mg "max" = none
 b_set:mg "set" = none
 b_sorted:mg "sorted" = none
def vA:Str->Bool:=fun nm=>(["NoOrder"]:List Str).contains nm
def lE:Str->Bool:=fun nm=>(["Goes"]:List Str).contains nm
def on:Str->Bool:=fun nm=>(["Goes"]:List Str).contains nm
def kj:Str->Bool:=fun nm=>(["Ordered"]:List Str).contains nm
def oh:Str->Bool:=fun nm=>(["Betters"]:List Str).contains nm
def my:Str->Option Bool:=fun nm=>if (["Goes","Ordered","Betters"]:List Str).contains nm=true then some true else if ([]:List Str).contains nm=true then some false else none
def pU:Str->Option Bool:=fun nm=>if (["Goes"]:List Str).contains nm=true then some true else if ([]:List Str).contains nm=true then some false else none
abbrev lM:Stmt:=Kx (bS 3)
theorem RC:FnScope ["self","at"] ["self","at"] (aa lM):=bV
theorem Mn:∀(kV doc pm:a_)(an:Option Addr)(cdv ct:a_)(us:List a_),us.length=([("self" : Str),"at"]).length->Yc (W.fnOf "__init__" "NoOrder.__init__" (aJ lM) (ay lM) (aa lM) .none kV doc pm an cdv ct) ⟨us,[]⟩=pure (([("self" : Str),"at"]).zip us):=fun _ _ _ _ _ _ us hl=>by obtain⟨u0,u1,rfl⟩:=pT us hl;kernel_rfl
theorem Ni{P:E_}{w:T_}{K:W.Frag}{mg:Str->Option a_}{C T fI:Addr}{bm:List a_}{fd:VV}(F:Fun K "__init__" "NoOrder.__init__" lM fI fd)(xi:XI K C bm "at")(hm:mg "TradeError" = some (.ref T))(hT:XT K T)(base:Heap):FnOk P w K mg base bZ 1 fI fd ["self","at"] (xE C "at"):=Nj (k:=0) F RC xi fun cdv A outer s H E=>Ax (tY (N5 (by rfl) hm hT (gJ (jD (i:=0) rfl (dh rfl)) (gJ (JO (c:=cI) (Lz (Lx (j:=1) rfl (dh rfl) Ly (fun _ h=>h))) (by decide+kernel)) jk)))) (NJ (NH (jD (i:=0) rfl (dh rfl)) (jD (i:=1) rfl (dh rfl))))
abbrev AS:Stmt:=bS 46
abbrev HE:List Str:=["_law_script","_law_k","_law_cell_here","_law_stirred"]
abbrev mX:List Str:=["_law_script","_law_k"]
theorem vK:FnScope HE mX (aa AS):=bV
def vD:FS:=(af (ap dA 2 (ci 0)) (af (bI dA (aK (f2 (gv 1) (fC (ag (gv 0) ae) lenD) fH)) (af (ap dA 2 (f2 (f2 (gv 0) (gv 1) ax) (f2 (ci 10) (ci 60) jV) az)) aq) aq) (af (bI dA (c7 (aK (f2 (fC (ag (gv 0) ae) lenD) (ci 0) jX)) (aK (f2 (f2 (f2 (gv 0) (ci 0) ax) (ci 2) az) (ci 0) eqD))) (af (aw dA (gv 2)) aq) aq) (af (ap dA 3 (f2 (f2 (f2 (f2 (f2 (f2 (f2 (gv 2) (f2 (f2 (ci 7) (gv 1) dm) (gv 1) dm) addA) (f2 (ci 13) (gv 1) dm) addA) (ci 5) addA) (ci 48271) dm) (ci 2147483647) az) (ci 69621) dm) (ci 1000000007) az)) (af (aw dA (f2 (f2 (f2 (f2 (f2 (gv 3) (ci 1) addA) (ci 40692) dm) (ci 2147483629) az) (ci 39373) dm) (ci 999999937) az)) aq)))))
def du:List D->Res D:=fun ds=>aH false (vD (a9 HE.length ds))
variable{P:E_}{w:T_}{K:W.Frag}{mg:Str->Option a_}{base:Heap}
theorem pG(T:Txt K mg)(A:DefAt K mg "_law_cell" AS):Callee P w K mg base "_law_cell" mX [] 1 false aM du:=
 cu (m':=dA) A vK fun f cdv A outer s H g E hr z=>have U:=hr.units;(ak (cb 2 vK.nd n6)
   (ak (aP (jP (ah 1) (bE (cE (by rfl) T.b_len (aQ (ah 0) aR)))) (ak (cb 2 vK.nd (cm (xB z (ah 0) (ah 1)) (bE (JY iB iB))))
   av)
   av)
   (ak (aP (SW.toQ (l9 (jQ (bE (cE (by rfl) T.b_len (aQ (ah 0) aR))) iB) (oH (bP U (bE (cm (xB z (ah 0) iB) iB)) iB)))) (ak (bb (v_ 2))
   av)
   av)
   (ak (cb 3 vK.nd (cm (bE (lA (bE (cm (bE (lA (bE (eG (bE (eG (bE (eG (ah 2) (bE (lA (bE (lA iB (ah 1))) (ah 1))))) (bE (lA iB (ah 1))))) iB)) iB)) iB)) iB)) iB))
   (ak (bb (cm (bE (lA (bE (cm (bE (lA (bE (eG (ah 3) iB)) iB)) iB)) iB)) iB))
   av)))))
abbrev AI:Stmt:=bS 47
abbrev HK:List Str:=["_law_cell_here","_law_m","_law_row_here","_law_thing"]
abbrev pf:List Str:=["_law_cell_here","_law_m"]
theorem vJ:FnScope HK pf (aa AI):=bV
abbrev Ib:FS:=(af (cH "list" jU 2 (ag (f2 (gv 0) (f2 (gv 3) (ci 1) addA) az) (ag (gv 3) ae)) insD) (af (ap jU 0 (f2 (gv 0) (f2 (gv 3) (ci 1) addA) ck)) aq))
def AX:FS:=(af (ap [.sh,.bw,.sh,.sh] 2 (dP ae)) (af (eF jU (dN dj (ag (gv 1) ae)) (aG 3) Ib) (af (aw jU (fC (ag (gv 2) ae) tupD)) aq)))
def gL:List D->Res D:=fun ds=>aH false (AX (a9 HK.length ds))
theorem sM(T:Txt K mg)(A:DefAt K mg "_law_row" AI):Callee P w K mg base "_law_row" pf [] 1 false [.sh,.bw] gL:=
 cu (m':=jU) A vJ fun f cdv A outer s H g E hr z=>(ak (eu 2 vJ.nd (by rfl) (dM rfl) (fR ca))
   (ak (jg N_ rfl (kH (by rfl) T.b_range (aQ (ah 1) aR)) (bK 3 vJ.nd) (ak (jw 2 rfl F_ Y3 PySem.F.type_list_insert Qf KA (by rfl) (dh rfl) (bh (cm (ah 0) (bE (eG (ah 3) iB))) (bh (v_ 3) ca)))
   (ak (cb 0 vJ.nd (dO (ah 0) (bE (eG (ah 3) iB))))
   av)))
   (ak (bb (iz (by rfl) T.b_tuple (aQ (ah 2) aR)))
   av)))
abbrev qH:Stmt:=bS 48
abbrev wE:List Str:=["_law_script","_law_at","_law_n","_law_m"]
abbrev BD:List Str:=["_law_script","_law_at","_law_n","_law_m"]
theorem IK:FnScope wE BD (aa qH):=bV
def BA:FS:=(af (aw cf (fC (ag (cy 1 [3,0,1] (dN dj (ag (gv 2) ae)) (aG 0) (fun _=>Res.ok true) (aF (ag (aF (ag (gv 2) (ag (f2 (gv 3) (gv 0) addA) ae)) [] du) (ag (gv 1) ae)) [] gL)) ae) tupD)) aq)
def wD:List D->Res D:=fun ds=>aH false (BA (a9 wE.length ds))
theorem O1(T:Txt K mg)(A:DefAt K mg "_law_wishes" qH)(z:Callee P w K mg base "_law_cell" mX [] 1 false aM du)(U:Callee P w K mg base "_law_row" pf [] 1 false [.sh,.bw] gL):Callee P w K mg base "_law_wishes" BD [] 2 false cf wD:=
 cu (m':=cf) A IK fun f cdv A outer s H g E hr Y=>(ak (bb (iz (by rfl) T.b_tuple (aQ (SO.toB (g9 (X:=(ba bZ P w K mg base wE "_law_wishes" (aa qH) f cdv A outer s H E).nox) (N':=["_law_hand","_law_m","_law_script","_law_at"]) (nl:=1) (cap:=[3,0,1]) IK.nd rfl (dS (osc:=(aa qH)) (ON:=wE) rfl rfl (by decide+kernel)) (i7.toC (kH (by rfl) T.b_range (aQ (ah 2) aR))) (fun _ _ _ _ _ _=>(bK 0 (show M_ (["_law_hand","_law_m","_law_script","_law_at"]:List Str)by decide+kernel))) (cU (by decide)) (fun _ _ _ _ _ _=>fX) (fun _ _ _ _ _ _=>(aV U (bH (aV z (aj (ah 2) (aj (bE (eG (ah 3) (ah 0))) aO))) (aj (ah 1) aO)))))) aR)))
   av)
abbrev AU:Stmt:=bS 49
abbrev HG:List Str:=["_law_cell_here","_law_n","_law_m","_law_owns_here","_law_hand","_law_thing"]
abbrev Bo:List Str:=["_law_cell_here","_law_n","_law_m"]
theorem qG:FnScope HG Bo (aa AU):=bV
abbrev BC:FS:=(af (ap fG 5 (f2 (gv 0) (f2 (gv 2) (ci 1) addA) az)) (af (ap fG 0 (f2 (gv 0) (f2 (gv 2) (ci 1) addA) ck)) (af (bI fG (dq (aK (f2 (gv 5) (gv 2) eqD)) (aK (f2 (gv 5) (gv 3) eU))) (af (cH "list" fG 3 (ag (fun _=>Res.ok D.non) ae) appD) aq) (af (cH "list" fG 3 (ag (gv 5) ae) appD) aq)) aq)))
def Bi:FS:=(af (ap [.sh,.bw,.bw,.sh,.sh,.sh] 3 (dP ae)) (af (eF fG (dN dj (ag (gv 1) ae)) (aG 4) BC) (af (aw fG (fC (ag (gv 3) ae) tupD)) aq)))
def vF:List D->Res D:=fun ds=>aH false (Bi (a9 HG.length ds))
theorem NC(T:Txt K mg)(A:DefAt K mg "_law_owns" AU):Callee P w K mg base "_law_owns" Bo [] 1 false [.sh,.bw,.bw] vF:=
 cu (m':=fG) A qG fun f cdv A outer s H g E hr U=>have z:=hr.units;(ak (eu 3 qG.nd (by rfl) (dM rfl) (fR ca))
   (ak (jg N_ rfl (kH (by rfl) T.b_range (aQ (ah 1) aR)) (bK 4 qG.nd) (ak (cb 5 qG.nd (cm (ah 0) (bE (eG (ah 2) iB))))
   (ak (cb 0 qG.nd (dO (ah 0) (bE (eG (ah 2) iB))))
   (ak (aP (SW.toQ (cP (bP z (ah 5) (ah 2)) (jv (ib U (ah 5) (ah 3))))) (ak (jw 3 rfl F_ V4 V5 mU ox (by rfl) (dh rfl) (bh ix ca))
   av)
   (ak (jw 3 rfl F_ V4 V5 mU ox (by rfl) (dh rfl) (bh (v_ 5) ca))
   av))
   av))))
   (ak (bb (iz (by rfl) T.b_tuple (aQ (ah 3) aR)))
   av)))
abbrev AR:Stmt:=bS 50
abbrev HD:List Str:=["_law_row_here","_law_left","_law_thing"]
abbrev vH:List Str:=["_law_row_here","_law_left"]
theorem IF:FnScope HD vH (aa AR):=bV
abbrev re:FS:=(af (bI dI (aK (f2 (gv 2) (gv 1) eU)) (af (aw dI (gv 2)) aq) aq) aq)
def Bg:FS:=(af (eF dI (aU bN (gv 0)) (aG 2) re) (af (aw dI (fun _=>Res.ok D.non)) aq))
def lO:List D->Res D:=fun ds=>aH false (Bg (a9 HD.length ds))
theorem ES(T:Txt K mg)(A:DefAt K mg "_law_best" AR):Callee P w K mg base "_law_best" vH [] 1 false aM lO:=
 cu (m':=dI) A IF fun f cdv A outer s H g E hr z=>(ak (zT N_ rfl (eI (ah 0)) (fun _=>(bK 2 IF.nd)) (fun _=>(ak (aP (ib z (ah 2) (ah 1)) (ak (bb (v_ 2))
   av)
   av)
   av)))
   (ak (bb ix)
   av))
abbrev rF:Stmt:=bS 52
abbrev wR:List Str:=["_law_wishes_here","_law_order","_law_things","_law_got","_law_hand"]
abbrev wT:List Str:=["_law_wishes_here","_law_order"]
theorem wX:FnScope wR wT (aa rF):=bV
abbrev Jh:FS:=(af (putF jT 3 (gv 4) (aF (ag (f2 (gv 0) (gv 4) ax) (ag (gv 2) ae)) [] lO)) (af (cH "list" jT 2 (ag (f2 (gv 3) (gv 4) ax) ae) remD) aq))
def Ci:FS:=(af (ap [.bw,.bw,.sh,.sh,.sh] 2 (fC (ag (fC (ag (f2 (gv 0) (ci 0) ax) ae) lenD) ae) iw)) (af (ap gP 3 (cy 1 [] (aU bN (gv 1)) (aG 0) (fun _=>Res.ok true) (fun _=>Res.ok D.non))) (af (eF jT (aU bN (gv 1)) (aG 4) Jh) (af (aw jT (fC (ag (gv 3) ae) tupD)) aq))))
def kt:List D->Res D:=fun ds=>aH false (Ci (a9 wR.length ds))
theorem Rr(T:Txt K mg)(A:DefAt K mg "_law_order_dealt" rF)(z:Callee P w K mg base "_law_best" vH [] 1 false aM lO):Callee P w K mg base "_law_order_dealt" wT [] 2 false aM kt:=
 cu (m':=jT) A wX fun f cdv A outer s H g E hr U=>(ak (eu 2 wX.nd (by rfl) (dM rfl) (mI rfl (by rfl) T.b_list (by rfl) T.b_range (aQ (bE (cE (by rfl) T.b_len (aQ (xB U (ah 0) iB) aR))) aR)))
   (ak (ko 3 (X:=(ba bZ P w K mg base wR "_law_order_dealt" (aa rF) f cdv A outer s H E).nox) (m:=gP) (N':=["_law_hand"]) (nl:=1) (cap:=[]) wX.nd rfl (by rfl) (by rfl) (dS (osc:=(aa rF)) (ON:=wR) rfl rfl (by decide+kernel)) (eI (ah 1)) (fun _ _ _ _ _ _=>(bK 0 (show M_ (["_law_hand"]:List Str)by decide+kernel))) (cU (by decide)) (fun _ _ _ _ _ _=>fX) (fun _ _ _ _ _ _=>ix))
   (ak (EW N_ rfl (Kw (Jq 1)) (bK 4 wX.nd) (ak (jh 3 U rfl (by rfl) (dh rfl) (ah 4) (aV z (aj (xB U (ah 0) (ah 4)) (aj (ah 2) aO))))
   (ak (jw 2 rfl F_ Wq W6 uS tU (by rfl) (dh rfl) (bh (di U (ah 3) (ah 4)) ca))
   av)))
   (ak (bb (iz (by rfl) T.b_tuple (aQ (ah 3) aR)))
   av))))
abbrev rG:Stmt:=bS 51
abbrev wS:List Str:=["_law_wishes_here","_law_owns_here","_law_order","_law_things","_law_line","_law_got","_law_here","_law_path","_law_thing","_law_hand"]
abbrev Cu:List Str:=["_law_wishes_here","_law_owns_here","_law_order"]
theorem jq:FnScope wS Cu (aa rG):=bV
abbrev Co:FQ:=(aK (f2 (gv 6) (gv 7) cZ))
abbrev Cq:FQ:=(aK (f2 (fC (ag (gv 4) ae) lenD) (ci 0) jX))
abbrev Ji:FS:=(af (bI sk (aK (f2 (f2 (gv 1) (gv 9) ax) (gv 8) eqD)) (af (ap sk 6 (gv 9)) aq) aq) aq)
abbrev Jj:FS:=(af (cH "list" dZ 7 (ag (gv 6) ae) appD) (af (ap dZ 8 (aF (ag (f2 (gv 0) (gv 6) ax) (ag (gv 3) ae)) [] lO)) (af (ap dZ 6 (f2 (gv 4) (ci 0) ax)) (af (eF dZ (aU bN (gv 4)) (aG 9) Ji) aq))))
abbrev Jk:FS:=(af (putF dZ 5 (gv 9) (aF (ag (f2 (gv 0) (gv 9) ax) (ag (gv 3) ae)) [] lO)) aq)
abbrev Jl:FS:=(af (cH "list" dZ 4 (ag (gv 9) ae) remD) (af (cH "list" dZ 3 (ag (f2 (gv 5) (gv 9) ax) ae) remD) aq))
abbrev Jm:FS:=(af (ap iZ 6 (f2 (gv 4) (ci 0) ax)) (af (ap iZ 7 (dP ae)) (af (fg dZ Co Jj 64) (af (eF dZ (aU bN (iE (gv 7) (dw (fM "list" (gv 7) (ag (gv 6) ae) kn)) (fun _=>Res.ok none))) (aG 9) Jk) (af (eF dZ (aU bN (iE (gv 7) (dw (fM "list" (gv 7) (ag (gv 6) ae) kn)) (fun _=>Res.ok none))) (aG 9) Jl) aq)))))
def Cj:FS:=(af (ap [.bw,.bw,.bw,.sh,.sh,.sh,.sh,.sh,.sh,.sh] 3 (fC (ag (fC (ag (f2 (gv 0) (ci 0) ax) ae) lenD) ae) iw)) (af (ap [.bw,.bw,.bw,.ow,.sh,.sh,.sh,.sh,.sh,.sh] 4 (fC (ag (gv 2) ae) gI)) (af (ap sj 5 (cy 1 [] (aU bN (gv 4)) (aG 0) (fun _=>Res.ok true) (fun _=>Res.ok D.non))) (af (fg iZ Cq Jm 64) (af (aw iZ (fC (ag (gv 5) ae) tupD)) aq)))))
def rn:List D->Res D:=fun ds=>aH false (Cj (a9 wS.length ds))
theorem Rs(T:Txt K mg)(A:DefAt K mg "_law_rings_dealt" rG)(z:Callee P w K mg base "_law_best" vH [] 1 false aM lO):Callee P w K mg base "_law_rings_dealt" Cu [] 2 false cw rn:=
 cu (m':=iZ) A jq fun f cdv A outer s H g E hr U=>have Y:=hr.units;(ak (eu 3 jq.nd (by rfl) (dM rfl) (mI rfl (by rfl) T.b_list (by rfl) T.b_range (aQ (bE (cE (by rfl) T.b_len (aQ (xB U (ah 0) iB) aR))) aR)))
   (ak (eu 4 jq.nd (by rfl) (dM rfl) (kg (by rfl) T.b_list (aQ (ah 2) aR)))
   (ak (ko 5 (X:=(ba bZ P w K mg base wS "_law_rings_dealt" (aa rG) f cdv A outer s H E).nox) (m:=sj) (N':=["_law_hand"]) (nl:=1) (cap:=[]) jq.nd rfl (by rfl) (by rfl) (dS (osc:=(aa rG)) (ON:=wS) rfl rfl (by decide+kernel)) (eI (ah 4)) (fun _ _ _ _ _ _=>(bK 0 (show M_ (["_law_hand"]:List Str)by decide+kernel))) (cU (by decide)) (fun _ _ _ _ _ _=>fX) (fun _ _ _ _ _ _=>ix))
   (ak (qe 64 N_ (jQ (bE (cE (by rfl) T.b_len (aQ (ah 4) aR))) iB) (Ho (m':=dZ) 7 (ak (cb 6 jq.nd (di U (ah 4) iB))
   (ak (eu 7 jq.nd (by rfl) (dM rfl) (fR ca))
   (ak (qe 64 N_ (pR U (ah 6) (ah 7)) (ak (jw 7 rfl F_ V4 V5 mU ox (by rfl) (dh rfl) (bh (v_ 6) ca))
   (ak (cb 8 jq.nd (aV z (aj (xB U (ah 0) (ah 6)) (aj (ah 3) aO))))
   (ak (cb 6 jq.nd (di U (ah 4) iB))
   (ak (zT N_ rfl (eI (ah 4)) (fun _=>(bK 9 jq.nd)) (fun _=>(ak (aP (bP Y (xB U (ah 1) (ah 9)) (ah 8)) (ak (cb 6 jq.nd (v_ 9))
   av)
   av)
   av)))
   av)))))
   (ak (jg N_ rfl (yG (oj (ah 7) (fW (bE (fB F_ VT V8 o8 o7 (ah 7) (aQ (ah 6) aR)))) fV)) (bK 9 jq.nd) (ak (jh 5 U rfl (by rfl) (dh rfl) (ah 9) (aV z (aj (xB U (ah 0) (ah 9)) (aj (ah 3) aO))))
   av))
   (ak (jg N_ rfl (yG (oj (ah 7) (fW (bE (fB F_ VT V8 o8 o7 (ah 7) (aQ (ah 6) aR)))) fV)) (bK 9 jq.nd) (ak (jw 4 rfl F_ Wq W6 uS tU (by rfl) (dh rfl) (bh (v_ 9) ca))
   (ak (jw 3 rfl F_ Wq W6 uS tU (by rfl) (dh rfl) (bh (di U (ah 5) (ah 9)) ca))
   av)))
   av))))) rfl))
   (ak (bb (iz (by rfl) T.b_tuple (aQ (ah 5) aR)))
   av)))))
abbrev AT:Stmt:=bS 59
abbrev HF:List Str:=["_law_script","_law_wishes_here","_law_n","_law_m","_law_cell_here","_law_owns_here","_law_dealing","_law_hands","_law_got"]
abbrev Bn:List Str:=["_law_script","_law_wishes_here","_law_n","_law_m"]
theorem ku:FnScope HF Bn (aa AT):=bV
abbrev wB:FQ:=(aK (f2 (fM "list" (gv 5) (ag (f2 (gv 8) (f2 (gv 7) (f1 (ci 1) gj) ax) ax) ae) kn) (gv 7) cZ))
abbrev BB:FS:=(af (cH "list" dH 7 (ag (fM "list" (gv 5) (ag (f2 (gv 8) (f2 (gv 7) (f1 (ci 1) gj) ax) ax) ae) kn) ae) appD) aq)
def pd:FS:=(af (ap eR 4 (aF (ag (gv 0) (ag (ci 2) ae)) [] du)) (af (ap eR 5 (fC (ag (aF (ag (aF (ag (gv 0) (ag (ci 12) ae)) [] du) (ag (gv 2) (ag (gv 3) ae))) [] vF) ae) gI)) (af (bI eR (aK (f2 (f2 (gv 4) (ci 4) az) (ci 0) jX)) (af (ap eR 5 (cO (fC (ag (aF (ag (aF (ag (gv 0) (ag (ci 12) ae)) [] du) (ag (gv 3) ae)) [] gL) ae) gI) (fun _=>Res.ok none) (dw (gv 2)))) aq) aq) (af (ap eR 6 (cO (aF (ag (aF (ag (gv 0) (ag (ci 13) ae)) [] du) (ag (gv 3) ae)) [] gL) (fun _=>Res.ok none) (dw (gv 2)))) (af (bI eR (aK (f2 (f2 (f2 (gv 4) (ci 4) ck) (ci 3) az) (ci 1) eqD)) (af (ap eR 6 (aF (ag (gv 1) (ag (aF (ag (aF (ag (gv 0) (ag (ci 13) ae)) [] du) (ag (gv 2) ae)) [] gL) ae)) [] kt)) aq) aq) (af (ap eR 7 (fun r=>(iE (fC (ag (aF (ag (aF (ag (gv 0) (ag (ci 14) ae)) [] du) (ag (gv 2) ae)) [] gL) ae) gI) (fun _=>Res.ok none) (dw (f2 (ci 1) (f2 (f2 (gv 4) (ci 12) ck) (gv 2) az) addA)) r).bind fun d=>match d with|.lst ds=>.ok (.lst ds)|_=>.stuck)) (af (bI dH (c7 (aK (f2 (gv 3) (gv 2) eqD)) (c7 (aK (f2 (fun _=>Res.ok D.non) (gv 5) cZ)) (aK (f2 (f2 (f2 (gv 4) (ci 84) ck) (ci 3) az) (ci 0) jX)))) (af (ap dH 8 (aF (ag (gv 1) (ag (gv 5) (ag (fC (ag (gv 2) ae) iw) ae))) [] rn)) (af (ap dH 7 (dP (ag (f2 (f2 (gv 4) (ci 252) ck) (gv 2) az) ae))) (af (fg dH wB BB 64) (af (bI dH (c7 (aK (f2 (f2 (f2 (gv 4) (ci 84) ck) (ci 3) az) (ci 2) eqD)) (aK (f2 (f2 (f2 (gv 4) (ci 4) ck) (ci 3) az) (ci 0) eqD))) (af (ap dH 6 (gv 8)) aq) aq) aq)))) aq) (af (aw eR (d5 (ag (gv 5) (ag (gv 6) (ag (gv 7) ae))))) aq))))))))
def vE:List D->Res D:=fun ds=>aH false (pd (a9 HF.length ds))
theorem NB(T:Txt K mg)(A:DefAt K mg "_law_made" AT)(z:Callee P w K mg base "_law_cell" mX [] 1 false aM du)(ac:Callee P w K mg base "_law_owns" Bo [] 1 false [.sh,.bw,.bw] vF)(U:Callee P w K mg base "_law_row" pf [] 1 false [.sh,.bw] gL)(Z:Callee P w K mg base "_law_order_dealt" wT [] 2 false aM kt)(Y:Callee P w K mg base "_law_rings_dealt" Cu [] 2 false cw rn):Callee P w K mg base "_law_made" Bn [] 3 false cf vE:=
 cu (m':=eR) A ku fun f cdv A outer s H g E hr ad=>have ld:=hr.units;(ak (cb 4 ku.nd (aV z (aj (ah 0) (aj iB aO))))
   (ak (cb 5 ku.nd (SO.toE (kg (by rfl) T.b_list (aQ (bE (aV ac (bH (aV z (aj (ah 0) (aj iB aO))) (aj (ah 2) (aj (ah 3) aO))))) aR))))
   (ak (aP (jQ (bE (cm (ah 4) iB)) iB) (ak (cb 5 ku.nd (jy (SO.toB (kg (by rfl) T.b_list (aQ (bE (aV U (bH (aV z (aj (ah 0) (aj iB aO))) (aj (ah 3) aO)))) aR))) fV (fW (ah 2))))
   av)
   av)
   (ak (cb 6 ku.nd (jy (bE (aV U (bH (aV z (aj (ah 0) (aj iB aO))) (aj (ah 3) aO)))) fV (fW (ah 2))))
   (ak (aP (bP ld (bE (cm (bE (dO (ah 4) iB)) iB)) iB) (ak (cb 6 ku.nd (aV Z (aj (ah 1) (aj (bE (aV U (bH (aV z (aj (ah 0) (aj iB aO))) (aj (ah 2) aO)))) aO))))
   av)
   av)
   (ak (eu 7 ku.nd (by rfl) (dM rfl) (Ed (SO.toB (kg (by rfl) T.b_list (aQ (bE (aV U (bH (aV z (aj (ah 0) (aj iB aO))) (aj (ah 2) aO)))) aR))) fV (fW (bE (eG iB (bE (cm (bE (dO (ah 4) iB)) (ah 2))))))))
   (ak (aP (SW.toQ (l9 (bP ld (ah 3) (ah 2)) (l9 (pR ad (bE ix) (ah 5)) (oH (jQ (bE (cm (bE (dO (ah 4) iB)) iB)) iB))))) (ak (cb 8 ku.nd (aV Y (aj (ah 1) (aj (ah 5) (aj (SO.toB (mI rfl (by rfl) T.b_list (by rfl) T.b_range (aQ (ah 2) aR))) aO)))))
   (ak (eu 7 ku.nd (by rfl) (dM rfl) (fR (bh (cm (bE (dO (ah 4) iB)) (ah 2)) ca)))
   (ak (qe 64 N_ (pR ad (bE (fB F_ VT V8 o8 o7 (ah 5) (aQ (xB ad (ah 8) (xB ad (ah 7) (bE (n8 iB)))) aR))) (ah 7)) (ak (jw 7 rfl F_ V4 V5 mU ox (by rfl) (dh rfl) (bh (fB F_ VT V8 o8 o7 (ah 5) (aQ (xB ad (ah 8) (xB ad (ah 7) (bE (n8 iB)))) aR)) ca))
   av))
   (ak (aP (SW.toQ (l9 (bP ld (bE (cm (bE (dO (ah 4) iB)) iB)) iB) (oH (bP ld (bE (cm (bE (dO (ah 4) iB)) iB)) iB)))) (ak (cb 6 ku.nd (v_ 8))
   av)
   av)
   av))))
   av)
   (ak (pW 7 rfl (bb (gz (bh (v_ 5) (bh (v_ 6) (bh (v_ 7) ca))))))
   av))))))))
abbrev BG:Stmt:=bS 56
abbrev IT:List Str:=["_law_owns_here","_law_hands","_law_at","_law_turned","_law_found","_law_k"]
abbrev B5:List Str:=["_law_owns_here","_law_hands"]
theorem rA:FnScope IT B5 (aa BG):=bV
abbrev IY:FS:=(af (cH "list" lc 4 (ag (d5 (ag (f2 (gv 3) (gv 5) ax) (ag (f2 (gv 0) (f2 (gv 3) (f2 (f2 (gv 5) (ci 1) addA) (fC (ag (gv 3) ae) lenD) az) ax) ax) ae))) ae) appD) aq)
def B0:FS:=(af (ap nF 2 (fM "list" (gv 1) (ag (fC (ag (gv 1) ae) je) ae) kn)) (af (ap nF 3 (f2 (iE (gv 1) (dw (gv 2)) (fun _=>Res.ok none)) (iE (gv 1) (fun _=>Res.ok none) (dw (gv 2))) addE)) (af (ap nF 4 (dP ae)) (af (eF lc (dN dj (ag (fC (ag (gv 3) ae) lenD) ae)) (aG 5) IY) (af (aw lc (fC (ag (gv 4) ae) tupD)) aq)))))
def vP:List D->Res D:=fun ds=>aH false (B0 (a9 IT.length ds))
theorem Qj(T:Txt K mg)(A:DefAt K mg "_law_ring_of" BG):Callee P w K mg base "_law_ring_of" B5 [] 1 false aM vP:=
 cu (m':=lc) A rA fun f cdv A outer s H g E hr z=>(ak (cb 2 rA.nd (fB F_ VT V8 o8 o7 (ah 1) (aQ (bE (tt rfl (by rfl) T.b_min (aQ (ah 1) aR))) aR)))
   (ak (cb 3 rA.nd (tq (bE (oj (ah 1) (fW (ah 2)) fV)) (bE (oj (ah 1) fV (fW (ah 2))))))
   (ak (eu 4 rA.nd (by rfl) (dM rfl) (fR ca))
   (ak (jg N_ rfl (kH (by rfl) T.b_range (aQ (bE (cE (by rfl) T.b_len (aQ (ah 3) aR))) aR)) (bK 5 rA.nd) (ak (jw 4 rfl F_ V4 V5 mU ox (by rfl) (dh rfl) (bh (gz (bh (di z (ah 3) (ah 5)) (bh (di z (ah 0) (xB z (ah 3) (bE (cm (bE (eG (ah 5) iB)) (bE (cE (by rfl) T.b_len (aQ (ah 3) aR))))))) ca))) ca))
   av))
   (ak (bb (iz (by rfl) T.b_tuple (aQ (ah 4) aR)))
   av)))))
abbrev nh:Stmt:=bS 60
abbrev pB:List Str:=["_law_owns_here","_law_hands","_law_cell_here","_law_n","_law_ring","_law_at"]
abbrev Ck:List Str:=["_law_owns_here","_law_hands","_law_cell_here","_law_n"]
theorem kP:FnScope pB Ck (aa nh):=bV
def wF:FS:=(af (ap gb 4 (fC (ag (aF (ag (gv 0) (ag (gv 1) ae)) [] vP) ae) gI)) (af (bI bT (aK (f2 (fun _=>Res.ok D.non) (cy 2 [] (aU bN (gv 4)) (c6 (bq (aG 0) (bq (aG 1) cW))) (fun _=>Res.ok true) (gv 1)) eU)) (af (ap bT 4 (cy 2 [] (aU bN (gv 4)) (c6 (bq (aG 0) (bq (aG 1) cW))) (fun _=>Res.ok true) (d5 (ag (gv 0) (ag (ci 0) ae))))) aq) aq) (af (ap bT 5 (f2 (f2 (gv 2) (ci 8) ck) (fC (ag (gv 4) ae) lenD) az)) (af (bI bT (aK (f2 (f2 (gv 2) (ci 8) az) (ci 1) eqD)) (af (ap bT 4 (f2 (iE (gv 4) (dw (gv 5)) (fun _=>Res.ok none)) (iE (gv 4) (fun _=>Res.ok none) (dw (gv 5))) catL)) aq) aq) (af (bI bT (aK (f2 (f2 (gv 2) (ci 8) az) (ci 3) eqD)) (af (putF bT 4 (gv 5) (d5 (ag (f2 (f2 (gv 4) (gv 5) ax) (ci 0) ax) (ag (f2 (f2 (f2 (gv 2) (ci 56) ck) (ci 9) az) (ci 1) dG) ae)))) aq) aq) (af (bI bT (aK (f2 (f2 (gv 2) (ci 8) az) (ci 5) eqD)) (af (ap bT 4 (f2 (gv 4) (dP (ag (d5 (ag (f2 (f2 (f2 (gv 2) (ci 56) ck) (ci 9) az) (ci 1) dG) (ag (ci 0) ae))) ae)) catL)) aq) aq) (af (bI bT (aK (f2 (f2 (gv 2) (ci 8) az) (ci 7) eqD)) (af (ap bT 4 (dP ae)) aq) aq) (af (bI bT (aK (f2 (f2 (gv 2) (ci 16) az) (ci 2) eqD)) (af (ap bT 4 (f2 (gv 4) (gv 4) catL)) aq) aq) (af (bI bT (aK (f2 (f2 (gv 2) (ci 16) az) (ci 6) eqD)) (af (putF bT 4 (ci 0) (d5 (ag (f2 (f2 (f2 (gv 4) (ci 0) ax) (ci 0) ax) (gv 3) dG) (ag (f2 (f2 (gv 4) (ci 0) ax) (ci 1) ax) ae)))) aq) aq) (af (aw gb (gv 4)) aq))))))))))
def wG:List D->Res D:=fun ds=>aH false (wF (a9 pB.length ds))
theorem QC(T:Txt K mg)(A:DefAt K mg "_law_ring_made" nh)(Y:Callee P w K mg base "_law_ring_of" B5 [] 1 false aM vP):Callee P w K mg base "_law_ring_made" Ck [] 2 false cf wG:=
 cu (m':=gb) A kP fun f cdv A outer s H g E hr z=>have U:=hr.units;(ak (eu 4 kP.nd (by rfl) (dM rfl) (kg (by rfl) T.b_list (aQ (bE (aV Y (aj (ah 0) (aj (ah 1) aO)))) aR)))
   (ak (aP (ib z (bE ix) (SO.toB (g9 (X:=(ba bZ P w K mg base pB "_law_ring_made" (aa nh) f cdv A outer s H E).nox) (N':=["_law_hand","_law_thing"]) (nl:=2) (cap:=[]) kP.nd rfl (dS (osc:=(aa nh)) (ON:=pB) rfl rfl (by decide+kernel)) (eI (ah 4)) (fun _ _ _ _ _ _=>(gH rfl (cY (bK 0 (show M_ (["_law_hand","_law_thing"]:List Str)by decide+kernel)) (cY (bK 1 (show M_ (["_law_hand","_law_thing"]:List Str)by decide+kernel)) gG)))) (jB (fm (cU (by decide)) (fm (cU (by decide)) jG))) (fun _ _ _ _ _ _=>fX) (fun _ _ _ _ _ _=>(v_ 1))))) (ak (ko 4 (X:=(ba bZ P w K mg base pB "_law_ring_made" (aa nh) f cdv A outer s H E).nox) (m:=bT) (N':=["_law_hand","_law_thing"]) (nl:=2) (cap:=[]) kP.nd rfl (by rfl) (by rfl) (dS (osc:=(aa nh)) (ON:=pB) rfl rfl (by decide+kernel)) (eI (ah 4)) (fun _ _ _ _ _ _=>(gH rfl (cY (bK 0 (show M_ (["_law_hand","_law_thing"]:List Str)by decide+kernel)) (cY (bK 1 (show M_ (["_law_hand","_law_thing"]:List Str)by decide+kernel)) gG)))) (jB (fm (cU (by decide)) (fm (cU (by decide)) jG))) (fun _ _ _ _ _ _=>fX) (fun _ _ _ _ _ _=>(gz (bh (v_ 0) (bh n6 ca)))))
   av)
   av)
   (ak (cb 5 kP.nd (cm (bE (dO (ah 2) iB)) (bE (cE (by rfl) T.b_len (aQ (ah 4) aR)))))
   (ak (aP (bP U (bE (cm (ah 2) iB)) iB) (ak (eu 4 kP.nd (by rfl) (dM rfl) (sS (bE (oj (ah 4) (fW (ah 5)) fV)) (bE (oj (ah 4) fV (fW (ah 5))))))
   av)
   av)
   (ak (aP (bP U (bE (cm (ah 2) iB)) iB) (ak (jh 4 z rfl (by rfl) (dh rfl) (ah 5) (gz (bh (di z (xB z (ah 4) (ah 5)) iB) (bh (kD (bE (cm (bE (dO (ah 2) iB)) iB)) iB) ca))))
   av)
   av)
   (ak (aP (bP U (bE (cm (ah 2) iB)) iB) (ak (eu 4 kP.nd (by rfl) (dM rfl) (sS (ah 4) (SO.toB (fR (bh (gz (bh (kD (bE (cm (bE (dO (ah 2) iB)) iB)) iB) (bh n6 ca))) ca)))))
   av)
   av)
   (ak (aP (bP U (bE (cm (ah 2) iB)) iB) (ak (eu 4 kP.nd (by rfl) (dM rfl) (fR ca))
   av)
   av)
   (ak (aP (bP U (bE (cm (ah 2) iB)) iB) (ak (eu 4 kP.nd (by rfl) (dM rfl) (sS (ah 4) (ah 4)))
   av)
   av)
   (ak (aP (bP U (bE (cm (ah 2) iB)) iB) (ak (jh 4 z rfl (by rfl) (dh rfl) iB (gz (bh (kD (xB z (xB z (ah 4) iB) iB) (ah 3)) (bh (di z (xB z (ah 4) iB) iB) ca))))
   av)
   av)
   (ak (pW 4 rfl (bb (v_ 4)))
   av))))))))))
abbrev BQ:Stmt:=bS 61
abbrev Jg:List Str:=["_law_script","_law_wishes_here","_law_dealing","_law_n","_law_cell_here","_law_order"]
abbrev Cd:List Str:=["_law_script","_law_wishes_here","_law_dealing","_law_n"]
theorem rq:FnScope Jg Cd (aa BQ):=bV
def wH:FS:=(af (ap gb 4 (aF (ag (gv 0) (ag (ci 3) ae)) [] du)) (af (ap gb 5 (fC (ag (aF (ag (aF (ag (gv 0) (ag (ci 13) ae)) [] du) (ag (gv 3) ae)) [] gL) ae) gI)) (af (bI fF (aK (f2 (f2 (gv 4) (ci 3) az) (ci 1) eqD)) (af (ap fF 5 (fC (ag (aF (ag (f2 (gv 4) (ci 3) ck) (ag (gv 3) ae)) [] gL) ae) gI)) aq) aq) (af (bI fF (aK (f2 (f2 (gv 4) (ci 4) az) (ci 1) eqD)) (af (ap fF 5 (f2 (gv 5) (dP (ag (f2 (f2 (f2 (gv 4) (ci 12) ck) (ci 3) az) (ci 1) dG) ae)) catL)) aq) aq) (af (bI fF (aK (f2 (f2 (gv 4) (ci 8) az) (ci 3) eqD)) (af (putF fF 5 (f2 (f2 (gv 4) (ci 24) ck) (gv 3) az) (f2 (f2 (f2 (gv 4) (ci 168) ck) (f2 (gv 3) (ci 2) addA) az) (ci 1) dG)) aq) aq) (af (bI fF (aK (f2 (f2 (gv 4) (ci 8) az) (ci 7) eqD)) (af (cH "list" fF 5 ae popD) aq) aq) (af (bI fF (aK (f2 (f2 (gv 4) (ci 8) az) (ci 6) eqD)) (af (putF fF 5 (f2 (f2 (gv 4) (ci 24) ck) (gv 3) az) (f2 (f2 (gv 5) (f2 (f2 (gv 4) (ci 24) ck) (gv 3) az) ax) (gv 3) dG)) aq) aq) (af (aw gb (gv 5)) aq))))))))
def wI:List D->Res D:=fun ds=>aH false (wH (a9 Jg.length ds))
theorem Q4(T:Txt K mg)(A:DefAt K mg "_law_order_made" BQ)(z:Callee P w K mg base "_law_cell" mX [] 1 false aM du)(U:Callee P w K mg base "_law_row" pf [] 1 false [.sh,.bw] gL):Callee P w K mg base "_law_order_made" Cd [] 2 false cf wI:=
 cu (m':=gb) A rq fun f cdv A outer s H g E hr Z=>have Y:=hr.units;(ak (cb 4 rq.nd (aV z (aj (ah 0) (aj iB aO))))
   (ak (eu 5 rq.nd (by rfl) (dM rfl) (kg (by rfl) T.b_list (aQ (bE (aV U (bH (aV z (aj (ah 0) (aj iB aO))) (aj (ah 3) aO)))) aR)))
   (ak (aP (bP Y (bE (cm (ah 4) iB)) iB) (ak (eu 5 rq.nd (by rfl) (dM rfl) (kg (by rfl) T.b_list (aQ (bE (aV U (bH (dO (ah 4) iB) (aj (ah 3) aO)))) aR)))
   av)
   av)
   (ak (aP (bP Y (bE (cm (ah 4) iB)) iB) (ak (eu 5 rq.nd (by rfl) (dM rfl) (sS (ah 5) (SO.toB (fR (bh (kD (bE (cm (bE (dO (ah 4) iB)) iB)) iB) ca)))))
   av)
   av)
   (ak (aP (bP Y (bE (cm (ah 4) iB)) iB) (ak (jh 5 Z rfl (by rfl) (dh rfl) (bE (cm (bE (dO (ah 4) iB)) (ah 3))) (kD (bE (cm (bE (dO (ah 4) iB)) (bE (eG (ah 3) iB)))) iB))
   av)
   av)
   (ak (aP (bP Y (bE (cm (ah 4) iB)) iB) (ak (NU 5 rfl F_ PySem.F.slot_list_pop PySem.F.type_list_pop LF MI (by rfl) (dh rfl))
   av)
   av)
   (ak (aP (bP Y (bE (cm (ah 4) iB)) iB) (ak (jh 5 Z rfl (by rfl) (dh rfl) (bE (cm (bE (dO (ah 4) iB)) (ah 3))) (kD (xB Z (ah 5) (bE (cm (bE (dO (ah 4) iB)) (ah 3)))) (ah 3)))
   av)
   av)
   (ak (pW 5 rfl (bb (v_ 5)))
   av))))))))
abbrev zV:Stmt:=bS 13
abbrev FC:List Str:=["wishes","hand","one","other","row"]
abbrev oN:List Str:=["wishes","hand","one","other"]
theorem GB:FnScope FC oN (aa zV):=bV
def zW:FS:=(af (ap gO 4 (f2 (gv 0) (gv 1) ax)) (af (aw gO (f2 (fM "tuple" (gv 4) (ag (gv 2) ae) oQ) (fM "tuple" (gv 4) (ag (gv 3) ae) oQ) fH)) aq))
def jl:List D->Res D:=fun ds=>aH false (zW (a9 FC.length ds))
theorem sK(T:Txt K mg)(A:DefAt K mg "likes" zV):Callee P w K mg base "likes" oN [] 1 false cf jl:=
 cu (m':=gO) A GB fun f cdv A outer s H g E hr z=>(ak (cb 4 GB.nd (di z (ah 0) (ah 1)))
   (ak (bb (rV (bE (fB W7 Wp W8 uR uQ (ah 4) (aQ (ah 2) aR))) (bE (fB W7 Wp W8 uR uQ (ah 4) (aQ (ah 3) aR)))))
   av))
abbrev AW:Stmt:=bS 10
abbrev HJ:List Str:=["wishes"]
abbrev mY:List Str:=["wishes"]
theorem RU:FnScope HJ mY (aa AW):=bV
def Bl:FS:=(af (aw [Md.bw] (fC (ag (f2 (gv 0) (ci 0) ax) ae) lenD)) aq)
def hV:List D->Res D:=fun ds=>aH false (Bl (a9 HJ.length ds))
theorem pJ(T:Txt K mg)(A:DefAt K mg "things_in" AW):Callee P w K mg base "things_in" mY [] 1 false [Md.bw] hV:=
 cu (m':=[Md.bw]) A RU fun f cdv A outer s H g E hr z=>(ak (bb (cE (by rfl) T.b_len (aQ (xB z (ah 0) iB) aR)))
   av)
abbrev qx:Stmt:=bS 24
abbrev uX:List Str:=["wishes","dealing","left_over","hand","had","thing"]
abbrev A0:List Str:=["wishes","dealing"]
theorem qP:FnScope uX A0 (aa qx):=bV
abbrev qM:FS:=(af (bI [.bw,.sh,.bw,.sh,.sh,.sh] (bu (aF (ag (gv 0) (ag (gv 3) (ag (gv 5) (ag (gv 4) ae)))) [] jl)) (af (aw [.bw,.sh,.bw,.sh,.sh,.sh] (d5 (ag (fun _=>Res.ok (D.str "line")) (ag (d5 (ag (gv 3) ae)) (ag (gv 5) ae))))) aq) aq) aq)
abbrev qN:FS:=(af (eF k9 (aU bN (gv 2)) (aG 5) qM) aq)
def qy:FS:=(af (ap nE 2 (cy 1 [1] (dN dj (ag (aF (ag (gv 0) ae) [] hV) ae)) (aG 0) (aK (f2 (gv 0) (gv 1) cZ)) (gv 0))) (af (eF k9 (fJ (gv 1)) (c6 (bq (aG 3) (bq (aG 4) cW))) qN) (af (aw k9 (fun _=>Res.ok D.non)) aq)))
def qz:List D->Res D:=fun ds=>aH false (qy (a9 uX.length ds))
theorem MZ(T:Txt K mg)(A:DefAt K mg "line_for" qx)(z:Callee P w K mg base "things_in" mY [] 1 false [Md.bw] hV)(U:Callee P w K mg base "likes" oN [] 1 false cf jl):Callee P w K mg base "line_for" A0 [] 2 false gN qz:=
 cu (m':=k9) A qP fun f cdv A outer s H g E hr Y=>(ak (ko 2 (X:=(ba bZ P w K mg base uX "line_for" (aa qx) f cdv A outer s H E).nox) (m:=nE) (N':=["thing","dealing"]) (nl:=1) (cap:=[1]) qP.nd rfl (by rfl) (by rfl) (dS (osc:=(aa qx)) (ON:=uX) rfl rfl (by decide+kernel)) (i7.toC (kH (by rfl) T.b_range (aQ (bE (aV z (aj (ah 0) aO))) aR))) (fun _ _ _ _ _ _=>(bK 0 (show M_ (["thing","dealing"]:List Str)by decide+kernel))) (cU (by decide)) (fun _ _ _ _ _ _=>(oJ (pR Y (ah 0) (ah 1)))) (fun _ _ _ _ _ _=>(v_ 0)))
   (ak (jg N_ rfl (yY (by rfl) T.b_enumerate (v_ 1)) (gH rfl (cY (bK 3 qP.nd) (cY (bK 4 qP.nd) gG))) (ak (zT N_ rfl (eI (ah 2)) (fun _=>(bK 5 qP.nd)) (fun _=>(ak (aP (d9 (bE (aV U (aj (ah 0) (aj (ah 3) (aj (ah 5) (aj (ah 4) aO))))))) (ak (bb (gz (bh ka (bh (gz (bh (v_ 3) ca)) (bh (v_ 5) ca)))))
   av)
   av)
   av)))
   av))
   (ak (bb ix)
   av)))
abbrev qZ:Stmt:=bS 21
abbrev vT:List Str:=["steps","place","places"]
abbrev vV:List Str:=["steps","place","places"]
theorem IW:FnScope vT vV (aa qZ):=bV
def B3:FS:=(af (aw cw (cy 1 [2] (aU bN (f2 (gv 0) (gv 1) ax)) (aG 0) (aK (f2 (gv 0) (gv 1) eU)) (gv 0))) aq)
def pD:List D->Res D:=fun ds=>aH false (B3 (a9 vT.length ds))
theorem Ge(T:Txt K mg)(A:DefAt K mg "steps_within" qZ):Callee P w K mg base "steps_within" vV [] 1 false cw pD:=
 cu (m':=cw) A IW fun f cdv A outer s H g E hr z=>(ak (bb (SO.toE (g9 (X:=(ba bZ P w K mg base vT "steps_within" (aa qZ) f cdv A outer s H E).nox) (N':=["other","places"]) (nl:=1) (cap:=[2]) IW.nd rfl (dS (osc:=(aa qZ)) (ON:=vT) rfl rfl (by decide+kernel)) (eI (xB z (ah 0) (ah 1))) (fun _ _ _ _ _ _=>(bK 0 (show M_ (["other","places"]:List Str)by decide+kernel))) (cU (by decide)) (fun _ _ _ _ _ _=>(oJ (ib z (ah 0) (ah 1)))) (fun _ _ _ _ _ _=>(v_ 0)))))
   av)
abbrev rm:Stmt:=bS 20
abbrev wW:List Str:=["steps","places","staying"]
abbrev Ct:List Str:=["steps"]
theorem rJ:FnScope wW Ct (aa rm):=bV
abbrev Jn:FQ:=(aK (f2 (fC (ag (gv 2) ae) lenD) (fC (ag (gv 1) ae) lenD) neD))
abbrev Cy:FS:=(af (ap dY 1 (gv 2)) (af (ap dY 2 (cy 1 [0,1] (aU bN (gv 1)) (aG 0) (bu (aF (ag (gv 1) (ag (gv 0) (ag (gv 2) ae))) [] pD)) (gv 0))) aq))
def Cs:FS:=(af (ap dY 1 (dP ae)) (af (ap dY 2 (f1 (gv 0) zB)) (af (fg dY Jn Cy 64) (af (aw dY (gv 1)) aq))))
def wV:List D->Res D:=fun ds=>aH false (Cs (a9 wW.length ds))
theorem Rh(T:Txt K mg)(A:DefAt K mg "places_that_go_on" rm)(z:Callee P w K mg base "steps_within" vV [] 1 false cw pD):Callee P w K mg base "places_that_go_on" Ct [] 2 false [Md.bw] wV:=
 cu (m':=dY) A rJ fun f cdv A outer s H g E hr Y=>have U:=hr.units;(ak (cb 1 rJ.nd (SO.toE (fR ca)))
   (ak (cb 2 rJ.nd (SO.toE (LJ rfl (by rfl) T.b_list (ah 0))))
   (ak (qe 64 N_ (h9 U (bE (cE (by rfl) T.b_len (aQ (ah 2) aR))) (bE (cE (by rfl) T.b_len (aQ (ah 1) aR)))) (Ho (m':=[.bw,.sh,.ow]) 2 (ak (cb 1 rJ.nd (v_ 2))
   (ak (ko 2 (X:=(ba bZ P w K mg base wW "places_that_go_on" (aa rm) f cdv A outer s H E).nox) (m:=dY) (N':=["place","steps","places"]) (nl:=1) (cap:=[0,1]) rJ.nd rfl (by rfl) (by rfl) (dS (osc:=(aa rm)) (ON:=wW) rfl rfl (by decide+kernel)) (eI (ah 1)) (fun _ _ _ _ _ _=>(bK 0 (show M_ (["place","steps","places"]:List Str)by decide+kernel))) (cU (by decide)) (fun _ _ _ _ _ _=>(oJ (d9 (bE (aV z (aj (ah 1) (aj (ah 0) (aj (ah 2) aO)))))))) (fun _ _ _ _ _ _=>(v_ 0)))
   av)) rfl))
   (ak (bb (v_ 1))
   av))))
abbrev Bz:Stmt:=bS 22
abbrev Jc:List Str:=["steps","places","walk","place"]
abbrev BZ:List Str:=["steps"]
theorem rE:FnScope Jc BZ (aa Bz):=bV
abbrev Ch:FQ:=(aK (f2 (gv 3) (gv 2) cZ))
abbrev Jf:FS:=(af (cH "list" ig 2 (ag (gv 3) ae) appD) (af (ap ig 3 (f2 (aF (ag (gv 0) (ag (gv 3) (ag (gv 1) ae))) [] pD) (ci 0) ax)) aq))
def qV:FS:=(af (ap gM 1 (aF (ag (gv 0) ae) [] wV)) (af (bI gM (bQ (bu (gv 1))) (af (aw gM (fun _=>Res.ok D.non)) aq) aq) (af (ap gM 2 (dP ae)) (af (ap ig 3 (f2 (gv 1) (ci 0) ax)) (af (fg ig Ch Jf 64) (af (aw ig (cO (gv 2) (dw (fM "list" (gv 2) (ag (gv 3) ae) kn)) (fun _=>Res.ok none))) aq))))))
def wN:List D->Res D:=fun ds=>aH false (qV (a9 Jc.length ds))
theorem QV(T:Txt K mg)(A:DefAt K mg "ring_of_steps" Bz)(z:Callee P w K mg base "places_that_go_on" Ct [] 2 false [Md.bw] wV)(U:Callee P w K mg base "steps_within" vV [] 1 false cw pD):Callee P w K mg base "ring_of_steps" BZ [] 3 false [Md.bw] wN:=
 cu (m':=ig) A rE fun f cdv A outer s H g E hr Y=>(ak (cb 1 rE.nd (aV z (aj (ah 0) aO)))
   (ak (aP (fS (d9 (ah 1))) (ak (bb ix)
   av)
   av)
   (ak (eu 2 rE.nd (by rfl) (dM rfl) (fR ca))
   (ak (cb 3 rE.nd (di Y (ah 1) iB))
   (ak (qe 64 N_ (pR Y (ah 3) (ah 2)) (ak (jw 2 rfl F_ V4 V5 mU ox (by rfl) (dh rfl) (bh (v_ 3) ca))
   (ak (cb 3 rE.nd (di Y (bE (aV U (aj (ah 0) (aj (ah 3) (aj (ah 1) aO))))) iB))
   av)))
   (ak (bb (jy (ah 2) (fW (bE (fB F_ VT V8 o8 o7 (ah 2) (aQ (ah 3) aR)))) fV))
   av))))))
abbrev qY:Stmt:=bS 25
abbrev vS:List Str:=["wishes","dealing","hand"]
abbrev B6:List Str:=["wishes","dealing","hand"]
theorem IV:FnScope vS B6 (aa qY):=bV
def B1:FS:=(af (aw [.bw,.sh,.bw] (cy 2 [0,2,1] (fJ (gv 1)) (c6 (bq (aG 0) (bq (aG 1) cW))) (bu (aF (ag (gv 2) (ag (gv 3) (ag (gv 1) (ag (f2 (gv 4) (gv 3) ax) ae)))) [] jl)) (gv 0))) aq)
def vQ:List D->Res D:=fun ds=>aH false (B1 (a9 vS.length ds))
theorem Qk(T:Txt K mg)(A:DefAt K mg "hands_envied" qY)(z:Callee P w K mg base "likes" oN [] 1 false cf jl):Callee P w K mg base "hands_envied" B6 [] 2 false [.bw,.sh,.bw] vQ:=
 cu (m':=[.bw,.sh,.bw]) A IV fun f cdv A outer s H g E hr U=>(ak (bb (SO.toE (g9 (X:=(ba bZ P w K mg base vS "hands_envied" (aa qY) f cdv A outer s H E).nox) (N':=["other","thing","wishes","hand","dealing"]) (nl:=2) (cap:=[0,2,1]) IV.nd rfl (dS (osc:=(aa qY)) (ON:=vS) rfl rfl (by decide+kernel)) (i7.toC (yY (by rfl) T.b_enumerate (v_ 1))) (fun _ _ _ _ _ _=>(gH rfl (cY (bK 0 (show M_ (["other","thing","wishes","hand","dealing"]:List Str)by decide+kernel)) (cY (bK 1 (show M_ (["other","thing","wishes","hand","dealing"]:List Str)by decide+kernel)) gG)))) (jB (fm (cU (by decide)) (fm (cU (by decide)) jG))) (fun _ _ _ _ _ _=>(oJ (d9 (bE (aV z (aj (ah 2) (aj (ah 3) (aj (ah 1) (aj (xB U (ah 4) (ah 3)) aO))))))))) (fun _ _ _ _ _ _=>(v_ 0)))))
   av)
abbrev AL:Stmt:=bS 26
abbrev HN:List Str:=["wishes","dealing","steps","hand","hands"]
abbrev A1:List Str:=["wishes","dealing"]
theorem vO:FnScope HN A1 (aa AL):=bV
abbrev Ic:FS:=(af (putF jS 2 (gv 3) (aF (ag (gv 0) (ag (gv 1) (ag (gv 3) ae))) [] vQ)) aq)
def AY:FS:=(af (ap [.bw,.sh,.sh,.sh,.sh] 2 (fun _=>Res.ok (D.dic []))) (af (eF jS (dN dj (ag (fC (ag (gv 0) ae) lenD) ae)) (aG 3) Ic) (af (ap jS 4 (aF (ag (gv 2) ae) [] wN)) (af (aw jS (lV (aK (f2 (gv 4) (fun _=>Res.ok D.non) nI)) (fun _=>Res.ok D.non) (d5 (ag (fun _=>Res.ok (D.str "ring")) (ag (fC (ag (gv 4) ae) tupD) ae))))) aq))))
def qE:List D->Res D:=fun ds=>aH false (AY (a9 HN.length ds))
theorem M0(T:Txt K mg)(A:DefAt K mg "ring_for" AL)(U:Callee P w K mg base "hands_envied" B6 [] 2 false [.bw,.sh,.bw] vQ)(z:Callee P w K mg base "ring_of_steps" BZ [] 3 false [Md.bw] wN):Callee P w K mg base "ring_for" A1 [] 4 false gN qE:=
 cu (m':=jS) A vO fun f cdv A outer s H g E hr Y=>(ak (eu 2 vO.nd (by rfl) (dM rfl) zM)
   (ak (jg N_ rfl (kH (by rfl) T.b_range (aQ (bE (cE (by rfl) T.b_len (aQ (ah 0) aR))) aR)) (bK 3 vO.nd) (ak (jh 2 Y rfl (by rfl) (dh rfl) (ah 3) (aV U (aj (ah 0) (bH (v_ 1) (aj (ah 3) aO)))))
   av))
   (ak (cb 4 vO.nd (aV z (aj (ah 2) aO)))
   (ak (bb (Es (nz (ah 4) (bE ix)) ix (gz (bh ka (bh (iz (by rfl) T.b_tuple (aQ (ah 4) aR)) ca)))))
   av))))
abbrev Bt:Stmt:=bS 27
abbrev Iy:List Str:=["wishes","dealing","line"]
abbrev BK:List Str:=["wishes","dealing"]
theorem Iv:FnScope Iy BK (aa Bt):=bV
def qJ:FS:=(af (ap dY 2 (aF (ag (gv 0) (ag (gv 1) ae)) [] qz)) (af (aw dY (lV (aK (f2 (gv 2) (fun _=>Res.ok D.non) nI)) (aF (ag (gv 0) (ag (gv 1) ae)) [] qE) (gv 2))) aq))
def qL:List D->Res D:=fun ds=>aH false (qJ (a9 Iy.length ds))
theorem Pu(T:Txt K mg)(A:DefAt K mg "betterment" Bt)(U:Callee P w K mg base "line_for" A0 [] 2 false gN qz)(z:Callee P w K mg base "ring_for" A1 [] 4 false gN qE):Callee P w K mg base "betterment" BK [] 5 false gN qL:=
 cu (m':=dY) A Iv fun f cdv A outer s H g E hr Y=>(ak (cb 2 Iv.nd (aV U (aj (ah 0) (bH (v_ 1) aO))))
   (ak (bb (Es (nz (ah 2) (bE ix)) (aV z (aj (ah 0) (bH (v_ 1) aO))) (v_ 2)))
   av))
abbrev Bx:Stmt:=bS 62
abbrev Ja:List Str:=["_law_script","_law_wishes_here","_law_dealing","_law_n","_law_m","_law_cell_here","_law_way","_law_hands"]
abbrev BX:List Str:=["_law_script","_law_wishes_here","_law_dealing","_law_n","_law_m"]
theorem rD:FnScope Ja BX (aa Bx):=bV
def vY:FS:=(af (ap iY 5 (aF (ag (gv 0) (ag (ci 15) ae)) [] du)) (af (ap iY 6 (aF (ag (gv 1) (ag (gv 2) ae)) [] qL)) (af (bI iY (c7 (aK (f2 (gv 6) (fun _=>Res.ok D.non) gp)) (aK (f2 (f2 (gv 5) (ci 3) az) (ci 0) eqD))) (af (ap iY 7 (f2 (dP (ag (f2 (gv 6) (ci 1) ax) (ag (f2 (gv 6) (ci 1) ax) (ag (f2 (f2 (gv 6) (ci 1) ax) (f2 (gv 6) (ci 1) ax) addA) (ag (f2 (d5 (ag (f2 (f2 (f2 (gv 6) (ci 1) ax) (ci 0) ax) (gv 3) dG) ae)) (cO (f2 (gv 6) (ci 1) ax) (dw (ci 1)) (fun _=>Res.ok none)) addA) ae))))) (f2 (f2 (gv 5) (ci 3) ck) (ci 4) az) ax)) (af (aw iY (f2 (f2 (cO (gv 6) (fun _=>Res.ok none) (dw (ci 1))) (d5 (ag (gv 7) ae)) addE) (cO (gv 6) (dw (ci 2)) (fun _=>Res.ok none)) addE)) aq)) aq) (af (ap iY 7 (fun r=>(iE (fC (ag (aF (ag (f2 (gv 5) (ci 3) ck) (ag (gv 3) ae)) [] gL) ae) gI) (fun _=>Res.ok none) (dw (f2 (ci 1) (f2 (f2 (gv 5) (ci 15120) ck) (gv 3) az) addA)) r).bind fun d=>match d with|.lst ds=>.ok (.lst ds)|_=>.stuck)) (af (bI iX (aK (f2 (f2 (gv 5) (ci 5) az) (ci 1) eqD)) (af (putF iX 7 (ci 0) (f2 (dP (ag (f2 (gv 7) (f1 (ci 1) gj) ax) (ag (f1 (ci 1) gj) (ag (gv 3) ae)))) (f2 (f2 (gv 5) (ci 15) ck) (ci 3) az) ax)) aq) aq) (af (bI iX (aK (f2 (f2 (f2 (gv 5) (ci 15) ck) (ci 2) az) (ci 0) eqD)) (af (aw iX (d5 (ag (fun _=>Res.ok (D.str "line")) (ag (fC (ag (gv 7) ae) tupD) (ag (f2 (f2 (f2 (gv 5) (ci 30) ck) (f2 (gv 4) (ci 2) addA) az) (ci 1) dG) ae))))) aq) aq) (af (aw iX (d5 (ag (fun _=>Res.ok (D.str "ring")) (ag (fC (ag (gv 7) ae) tupD) ae)))) aq)))))))
def wM:List D->Res D:=fun ds=>aH false (vY (a9 Ja.length ds))
theorem QS(T:Txt K mg)(A:DefAt K mg "_law_way_made" Bx)(Y:Callee P w K mg base "_law_cell" mX [] 1 false aM du)(U:Callee P w K mg base "betterment" BK [] 5 false gN qL)(Z:Callee P w K mg base "_law_row" pf [] 1 false [.sh,.bw] gL):Callee P w K mg base "_law_way_made" BX [] 6 false [.bw,.bw,.sh,.sh,.bw] wM:=
 cu (m':=iX) A rD fun f cdv A outer s H g E hr z=>have ac:=hr.units;(ak (cb 5 rD.nd (aV Y (aj (ah 0) (aj iB aO))))
   (ak (cb 6 rD.nd (aV U (aj (ah 1) (bH (v_ 2) aO))))
   (ak (aP (SW.toQ (l9 (Ey (ah 6) (bE ix)) (oH (bP ac (bE (cm (ah 5) iB)) iB)))) (ak (cb 7 rD.nd (di z (SO.toB (fR (bh (di z (ah 6) iB) (bh (di z (ah 6) iB) (bh (eG (xB z (ah 6) iB) (xB z (ah 6) iB)) (bh (eG (bE (gz (bh (kD (xB z (xB z (ah 6) iB) iB) (ah 3)) ca))) (bE (jy (xB z (ah 6) iB) (fW iB) fV))) ca)))))) (bE (cm (bE (dO (ah 5) iB)) iB))))
   (ak (bb (tq (bE (tq (bE (jy (ah 6) fV (fW iB))) (bE (gz (bh (v_ 7) ca))))) (bE (jy (ah 6) (fW iB) fV))))
   av))
   av)
   (ak (eu 7 rD.nd (by rfl) (dM rfl) (Ed (SO.toB (kg (by rfl) T.b_list (aQ (bE (aV Z (bH (dO (ah 5) iB) (aj (ah 3) aO)))) aR))) fV (fW (bE (eG iB (bE (cm (bE (dO (ah 5) iB)) (ah 3))))))))
   (ak (aP (bP ac (bE (cm (ah 5) iB)) iB) (ak (jh 7 z rfl (by rfl) (dh rfl) iB (di z (SO.toB (fR (bh (di z (ah 7) (bE (n8 iB))) (bh (n8 iB) (bh (v_ 3) ca))))) (bE (cm (bE (dO (ah 5) iB)) iB))))
   av)
   av)
   (ak (aP (bP ac (bE (cm (bE (dO (ah 5) iB)) iB)) iB) (ak (bb (gz (bh ka (bh (iz (by rfl) T.b_tuple (aQ (ah 7) aR)) (bh (kD (bE (cm (bE (dO (ah 5) iB)) (bE (eG (ah 4) iB)))) iB) ca)))))
   av)
   av)
   (ak (bb (gz (bh ka (bh (iz (by rfl) T.b_tuple (aQ (ah 7) aR)) ca))))
   av)))))))
abbrev AV:Stmt:=bS 11
abbrev HI:List Str:=["wishes"]
abbrev vI:List Str:=["wishes"]
theorem RT:FnScope HI vI (aa AV):=bV
def Bk:FS:=(af (aw [Md.bw] (f2 (aF (ag (gv 0) ae) [] hV) (fC (ag (gv 0) ae) lenD) eqD)) aq)
def mW:List D->Res D:=fun ds=>aH false (Bk (a9 HI.length ds))
theorem OE(T:Txt K mg)(A:DefAt K mg "is_square" AV)(z:Callee P w K mg base "things_in" mY [] 1 false [Md.bw] hV):Callee P w K mg base "is_square" vI [] 2 false [Md.bw] mW:=
 cu (m':=[Md.bw]) A RT fun f cdv A outer s H g E hr Y=>have U:=hr.units;(ak (bb (hZ U (bE (aV z (aj (ah 0) aO))) (bE (cE (by rfl) T.b_len (aQ (ah 0) aR)))))
   av)
abbrev AK:Stmt:=bS 5
abbrev HM:List Str:=["value"]
abbrev AZ:List Str:=["value"]
theorem RA:FnScope HM AZ (aa AK):=bV
def QW:FS:=(af (aw [Md.bw] (cq (f1 (gv 0) (ij "int")) (nj (f1 (gv 0) (ij "bool"))))) aq)
def pe:List D->Res D:=fun ds=>aH false (QW (a9 HM.length ds))
theorem MY(T:Txt K mg)(A:DefAt K mg "is_whole" AK):Callee P w K mg base "is_whole" AZ [] 1 false [Md.bw] pe:=
 cu (m':=[Md.bw]) A RA fun f cdv A outer s H g E hr z=>(ak (bb (jf (pX "int" "int" rfl (Nm _) (by rfl) T.b_isinstance (by rfl) T.b_int (ah 0)) (jx (Et (pX "bool" "bool" rfl (GR _) (by rfl) T.b_isinstance (by rfl) T.b_bool (ah 0))))))
   av)
abbrev AJ:Stmt:=bS 6
abbrev HL:List Str:=["value","bound"]
abbrev qv:List Str:=["value","bound"]
theorem Rz:FnScope HL qv (aa AJ):=bV
def mV:FS:=(af (aw aM (cq (aF (ag (gv 0) ae) [] pe) (jA (ci 0) (gv 0) (gv 1) lj fH))) aq)
def jI:List D->Res D:=fun ds=>aH false (mV (a9 HL.length ds))
theorem MX(T:Txt K mg)(A:DefAt K mg "is_below" AJ)(z:Callee P w K mg base "is_whole" AZ [] 1 false [Md.bw] pe):Callee P w K mg base "is_below" qv [] 2 false aM jI:=
 cu (m':=aM) A Rz fun f cdv A outer s H g E hr U=>(ak (bb (jf (aV z (aj (ah 0) aO)) (jx (OQ Ei tj Ee Ef iB (ah 0) (ah 1)))))
   av)
abbrev A6:Stmt:=bS 7
abbrev Iq:List Str:=["numbers","bound","ahead","place","number"]
abbrev vZ:List Str:=["numbers","bound"]
theorem vW:FnScope Iq vZ (aa A6):=bV
abbrev m7:FS:=(af (bI gP (dq (bQ (bu (aF (ag (gv 4) (ag (gv 1) ae)) [] jI))) (aK (f2 (gv 4) (gv 2) eU))) (af (aw gP (gv 3)) aq) aq) (af (putF gP 2 (gv 4) (fun _=>Res.ok (D.bl true))) aq))
def q9:FS:=(af (ap [.bw,.bw,.sh,.sh,.sh] 2 (fun _=>Res.ok (D.dic []))) (af (eF gP (fJ (gv 0)) (c6 (bq (aG 3) (bq (aG 4) cW))) m7) (af (aw gP (fC (ag (gv 0) ae) lenD)) aq)))
def pi:List D->Res D:=fun ds=>aH false (q9 (a9 Iq.length ds))
theorem O2(T:Txt K mg)(A:DefAt K mg "first_wrong" A6)(z:Callee P w K mg base "is_below" qv [] 2 false aM jI):Callee P w K mg base "first_wrong" vZ [] 3 false aM pi:=
 cu (m':=gP) A vW fun f cdv A outer s H g E hr U=>(ak (eu 2 vW.nd (by rfl) (dM rfl) zM)
   (ak (EW N_ rfl (Nh (by rfl) T.b_enumerate (Jq 0)) (gH rfl (cY (bK 3 vW.nd) (cY (bK 4 vW.nd) gG))) (ak (aP (SW.toQ (cP (fS (d9 (bE (aV z (aj (ah 4) (aj (ah 1) aO)))))) (jv (ib U (ah 4) (ah 2))))) (ak (bb (v_ 3))
   av)
   av)
   (ak (jh 2 U rfl (by rfl) (dh rfl) (ah 4) cG)
   av)))
   (ak (bb (cE (by rfl) T.b_len (aQ (ah 0) aR)))
   av)))
abbrev Bs:Stmt:=bS 8
abbrev Ix:List Str:=["numbers","bound"]
abbrev pw:List Str:=["numbers","bound"]
theorem RL:FnScope Ix pw (aa Bs):=bV
def Ba:FS:=(af (aw aM (f2 (aF (ag (gv 0) (ag (gv 1) ae)) [] pi) (fC (ag (gv 0) ae) lenD) eqD)) aq)
def iP:List D->Res D:=fun ds=>aH false (Ba (a9 Ix.length ds))
theorem Pt(T:Txt K mg)(A:DefAt K mg "are_unlike" Bs)(z:Callee P w K mg base "first_wrong" vZ [] 3 false aM pi):Callee P w K mg base "are_unlike" pw [] 4 false aM iP:=
 cu (m':=aM) A RL fun f cdv A outer s H g E hr Y=>have U:=hr.units;(ak (bb (hZ U (bE (aV z (aj (ah 0) (aj (ah 1) aO)))) (bE (cE (by rfl) T.b_len (aQ (ah 0) aR)))))
   av)
abbrev By:Stmt:=bS 9
abbrev Jb:List Str:=["numbers","bound"]
abbrev wQ:List Str:=["numbers","bound"]
theorem Sm:FnScope Jb wQ (aa By):=bV
def BS:FS:=(af (aw aM (cq (f2 (fC (ag (gv 0) ae) lenD) (gv 1) eqD) (aF (ag (gv 0) (ag (gv 1) ae)) [] iP))) aq)
def kN:List D->Res D:=fun ds=>aH false (BS (a9 Jb.length ds))
theorem QT(T:Txt K mg)(A:DefAt K mg "has_each_once" By)(z:Callee P w K mg base "are_unlike" pw [] 4 false aM iP):Callee P w K mg base "has_each_once" wQ [] 5 false aM kN:=
 cu (m':=aM) A Sm fun f cdv A outer s H g E hr Y=>have U:=hr.units;(ak (bb (jf (hZ U (bE (cE (by rfl) T.b_len (aQ (ah 0) aR))) (ah 1)) (jx (aV z (aj (ah 0) (aj (ah 1) aO))))))
   av)
abbrev Bv:Stmt:=bS 18
abbrev IA:List Str:=["wishes","told"]
abbrev qO:List Str:=["wishes","told"]
theorem Sd:FnScope IA qO (aa Bv):=bV
def Bc:FS:=(af (aw aM (cq (f2 (fC (ag (gv 1) ae) lenD) (fC (ag (gv 0) ae) lenD) eqD) (aF (ag (gv 1) (ag (aF (ag (gv 0) ae) [] hV) ae)) [] iP))) aq)
def jo:List D->Res D:=fun ds=>aH false (Bc (a9 IA.length ds))
theorem Px(T:Txt K mg)(A:DefAt K mg "is_dealing" Bv)(U:Callee P w K mg base "things_in" mY [] 1 false [Md.bw] hV)(z:Callee P w K mg base "are_unlike" pw [] 4 false aM iP):Callee P w K mg base "is_dealing" qO [] 5 false aM jo:=
 cu (m':=aM) A Sd fun f cdv A outer s H g E hr Z=>have Y:=hr.units;(ak (bb (jf (hZ Y (bE (cE (by rfl) T.b_len (aQ (ah 1) aR))) (bE (cE (by rfl) T.b_len (aQ (ah 0) aR)))) (jx (aV z (aj (ah 1) (aj (bE (aV U (aj (ah 0) aO))) aO))))))
   av)
abbrev Cr:Stmt:=bS 35
abbrev Jo:List Str:=["wishes","owns","hand","own"]
abbrev Cv:List Str:=["wishes","owns"]
theorem Cw:FnScope Jo Cv (aa Cr):=bV
abbrev Jp:FS:=(af (bI gM (bQ (bu (aF (ag (gv 3) (ag (fC (ag (gv 0) ae) lenD) ae)) [] jI))) (af (fun _=>Out.stuck) aq) aq) aq)
def wY:FS:=(af (bI gM (bQ (bu (aF (ag (gv 0) ae) [] mW))) (af (fun _=>Out.stuck) aq) aq) (af (eF gM (fJ (gv 1)) (c6 (bq (aG 2) (bq (aG 3) cW))) Jp) aq))
def wZ:List D->Res D:=fun ds=>aH false (wY (a9 Jo.length ds))
theorem Sb(T:Txt K mg)(A:DefAt K mg "refuse_unless_all_owned" Cr)(z:Callee P w K mg base "is_square" vI [] 2 false [Md.bw] mW)(U:Callee P w K mg base "is_below" qv [] 2 false aM jI):Callee P w K mg base "refuse_unless_all_owned" Cv [] 3 false gN wZ:=
 cu (m':=gM) A Cw fun f cdv A outer s H g E hr Y=>(ak (aP (fS (d9 (bE (aV z (aj (ah 0) aO))))) (ak Gu
   av)
   av)
   (ak (jg N_ rfl (yY (by rfl) T.b_enumerate (v_ 1)) (gH rfl (cY (bK 2 Cw.nd) (cY (bK 3 Cw.nd) gG))) (ak (aP (fS (d9 (bE (aV U (aj (ah 3) (aj (bE (cE (by rfl) T.b_len (aQ (ah 0) aR))) aO)))))) (ak Gu
   av)
   av)
   av))
   av))
abbrev A7:Stmt:=bS 16
abbrev Ir:List Str:=["hands"]
abbrev wA:List Str:=["hands"]
theorem Sa:FnScope Ir wA (aa A7):=bV
def rc:FS:=(af (aw [Md.bw] (f2 (cO (gv 0) (dw (ci 1)) (fun _=>Res.ok none)) (cO (gv 0) (fun _=>Res.ok none) (dw (ci 1))) addE)) aq)
def jp:List D->Res D:=fun ds=>aH false (rc (a9 Ir.length ds))
theorem Fh(T:Txt K mg)(A:DefAt K mg "ones_behind" A7):Callee P w K mg base "ones_behind" wA [] 1 false [Md.bw] jp:=
 cu (m':=[Md.bw]) A Sa fun f cdv A outer s H g E hr z=>(ak (bb (tq (bE (jy (ah 0) (fW iB) fV)) (bE (jy (ah 0) fV (fW iB)))))
   av)
abbrev kO:Stmt:=bS 36
abbrev lQ:List Str:=["owns","ring","hands","things"]
abbrev Cg:List Str:=["owns","ring"]
theorem wU:FnScope lQ Cg (aa kO):=bV
def Cc:FS:=(af (ap dA 2 (cy 2 [] (aU bN (gv 1)) (c6 (bq (aG 0) (bq (aG 1) cW))) (fun _=>Res.ok true) (gv 0))) (af (ap [.bw,.bw,.ow,.sh] 3 (cy 2 [] (aU bN (gv 1)) (c6 (bq (aG 0) (bq (aG 1) cW))) (fun _=>Res.ok true) (gv 1))) (af (bI iW (dq (bQ (bu (aF (ag (gv 2) (ag (fC (ag (gv 0) ae) lenD) ae)) [] iP))) (bQ (bu (aF (ag (gv 3) (ag (fC (ag (gv 0) ae) lenD) ae)) [] iP)))) (af (aw iW (fun _=>Res.ok (D.bl false))) aq) aq) (af (bI iW (dq (bQ (bu (gv 2))) (aK (f2 (f2 (gv 2) (ci 0) ax) (fC (ag (gv 2) ae) je) neD))) (af (aw iW (fun _=>Res.ok (D.bl false))) aq) aq) (af (aw iW (f2 (gv 3) (cy 1 [0] (aU bN (aF (ag (gv 2) ae) [] jp)) (aG 0) (fun _=>Res.ok true) (f2 (gv 1) (gv 0) ax)) eqD)) aq)))))
def wJ:List D->Res D:=fun ds=>aH false (Cc (a9 lQ.length ds))
theorem Q7(T:Txt K mg)(A:DefAt K mg "is_ring_of_owns" kO)(z:Callee P w K mg base "are_unlike" pw [] 4 false aM iP)(U:Callee P w K mg base "ones_behind" wA [] 1 false [Md.bw] jp):Callee P w K mg base "is_ring_of_owns" Cg [] 5 false aM wJ:=
 cu (m':=iW) A wU fun f cdv A outer s H g E hr Z=>have Y:=hr.units;(ak (ko 2 (X:=(ba bZ P w K mg base lQ "is_ring_of_owns" (aa kO) f cdv A outer s H E).nox) (m:=dA) (N':=["hand","thing"]) (nl:=2) (cap:=[]) wU.nd rfl (by rfl) (by rfl) (dS (osc:=(aa kO)) (ON:=lQ) rfl rfl (by decide+kernel)) (eI (ah 1)) (fun _ _ _ _ _ _=>(gH rfl (cY (bK 0 (show M_ (["hand","thing"]:List Str)by decide+kernel)) (cY (bK 1 (show M_ (["hand","thing"]:List Str)by decide+kernel)) gG)))) (jB (fm (cU (by decide)) (fm (cU (by decide)) jG))) (fun _ _ _ _ _ _=>fX) (fun _ _ _ _ _ _=>(v_ 0)))
   (ak (ko 3 (X:=(ba bZ P w K mg base lQ "is_ring_of_owns" (aa kO) f cdv A outer s H E).nox) (m:=[.bw,.bw,.ow,.sh]) (N':=["hand","thing"]) (nl:=2) (cap:=[]) wU.nd rfl (by rfl) (by rfl) (dS (osc:=(aa kO)) (ON:=lQ) rfl rfl (by decide+kernel)) (eI (ah 1)) (fun _ _ _ _ _ _=>(gH rfl (cY (bK 0 (show M_ (["hand","thing"]:List Str)by decide+kernel)) (cY (bK 1 (show M_ (["hand","thing"]:List Str)by decide+kernel)) gG)))) (jB (fm (cU (by decide)) (fm (cU (by decide)) jG))) (fun _ _ _ _ _ _=>fX) (fun _ _ _ _ _ _=>(v_ 1)))
   (ak (aP (SW.toQ (cP (fS (d9 (bE (aV z (aj (ah 2) (aj (bE (cE (by rfl) T.b_len (aQ (ah 0) aR))) aO)))))) (jv (fS (d9 (bE (aV z (aj (ah 3) (aj (bE (cE (by rfl) T.b_len (aQ (ah 0) aR))) aO))))))))) (ak (bb cG)
   av)
   av)
   (ak (aP (SW.toQ (cP (fS (d9 (ah 2))) (jv (h9 Y (xB Z (ah 2) iB) (bE (tt rfl (by rfl) T.b_min (aQ (ah 2) aR))))))) (ak (bb cG)
   av)
   av)
   (ak (bb (hZ Y (ah 3) (SO.toB (g9 (X:=(ba bZ P w K mg base lQ "is_ring_of_owns" (aa kO) f cdv A outer s H E).nox) (N':=["hand","owns"]) (nl:=1) (cap:=[0]) wU.nd rfl (dS (osc:=(aa kO)) (ON:=lQ) rfl rfl (by decide+kernel)) (eI (bE (aV U (aj (ah 2) aO)))) (fun _ _ _ _ _ _=>(bK 0 (show M_ (["hand","owns"]:List Str)by decide+kernel))) (cU (by decide)) (fun _ _ _ _ _ _=>fX) (fun _ _ _ _ _ _=>(di Z (ah 1) (ah 0)))))))
   av)))))
abbrev mC:Stmt:=bS 37
abbrev ou:List Str:=["wishes","owns","dealing","ring","better","worse"]
abbrev zF:List Str:=["wishes","owns","dealing","ring"]
theorem qf:FnScope ou zF (aa mC):=bV
def yW:FS:=(af (D4 ie (aF (ag (gv 0) (ag (gv 1) ae)) [] wZ)) (af (bI ie (bQ (bu (aF (ag (gv 1) (ag (gv 3) ae)) [] wJ))) (af (aw ie (fun _=>Res.ok (D.bl false))) aq) aq) (af (ap ie 4 (fC (ag (cy 2 [0,2] (aU bN (gv 3)) (c6 (bq (aG 0) (bq (aG 1) cW))) (fun _=>Res.ok true) (aF (ag (gv 2) (ag (gv 0) (ag (gv 1) (ag (f2 (gv 3) (gv 0) ax) ae)))) [] jl)) ae) anyD)) (af (ap ie 5 (fC (ag (cy 2 [0,2] (aU bN (gv 3)) (c6 (bq (aG 0) (bq (aG 1) cW))) (fun _=>Res.ok true) (aF (ag (gv 2) (ag (gv 0) (ag (f2 (gv 3) (gv 0) ax) (ag (gv 1) ae)))) [] jl)) ae) anyD)) (af (aw ie (cq (gv 4) (nj (gv 5)))) aq)))))
def pY:List D->Res D:=fun ds=>aH false (yW (a9 ou.length ds))
theorem JL(T:Txt K mg)(A:DefAt K mg "goes" mC)(z:Callee P w K mg base "refuse_unless_all_owned" Cv [] 3 false gN wZ)(U:Callee P w K mg base "is_ring_of_owns" Cg [] 5 false aM wJ)(Y:Callee P w K mg base "likes" oN [] 1 false cf jl):Callee P w K mg base "goes" zF [] 6 false [.bw,.sh,.bw,.bw] pY:=
 cu (m':=ie) A qf fun f cdv A outer s H g E hr Z=>(ak (Mz (aV z (aj (ah 0) (bH (v_ 1) aO))))
   (ak (aP (fS (d9 (bE (aV U (aj (ah 1) (aj (ah 3) aO)))))) (ak (bb cG)
   av)
   av)
   (ak (cb 4 qf.nd (sY rfl (by rfl) T.b_any (aQ (SO.toB (g9 (X:=(ba bZ P w K mg base ou "goes" (aa mC) f cdv A outer s H E).nox) (N':=["hand","thing","wishes","dealing"]) (nl:=2) (cap:=[0,2]) qf.nd rfl (dS (osc:=(aa mC)) (ON:=ou) rfl rfl (by decide+kernel)) (eI (ah 3)) (fun _ _ _ _ _ _=>(gH rfl (cY (bK 0 (show M_ (["hand","thing","wishes","dealing"]:List Str)by decide+kernel)) (cY (bK 1 (show M_ (["hand","thing","wishes","dealing"]:List Str)by decide+kernel)) gG)))) (jB (fm (cU (by decide)) (fm (cU (by decide)) jG))) (fun _ _ _ _ _ _=>fX) (fun _ _ _ _ _ _=>(aV Y (aj (ah 2) (aj (ah 0) (aj (ah 1) (aj (xB Z (ah 3) (ah 0)) aO)))))))) aR)))
   (ak (cb 5 qf.nd (sY rfl (by rfl) T.b_any (aQ (SO.toB (g9 (X:=(ba bZ P w K mg base ou "goes" (aa mC) f cdv A outer s H E).nox) (N':=["hand","thing","wishes","dealing"]) (nl:=2) (cap:=[0,2]) qf.nd rfl (dS (osc:=(aa mC)) (ON:=ou) rfl rfl (by decide+kernel)) (eI (ah 3)) (fun _ _ _ _ _ _=>(gH rfl (cY (bK 0 (show M_ (["hand","thing","wishes","dealing"]:List Str)by decide+kernel)) (cY (bK 1 (show M_ (["hand","thing","wishes","dealing"]:List Str)by decide+kernel)) gG)))) (jB (fm (cU (by decide)) (fm (cU (by decide)) jG))) (fun _ _ _ _ _ _=>fX) (fun _ _ _ _ _ _=>(aV Y (aj (ah 2) (aj (ah 0) (aj (xB Z (ah 3) (ah 0)) (aj (ah 1) aO)))))))) aR)))
   (ak (bb (jf (v_ 4) (jx (Et (v_ 5)))))
   av)))))
abbrev mD:Stmt:=oP (bS 42) 1
abbrev Ie:List Str:=["self","wishes","told","all_owned"]
abbrev BI:List Str:=["self","wishes","told"]
theorem Iu:FnScope Ie BI (aa mD):=bV
def pj:FS:=(af (ap jR 3 (cq (aF (ag (gv 1) ae) [] mW) (aF (ag (f1 (gv 0) (dg lE "owns")) (ag (fC (ag (gv 1) ae) lenD) ae)) [] kN))) (af (aw jR (cq (gv 3) (cq (aF (ag (gv 1) (ag (gv 2) ae)) [] jo) (aF (ag (gv 1) (ag (f1 (gv 0) (dg lE "owns")) (ag (gv 2) (ag (f1 (gv 0) (dg on "ring")) ae)))) [] pY)))) aq))
def qK:List D->Res D:=fun ds=>aH false (pj (a9 Ie.length ds))
theorem Pr(T:Txt K mg)(A:MethAt K "Goes" "shows" "Goes.shows" mD)(z:Callee P w K mg base "has_each_once" wQ [] 5 false aM kN)(Y:Callee P w K mg base "is_square" vI [] 2 false [Md.bw] mW)(ad:Callee P w K mg base "goes" zF [] 6 false [.bw,.sh,.bw,.bw] pY)(U:Callee P w K mg base "is_dealing" qO [] 5 false aM jo)(Z:gu K "owns" lE)(ac:gu K "ring" on):CalleeM P w K mg base "shows" BI 7 (fun x=>x == "Goes") cM qK:=by
 refine Ad (k:=6) (fs:=pj) (m':=jR) A Iu rfl (fun _ _ _ _ _ _ us hl=>by obtain⟨u0,u1,u2,rfl⟩:=sR us hl;kernel_rfl) fun f cdv A outer s H g E hr=>?_;have BT:=ju hr;have ld:=hr.units;exact(ak (cb 3 Iu.nd (jf (aV Y (aj (ah 1) aO)) (jx (aV z (aj (bE (pV Z (ah 0))) (aj (bE (cE (by rfl) T.b_len (aQ (ah 1) aR))) aO))))))
   (ak (bb (jf (v_ 3) (jf (aV U (aj (ah 1) (aj (ah 2) aO))) (jx (aV ad (aj (ah 1) (bH (pV Z (ah 0)) (aj (ah 2) (aj (bE (pV ac (ah 0))) aO)))))))))
   av))
abbrev Bf:Stmt:=bS 12
abbrev IE:List Str:=["wishes","order"]
abbrev BE:List Str:=["wishes","order"]
theorem Sg:FnScope IE BE (aa Bf):=bV
def pq:FS:=(af (bI cM (aK (f2 (gv 1) (fun _=>Res.ok D.non) nI)) (af (aw cM (fC (ag (fC (ag (gv 0) ae) lenD) ae) iw)) aq) aq) (af (bI cM (bQ (bu (aF (ag (gv 1) (ag (fC (ag (gv 0) ae) lenD) ae)) [] kN))) (af (tp cM "NoOrder" "at" (ag (aF (ag (gv 1) (ag (fC (ag (gv 0) ae) lenD) ae)) [] pi) ae)) aq) aq) (af (aw cM (fC (ag (gv 1) ae) gI)) aq)))
def pv:List D->Res D:=fun ds=>aH false (pq (a9 IE.length ds))
theorem O3(T:Txt K mg)(A:DefAtD K mg "order_of" Bf [Value.none])(z:Callee P w K mg base "has_each_once" wQ [] 5 false aM kN)(Y:Callee P w K mg base "first_wrong" vZ [] 3 false aM pi){U:Addr}(Z:XCI P w K mg base "NoOrder" U "at")(ac:XN K "NoOrder" U):CalleeX P w K mg base "order_of" BE [] 6 false cM pv:=by
 refine GV (k:=5) (fs:=pq) (m':=cM) A Sg rfl (fun _ _ _ _ _ _ _ us hl=>by obtain⟨u0,u1,rfl⟩:=pT us hl;exact⟨_,rfl,rfl⟩) fun f cdv A outer s H g E hr=>?_;have ld:=ju hr;have ad:=hr.units;exact(ak (aP (nz (ah 1) (bE ix)) (ak (bb (SO.toE (mI rfl (by rfl) T.b_list (by rfl) T.b_range (aQ (bE (cE (by rfl) T.b_len (aQ (ah 0) aR))) aR))))
   av)
   av)
   (ak (aP (fS (d9 (bE (aV z (aj (ah 1) (aj (bE (cE (by rfl) T.b_len (aQ (ah 0) aR))) aO)))))) (ak (OR rfl Z ac (hr.mono (by decide)) (by rfl) (bh (aV Y (aj (ah 1) (aj (bE (cE (by rfl) T.b_len (aQ (ah 0) aR))) aO))) ca))
   av)
   av)
   (ak (bb (SO.toE (kg (by rfl) T.b_list (aQ (ah 1) aR))))
   av)))
abbrev qI:Stmt:=bS 17
abbrev vM:List Str:=["got"]
abbrev BM:List Str:=["got"]
theorem Iw:FnScope vM BM (aa qI):=bV
def Bb:FS:=(af (aw [Md.bw] (fC (ag (cy 1 [0] (dN dj (ag (fC (ag (gv 0) ae) lenD) ae)) (aG 0) (fun _=>Res.ok true) (f2 (gv 1) (gv 0) ax)) ae) tupD)) aq)
def vL:List D->Res D:=fun ds=>aH false (Bb (a9 vM.length ds))
theorem Pw(T:Txt K mg)(A:DefAt K mg "dealing_of" qI):Callee P w K mg base "dealing_of" BM [] 1 false [Md.bw] vL:=
 cu (m':=[Md.bw]) A Iw fun f cdv A outer s H g E hr z=>(ak (bb (iz (by rfl) T.b_tuple (aQ (SO.toB (g9 (X:=(ba bZ P w K mg base vM "dealing_of" (aa qI) f cdv A outer s H E).nox) (N':=["hand","got"]) (nl:=1) (cap:=[0]) Iw.nd rfl (dS (osc:=(aa qI)) (ON:=vM) rfl rfl (by decide+kernel)) (i7.toC (kH (by rfl) T.b_range (aQ (bE (cE (by rfl) T.b_len (aQ (ah 0) aR))) aR))) (fun _ _ _ _ _ _=>(bK 0 (show M_ (["hand","got"]:List Str)by decide+kernel))) (cU (by decide)) (fun _ _ _ _ _ _=>fX) (fun _ _ _ _ _ _=>(di z (ah 1) (ah 0))))) aR)))
   av)
abbrev qr:Stmt:=bS 15
abbrev vG:List Str:=["row","things"]
abbrev Bp:List Str:=["row","things"]
theorem IG:FnScope vG Bp (aa qr):=bV
def Bj:FS:=(af (aw aM (f2 (cy 1 [1] (aU bN (gv 0)) (aG 0) (aK (f2 (gv 0) (gv 1) eU)) (gv 0)) (ci 0) ax)) aq)
def qu:List D->Res D:=fun ds=>aH false (Bj (a9 vG.length ds))
theorem ND(T:Txt K mg)(A:DefAt K mg "best_left" qr):Callee P w K mg base "best_left" Bp [] 1 false aM qu:=
 cu (m':=aM) A IG fun f cdv A outer s H g E hr z=>(ak (bb (di z (SO.toB (g9 (X:=(ba bZ P w K mg base vG "best_left" (aa qr) f cdv A outer s H E).nox) (N':=["thing","things"]) (nl:=1) (cap:=[1]) IG.nd rfl (dS (osc:=(aa qr)) (ON:=vG) rfl rfl (by decide+kernel)) (eI (ah 0)) (fun _ _ _ _ _ _=>(bK 0 (show M_ (["thing","things"]:List Str)by decide+kernel))) (cU (by decide)) (fun _ _ _ _ _ _=>(oJ (ib z (ah 0) (ah 1)))) (fun _ _ _ _ _ _=>(v_ 0)))) iB))
   av)
abbrev Bu:Stmt:=bS 39
abbrev Iz:List Str:=["wishes","order","things","got","hand"]
abbrev BL:List Str:=["wishes","order"]
theorem wC:FnScope Iz BL (aa Bu):=bV
abbrev IR:FS:=(af (putF iV 3 (gv 4) (aF (ag (f2 (gv 0) (gv 4) ax) (ag (gv 2) ae)) [] qu)) (af (cH "list" iV 2 (ag (f2 (gv 3) (gv 4) ax) ae) remD) aq))
def pk:FS:=(af (ap [.sh,.sh,.sh,.sh,.sh] 2 (fC (ag (aF (ag (gv 0) ae) [] hV) ae) iw)) (af (ap [.sh,.sh,.ow,.sh,.sh] 3 (fun _=>Res.ok (D.dic []))) (af (tJ iV (aU bN (iq (ag (gv 0) (ag (gv 1) ae)) [] pv)) (aG 4) IR) (af (aw iV (aF (ag (gv 3) ae) [] vL)) aq))))
def kM:List D->Res D:=fun ds=>aH false (pk (a9 Iz.length ds))
theorem Pv(T:Txt K mg)(A:DefAtD K mg "by_order" Bu [Value.none])(Y:Callee P w K mg base "things_in" mY [] 1 false [Md.bw] hV)(z:CalleeX P w K mg base "order_of" BE [] 6 false cM pv)(Z:Callee P w K mg base "best_left" Bp [] 1 false aM qu)(U:Callee P w K mg base "dealing_of" BM [] 1 false [Md.bw] vL):CalleeX P w K mg base "by_order" BL [] 7 false cM kM:=by
 refine GV (k:=6) (fs:=pk) (m':=iV) A wC rfl (fun _ _ _ _ _ _ _ us hl=>by obtain⟨u0,u1,rfl⟩:=pT us hl;exact⟨_,rfl,rfl⟩) fun f cdv A outer s H g E hr=>?_;have ac:=ju hr;have ad:=hr.units;exact(ak (eu 2 wC.nd (by rfl) (dM rfl) (mI rfl (by rfl) T.b_list (by rfl) T.b_range (aQ (bE (aV Y (aj (ah 0) aO))) aR)))
   (ak (eu 3 wC.nd (by rfl) (dM rfl) zM)
   (ak (MA rfl (yG (Fu z (hr.mono (by decide)) (bH (v_ 0) (bH (v_ 1) aO)))) (bK 4 wC.nd) (ak (jh 3 ac rfl (by rfl) (dh rfl) (ah 4) (aV Z (aj (xB ac (ah 0) (ah 4)) (aj (ah 2) aO))))
   (ak (jw 2 rfl F_ Wq W6 uS tU (by rfl) (dh rfl) (bh (di ac (ah 3) (ah 4)) ca))
   av)))
   (ak (bb (aV U (aj (ah 3) aO)))
   av))))
abbrev mM:Stmt:=oP (bS 43) 1
abbrev IM:List Str:=["self","wishes","told"]
abbrev BV:List Str:=["self","wishes","told"]
theorem Sl:FnScope IM BV (aa mM):=bV
def pA:FS:=(af (jK dX vA (af (aw dX (cq (aF (ag (gv 1) (ag (gv 2) ae)) [] jo) (f2 (iq (ag (gv 1) (ag (f1 (gv 0) (dg kj "order")) ae)) [] kM) (gv 2) eqD))) aq) (af (aw dX (fun _=>Res.ok (D.bl false))) aq)) aq)
def m6:List D->Res D:=fun ds=>aH false (pA (a9 IM.length ds))
theorem QQ(T:Txt K mg)(A:MethAt K "Ordered" "shows" "Ordered.shows" mM)(Z:CalleeX P w K mg base "by_order" BL [] 7 false cM kM)(ac:Callee P w K mg base "is_dealing" qO [] 5 false aM jo){z:Addr}{Y:List a_}(U:XA K z Y)(ld:mg "NoOrder" = some (.ref z))(ad:pH K z vA)(BT:gu K "order" kj):CalleeM P w K mg base "shows" BV 8 (fun x=>x == "Ordered") cM m6:=by
 refine Ad (k:=7) (fs:=pA) (m':=dX) A Sl rfl (fun _ _ _ _ _ _ us hl=>by obtain⟨u0,u1,u2,rfl⟩:=sR us hl;kernel_rfl) fun f cdv A outer s H g E hr=>?_;have Id:=ju hr;have Cl:=hr.units;exact(ak (ME (bmT:=Y) (m1:=dX) rfl rfl rfl ld U.ob U.be ad (by rfl) (fun _ _=>(ak (bb (jf (aV ac (aj (ah 1) (aj (ah 2) aO))) (jx (hZ Cl (bE (Fu Z (hr.mono (by decide)) (bH (v_ 1) (bH (pV BT (ah 0)) aO)))) (ah 2)))))
   av)) (fun _=>(ak (bb cG)
   av)))
   av)
abbrev BR:Stmt:=bS 30
abbrev Je:List Str:=["way"]
abbrev Cf:List Str:=["way"]
theorem Ss:FnScope Je Cf (aa BR):=bV
def Cb:FS:=(af (aw [Md.bw] (cq (f2 (fC (ag (gv 0) ae) lenD) (ci 1) jX) (f2 (d5 (ag (f2 (gv 0) (ci 0) ax) (ag (fC (ag (gv 0) ae) lenD) ae))) (d5 (ag (d5 (ag (fun _=>Res.ok (D.str "ring")) (ag (ci 2) ae))) (ag (d5 (ag (fun _=>Res.ok (D.str "line")) (ag (ci 3) ae))) ae))) inT))) aq)
def rj:List D->Res D:=fun ds=>aH false (Cb (a9 Je.length ds))
theorem Q6(T:Txt K mg)(A:DefAt K mg "has_form_of_way" BR):Callee P w K mg base "has_form_of_way" Cf [] 1 false [Md.bw] rj:=
 cu (m':=[Md.bw]) A Ss fun f cdv A outer s H g E hr U=>have z:=hr.units;(ak (bb (jf (CQ (bE (cE (by rfl) T.b_len (aQ (ah 0) aR))) iB) (jx (JW z (bE (gz (bh (di U (ah 0) iB) (bh (cE (by rfl) T.b_len (aQ (ah 0) aR)) ca)))) (bE (gz (bh (gz (bh ka (bh n6 ca))) (bh (gz (bh ka (bh n6 ca))) ca))))))))
   av)
abbrev BH:Stmt:=bS 29
abbrev IH:List Str:=["wishes","dealing","thing"]
abbrev B7:List Str:=["wishes","dealing","thing"]
theorem Sq:FnScope IH B7 (aa BH):=bV
def B2:FS:=(af (aw cw (cq (aF (ag (gv 2) (ag (aF (ag (gv 0) ae) [] hV) ae)) [] jI) (f2 (gv 2) (gv 1) cZ))) aq)
def vR:List D->Res D:=fun ds=>aH false (B2 (a9 IH.length ds))
theorem Ql(T:Txt K mg)(A:DefAt K mg "is_left_over" BH)(z:Callee P w K mg base "things_in" mY [] 1 false [Md.bw] hV)(U:Callee P w K mg base "is_below" qv [] 2 false aM jI):Callee P w K mg base "is_left_over" B7 [] 3 false cw vR:=
 cu (m':=cw) A Sq fun f cdv A outer s H g E hr Y=>(ak (bb (jf (aV U (aj (ah 2) (aj (bE (aV z (aj (ah 0) aO))) aO))) (jx (JX Y (ah 2) (ah 1)))))
   av)
abbrev q8:Stmt:=bS 28
abbrev vU:List Str:=["dealing","way","things"]
abbrev B8:List Str:=["dealing","way"]
theorem IX:FnScope vU B8 (aa q8):=bV
def qS:FS:=(af (ap dI 2 (cy 1 [0] (aU bN (aF (ag (f2 (gv 1) (ci 1) ax) ae) [] jp)) (aG 0) (fun _=>Res.ok true) (f2 (gv 1) (gv 0) ax))) (af (bI iU (aK (f2 (f2 (gv 1) (ci 0) ax) (fun _=>Res.ok (D.str "line")) eqD)) (af (putF iU 2 (f1 (ci 1) gj) (f2 (gv 1) (ci 2) ax)) aq) aq) (af (aw dI (gv 2)) aq)))
def m4:List D->Res D:=fun ds=>aH false (qS (a9 vU.length ds))
theorem Qm(T:Txt K mg)(A:DefAt K mg "things_along" q8)(z:Callee P w K mg base "ones_behind" wA [] 1 false [Md.bw] jp):Callee P w K mg base "things_along" B8 [] 2 false aM m4:=
 cu (m':=dI) A IX fun f cdv A outer s H g E hr U=>have Y:=hr.units;(ak (ko 2 (X:=(ba bZ P w K mg base vU "things_along" (aa q8) f cdv A outer s H E).nox) (m:=dI) (N':=["hand","dealing"]) (nl:=1) (cap:=[0]) IX.nd rfl (by rfl) (by rfl) (dS (osc:=(aa q8)) (ON:=vU) rfl rfl (by decide+kernel)) (eI (bE (aV z (aj (xB U (ah 1) iB) aO)))) (fun _ _ _ _ _ _=>(bK 0 (show M_ (["hand","dealing"]:List Str)by decide+kernel))) (cU (by decide)) (fun _ _ _ _ _ _=>fX) (fun _ _ _ _ _ _=>(di U (ah 1) (ah 0))))
   (ak (aP (bP Y (xB U (ah 1) iB) (bE ka)) (ak (jh 2 U rfl (by rfl) (dh rfl) (bE (n8 iB)) (di U (ah 1) iB))
   av)
   av)
   (ak (pW 2 rfl (bb (v_ 2)))
   av)))
abbrev qR:Stmt:=bS 31
abbrev wP:List Str:=["wishes","dealing","way"]
abbrev BY:List Str:=["wishes","dealing","way"]
theorem IU:FnScope wP BY (aa qR):=bV
def m5:FS:=(af (bI cw (dq (bQ (bu (aF (ag (gv 2) ae) [] rj))) (dq (bQ (bu (f2 (gv 2) (ci 1) ax))) (bQ (bu (aF (ag (f2 (gv 2) (ci 1) ax) (ag (fC (ag (gv 0) ae) lenD) ae)) [] iP))))) (af (aw cw (fun _=>Res.ok (D.bl false))) aq) aq) (af (bI cw (c7 (aK (f2 (f2 (gv 2) (ci 0) ax) (fun _=>Res.ok (D.str "line")) eqD)) (bQ (bu (aF (ag (gv 0) (ag (gv 1) (ag (f2 (gv 2) (ci 2) ax) ae))) [] vR)))) (af (aw cw (fun _=>Res.ok (D.bl false))) aq) aq) (af (aw cw (fC (ag (cy 2 [0,1] (il (f2 (gv 2) (ci 1) ax) (aF (ag (gv 1) (ag (gv 2) ae)) [] m4)) (c6 (bq (aG 0) (bq (aG 1) cW))) (fun _=>Res.ok true) (aF (ag (gv 2) (ag (gv 0) (ag (gv 1) (ag (f2 (gv 3) (gv 0) ax) ae)))) [] jl)) ae) allD)) aq)))
def lR:List D->Res D:=fun ds=>aH false (m5 (a9 wP.length ds))
theorem QU(T:Txt K mg)(A:DefAt K mg "is_betterment" qR)(Z:Callee P w K mg base "are_unlike" pw [] 4 false aM iP)(z:Callee P w K mg base "has_form_of_way" Cf [] 1 false [Md.bw] rj)(Y:Callee P w K mg base "is_left_over" B7 [] 3 false cw vR)(U:Callee P w K mg base "things_along" B8 [] 2 false aM m4)(ad:Callee P w K mg base "likes" oN [] 1 false cf jl):Callee P w K mg base "is_betterment" BY [] 5 false cw lR:=
 cu (m':=cw) A IU fun f cdv A outer s H g E hr ac=>have ld:=hr.units;(ak (aP (SW.toQ (cP (fS (d9 (bE (aV z (aj (ah 2) aO))))) (cP (fS (d9 (xB ac (ah 2) iB))) (jv (fS (d9 (bE (aV Z (aj (xB ac (ah 2) iB) (aj (bE (cE (by rfl) T.b_len (aQ (ah 0) aR))) aO)))))))))) (ak (bb cG)
   av)
   av)
   (ak (aP (SW.toQ (l9 (bP ld (xB ac (ah 2) iB) (bE ka)) (oH (fS (d9 (bE (aV Y (aj (ah 0) (aj (ah 1) (aj (xB ac (ah 2) iB) aO)))))))))) (ak (bb cG)
   av)
   av)
   (ak (bb (JU rfl (by rfl) T.b_all (aQ (SO.toB (g9 (X:=(ba bZ P w K mg base wP "is_betterment" (aa qR) f cdv A outer s H E).nox) (N':=["hand","thing","wishes","dealing"]) (nl:=2) (cap:=[0,1]) IU.nd rfl (dS (osc:=(aa qR)) (ON:=wP) rfl rfl (by decide+kernel)) (i7.toC (yH (by rfl) T.b_zip (di ac (ah 2) iB) (aV U (aj (ah 1) (aj (ah 2) aO))))) (fun _ _ _ _ _ _=>(gH rfl (cY (bK 0 (show M_ (["hand","thing","wishes","dealing"]:List Str)by decide+kernel)) (cY (bK 1 (show M_ (["hand","thing","wishes","dealing"]:List Str)by decide+kernel)) gG)))) (jB (fm (cU (by decide)) (fm (cU (by decide)) jG))) (fun _ _ _ _ _ _=>fX) (fun _ _ _ _ _ _=>(aV ad (aj (ah 2) (aj (ah 0) (aj (ah 1) (aj (xB ac (ah 3) (ah 0)) aO)))))))) aR)))
   av)))
abbrev mK:Stmt:=oP (bS 44) 1
abbrev IL:List Str:=["self","wishes","told"]
abbrev BU:List Str:=["self","wishes","told"]
theorem Sk:FnScope IL BU (aa mK):=bV
def vX:FS:=(af (aw dX (cq (aF (ag (gv 1) (ag (gv 2) ae)) [] jo) (aF (ag (gv 1) (ag (gv 2) (ag (f1 (gv 0) (dg oh "way")) ae))) [] lR))) aq)
def qW:List D->Res D:=fun ds=>aH false (vX (a9 IL.length ds))
theorem QP(T:Txt K mg)(A:MethAt K "Betters" "shows" "Betters.shows" mK)(z:Callee P w K mg base "is_betterment" BY [] 5 false cw lR)(U:Callee P w K mg base "is_dealing" qO [] 5 false aM jo)(Y:gu K "way" oh):CalleeM P w K mg base "shows" BU 6 (fun x=>x == "Betters") cM qW:=by
 refine Ad (k:=5) (fs:=vX) (m':=dX) A Sk rfl (fun _ _ _ _ _ _ us hl=>by obtain⟨u0,u1,u2,rfl⟩:=sR us hl;kernel_rfl) fun f cdv A outer s H g E hr=>?_;have ac:=ju hr;have Z:=hr.units;exact(ak (bb (jf (aV U (aj (ah 1) (aj (ah 2) aO))) (jx (aV z (aj (ah 1) (aj (ah 2) (aj (bE (pV Y (ah 0))) aO)))))))
   av)
abbrev G9:List Str:=["self","wishes","told"]
abbrev oX:Str->Bool:=(fun nm=>(fun x:Str=>x == "Goes") nm || (fun nm=>(fun x:Str=>x == "Ordered") nm || (fun x:Str=>x == "Betters") nm) nm)
abbrev pc:List D->Res D:=(yC (fun x:Str=>x == "Goes") qK (yC (fun x:Str=>x == "Ordered") m6 qW))
theorem Mo(Y:CalleeM P w K mg base "shows" BI 7 (fun x=>x == "Goes") cM qK)(z:CalleeM P w K mg base "shows" BV 8 (fun x=>x == "Ordered") cM m6)(U:CalleeM P w K mg base "shows" BU 6 (fun x=>x == "Betters") cM qW):CalleeM P w K mg base "shows" G9 8 oX cM pc:=((Y.mono (k:=8) (by decide)).or ((z.mono (k:=8) (by decide)).or (U.mono (k:=8) (by decide))))
abbrev Bq:Stmt:=bS 63
abbrev Ig:List Str:=["_law_papers","_law_wishes_here","_law_dealing","_law_dues","_law_turn","_law_paper","_law_due","_law_found"]
abbrev BJ:List Str:=["_law_papers","_law_wishes_here","_law_dealing","_law_dues"]
theorem qX:FnScope Ig BJ (aa Bq):=bV
abbrev IP:FS:=(af (ap ic 7 (xX oX "shows" (gv 5) (ag (gv 1) (ag (gv 2) ae)) pc)) (af (bI ic (dq (bQ (bu (f1 (gv 5) (sP my)))) (dq (bQ (bu (f1 (gv 7) (ij "bool")))) (aK (f2 (gv 7) (gv 6) neD)))) (af (aw ic (fun _=>Res.ok (D.bl false))) aq) aq) aq))
abbrev IQ:FS:=(af (eF ic (il (gv 0) (gv 3)) (c6 (bq (aG 5) (bq (aG 6) cW))) IP) aq)
def A8:FS:=(af (eF ic (dN dj (ag (ci 2) ae)) (aG 4) IQ) (af (aw ic (fun _=>Res.ok (D.bl true))) aq))
def pr:List D->Res D:=fun ds=>aH false (A8 (a9 Ig.length ds))
theorem Ps(T:Txt K mg)(A:DefAt K mg "_law_asked" Bq)(U:CalleeM P w K mg base "shows" G9 8 oX cM pc){z:Addr}(Z:mg "Paper" = some (.ref z))(Y:lw K (.ref z) my):Callee P w K mg base "_law_asked" BJ [] 9 false jR pr:=
 cu (m':=ic) A qX fun f cdv A outer s H g E hr ad=>have ac:=hr.units;(ak (jg N_ rfl (kH (by rfl) T.b_range (aQ iB aR)) (bK 4 qX.nd) (ak (jg N_ rfl (yH (by rfl) T.b_zip (v_ 0) (v_ 3)) (gH rfl (cY (bK 5 qX.nd) (cY (bK 6 qX.nd) gG))) (ak (cb 7 qX.nd (MB U (hr.mono (by decide)) (v_ 5) (bH (v_ 1) (bH (v_ 2) aO))))
   (ak (aP (SW.toQ (cP (fS (d9 (bE (EX Z Y (by rfl) (by rfl) T.b_isinstance (ah 5))))) (cP (fS (d9 (bE (pX "bool" "bool" rfl (GR _) (by rfl) T.b_isinstance (by rfl) T.b_bool (ah 7))))) (jv (h9 ac (ah 7) (ah 6)))))) (ak (bb cG)
   av)
   av)
   av)))
   av))
   (ak (bb cG)
   av))
abbrev Br:Stmt:=bS 53
abbrev Ii:List Str:=["_law_wishes_here","_law_hand","_law_one","_law_other"]
abbrev vN:List Str:=["_law_wishes_here","_law_hand","_law_one","_law_other"]
theorem RK:FnScope Ii vN (aa Br):=bV
def A9:FS:=(af (aw cf (f2 (fM "tuple" (f2 (gv 0) (gv 1) ax) (ag (gv 2) ae) oQ) (fM "tuple" (f2 (gv 0) (gv 1) ax) (ag (gv 3) ae) oQ) fH)) aq)
def m9:List D->Res D:=fun ds=>aH false (A9 (a9 Ii.length ds))
theorem Fi(T:Txt K mg)(A:DefAt K mg "_law_likes" Br):Callee P w K mg base "_law_likes" vN [] 1 false cf m9:=
 cu (m':=cf) A RK fun f cdv A outer s H g E hr z=>(ak (bb (rV (bE (fB W7 Wp W8 uR uQ (xB z (ah 0) (ah 1)) (aQ (ah 2) aR))) (bE (fB W7 Wp W8 uR uQ (xB z (ah 0) (ah 1)) (aQ (ah 3) aR)))))
   av)
abbrev kL:Stmt:=bS 54
abbrev lP:List Str:=["_law_wishes_here","_law_owns_here","_law_dealing","_law_ring","_law_hands","_law_k"]
abbrev Bm:List Str:=["_law_wishes_here","_law_owns_here","_law_dealing","_law_ring"]
theorem qF:FnScope lP Bm (aa kL):=bV
abbrev rh:FS:=(af (bI bT (aK (f2 (f2 (f2 (gv 3) (gv 5) ax) (ci 1) ax) (f2 (gv 1) (f2 (gv 4) (f2 (f2 (gv 5) (ci 1) addA) (fC (ag (gv 4) ae) lenD) az) ax) ax) neD)) (af (aw bT (fun _=>Res.ok (D.bl false))) aq) aq) aq)
def Bh:FS:=(af (ap gb 4 (cy 2 [] (aU bN (gv 3)) (c6 (bq (aG 0) (bq (aG 1) cW))) (fun _=>Res.ok true) (gv 0))) (af (bI bT (dq (aK (f2 (fC (ag (gv 3) ae) lenD) (ci 0) eqD)) (dq (aK (f2 (fC (ag (gv 4) ae) je) (f2 (gv 4) (ci 0) ax) neD)) (dq (aK (f2 (f2 (gv 4) (ci 0) ax) (ci 0) fH)) (aK (f2 (fC (ag (gv 4) ae) mv) (fC (ag (gv 1) ae) lenD) sv))))) (af (aw bT (fun _=>Res.ok (D.bl false))) aq) aq) (af (bI bT (aK (f2 (f1 (gv 4) lB) (fC (ag (gv 4) ae) lenD) fH)) (af (aw bT (fun _=>Res.ok (D.bl false))) aq) aq) (af (eF bT (dN dj (ag (fC (ag (gv 3) ae) lenD) ae)) (aG 5) rh) (af (bI bT (bu (fC (ag (cy 2 [0,2] (aU bN (gv 3)) (c6 (bq (aG 0) (bq (aG 1) cW))) (fun _=>Res.ok true) (aF (ag (gv 2) (ag (gv 0) (ag (f2 (gv 3) (gv 0) ax) (ag (gv 1) ae)))) [] m9)) ae) anyD)) (af (aw bT (fun _=>Res.ok (D.bl false))) aq) aq) (af (aw bT (fC (ag (cy 2 [2] (aU bN (gv 3)) (c6 (bq (aG 0) (bq (aG 1) cW))) (fun _=>Res.ok true) (f2 (f2 (gv 2) (gv 0) ax) (gv 1) neD)) ae) anyD)) aq))))))
def qt:List D->Res D:=fun ds=>aH false (Bh (a9 lP.length ds))
theorem NA(T:Txt K mg)(A:DefAt K mg "_law_goes" kL)(U:Callee P w K mg base "_law_likes" vN [] 1 false cf m9):Callee P w K mg base "_law_goes" Bm [] 2 false cf qt:=
 cu (m':=bT) A qF fun f cdv A outer s H g E hr z=>have Y:=hr.units;(ak (ko 4 (X:=(ba bZ P w K mg base lP "_law_goes" (aa kL) f cdv A outer s H E).nox) (m:=gb) (N':=["_law_hand","_law_thing"]) (nl:=2) (cap:=[]) qF.nd rfl (by rfl) (by rfl) (dS (osc:=(aa kL)) (ON:=lP) rfl rfl (by decide+kernel)) (eI (ah 3)) (fun _ _ _ _ _ _=>(gH rfl (cY (bK 0 (show M_ (["_law_hand","_law_thing"]:List Str)by decide+kernel)) (cY (bK 1 (show M_ (["_law_hand","_law_thing"]:List Str)by decide+kernel)) gG)))) (jB (fm (cU (by decide)) (fm (cU (by decide)) jG))) (fun _ _ _ _ _ _=>fX) (fun _ _ _ _ _ _=>(v_ 0)))
   (ak (aP (SW.toQ (cP (bP Y (bE (cE (by rfl) T.b_len (aQ (ah 3) aR))) iB) (cP (h9 Y (bE (tt rfl (by rfl) T.b_min (aQ (ah 4) aR))) (xB z (ah 4) iB)) (cP (jP (xB z (ah 4) iB) iB) (jv (sg (bE (EY rfl (by rfl) T.b_max (aQ (ah 4) aR))) (bE (cE (by rfl) T.b_len (aQ (ah 1) aR))))))))) (ak (bb cG)
   av)
   av)
   (ak (aP (jP (bE (GA rfl (by rfl) T.b_len (by rfl) T.b_set (ah 4))) (bE (cE (by rfl) T.b_len (aQ (ah 4) aR)))) (ak (bb cG)
   av)
   av)
   (ak (jg N_ rfl (kH (by rfl) T.b_range (aQ (bE (cE (by rfl) T.b_len (aQ (ah 3) aR))) aR)) (bK 5 qF.nd) (ak (aP (h9 Y (xB z (xB z (ah 3) (ah 5)) iB) (xB z (ah 1) (xB z (ah 4) (bE (cm (bE (eG (ah 5) iB)) (bE (cE (by rfl) T.b_len (aQ (ah 4) aR)))))))) (ak (bb cG)
   av)
   av)
   av))
   (ak (aP (d9 (bE (sY rfl (by rfl) T.b_any (aQ (SO.toB (g9 (X:=(ba bZ P w K mg base lP "_law_goes" (aa kL) f cdv A outer s H E).nox) (N':=["_law_hand","_law_thing","_law_wishes_here","_law_dealing"]) (nl:=2) (cap:=[0,2]) qF.nd rfl (dS (osc:=(aa kL)) (ON:=lP) rfl rfl (by decide+kernel)) (eI (ah 3)) (fun _ _ _ _ _ _=>(gH rfl (cY (bK 0 (show M_ (["_law_hand","_law_thing","_law_wishes_here","_law_dealing"]:List Str)by decide+kernel)) (cY (bK 1 (show M_ (["_law_hand","_law_thing","_law_wishes_here","_law_dealing"]:List Str)by decide+kernel)) gG)))) (jB (fm (cU (by decide)) (fm (cU (by decide)) jG))) (fun _ _ _ _ _ _=>fX) (fun _ _ _ _ _ _=>(aV U (aj (ah 2) (aj (ah 0) (aj (xB z (ah 3) (ah 0)) (aj (ah 1) aO)))))))) aR)))) (ak (bb cG)
   av)
   av)
   (ak (bb (sY rfl (by rfl) T.b_any (aQ (SO.toB (g9 (X:=(ba bZ P w K mg base lP "_law_goes" (aa kL) f cdv A outer s H E).nox) (N':=["_law_hand","_law_thing","_law_dealing"]) (nl:=2) (cap:=[2]) qF.nd rfl (dS (osc:=(aa kL)) (ON:=lP) rfl rfl (by decide+kernel)) (eI (ah 3)) (fun _ _ _ _ _ _=>(gH rfl (cY (bK 0 (show M_ (["_law_hand","_law_thing","_law_dealing"]:List Str)by decide+kernel)) (cY (bK 1 (show M_ (["_law_hand","_law_thing","_law_dealing"]:List Str)by decide+kernel)) gG)))) (jB (fm (cU (by decide)) (fm (cU (by decide)) jG))) (fun _ _ _ _ _ _=>fX) (fun _ _ _ _ _ _=>(CP Y (xB z (ah 2) (ah 0)) (ah 1))))) aR)))
   av))))))
abbrev qQ:Stmt:=bS 55
abbrev wO:List Str:=["_law_wishes_here","_law_owns_here","_law_dealing","_law_ring","_law_n"]
abbrev BW:List Str:=["_law_wishes_here","_law_owns_here","_law_dealing","_law_ring"]
theorem Cn:FnScope wO BW (aa qQ):=bV
def qU:FS:=(af (ap gO 4 (fC (ag (gv 0) ae) lenD)) (af (bI gO (dq (aK (f2 (fC (ag (f2 (gv 0) (ci 0) ax) ae) lenD) (gv 4) jX)) (dq (aK (f2 (fC (ag (gv 1) ae) lenD) (gv 4) neD)) (aK (f2 (fC (ag (cy 1 [] (aU bN (gv 1)) (aG 0) (aK (f2 (gv 0) (fun _=>Res.ok D.non) gp)) (gv 0)) ae) oq) (fC (ag (gv 4) ae) iw) neD)))) (af (aw gO (fun _=>Res.ok (D.bl false))) aq) aq) (af (aw gO (aF (ag (gv 0) (ag (gv 1) (ag (gv 2) (ag (gv 3) ae)))) [] qt)) aq)))
def rH:List D->Res D:=fun ds=>aH false (qU (a9 wO.length ds))
theorem QR(T:Txt K mg)(A:DefAt K mg "_law_goes_any" qQ)(z:Callee P w K mg base "_law_goes" Bm [] 2 false cf qt):Callee P w K mg base "_law_goes_any" BW [] 3 false cf rH:=
 cu (m':=gO) A Cn fun f cdv A outer s H g E hr Y=>have U:=hr.units;(ak (cb 4 Cn.nd (cE (by rfl) T.b_len (aQ (ah 0) aR)))
   (ak (aP (SW.toQ (cP (jQ (bE (cE (by rfl) T.b_len (aQ (xB Y (ah 0) iB) aR))) (ah 4)) (cP (h9 U (bE (cE (by rfl) T.b_len (aQ (ah 1) aR))) (ah 4)) (jv (h9 U (SO.toB (Hy hr (by rfl) T.b_sorted (aQ (SO.toB (g9 (X:=(ba bZ P w K mg base wO "_law_goes_any" (aa qQ) f cdv A outer s H E).nox) (N':=["_law_thing"]) (nl:=1) (cap:=[]) Cn.nd rfl (dS (osc:=(aa qQ)) (ON:=wO) rfl rfl (by decide+kernel)) (eI (ah 1)) (fun _ _ _ _ _ _=>(bK 0 (show M_ (["_law_thing"]:List Str)by decide+kernel))) (cU (by decide)) (fun _ _ _ _ _ _=>(oJ (Ey (ah 0) (bE ix)))) (fun _ _ _ _ _ _=>(v_ 0)))) aR))) (SO.toB (mI rfl (by rfl) T.b_list (by rfl) T.b_range (aQ (ah 4) aR)))))))) (ak (bb cG)
   av)
   av)
   (ak (bb (aV z (aj (ah 0) (aj (ah 1) (aj (ah 2) (aj (ah 3) aO))))))
   av)))
abbrev rB:Stmt:=bS 57
abbrev wK:List Str:=["_law_dealing","_law_way","_law_things"]
abbrev Ce:List Str:=["_law_dealing","_law_way"]
theorem Jd:FnScope wK Ce (aa rB):=bV
def Ca:FS:=(af (ap dI 2 (cy 1 [0] (aU bN (cO (f2 (gv 1) (ci 1) ax) (dw (ci 1)) (fun _=>Res.ok none))) (aG 0) (fun _=>Res.ok true) (f2 (gv 1) (gv 0) ax))) (af (bI iU (aK (f2 (f2 (gv 1) (ci 0) ax) (fun _=>Res.ok (D.str "ring")) eqD)) (af (aw iU (f2 (gv 2) (dP (ag (f2 (gv 0) (f2 (f2 (gv 1) (ci 1) ax) (ci 0) ax) ax) ae)) addA)) aq) aq) (af (aw iU (f2 (gv 2) (dP (ag (f2 (gv 1) (ci 2) ax) ae)) addA)) aq)))
def ng:List D->Res D:=fun ds=>aH false (Ca (a9 wK.length ds))
theorem Q5(T:Txt K mg)(A:DefAt K mg "_law_things_got" rB):Callee P w K mg base "_law_things_got" Ce [] 1 false aM ng:=
 cu (m':=iU) A Jd fun f cdv A outer s H g E hr z=>have U:=hr.units;(ak (ko 2 (X:=(ba bZ P w K mg base wK "_law_things_got" (aa rB) f cdv A outer s H E).nox) (m:=dI) (N':=["_law_hand","_law_dealing"]) (nl:=1) (cap:=[0]) Jd.nd rfl (by rfl) (by rfl) (dS (osc:=(aa rB)) (ON:=wK) rfl rfl (by decide+kernel)) (eI (bE (jy (xB z (ah 1) iB) (fW iB) fV))) (fun _ _ _ _ _ _=>(bK 0 (show M_ (["_law_hand","_law_dealing"]:List Str)by decide+kernel))) (cU (by decide)) (fun _ _ _ _ _ _=>fX) (fun _ _ _ _ _ _=>(di z (ah 1) (ah 0))))
   (ak (aP (bP U (xB z (ah 1) iB) (bE ka)) (ak (bb (eG (ah 2) (SO.toB (fR (bh (di z (ah 0) (xB z (xB z (ah 1) iB) iB)) ca)))))
   av)
   av)
   (ak (bb (eG (ah 2) (SO.toB (fR (bh (di z (ah 1) iB) ca)))))
   av)))
abbrev BF:Stmt:=bS 58
abbrev IS:List Str:=["_law_wishes_here","_law_dealing","_law_way","_law_hands","_law_hand","_law_thing"]
abbrev B4:List Str:=["_law_wishes_here","_law_dealing","_law_way"]
theorem wL:FnScope IS B4 (aa BF):=bV
abbrev rC:FS:=(af (bI de (bQ (bu (aF (ag (gv 0) (ag (gv 4) (ag (gv 5) (ag (f2 (gv 1) (gv 4) ax) ae)))) [] m9))) (af (aw de (fun _=>Res.ok (D.bl false))) aq) aq) aq)
def pC:FS:=(af (ap de 3 (f2 (gv 2) (ci 1) ax)) (af (bI de (dq (aK (f2 (fC (ag (gv 3) ae) lenD) (ci 0) eqD)) (dq (aK (f2 (f1 (gv 3) lB) (fC (ag (gv 3) ae) lenD) fH)) (dq (aK (f2 (fC (ag (gv 3) ae) je) (ci 0) fH)) (aK (f2 (fC (ag (gv 3) ae) mv) (fC (ag (gv 0) ae) lenD) sv))))) (af (aw de (fun _=>Res.ok (D.bl false))) aq) aq) (af (bI de (c7 (aK (f2 (f2 (gv 2) (ci 0) ax) (fun _=>Res.ok (D.str "line")) eqD)) (dq (bQ (aK (jA (ci 0) (f2 (gv 2) (ci 2) ax) (fC (ag (f2 (gv 0) (ci 0) ax) ae) lenD) lj fH))) (aK (f2 (f2 (gv 2) (ci 2) ax) (gv 1) eU)))) (af (aw de (fun _=>Res.ok (D.bl false))) aq) aq) (af (eF de (il (gv 3) (aF (ag (gv 1) (ag (gv 2) ae)) [] ng)) (c6 (bq (aG 4) (bq (aG 5) cW))) rC) (af (aw de (fun _=>Res.ok (D.bl true))) aq)))))
def mZ:List D->Res D:=fun ds=>aH false (pC (a9 IS.length ds))
theorem Qi(T:Txt K mg)(A:DefAt K mg "_law_betters" BF)(z:Callee P w K mg base "_law_things_got" Ce [] 1 false aM ng)(Y:Callee P w K mg base "_law_likes" vN [] 1 false cf m9):Callee P w K mg base "_law_betters" B4 [] 2 false cw mZ:=
 cu (m':=de) A wL fun f cdv A outer s H g E hr U=>have Z:=hr.units;(ak (cb 3 wL.nd (di U (ah 2) iB))
   (ak (aP (SW.toQ (cP (bP Z (bE (cE (by rfl) T.b_len (aQ (ah 3) aR))) iB) (cP (jP (bE (GA rfl (by rfl) T.b_len (by rfl) T.b_set (ah 3))) (bE (cE (by rfl) T.b_len (aQ (ah 3) aR)))) (cP (jP (bE (tt rfl (by rfl) T.b_min (aQ (ah 3) aR))) iB) (jv (sg (bE (EY rfl (by rfl) T.b_max (aQ (ah 3) aR))) (bE (cE (by rfl) T.b_len (aQ (ah 0) aR))))))))) (ak (bb cG)
   av)
   av)
   (ak (aP (SW.toQ (l9 (bP Z (xB U (ah 2) iB) (bE ka)) (oH (SW.toQ (cP (fS (Pj Ei tj Ee Ef iB (xB U (ah 2) iB) (bE (cE (by rfl) T.b_len (aQ (xB U (ah 0) iB) aR))))) (jv (ib U (xB U (ah 2) iB) (ah 1)))))))) (ak (bb cG)
   av)
   av)
   (ak (jg N_ rfl (yH (by rfl) T.b_zip (v_ 3) (aV z (aj (ah 1) (aj (ah 2) aO)))) (gH rfl (cY (bK 4 wL.nd) (cY (bK 5 wL.nd) gG))) (ak (aP (fS (d9 (bE (aV Y (aj (ah 0) (aj (ah 4) (aj (ah 5) (aj (xB U (ah 1) (ah 4)) aO)))))))) (ak (bb cG)
   av)
   av)
   av))
   (ak (bb cG)
   av)))))
abbrev lL:Stmt:=bS 33
abbrev oW:List Str:=["value"]
abbrev mP:List Str:=["value"]
theorem uT:FnScope oW mP (aa lL):=bV
def mO(Fr:List D->Res D):FS:=(af (bI [Md.bw] (bu (f1 (gv 0) (ij "list"))) (af (aw [Md.bw] (cy 1 [] (aU bN (gv 0)) (aG 0) (fun _=>Res.ok true) (aF (ag (gv 0) ae) [] Fr))) aq) aq) (af (bI [Md.bw] (bu (f1 (gv 0) (ij "tuple"))) (af (aw [Md.bw] (fC (ag (cy 1 [] (aU bN (gv 0)) (aG 0) (fun _=>Res.ok true) (aF (ag (gv 0) ae) [] Fr)) ae) tupD)) aq) aq) (af (rW [Md.bw] (gv 0)) aq)))
def jm:Nat->List D->Res D
|0=>fun ds=>aH false (Out.stuck)
|n+1=>fun ds=>aH false (mO (jm n) (a9 oW.length ds))
abbrev kK:List D->Res D:=jm 6
theorem HU(T:Txt K mg)(A:DefAt K mg "copied" lL):∀n,Callee P w K mg base "copied" mP [] (n+1) false [Md.bw] (jm n)
|0=>zK (k:=0) (ms:=[Md.bw]) (fs:=fun _=>Out.stuck) (m':=[Md.bw]) A uT rfl (fun _ _ _ _ _ _ us hl=>by obtain⟨u0,rfl⟩:=Eb us hl;kernel_rfl) fun f cdv A outer s H g E hr=>⟨rfl,OU.2⟩
|n+1=>by
  have cr:Callee P w K mg base "copied" mP [] (n+1) false [Md.bw] (jm n):=HU T A n;refine zK (k:=n+1) (ms:=[Md.bw]) (fs:=mO (jm n)) (m':=[Md.bw]) A uT rfl (fun _ _ _ _ _ _ us hl=>by obtain⟨u0,rfl⟩:=Eb us hl;kernel_rfl) fun f cdv A outer s H g E hr=>?_;have U:=ju hr;have z:=hr.units;exact(ak (aP (d9 (bE (pX "list" "list" rfl (Om _) (by rfl) T.b_isinstance (by rfl) T.b_list (ah 0)))) (ak (bb (SO.toE (g9 (X:=(ba bZ P w K mg base oW "copied" (aa lL) f cdv A outer s H E).nox) (N':=["one"]) (nl:=1) (cap:=[]) uT.nd rfl (dS (osc:=(aa lL)) (ON:=oW) rfl rfl (by decide+kernel)) (eI (ah 0)) (fun _ _ _ _ _ _=>(bK 0 (show M_ (["one"]:List Str)by decide+kernel))) (cU (by decide)) (fun _ _ _ _ _ _=>fX) (fun _ _ _ _ _ _=>(zD (dds:=[]) cr (hr.mono (by omega)) (aj (ah 0) aO))))))
   av)
   av)
   (ak (aP (d9 (bE (pX "tuple" "tuple" rfl (Qr _) (by rfl) T.b_isinstance (by rfl) T.b_tuple (ah 0)))) (ak (bb (iz (by rfl) T.b_tuple (aQ (SO.toB (g9 (X:=(ba bZ P w K mg base oW "copied" (aa lL) f cdv A outer s H E).nox) (N':=["one"]) (nl:=1) (cap:=[]) uT.nd rfl (dS (osc:=(aa lL)) (ON:=oW) rfl rfl (by decide+kernel)) (eI (ah 0)) (fun _ _ _ _ _ _=>(bK 0 (show M_ (["one"]:List Str)by decide+kernel))) (cU (by decide)) (fun _ _ _ _ _ _=>fX) (fun _ _ _ _ _ _=>(zD (dds:=[]) cr (hr.mono (by omega)) (aj (ah 0) aO))))) aR)))
   av)
   av)
   (ak (MD (ah 0))
   av)))
theorem xP(T:Txt K mg)(A:DefAt K mg "copied" lL):Callee P w K mg base "copied" mP [] 7 false [Md.bw] kK:=HU T A 6
abbrev mw:Stmt:=oP (bS 42) 0
abbrev AA:List Str:=["self","owns","ring"]
abbrev AN:List Str:=["self","owns","ring"]
theorem Q8:FnScope AA AN (aa mw):=bV
def Az:FN:=(gR "owns" (aF (ag (gv 1) ae) [] kK) (gR "ring" (aF (ag (gv 2) ae) [] kK) (fun _ ds=>Res.ok ds)))
def mS:lZ:=fun ds=>Az (none::(ds.map some++L_ (AA.length-(ds.length+1)) none)) []
theorem Mp(T:Txt K mg)(A:MakeAt K mg "Goes" "Goes" "Goes.__init__" mw)(z:Callee P w K mg base "copied" mP [] 7 false [Md.bw] kK)(U:gu K "ring" on)(Y:gu K "owns" lE):CalleeN P w K mg base "Goes" "Goes" AN [] 8 aM mS:=by refine Ac (k:=7) (fn:=Az) A Q8 rfl (fun _ _ _ _ _ _ us hl=>by obtain⟨u0,u1,u2,rfl⟩:=sR us hl;kernel_rfl) fun C xn f cdv A outer s H g E hr=>?_;have ac:=ju hr;have Z:=hr.units;exact(tM (Y "Goes" C rfl xn).1 (Y "Goes" C rfl xn).2 rfl (dh rfl) (aV z (aj (ah 1) aO)) (tM (U "Goes" C rfl xn).1 (U "Goes" C rfl xn).2 rfl (dh rfl) (aV z (aj (ah 2) aO)) xY))
abbrev mG:Stmt:=oP (bS 43) 0
abbrev ID:List Str:=["self","order"]
abbrev BP:List Str:=["self","order"]
theorem Sf:FnScope ID BP (aa mG):=bV
def Be:FN:=(gR "order" (aF (ag (gv 1) ae) [] kK) (fun _ ds=>Res.ok ds))
def nc:lZ:=fun ds=>Be (none::(ds.map some++L_ (ID.length-(ds.length+1)) none)) []
theorem Pz(T:Txt K mg)(A:MakeAt K mg "Ordered" "Ordered" "Ordered.__init__" mG)(U:Callee P w K mg base "copied" mP [] 7 false [Md.bw] kK)(z:gu K "order" kj):CalleeN P w K mg base "Ordered" "Ordered" BP [] 8 [Md.bw] nc:=by refine Ac (k:=7) (fn:=Be) A Sf rfl (fun _ _ _ _ _ _ us hl=>by obtain⟨u0,u1,rfl⟩:=pT us hl;kernel_rfl) fun C xn f cdv A outer s H g E hr=>?_;have Z:=ju hr;have Y:=hr.units;exact(tM (z "Ordered" C rfl xn).1 (z "Ordered" C rfl xn).2 rfl (dh rfl) (aV U (aj (ah 1) aO)) xY)
abbrev mE:Stmt:=oP (bS 44) 0
abbrev IB:List Str:=["self","way"]
abbrev BN:List Str:=["self","way"]
theorem Se:FnScope IB BN (aa mE):=bV
def Bd:FN:=(gR "way" (aF (ag (gv 1) ae) [] kK) (fun _ ds=>Res.ok ds))
def nb:lZ:=fun ds=>Bd (none::(ds.map some++L_ (IB.length-(ds.length+1)) none)) []
theorem Py(T:Txt K mg)(A:MakeAt K mg "Betters" "Betters" "Betters.__init__" mE)(U:Callee P w K mg base "copied" mP [] 7 false [Md.bw] kK)(z:gu K "way" oh):CalleeN P w K mg base "Betters" "Betters" BN [] 8 [Md.bw] nb:=by refine Ac (k:=7) (fn:=Bd) A Se rfl (fun _ _ _ _ _ _ us hl=>by obtain⟨u0,u1,rfl⟩:=pT us hl;kernel_rfl) fun C xn f cdv A outer s H g E hr=>?_;have Z:=ju hr;have Y:=hr.units;exact(tM (z "Betters" C rfl xn).1 (z "Betters" C rfl xn).2 rfl (dh rfl) (aV U (aj (ah 1) aO)) xY)
abbrev yV:Stmt:=bS 64
abbrev DV:List Str:=["_law_script","_law_cell_here","_law_n","_law_m","_law_wishes_here","_law_owns_here","_law_dealing","_law_hands","_law_ring","_law_order","_law_way","_law_dues","_law_papers"]
abbrev DW:List Str:=["_law_script"]
theorem hJ:FnScope DV DW (aa yV):=bV
def sT:FS:=(af (ap dc 1 (aF (ag (gv 0) (ag (ci 1) ae)) [] du)) (af (ap dc 2 (f2 (ci 1) (f2 (gv 1) (ci 7) az) addA)) (af (ap dc 3 (f2 (gv 2) (f2 (f2 (f2 (gv 1) (ci 7) ck) (f2 (ci 9) (gv 2) dG) az) (f2 (f2 (gv 1) (ci 56) ck) (ci 2) az) dm) addA)) (af (ap dc 4 (aF (ag (gv 0) (ag (ci 4) (ag (gv 2) (ag (gv 3) ae)))) [] wD)) (af (lq dc (aF (ag (gv 0) (ag (gv 4) (ag (gv 2) (ag (gv 3) ae)))) [] vE) (c6 (bq (aG 5) (bq (aG 6) (bq (aG 7) cW))))) (af (ap dc 8 (aF (ag (gv 5) (ag (gv 7) (ag (aF (ag (gv 0) (ag (ci 11) ae)) [] du) (ag (gv 2) ae)))) [] wG)) (af (bI dc (aK (f2 (f2 (aF (ag (gv 0) (ag (ci 2) ae)) [] du) (ci 8) az) (ci 7) eqD)) (af (ap dc 5 (f2 (dP (ag (cO (gv 5) (fun _=>Res.ok none) (dw (f1 (ci 1) gj))) (ag (f2 (gv 5) (dP (ag (gv 3) ae)) addA) ae))) (f2 (f2 (aF (ag (gv 0) (ag (ci 2) ae)) [] du) (ci 8) ck) (ci 2) az) ax)) aq) aq) (af (ap dc 9 (aF (ag (gv 0) (ag (gv 4) (ag (gv 6) (ag (gv 2) ae)))) [] wI)) (af (ap dc 10 (aF (ag (gv 0) (ag (gv 4) (ag (gv 6) (ag (gv 2) (ag (gv 3) ae))))) [] wM)) (af (ap dc 11 (dP (ag (aF (ag (gv 4) (ag (gv 5) (ag (gv 6) (ag (gv 8) ae)))) [] rH) (ag (fun _=>Res.ok (D.bl false)) (ag (aF (ag (gv 4) (ag (gv 6) (ag (gv 10) ae))) [] mZ) ae))))) (af (bI nA (aK (f2 (fC (ag (gv 9) ae) oq) (fC (ag (gv 2) ae) iw) eqD)) (af (putF nA 11 (ci 1) (f2 (aF (ag (gv 4) (ag (gv 9) ae)) [] kt) (gv 6) eqD)) aq) aq) (af (ap nA 12 (dP (ag (j9 "Goes" (ag (fC (ag (gv 5) ae) tupD) (ag (fC (ag (gv 8) ae) tupD) ae)) [] mS) (ag (j9 "Ordered" (ag (fC (ag (gv 9) ae) tupD) ae) [] nc) (ag (j9 "Betters" (ag (gv 10) ae) [] nb) ae))))) (af (bI dc (dq (bQ (bu (f1 (f2 (gv 12) (ci 0) ax) (sP pU)))) (bQ (bu (aF (ag (gv 12) (ag (gv 4) (ag (gv 6) (ag (gv 11) ae)))) [] pr)))) (af (aw dc (fun _=>Res.ok (D.bl false))) aq) aq) (af (ap dc 12 (dP (ag (j9 "Goes" (ag (gv 5) (ag (gv 8) ae)) [] mS) (ag (j9 "Ordered" (ag (gv 9) ae) [] nc) (ag (j9 "Betters" (ag (f2 (d5 (ag (f2 (gv 10) (ci 0) ax) (ag (fC (ag (f2 (gv 10) (ci 1) ax) ae) gI) ae))) (cO (gv 10) (dw (ci 2)) (fun _=>Res.ok none)) addA) ae) [] nb) ae))))) (af (aw dc (aF (ag (gv 12) (ag (gv 4) (ag (gv 6) (ag (gv 11) ae)))) [] pr)) aq)))))))))))))))
def sL:List D->Res D:=fun ds=>aH false (sT (a9 DV.length ds))
theorem J3(T:Txt K mg){fa:Addr}{fd:VV}(A:Fun K "law" "law" yV fa fd)(z:Callee P w K mg base "_law_cell" mX [] 1 false aM du)(KK:Callee P w K mg base "_law_wishes" BD [] 2 false cf wD)(LE:Callee P w K mg base "_law_made" Bn [] 3 false cf vE)(ld:Callee P w K mg base "_law_ring_made" Ck [] 2 false cf wG)(ad:Callee P w K mg base "_law_order_made" Cd [] 2 false cf wI)(Cl:Callee P w K mg base "_law_way_made" BX [] 6 false [.bw,.bw,.sh,.sh,.bw] wM)(Id:Callee P w K mg base "_law_betters" B4 [] 2 false cw mZ)(BT:Callee P w K mg base "_law_goes_any" BW [] 3 false cf rH)(Z:Callee P w K mg base "_law_order_dealt" wT [] 2 false aM kt)(Y:CalleeN P w K mg base "Betters" "Betters" BN [] 8 [Md.bw] nb)(U:CalleeN P w K mg base "Ordered" "Ordered" BP [] 8 [Md.bw] nc)(IO:CalleeN P w K mg base "Goes" "Goes" AN [] 8 aM mS)(ac:Callee P w K mg base "_law_asked" BJ [] 9 false jR pr){LT:Addr}(Ta:mg "Goes" = some (.ref LT))(S9:lw K (.ref LT) pU):FnOk P w K mg base bZ 10 fa fd DW (kx K false [Md.sh] sL):=by
 refine yX (k:=9) (fs:=sT) (m':=dc) A hJ rfl fun cdv A outer s H g E hr=>?_;have ST:=ju hr;have S4:=hr.units;exact(ak (cb 1 hJ.nd (aV z (aj (ah 0) (aj iB aO))))
   (ak (cb 2 hJ.nd (eG iB (bE (cm (ah 1) iB))))
   (ak (cb 3 hJ.nd (eG (ah 2) (bE (lA (bE (cm (bE (dO (ah 1) iB)) (bE (kD iB (ah 2))))) (bE (cm (bE (dO (ah 1) iB)) iB))))))
   (ak (cb 4 hJ.nd (aV KK (aj (ah 0) (aj iB (aj (ah 2) (aj (ah 3) aO))))))
   (ak (JV (aV LE (aj (ah 0) (aj (ah 4) (aj (ah 2) (aj (ah 3) aO))))) (gH rfl (cY (bK 5 hJ.nd) (cY (bK 6 hJ.nd) (cY (bK 7 hJ.nd) gG)))))
   (ak (cb 8 hJ.nd (aV ld (aj (ah 5) (aj (ah 7) (aj (bE (aV z (aj (ah 0) (aj iB aO)))) (aj (ah 2) aO))))))
   (ak (aP (bP S4 (bE (cm (bE (aV z (aj (ah 0) (aj iB aO)))) iB)) iB) (ak (cb 5 hJ.nd (di ST (SO.toB (fR (bh (jy (ah 5) fV (fW (bE (n8 iB)))) (bh (eG (ah 5) (SO.toB (fR (bh (v_ 3) ca)))) ca)))) (bE (cm (bE (dO (bE (aV z (aj (ah 0) (aj iB aO)))) iB)) iB))))
   av)
   av)
   (ak (cb 9 hJ.nd (aV ad (aj (ah 0) (aj (ah 4) (aj (ah 6) (aj (ah 2) aO))))))
   (ak (cb 10 hJ.nd (aV Cl (aj (ah 0) (aj (ah 4) (bH (v_ 6) (bH (v_ 2) (aj (ah 3) aO)))))))
   (ak (eu 11 hJ.nd (by rfl) (dM rfl) (fR (bh (aV BT (aj (ah 4) (aj (ah 5) (aj (ah 6) (aj (ah 8) aO))))) (bh cG (bh (aV Id (aj (ah 4) (aj (ah 6) (aj (ah 10) aO)))) ca)))))
   (ak (aP (bP S4 (SO.toB (Hy hr (by rfl) T.b_sorted (aQ (ah 9) aR))) (SO.toB (mI rfl (by rfl) T.b_list (by rfl) T.b_range (aQ (ah 2) aR)))) (ak (jh 11 ST rfl (by rfl) (dh rfl) iB (hZ S4 (bE (aV Z (aj (ah 4) (aj (ah 9) aO)))) (ah 6)))
   av)
   av)
   (ak (cb 12 hJ.nd (SO.toE (fR (bh (oK (dds:=[]) IO (hr.mono (by decide)) (aj (bE (iz (by rfl) T.b_tuple (aQ (ah 5) aR))) (aj (bE (iz (by rfl) T.b_tuple (aQ (ah 8) aR))) aO))) (bh (oK (dds:=[]) U (hr.mono (by decide)) (aj (bE (iz (by rfl) T.b_tuple (aQ (ah 9) aR))) aO)) (bh (oK (dds:=[]) Y (hr.mono (by decide)) (aj (ah 10) aO)) ca))))))
   (ak (pW 11 rfl (aP (SW.toQ (cP (fS (d9 (bE (EX Ta S9 (by rfl) (by rfl) T.b_isinstance (xB ST (ah 12) iB))))) (jv (fS (d9 (bE (aV ac (bH (v_ 12) (bH (v_ 4) (bH (v_ 6) (bH (v_ 11) aO))))))))))) (ak (bb cG)
   av)
   av))
   (ak (cb 12 hJ.nd (SO.toE (fR (bh (oK (dds:=[]) IO (hr.mono (by decide)) (aj (ah 5) (aj (ah 8) aO))) (bh (oK (dds:=[]) U (hr.mono (by decide)) (aj (ah 9) aO)) (bh (oK (dds:=[]) Y (hr.mono (by decide)) (aj (bE (eG (bE (gz (bh (di ST (ah 10) iB) (bh (SO.toE (kg (by rfl) T.b_list (aQ (xB ST (ah 10) iB) aR))) ca)))) (bE (jy (ah 10) (fW iB) fV)))) aO)) ca))))))
   (ak (bb (aV ac (bH (v_ 12) (bH (v_ 4) (bH (v_ 6) (bH (v_ 11) aO))))))
   av)))))))))))))))
end Law
namespace Law
open PySem L2 DL
abbrev nD(k:Nat):D:=.int (k:Int)
abbrev LN(l:List Nat):D:=.lst (l.map nD)
abbrev TN(l:List Nat):D:=.tup (l.map nD)
def oD:Option Nat->D
|none=>.non
|some k=>nD k
abbrev WD(rz:List (List Nat)):D:=.tup (rz.map TN)
abbrev OD(oz:List (Option Nat)):D:=.tup (oz.map oD)
theorem jM{ds:List D}(h:ds.length<=1000):sz ds=some ds:=K3 (VL h (by rw[Vw];decide))
@[simp] theorem addA_int(a b:Int):addA (.int a) (.int b)=some (.int (a+b)):=rfl
theorem F9{a b:Int}(h:io a b):dm (.int a) (.int b)=some (.int (a*b)):=by rw[dm,intsC_int,if_pos h]
theorem F8{a b:Int}(h:0<b):az (.int a) (.int b)=some (.int (a%b)):=by rw[az,intsC_int,if_pos h]
theorem GP{a b:Int}(h:ip a b):ck (.int a) (.int b)=some (.int (a/b)):=by rw[ck,intsC_int,if_pos h]
theorem au{s1 s2:FS}{r r':ao}(h:s1 r=.nx r'):af s1 s2 r=s2 r':=by unfold af;rw[h]
theorem aS{s1 s2:FS}{r:ao}{d:D}(h:s1 r=.rt d):af s1 s2 r=.rt d:=by unfold af;rw[h]
theorem aZ{m:List Md}{i:Nat}{f:FE}{r:ao}{d:D}(h:f r=.ok d):ap m i f r=.nx (r.set i (some d)):=by unfold ap;rw[h];rfl
theorem bj{m:List Md}{f:FE}{r:ao}{d:D}(h:f r=.ok d):aw m f r=.rt d:=by unfold aw;rw[h];rfl
theorem DS{m:List Md}{p:FQ}{s1 s2:FS}{r:ao}{b:Bool}(h:p r=.ok b):bI m p s1 s2 r=if b=true then s1 r else s2 r:=by unfold bI;rw[h];rfl
theorem bW{m:List Md}{p:FQ}{s1 s2:FS}{r:ao}(h:p r=.ok true):bI m p s1 s2 r=s1 r:=by rw[DS h,if_pos rfl]
theorem bc{m:List Md}{p:FQ}{s1 s2:FS}{r:ao}(h:p r=.ok false):bI m p s1 s2 r=s2 r:=by rw[DS h,if_neg k_]
theorem DM{p:FQ}{f f':FE}{r:ao}(h:p r=.ok true):lV p f f' r=f r:=by unfold lV;rw[h];rfl
theorem DK{p:FQ}{f f':FE}{r:ao}(h:p r=.ok false):lV p f f' r=f' r:=by unfold lV;rw[h];rfl
theorem gA{fl:ao->Res (List D)}{r:ao}{ds:List D}(h:fl r=.ok ds)(hl:ds.length<=1000):d5 fl r=.ok (.tup ds):=by unfold d5;rw[h,bind_ok,jM hl];rfl
theorem fU{fl:ao->Res (List D)}{r:ao}{ds:List D}(h:fl r=.ok ds)(hl:ds.length<=1000):dP fl r=.ok (.lst ds):=by unfold dP;rw[h,bind_ok,jM hl];rfl
theorem oO{ds:List D}{d:D}(h:ds.length<=1000):appD (.lst ds) [d]=some (.lst (ds++[d])):=by show(if ds.length<sizeLine then some (D.lst (ds++[d]))else none)=_;rw[if_pos (by rw[Vw];omega)]
theorem aT{fl:ao->Res (List D)}{dds zs:List D}{F:List D->Res D}{r:ao}{d:D}(h1:fl r=.ok zs)(h2:F (zs++dds)=.ok d):aF fl dds F r=.ok d:=by unfold aF;rw[h1,bind_ok,h2];rfl
theorem fQ{f:FE}{k:D->Option D}{r:ao}{a d:D}(h1:f r=.ok a)(h2:k a=some d):f1 f k r=.ok d:=by unfold f1;rw[h1,bind_ok,h2];rfl
theorem am{f f':FE}{k:D->D->Option D}{r:ao}{a b d:D}(h1:f r=.ok a)(h2:f' r=.ok b)(h3:k a b=some d):f2 f f' k r=.ok d:=by unfold f2;rw[h1,bind_ok,h2,bind_ok,h3];rfl
theorem aW{fl:ao->Res (List D)}{k:List D->Option D}{r:ao}{ds:List D}{d:D}(h1:fl r=.ok ds)(h2:k ds=some d):fC fl k r=.ok d:=by unfold fC;rw[h1,bind_ok,h2];rfl
theorem ai{f:FE}{fl:ao->Res (List D)}{r:ao}{d:D}{ds:List D}(h1:f r=.ok d)(h2:fl r=.ok ds):ag f fl r=.ok (d::ds):=by unfold ag;rw[h1,bind_ok,h2];rfl
theorem al{r:ao}:ae r=.ok []:=rfl
theorem bR{f:FE}{r:ao}{b:Bool}(h:f r=.ok (.bl b)):aK f r=.ok b:=by unfold aK;rw[h];rfl
theorem c9{f:FE}{r:ao}{d:D}{b:Bool}(h:f r=.ok d)(h2:jL d=some b):bu f r=.ok b:=by unfold bu;rw[h,bind_ok,h2];rfl
theorem dE{p:FQ}{r:ao}{b:Bool}(h:p r=.ok b):bQ p r=.ok (! b):=by unfold bQ;rw[h];rfl
theorem jc{p q:FQ}{r:ao}(h:p r=.ok true):c7 p q r=q r:=by unfold c7;rw[h];rfl
theorem l8{p q:FQ}{r:ao}(h:p r=.ok false):c7 p q r=.ok false:=by unfold c7;rw[h];rfl
theorem df{p q:FQ}{r:ao}(h:p r=.ok true):dq p q r=.ok true:=by unfold dq;rw[h];rfl
theorem bF{p q:FQ}{r:ao}(h:p r=.ok false):dq p q r=q r:=by unfold dq;rw[h];rfl
theorem ji{f f':FE}{r:ao}(h:f r=.ok (.bl true)):cq f f' r=f' r:=by unfold cq;rw[h];rfl
theorem qa{f f':FE}{r:ao}(h:f r=.ok (.bl false)):cq f f' r=.ok (.bl false):=by unfold cq;rw[h];rfl
theorem fj{m:List Md}{fi:FI}{ft:FT}{b:FS}{r:ao}{ds:List D}(h:fi r=.ok ds):eF m fi ft b r=aI ft b ds r:=by unfold eF;rw[h];rfl
theorem hU{f:FE}{r:ao}{d:D}{ds:List D}(h:f r=.ok d)(h2:bN d=some ds):aU bN f r=.ok ds:=by unfold aU;rw[h,bind_ok,h2];rfl
theorem gB{ft:FT}{b:FS}{r:ao}:aI ft b [] r=.nx r:=by unfold aI;rfl
theorem fq{ft:FT}{b:FS}{r r1 r':ao}{d:D}{ds:List D}(h1:ft d r=some r1)(h2:b r1=.nx r'):aI ft b (d::ds) r=aI ft b ds r':=by
 conv=>lhs;unfold aI
 simp only[h1,h2]
theorem oy{ft:FT}{b:FS}{r r1:ao}{d v:D}{ds:List D}(h1:ft d r=some r1)(h2:b r1=.rt v):aI ft b (d::ds) r=.rt v:=by
 conv=>lhs;unfold aI
 simp only[h1,h2]
theorem qg{m:List Md}{p:FQ}{b:FS}{n:Nat}{r:ao}(h:p r=.ok false):fg m p b (n+1) r=.nx r:=by unfold fg;rw[h];rfl
theorem oM{m:List Md}{p:FQ}{b:FS}{n:Nat}{r r':ao}(h:p r=.ok true)(h2:b r=.nx r'):fg m p b (n+1) r=fg m p b n r':=by
 conv=>lhs;unfold fg
 rw[h,onE_ok,if_pos rfl,h2]
theorem jj{T:String}{m:List Md}{i:Nat}{fl:ao->Res (List D)}{mk:D->List D->Option D}{r:ao}{d d':D}{ds:List D}(h1:r[i]? = some (some d))(h2:rL T d=true)(h3:fl r=.ok ds)(h4:mk d ds=some d'):cH T m i fl mk r=.nx (r.set i (some d')):=by unfold cH;rw[h1];simp only[h2,if_true,h3,onE_ok,h4]
theorem iL{m:List Md}{i:Nat}{fk fv:FE}{r:ao}{d k v d':D}(h1:r[i]? = some (some d))(h2:fv r=.ok v)(h3:fk r=.ok k)(h4:eM d k v=some d'):DL.putF m i fk fv r=.nx (r.set i (some d')):=by unfold DL.putF;rw[h2,onE_ok];simp only[h1,h3,onE_ok,h4]
theorem Fv{fa fb fc:FE}{k k':D->D->Option D}{r:ao}{x y w d:D}(h1:fa r=.ok x)(h2:fb r=.ok y)(h3:k x y=some (.bl true))(h4:fc r=.ok w)(h5:k' y w=some d):jA fa fb fc k k' r=.ok d:=by unfold jA;rw[h1,bind_ok,h2,bind_ok,h3,opt_some,bind_ok];show(fc r).bind _=_;rw[h4,bind_ok,h5];rfl
theorem Hg{ft:FT}{q:FQ}{fe:FE}{r0:ao}:eD ft q fe r0 []=.ok []:=by unfold eD;rfl
theorem Hf{ft:FT}{q:FQ}{fe:FE}{r0:ao}{α:Type}(e:α->D)(keep:α->Bool)(g:α->D):∀(l:List α),(∀a∈l,∃r1,ft (e a) r0=some r1/\q r1=.ok (keep a)/\(keep a=true->fe r1=.ok (g a)))->eD ft q fe r0 (l.map e)=.ok ((l.filter keep).map g)
|[],_=>Hg
|a::l,h=>by
  obtain⟨r1,h1,h2,h3⟩:=h a p_;have ih:=Hf (ft:=ft) (q:=q) (fe:=fe) (r0:=r0) e keep g l fun b hb=>h b (t_ _ hb);rw[Vq]
  conv=>lhs;unfold eD
  rw[h1,opt_some,bind_ok,h2,bind_ok];cases k:keep a with
 |true=>rw[if_pos rfl,h3 k,bind_ok,ih,bind_ok,WP,if_pos k];rfl
 |false=>rw[if_neg k_,ih,WP,if_neg (by rw[k];exact k_)]
theorem km{nl:Nat}{cap:List Nat}{fi:FI}{ft:FT}{q:FQ}{fe:FE}{r:ao}{α:Type}{l:List α}(e:α->D)(keep:α->Bool)(g:α->D)(h1:fi r=.ok (l.map e))(hl:l.length<=1000)(h:∀a∈l,∃r1,ft (e a) (bY nl cap r)=some r1/\q r1=.ok (keep a)/\(keep a=true->fe r1=.ok (g a))):cy nl cap fi ft q fe r=.ok (.lst ((l.filter keep).map g)):=by unfold cy;rw[h1,bind_ok,jM (by simpa using hl),opt_some,bind_ok,Hf e keep g l h,noXL_ok,bind_ok]
theorem JG(k:Nat):lj (.int 0) (nD k)=some (.bl true):=by show some (D.bl (decide ((0:Int)<=(k:Int))))=_;rw[decide_eq_true (X6 k)]
theorem nY(a b:Nat):fH (nD a) (nD b)=some (.bl (decide (a<b))):=by show some (D.bl (decide ((a:Int)<(b:Int))))=_;simp only[Int.ofNat_lt]
theorem nW(a b:Nat):jX (nD a) (nD b)=some (.bl (decide (b<a))):=by show some (D.bl (decide ((b:Int)<(a:Int))))=_;simp only[Int.ofNat_lt]
theorem jz(a b:Nat):eqD (nD a) (nD b)=some (.bl (decide (a=b))):=by
 unfold eqD;rw[eqB_int];show some (D.bl ((a:Int)==(b:Int)))=_;have:((a:Int)==(b:Int))=decide (a=b):=by rw[R_,beq_iff_eq,decide_eq_true_iff];exact Wt
 rw[this]
theorem pS(a b:Nat):neD (nD a) (nD b)=some (.bl (! decide (a=b))):=by
 unfold neD;rw[eqB_int];show some (D.bl (!((a:Int)==(b:Int))))=_;have:((a:Int)==(b:Int))=decide (a=b):=by rw[R_,beq_iff_eq,decide_eq_true_iff];exact Wt
 rw[this]
theorem bz{B:FS}{n:Nat}{ds:List D}{d:D}(h:B (a9 n ds)=.rt d):aH false (B (a9 n ds))=.ok d:=by rw[h];rfl
abbrev kI(k:Nat):aY:=Sum.inl (k:Int)
theorem Ku(kvs:List (Nat×D))(k:Nat):gr (kvs.map fun p=>(kI p.1,p.2)) (kI k)=decide (k∈kvs.map (·.1)):=by
 unfold gr;rw[WY,R_,V0,decide_eq_true_iff,C_];constructor
 .rintro⟨p,h1,h2⟩
  refine⟨p,h1,?_⟩;simp only[WJ,decide_eq_true_eq]at h2;have:((p.1:Nat):Int)=(k:Int):=QaC h2;exact Int.ofNat.inj this
 .rintro⟨p,h1,rfl⟩
  exact⟨p,h1,by simp⟩
theorem Ph(kvs:List (Nat×D))(k:Nat)(d:D)(h:k∉kvs.map (·.1)):dk (kvs.map fun p=>(kI p.1,p.2)) (kI k) d=(kvs++[(k,d)]).map fun p=>(kI p.1,p.2):=by unfold dk;have e:((kvs.map fun p=>(kI p.1,p.2)).any fun kv=>decide (kv.1=kI k))=decide (k∈kvs.map (·.1)):=Ku kvs k;rw[e,decide_eq_false h,if_neg k_,H_];rfl
@[simp] theorem e_skip(r:ao):aq r=.nx r:=rfl
@[simp] theorem e_tupL(ds:List D):tupD [.lst ds]=some (.tup ds):=rfl
theorem fL{ds:List D}{i:Nat}{d:D}(h:ds[i]? = some d):ax (.tup ds) (nD i)=some d:=by have hl:i<ds.length:=(j_.mp h).1;show gF ds (i:Int)=some d;unfold gF gZ;rw[if_pos (X6 i),if_pos (by omega)];simpa using h
theorem iu{ds:List D}{i:Nat}{d:D}(h:ds[i]? = some d):ax (.lst ds) (nD i)=some d:=by have hl:i<ds.length:=(j_.mp h).1;show gF ds (i:Int)=some d;unfold gF gZ;rw[if_pos (X6 i),if_pos (by omega)];simpa using h
@[simp] theorem ixA_L0(d:D)(ds:List D):ax (.lst (d::ds)) (.int 0)=some d:=iu (i:=0) rfl
@[simp] theorem ixA_T0(d:D)(ds:List D):ax (.tup (d::ds)) (.int 0)=some d:=fL (i:=0) rfl
theorem yJ{kvs:List (aY×D)}{k:Nat}{d:D}(h:bU kvs (kI k)=some d):ax (.dic kvs) (nD k)=some d:=h
theorem nL(l:List Nat)(k:Nat):(l.map nD).any (fun y=>eV y (nD k))=decide (k∈l):=by
 rw[WY,R_,V0,decide_eq_true_iff];constructor
 .rintro⟨x,h1,h2⟩
  have:(((x:Nat):Int)==(k:Int))=true:=h2;have:=Wt.mp (Wj this);subst this;exact h1
 .intro h;exact⟨k,h,by show(((k:Nat):Int)==(k:Int))=true;simp⟩
theorem pK(l:List Nat):(l.map nD).all cz=true:=by rw[Wl];intro x hx;obtain⟨k,_,rfl⟩:=C_.mp hx;rfl
theorem sO(l:List Nat)(k:Nat):eU (nD k) (LN l)=some (.bl (decide (k∈l))):=by show(if cz (nD k)=true/\(l.map nD).all cz=true then some ((l.map nD).any fun y=>eV y (nD k))else none).map D.bl=_;rw[if_pos ⟨rfl,pK l⟩,nL];rfl
theorem tR(l:List Nat)(k:Nat):cZ (nD k) (LN l)=some (.bl (! decide (k∈l))):=by show(if cz (nD k)=true/\(l.map nD).all cz=true then some ((l.map nD).any fun y=>eV y (nD k))else none).map (fun b=>D.bl (! b))=_;rw[if_pos ⟨rfl,pK l⟩,nL];rfl
theorem RP(k:Nat):pe [nD k]=.ok (.bl true):=rfl
theorem RO(k b:Nat):jI [nD k,nD b]=.ok (.bl (decide (k<b))):=by refine bz (B:=mV) (n:=2) ?_;unfold mV;refine aS (bj ?_);rw[ji (aT (ai (d:=nD k) rfl al) (RP k))];exact Fv rfl rfl (JG k) rfl (nY k b)
theorem uJ{α:Type}(f:α->D)(l:List α):lenD [.tup (l.map f)]=some (nD l.length):=by show some (D.int ((l.map f).length:Int))=_;rw[g_]
theorem iN{α:Type}(f:α->D)(l:List α):lenD [.lst (l.map f)]=some (nD l.length):=by show some (D.int ((l.map f).length:Int))=_;rw[g_]
theorem Oo{α:Type}(f:α->aY×D)(l:List α):lenD [.dic (l.map f)]=some (nD l.length):=by show some (D.int ((l.map f).length:Int))=_;rw[g_]
theorem Oh(n:Nat):eqD (nD n) (nD n)=some (.bl true):=by have e:=jz n n;rw[decide_eq_true rfl]at e;exact e
theorem Fe(n:Nat):dW 0 n=(e_ n).map nD:=by unfold dW;refine Vx fun i _=>?_;show D.int (0+(i:Int))=D.int (i:Int);rw[Int.zero_add]
theorem Oq(j:Int):iw [.int j]=if-(2^62)<=j/\j<2^62/\j.toNat<=sizeLine then some (.lst (dW 0 j.toNat))else none:=rfl
theorem oS{n:Nat}(h:n<=1000):iw [nD n]=some (LN (e_ n)):=by
 have hs:(n:Int).toNat<=sizeLine:=by rw[WX,Vw];omega
 rw[Oq,if_pos ⟨by omega,by omega,hs⟩,WX,Fe]
theorem NO(j:Int):dj [.int j]=if-(2^62)<=j/\j<2^62 then some (dW 0 j.toNat)else none:=rfl
theorem kF{n:Nat}(h:n<=1000):dj [nD n]=some ((e_ n).map nD):=by rw[NO,if_pos ⟨by omega,by omega⟩,WX,Fe]
theorem kG{fl:ao->Res (List D)}{k:List D->Option (List D)}{r:ao}{ds es:List D}(h1:fl r=.ok ds)(h2:k ds=some es):dN k fl r=.ok es:=by unfold dN;rw[h1,bind_ok,h2];rfl
theorem Ip{p:Nat->Bool}:∀(l:List Nat),l.find? p=(l.filter p).head?
|[]=>rfl
|a::l=>by rw[Vt,WP];cases h:p a with
 |true=>simp
 |false=>simpa using Ip l
def own(oz:List (Option Nat))(h:Nat):Option Nat:=(oz[h]?).join
theorem Lc{oz:List (Option Nat)}{h:Nat}(hh:h<oz.length):(oz.map oD)[h]? = some (oD (own oz h)):=by rw[n_,d_ hh];unfold own;rw[d_ hh];rfl
theorem QK{row:List Nat}{rest:List (List Nat)}:hV [WD (row::rest)]=.ok (nD row.length):=by refine bz (B:=Bl) (n:=1) ?_;unfold Bl;exact aS (bj (aW (ai (am (a:=WD (row::rest)) (b:=.int 0) rfl rfl (ixA_T0 _ _)) al) (uJ _ _)))
theorem Pq{row things:List Nat}(h:∃x∈row,x∈things)(hl:row.length<=1000):qu [TN row,LN things]=.ok (nD (Rg.best row things)):=by
 refine bz (B:=Bj) (n:=2) ?_;unfold Bj;have hc:(cy 1 [1] (aU bN (gv 0)) (aG 0) (aK (f2 (gv 0) (gv 1) eU)) (gv 0)) [some (TN row),some (LN things)]=.ok (LN (row.filter fun x=>decide (x∈things))):=by
  refine km nD (fun x=>decide (x∈things)) nD (l:=row) rfl hl fun a _=>⟨[some (nD a),some (LN things)],rfl,?_,fun _=>rfl⟩
  exact bR (am (a:=nD a) (b:=LN things) rfl rfl (sO _ _))
 have hb:∃t,(row.filter fun x=>decide (x∈things))=Rg.best row things::t:=by unfold Rg.best;rw[Ip];cases e:row.filter fun x=>decide (x∈things)with
 |nil=>obtain⟨x,h1,h2⟩:=h;have:x∈row.filter fun x=>decide (x∈things):=Xm.mpr ⟨h1,by simpa using h2⟩;rw[e]at this;cases this
 |cons a t=>exact⟨t,rfl⟩
 obtain⟨t,ht⟩:=hb;rw[ht]at hc;exact aS (bj (am hc (b:=.int 0) rfl (ixA_L0 _ _)))
abbrev KD(kvs:List (Nat×Nat)):D:=.dic (kvs.map fun p=>(kI p.1,nD p.2))
theorem qb{a b:Nat}(h:kI a=kI b):a=b:=Wt.mp (QaC h)
theorem AQ:∀{kvs:List (Nat×Nat)}{h:Nat}{f:Nat->Nat},(∀p∈kvs,p.2=f p.1)->h∈kvs.map (·.1)->bU (kvs.map fun p=>(kI p.1,nD p.2)) (kI h)=some (nD (f h))
|[],_,_,_,hh=>by cases hh
|p::kvs,h,f,hf,hh=>by
  by_cases e:p.1=h
  .have:=hf p p_;subst e;simp[bU,Vt,this]
  .have hne:¬ kI p.1=kI h:=fun z=>e (qb z);have U:h∈kvs.map (·.1):=by
    rcases m_.mp hh with z|z
    .exact absurd z.symm e
    .exact z
   have ih:=AQ (f:=f) (fun q hq=>hf q (t_ _ hq)) U;have e1:bU ((p::kvs).map fun p=>(kI p.1,nD p.2)) (kI h)=bU (kvs.map fun p=>(kI p.1,nD p.2)) (kI h):=by simp only[bU,Vq,Vt];rw[decide_eq_false hne]
   rw[e1];exact ih
def putN(kvs:List (Nat×Nat))(k v:Nat):List (Nat×Nat):=if k∈kvs.map (·.1)then kvs.map fun p=>if p.1=k then(p.1,v)else p else kvs++[(k,v)]
theorem De(kvs:List (Nat×Nat))(k:Nat):((kvs.map fun p=>(kI p.1,nD p.2)).any fun kv=>decide (kv.1=kI k))=decide (k∈kvs.map (·.1)):=by
 rw[WY,R_,V0,decide_eq_true_iff,C_];constructor
 .rintro⟨p,h1,h2⟩
  simp only[WJ,decide_eq_true_eq]at h2;exact⟨p,h1,qb h2⟩
 .rintro⟨p,h1,rfl⟩
  exact⟨p,h1,by simp⟩
theorem ML(kvs:List (Nat×Nat))(k v:Nat):dk (kvs.map fun p=>(kI p.1,nD p.2)) (kI k) (nD v)=(putN kvs k v).map fun p=>(kI p.1,nD p.2):=by
 unfold dk putN;rw[De];by_cases h:k∈kvs.map (·.1)
 .rw[decide_eq_true h,if_pos rfl,if_pos h,A_,A_];refine Vx fun p _=>?_;simp only[WJ];by_cases e:p.1=k
  .rw[if_pos (by rw[e]),if_pos e]
  .rw[if_neg (fun z=>e (qb z)),if_neg e]
 .rw[decide_eq_false h,if_neg k_,if_neg h,H_];rfl
theorem Qd(kvs:List (Nat×Nat))(k v j:Nat):j∈(putN kvs k v).map (·.1)↔j∈kvs.map (·.1)\/j=k:=by
 unfold putN;by_cases h:k∈kvs.map (·.1)
 .rw[if_pos h,A_];have:((fun p:Nat×Nat=>p.1)∘fun p=>if p.1=k then(p.1,v)else p)=fun p=>p.1:=by funext p;simp only[WJ];split <;> rfl
  rw[this];constructor
  .exact .inl
  .rintro(z|rfl)
   .exact z
   .exact h
 .rw[if_neg h];simp
theorem Pi{kvs:List (Nat×Nat)}{k v:Nat}{f:Nat->Nat}(h:∀p∈kvs,p.2=f p.1)(hv:v=f k):∀p∈putN kvs k v,p.2=f p.1:=by
 intro p hp;unfold putN at hp;split at hp
 .obtain⟨q,h1,rfl⟩:=C_.mp hp;split
  .rename_i e;simp only;rw[e];exact hv
  .exact h q h1
 .rcases Wf.mp hp with z|z
  .exact h p z
  .rw[Vp.mp z];exact hv
theorem L5{kvs:List (Nat×Nat)}{k v:Nat}(hl:kvs.length<=1000):eM (KD kvs) (nD k) (nD v)=some (KD (putN kvs k v)):=by show(if (kvs.map fun p=>(kI p.1,nD p.2)).length<sizeLine then some (D.dic (dk _ (kI k) (nD v)))else none)=_;rw[if_pos (by rw[g_,Vw];omega),ML]
structure GI(t:Nat->Nat)(kvs:List (Nat×Nat))(L:List Nat):Prop where
 nd:(kvs.map (·.1)).Nodup
 val:∀p∈kvs,p.2=t p.1
 key:∀h,h∈kvs.map (·.1)↔h∈L
theorem NL{kvs:List (Nat×Nat)}{k v:Nat}(h:(kvs.map (·.1)).Nodup):((putN kvs k v).map (·.1)).Nodup:=by
 unfold putN;split
 .rw[A_];have:((fun p:Nat×Nat=>p.1)∘fun p=>if p.1=k then(p.1,v)else p)=fun p=>p.1:=by funext p;simp only[WJ];split <;> rfl
  rw[this];exact h
 .rename_i hk;rw[H_];refine WZ.mpr ⟨h,by simp,fun a ha b hb=>?_⟩;simp at hb
  rintro rfl
  exact hk (hb▸ha)
theorem GI.put{t:Nat->Nat}{kvs:List (Nat×Nat)}{L:List Nat}(g:GI t kvs L)(k:Nat):GI t (putN kvs k (t k)) (L++[k]):=⟨NL g.nd,Pi g.val rfl,fun h=>by rw[Qd,g.key];simp⟩
theorem GI.len{t:Nat->Nat}{kvs:List (Nat×Nat)}{L line:List Nat}(g:GI t kvs L)(hs:∀h∈L,h∈line):kvs.length<=line.length:=by have:=Rg.kB (m:=line) g.nd fun h hh=>hs h ((g.key h).mp hh);simpa using this
theorem GI.nil(t:Nat->Nat):GI t [] []:=⟨by simp,fun _ hp=>(nomatch hp),fun h=>by simp⟩
theorem qm{α:Type}(l:List α):l.filter (fun _=>true)=l:=List.filter_eq_self.mpr fun _ _=>rfl
theorem GI.full{t:Nat->Nat}{kvs:List (Nat×Nat)}{L:List Nat}{n:Nat}(g:GI t kvs L)(h:∀x,x∈L↔x<n):kvs.length=n:=by have h1:=g.len (line:=e_ n) fun x hx=>r_.mpr ((h x).mp hx);have h2:=Rg.kB (l:=e_ n) (m:=kvs.map (·.1)) VJ fun x hx=>(g.key x).mpr ((h x).mpr (r_.mp hx));simp at h1 h2;omega
def Wr(rz:List (List Nat))(h:Nat):List Nat:=(rz[h]?).getD []
theorem p8{rz:List (List Nat)}{h:Nat}(hh:h<rz.length):(rz.map TN)[h]? = some (TN (Wr rz h)):=by rw[n_];unfold Wr;rw[d_ hh];rfl
theorem e8{a b:Nat}(h:0<b):az (nD a) (nD b)=some (nD (a%b)):=by rw[F8 (by omega:(0:Int)<(b:Int))];show some (D.int _)=some (D.int _);rw[Int.natCast_emod]
theorem An{a b:Nat}(h:0<b)(h2:b<1000):ck (nD a) (nD b)=some (nD (a/b)):=by rw[GP (⟨by omega,by omega⟩:ip (a:Int) (b:Int))];show some (D.int _)=some (D.int _);rw[QaB]
theorem iK(a b:Nat):addA (nD a) (nD b)=some (nD (a+b)):=by rw[addA_int];show some (D.int _)=some (D.int _);rw[Int.natCast_add]
section
variable{f f':FE}{r:ao}
theorem nV{b:Int}(h:∃i:Int,f r=.ok (.int i))(h':f' r=.ok (.int b))(hb:0<b):∃c:Nat,f2 f f' az r=.ok (nD c):=by obtain⟨i,hi⟩:=h;refine⟨(i%b).toNat,am hi h' ?_⟩;rw[F8 hb];show some (D.int _)=some (D.int _);rw[ZZ (Int.emod_nonneg _ (by omega))]
theorem Jv(h:∃c:Nat,f r=.ok (nD c)):∃i:Int,f r=.ok (.int i):=let⟨c,e⟩:=h;⟨c,e⟩
theorem mz{b:Int}(h:∃i:Int,f r=.ok (.int i))(h':f' r=.ok (.int b))(hb : -(2^64)<b/\b<2^64):∃i:Int,f2 f f' dm r=.ok (.int i):=by obtain⟨i,hi⟩:=h;exact⟨i*b,am hi h' (F9 (.inr hb))⟩
theorem sN(h:∃i:Int,f r=.ok (.int i))(h':∃i:Int,f' r=.ok (.int i)):∃i:Int,f2 f f' addA r=.ok (.int i):=by obtain⟨i,hi⟩:=h;obtain⟨j,hj⟩:=h';exact⟨i+j,am hi hj rfl⟩
end
theorem DJ{m:List Md}{i:Nat}{f:FE}{s2:FS}{r:ao}(h:∃c:Nat,f r=.ok (nD c))(k:∀c:Nat,∃d:Nat,s2 (r.set i (some (nD c)))=.rt (nD d)):∃d:Nat,af (ap m i f) s2 r=.rt (nD d):=by obtain⟨c,hc⟩:=h;obtain⟨d,hd⟩:=k c;exact⟨d,(au (aZ hc)).trans hd⟩
abbrev IN(ns:List Int):D:=.lst (ns.map .int)
theorem jH(ns:List Int)(k:Nat)(hk:k<=1000):∃c:Nat,du [IN ns,nD k]=.ok (nD c):=by
 suffices h:∃c:Nat,vD (a9 4 [IN ns,nD k])=.rt (nD c)by obtain⟨c,hc⟩:=h;exact⟨c,bz (B:=vD) (n:=4) hc⟩
 unfold vD;have st:af (ap dA 2 (ci 0))=af (ap dA 2 (fun _=>Res.ok (nD 0))):=rfl;rw[st];refine DJ ⟨0,rfl⟩ fun c1=>?_;show ∃d:Nat,af _ _ [some (IN ns),some (nD k),some (nD c1),none]=_;have key:∃c2:Nat,(bI dA (aK (f2 (gv 1) (fC (ag (gv 0) ae) lenD) fH)) (af (ap dA 2 (f2 (f2 (gv 0) (gv 1) ax) (f2 (ci 10) (ci 60) jV) az)) aq) aq) [some (IN ns),some (nD k),some (nD c1),none]=.nx [some (IN ns),some (nD k),some (nD c2),none]:=by
  have t:=bR (am (f:=gv 1) (r:=[some (IN ns),some (nD k),some (nD c1),none]) (a:=nD k) rfl (aW (ai (f:=gv 0) (d:=IN ns) rfl al) (iN _ _)) (nY k ns.length));by_cases hlt:k<ns.length
  .rw[decide_eq_true hlt]at t;have hx:(ns.map D.int)[k]? = some (.int ns[k]):=by rw[n_,d_ hlt];rfl
   have hp:jV (.int 10) (.int 60)=some (.int (10^60)):=by show lD jb _ _ _=_;rw[intsC_int,if_pos (by unfold jb;decide)];rfl
   obtain⟨c2,h2⟩:=nV (f:=f2 (gv 0) (gv 1) ax) (f':=f2 (ci 10) (ci 60) jV) (r:=[some (IN ns),some (nD k),some (nD c1),none]) ⟨ns[k],am (a:=IN ns) (b:=nD k) rfl rfl (iu hx)⟩ (am rfl rfl hp) (by decide);exact⟨c2,(bW t).trans ((au (aZ h2)).trans rfl)⟩
  .rw[decide_eq_false hlt]at t;exact⟨c1,(bc t).trans rfl⟩
 obtain⟨c2,h2⟩:=key;rw[au h2];have kq:∃b,(c7 (aK (f2 (fC (ag (gv 0) ae) lenD) (ci 0) jX)) (aK (f2 (f2 (f2 (gv 0) (ci 0) ax) (ci 2) az) (ci 0) eqD))) [some (IN ns),some (nD k),some (nD c2),none]=.ok b:=by have t:=bR (am (f:=fC (ag (gv 0) ae) lenD) (f':=fun _=>Res.ok (D.int 0)) (r:=[some (IN ns),some (nD k),some (nD c2),none]) (b:=nD 0) (aW (ai (d:=IN ns) rfl al) (iN _ _)) rfl (nW ns.length 0));cases ns with
 |nil=>exact⟨false,l8 t⟩
 |cons a ns=>rw[decide_eq_true (by simp)]at t;obtain⟨c3,h3⟩:=nV (f:=f2 (gv 0) (ci 0) ax) (f':=fun _=>Res.ok (D.int 2)) (r:=[some (IN (a::ns)),some (nD k),some (nD c2),none]) ⟨a,am (a:=IN (a::ns)) (b:=.int 0) rfl rfl (ixA_L0 _ _)⟩ rfl (by decide);exact⟨_,(jc t).trans (bR (am h3 (b:=nD 0) rfl (jz c3 0)))⟩
 obtain⟨b,hb⟩:=kq;cases b with
|true=>exact⟨c2,aS ((bW hb).trans (aS (bj (d:=nD c2) rfl)))⟩
|false=>rw[au ((bc (s2:=aq) hb).trans (e_skip _))];refine DJ (nV (mz (Jv (nV (mz (sN (sN (sN ⟨(c2:Int),rfl⟩ (mz (b:=(k:Int)) (mz (b:=(k:Int)) ⟨7,rfl⟩ rfl (by omega)) rfl (by omega))) (mz (b:=(k:Int)) ⟨13,rfl⟩ rfl (by omega))) ⟨5,rfl⟩) rfl (by decide)) rfl (by decide))) rfl (by decide)) rfl (by decide)) fun c3=>?_;obtain⟨c4,h4⟩:=nV (f:=(f2 (f2 (f2 (f2 (gv 3) (ci 1) addA) (ci 40692) dm) (ci 2147483629) az) (ci 39373) dm)) (f':=fun _=>Res.ok (D.int 999999937)) (r:=[some (IN ns),some (nD k),some (nD c2),some (nD c3)]) (mz (Jv (nV (mz (sN ⟨(c3:Int),rfl⟩ ⟨1,rfl⟩) rfl (by decide)) rfl (by decide))) rfl (by decide)) rfl (by decide);exact⟨c4,aS (bj h4)⟩
theorem Ol{row:List Nat}{i:Int}{x:Nat}:cR (row.map nD) i (nD x)=(cR row i x).map nD:=by unfold cR;rw[g_,H_,Vq,Yp,XZ]
theorem PH{row:List Nat}{i:Int}{x:Nat}:(cR row i x).Perm (x::row):=by unfold cR;refine List.perm_middle.trans ?_;rw[Yj]
theorem Gy(m:Nat):∀(j i c:Nat)(row:List Nat)(x:Option D),row.Perm (e_ i)->i+j<=60 ->∃(c':Nat)(z:List Nat)(x':Option D),z.Perm (e_ (i+j))/\aI (aG 3) Ib ((Ww i j).map nD) [some (nD c),some (nD m),some (LN row),x]=.nx [some (nD c'),some (nD m),some (LN z),x']
|0,i,c,row,x,hp,_=>⟨c,row,x,hp,gB⟩
|j+1,i,c,row,x,hp,hl=>by
  have hlen:row.length=i:=by rw[hp.length_eq];simp
  obtain⟨c',z,x',h1,h2⟩:=Gy m j (i+1) (c/(i+1)) (cR row ((c%(i+1):Nat):Int) i) (some (nD i)) (by refine PH.trans ?_;rw[Zy];exact(List.Perm.cons i hp).trans (List.perm_append_singleton i _).symm) (by omega);refine⟨c',z,x',by rw[show i+(j+1)=i+1+j by omega];exact h1,?_⟩;rw[<-h2];have U:c%(i+1)<i+1:=Wm _ (by omega);refine fq (r1:=[some (nD c),some (nD m),some (LN row),some (nD i)]) rfl ?_;refine(au (jj (d:=LN row) (ds:=[nD (c%(i+1)),nD i]) (d':=LN (cR row ((c%(i+1):Nat):Int) i)) rfl rfl (ai (am (a:=nD c) (b:=nD (i+1)) rfl (am (a:=nD i) (b:=nD 1) rfl rfl (iK i 1)) (e8 (by omega))) (ai (d:=nD i) rfl al)) ?_)).trans ?_
  .show(if _ then some (D.lst (cR _ _ _))else none)=_;rw[if_pos ⟨by rw[g_,Vw];omega,by omega,by omega⟩,Ol]
  .exact au (aZ (d:=nD (c/(i+1))) (am (a:=nD c) (b:=nD (i+1)) rfl (am (a:=nD i) (b:=nD 1) rfl rfl (iK i 1)) (An (by omega) (by omega))))
theorem lJ(c m:Nat)(hm:m<=60):∃row:List Nat,row.Perm (e_ m)/\gL [nD c,nD m]=.ok (TN row):=by obtain⟨c',z,x',h1,h2⟩:=Gy m m 0 c [] none (by simp) (by omega);rw[Qaq]at h1;rw[<-V9]at h2;refine⟨z,h1,bz (B:=AX) (n:=4) ?_⟩;unfold AX;refine(au (aZ (d:=LN []) (fU al (by simp)))).trans ?_;refine(au ((fj (ds:=(e_ m).map nD) (kG (ai (d:=nD m) rfl al) (kF (by omega)))).trans h2)).trans ?_;exact aS (bj (aW (ai (d:=LN z) rfl al) rfl))
theorem QM(ns:List Int)(at' n m:Nat)(ha:at'<=60)(hn:n<=60)(hm:m<=60):∃rz:List (List Nat),rz.length=n/\(∀row∈rz,row.Perm (e_ m))/\wD [IN ns,nD at',nD n,nD m]=.ok (WD rz):=by
 have h:∀h:Nat,∃row:List Nat,h<=60->row.Perm (e_ m)/\∃c:Nat,du [IN ns,nD (at'+h)]=.ok (nD c)/\gL [nD c,nD m]=.ok (TN row):=by
  intro h;by_cases hh:h<=60
  .obtain⟨c,hc⟩:=jH ns (at'+h) (by omega);obtain⟨row,h1,h2⟩:=lJ c m hm;exact⟨row,fun _=>⟨h1,c,hc,h2⟩⟩
  .exact⟨[],fun z=>absurd z hh⟩
 obtain⟨g,hg⟩:=Classical.axiomOfChoice h;refine⟨(e_ n).map g,by simp,fun row hr=>?_,bz (B:=BA) (n:=4) ?_⟩
 .obtain⟨i,hi,rfl⟩:=C_.mp hr;exact(hg i (by have:=r_.mp hi;omega)).1
 .unfold BA;refine aS (bj (aW (ai (km (l:=e_ n) nD (fun _=>true) (fun h=>TN (g h)) (kG (ai (d:=nD n) rfl al) (kF (by omega))) (by simp;omega) fun h hh=>⟨[some (nD h),some (nD m),some (IN ns),some (nD at')],rfl,rfl,fun _=>?_⟩) al) ?_))
  .obtain⟨_,c,h1,h2⟩:=hg h (by have:=r_.mp hh;omega);exact aT (ai (aT (ai (d:=IN ns) rfl (ai (am (a:=nD at') (b:=nD h) rfl rfl (iK at' h)) al)) h1) (ai (d:=nD m) rfl al)) h2
  .rw[qm,e_tupL];show some (D.tup _)=some (D.tup _);rw[A_];rfl
end Law
namespace Law
open PySem PyProof.Rows L2 DL
theorem Kf(a b:Nat):eV (nD a) (nD b)=decide (a=b):=by show(((a:Nat):Int)==(b:Int))=_;rw[R_,beq_iff_eq,decide_eq_true_iff];exact Wt
theorem tW(k:Nat):∀l:List Nat,k∈l->ir (nD k) (l.map nD)=some (l.idxOf k)
|[],h=>by cases h
|a::l,h=>by
  show(if eV (nD a) (nD k)=true then some 0 else(ir (nD k) (l.map nD)).map (· + 1))=_;rw[Kf];by_cases e:a=k
  .rw[if_pos (by simpa using e)];subst e;simp
  .rw[if_neg (by simpa using e),tW k l ((m_.mp h).resolve_left fun z=>e z.symm)];have hf:(a==k)=false:=by simpa using e
   rw[QaP,hf];rfl
theorem FA(k:Nat):∀l:List Nat,(l.map nD).eraseIdx (l.idxOf k)=(l.erase k).map nD
|[]=>rfl
|a::l=>by
  by_cases e:a=k
  .subst e;simp
  .rw[QaP,ZP (by simpa using e)];have:(a==k)=false:=by simpa using e
   rw[this];show nD a::(l.map nD).eraseIdx (l.idxOf k)=_;rw[FA k l];rfl
theorem tT{k:Nat}{l:List Nat}(h:k∈l):remD (LN l) [nD k]=some (LN (l.erase k)):=by show(if (l.map nD).all isInt=true then(ir (nD k) (l.map nD)).map fun j=>D.lst ((l.map nD).eraseIdx j)else none)=_;rw[if_pos (by rw[Wl];intro x hx;obtain⟨y,_,rfl⟩:=C_.mp hx;rfl),tW k l h];show some (D.lst _)=some (D.lst _);rw[FA]
theorem uI{k:Nat}{l:List Nat}(h:k∈l):oQ (TN l) [nD k]=some (nD (l.idxOf k)):=by show(if cz (nD k)=true/\(l.map nD).all cz=true then(ir (nD k) (l.map nD)).map fun j=>D.int j else none)=_;rw[if_pos ⟨rfl,pK l⟩,tW k l h];rfl
theorem ly{T:String}{fo:FE}{fl:ao->Res (List D)}{k:D->List D->Option D}{r:ao}{d d':D}{ds:List D}(h1:fo r=.ok d)(ht:xA T d=true)(h2:fl r=.ok ds)(h3:k d ds=some d'):fM T fo fl k r=.ok d':=by unfold fM;rw[h1,bind_ok,if_pos ht,h2,bind_ok,h3];rfl
theorem Hi:∀l l':List Nat,Wu (zdH (l.map nD)) (zdH (l'.map nD))=decide (l=l')
|[],[]=>by simp[zdH,Wu]
|[],k::l=>by simp[zdH,Wu]
|k::l,[]=>by simp[zdH,Wu]
|k::l,k'::l'=>by have ih:=Hi l l';simp only[Vq,zdH,bL,Wu,Zs,ih];rw[R_];simp;omega
theorem Ew{l:List Nat}{k:Nat}:∀d∈l.map nD,cn k d:=by intro d hd;obtain⟨x,_,rfl⟩:=C_.mp hd;cases k <;> trivial
theorem KZ(l l':List Nat):iF (TN l) (TN l')=some (decide (l=l')):=by rw[GL rfl (mJ.mpr Ew) (mJ.mpr Ew)];unfold ky;simp only[bL,Zs,Hi]
theorem EJ(l l':List Nat):eqD (TN l) (TN l')=some (.bl (decide (l=l'))):=by unfold eqD;rw[KZ];rfl
theorem uH{k:Nat}{l:List Nat}(h:k∈l):kn (LN l) [nD k]=some (nD (l.idxOf k)):=by show(if cz (nD k)=true/\(l.map nD).all cz=true then(ir (nD k) (l.map nD)).map fun j=>D.int j else none)=_;rw[if_pos ⟨rfl,pK l⟩,tW k l h];rfl
theorem Gv{l:List Nat}{i:Nat}(h:i<=l.length):nv (LN l) (some (i:Int)) none=some (LN (l.drop i)):=by show some (D.lst (bf (l.map nD) (some (i:Int)) none))=_;unfold bf;rw[HT.ce,HT.bO,g_,Xo h];rw[Wc (by simp)];show some (D.lst _)=some (D.lst ((l.drop i).map nD));rw[XZ]
theorem fN{f:FE}{r:ao}{i:Int}(h:f r=.ok (.int i)):dw f r=.ok (some i):=by unfold dw;rw[h];rfl
theorem mh{fa:FE}{fl fh:FP}{r:ao}{d d':D}{lo hi:Option Int}(h1:fa r=.ok d)(h2:fl r=.ok lo)(h3:fh r=.ok hi)(h4:nv d lo hi=some d'):iE fa fl fh r=.ok d':=by unfold iE;rw[h1,bind_ok,h2,bind_ok,h3,bind_ok,h4];rfl
theorem tu{ds:List D}{i:Nat}{v:D}(h:i<ds.length):eM (.lst ds) (nD i) v=some (.lst (ds.set i v)):=by show(gZ ds.length (i:Int)).map _=_;unfold gZ;rw[if_pos (X6 i),if_pos (by omega)];simp
theorem iA{nl:Nat}{cap:List Nat}{fi:FI}{ft:FT}{fe:FE}{r:ao}{α:Type}{l:List α}(e:α->D)(g:α->D)(h1:fi r=.ok (l.map e))(hl:l.length<=1000)(h:∀a∈l,∃r1,ft (e a) (bY nl cap r)=some r1/\fe r1=.ok (g a)):cy nl cap fi ft (fun _=>Res.ok true) fe r=.ok (.lst (l.map g)):=by
 have:=km (q:=fun _=>Res.ok true) e (fun _=>true) g h1 hl fun a ha=>by obtain⟨r1,q1,q2⟩:=h a ha;exact⟨r1,q1,rfl,fun _=>q2⟩
 rw[this,qm]
theorem Gm(row things:List Nat)(z:D):∀(l:List Nat)(y:Option D),(match l.find? (fun h=>decide (h∈things))with
  |some h=>aI (aG 2) re (l.map nD) [some z,some (LN things),y]=.rt (nD h)
  |none=>∃y',aI (aG 2) re (l.map nD) [some z,some (LN things),y]=.nx [some z,some (LN things),y'])
|[],y=>⟨y,gB⟩
|h::l,y=>by have c:(aK (f2 (gv 2) (gv 1) eU)) [some z,some (LN things),some (nD h)]=.ok (decide (h∈things)):=bR (am (a:=nD h) (b:=LN things) rfl rfl (sO _ _));rw[Vt];cases e:decide (h∈things)with
 |true=>rw[e]at c;refine oy (r1:=[some z,some (LN things),some (nD h)]) rfl ?_;exact aS ((bW c).trans (aS (bj (d:=nD h) rfl)))
 |false=>rw[e]at c;have ih:=Gm row things z l (some (nD h));have st:aI (aG 2) re ((h::l).map nD) [some z,some (LN things),y]=aI (aG 2) re (l.map nD) [some z,some (LN things),some (nD h)]:=fq (r1:=[some z,some (LN things),some (nD h)]) rfl ((au (bc c)).trans rfl);rw[st];exact ih
theorem Q1{row things:List Nat}(h:∃x∈row,x∈things):lO [TN row,LN things]=.ok (nD (Rg.best row things)):=by refine bz (B:=Bg) (n:=3) ?_;unfold Bg;have hl:=Gm row things (TN row) row none;unfold Rg.best;cases e:row.find? fun x=>decide (x∈things)with
|none=>obtain⟨x,h1,h2⟩:=h;have:=Qab.mp e x h1;simp[h2]at this
|some k=>rw[e]at hl;exact aS ((fj (ds:=row.map nD) rfl).trans hl)
structure Rws(rz:List (List Nat))(n m:Nat):Prop where
 n1:1<=n
 n7:n<=7
 nm:n<=m
 m8:m<=8
 rl:rz.length=n
 rp:∀row∈rz,row.Perm (e_ m)
variable{rz:List (List Nat)}{n m:Nat}
theorem Rws.row(R:Rws rz n m){h:Nat}(hh:h<n):(Wr rz h).Perm (e_ m):=by unfold Wr;rw[d_ (by rw[R.rl];exact hh)];exact R.rp _ (VR _)
theorem Rws.has(R:Rws rz n m){h x:Nat}(hh:h<n)(hx:x<m):x∈Wr rz h:=(R.row hh).mem_iff.mpr (r_.mpr hx)
theorem Rws.one(R:Rws rz n m){h:Nat}{T:List Nat}(hh:h<n)(hT:0<T.length)(hm:∀x∈T,x<m):∃x∈Wr rz h,x∈T:=⟨T[0],R.has hh (hm _ (VR _)),VR _⟩
theorem Rws.lbest(R:Rws rz n m){h:Nat}{T:List Nat}(hh:h<n)(hT:0<T.length)(hm:∀x∈T,x<m):lO [TN (Wr rz h),LN T]=.ok (nD (Rg.best (Wr rz h) T)):=Q1 (R.one hh hT hm)
theorem Rws.inT(R:Rws rz n m){h:Nat}{T:List Nat}(hh:h<n)(hT:0<T.length)(hm:∀x∈T,x<m):Rg.best (Wr rz h) T∈T:=Rg.E8 (R.one hh hT hm)
theorem Rws.at0(R:Rws rz n m):∃r rest,rz=r::rest/\r.length=m:=by cases e:rz with
|nil=>have:=R.rl;have:=R.n1;rw[e]at *;simp at *;omega
|cons r rest=>exact⟨r,rest,rfl,by rw[(R.rp r (by rw[e];exact p_)).length_eq];simp⟩
theorem Rws.things(R:Rws rz n m):hV [WD rz]=.ok (nD m):=by obtain⟨r,rest,e,hl⟩:=R.at0;rw[e,QK,hl]
theorem Rws.ix0(R:Rws rz n m):∃r0,ax (WD rz) (.int 0)=some (TN r0)/\lenD [TN r0]=some (nD m):=by obtain⟨r,rest,e,hl⟩:=R.at0;exact⟨r,by rw[e];exact ixA_T0 _ _,by rw[uJ,hl]⟩
theorem Rws.len(R:Rws rz n m):lenD [WD rz]=some (nD n):=by rw[uJ,R.rl]
def aN(dl:List Nat)(h:Nat):Nat:=dl.getD h 0
theorem yD{dl:List Nat}{h:Nat}(hh:h<dl.length):(dl.map nD)[h]? = some (nD (aN dl h)):=by rw[n_,d_ hh];unfold aN;rw[s_,d_ hh];rfl
structure Dl(rz:List (List Nat))(dl:List Nat)(n m:Nat):Prop where
 R:Rws rz n m
 dn:dl.length=n
 nd:dl.Nodup
 lt:∀x∈dl,x<m
variable{dl:List Nat}
theorem tV{h:Nat}(hh:h<dl.length):aN dl h∈dl:=by unfold aN;rw[s_,d_ hh];exact VR _
theorem M9(hn:dl.Nodup){h l:Nat}(hh:h<dl.length)(hl:l<dl.length)(e:aN dl h=aN dl l):h=l:=by
 unfold aN at e;rw[s_,d_ hh,s_,d_ hl]at e;simp only[Option.getD_some]at e;have:=YT.mp hn;rcases Nat.lt_trichotomy h l with z|z|z
 .exact absurd e (this h l hh hl z)
 .exact z
 .exact absurd e.symm (this l h hl hh z)
theorem Dl.dlt(D:Dl rz dl n m){h:Nat}(hh:h<n):aN dl h<m:=D.lt _ (tV (by rw[D.dn];exact hh))
theorem Dl.at(D:Dl rz dl n m){h:Nat}(hh:h<n):ax (TN dl) (nD h)=some (nD (aN dl h)):=fL (yD (by rw[D.dn];exact hh))
theorem Dl.rw'(D:Dl rz dl n m){h:Nat}(hh:h<n):ax (WD rz) (nD h)=some (TN (Wr rz h)):=fL (p8 (by rw[D.R.rl];exact hh))
theorem qq(D:Dl rz dl n m){h x y:Nat}(hh:h<n)(hx:x<m)(hy:y<m):jl [WD rz,nD h,nD x,nD y]=.ok (.bl (decide (Rg.lk (Wr rz) h x y))):=by refine bz (B:=zW) (n:=5) ?_;unfold zW;refine(au (aZ (am rfl rfl (D.rw' hh)))).trans ?_;exact aS (bj (am (ly rfl rfl (ai rfl al) (uI (D.R.has hh hx))) (ly rfl rfl (ai rfl al) (uI (D.R.has hh hy))) (nY _ _)))
theorem HX(D:Dl rz dl n m){h x y:Nat}(hh:h<n)(hx:x<m)(hy:y<m):m9 [WD rz,nD h,nD x,nD y]=.ok (.bl (decide (Rg.lk (Wr rz) h x y))):=by refine bz (B:=A9) (n:=4) ?_;unfold A9;exact aS (bj (am (ly (am rfl rfl (D.rw' hh)) rfl (ai rfl al) (uI (D.R.has hh hx))) (ly (am rfl rfl (D.rw' hh)) rfl (ai rfl al) (uI (D.R.has hh hy))) (nY _ _)))
theorem EL(f:Nat->D):∀{T:List Nat}{x:Nat},x∈T->bU (T.map fun x=>(kI x,f x)) (kI x)=some (f x)
|[],_,h=>by cases h
|y::T,x,h=>by
  by_cases e:y=x
  .subst e;simp[bU,Vt]
  .have hne:¬ kI y=kI x:=fun z=>e (qb z);have ih:=EL f (T:=T) (x:=x) ((m_.mp h).resolve_left fun z=>e z.symm);have e1:bU ((y::T).map fun x=>(kI x,f x)) (kI x)=bU (T.map fun x=>(kI x,f x)) (kI x):=by simp only[bU,Vq,Vt];rw[decide_eq_false hne]
   rw[e1];exact ih
theorem L6{T:List Nat}{f:Nat->D}{x:Nat}(h:x∉T)(hl:T.length<=1000):eM (.dic (T.map fun x=>(kI x,f x))) (nD x) (f x)=some (.dic ((T++[x]).map fun x=>(kI x,f x))):=by
 show(if (T.map fun x=>(kI x,f x)).length<sizeLine then some (D.dic (dk _ (kI x) (f x)))else none)=_;rw[if_pos (by rw[g_,Vw];omega)];have:=Ph (T.map fun y=>(y,f y)) x (f x) (by rw[A_];simpa[Y0]using h);rw[A_]at this;show some (D.dic (dk (T.map fun x=>(kI x,f x)) (kI x) (f x)))=_;have e:dk (T.map fun x=>(kI x,f x)) (kI x) (f x)=(T++[x]).map fun x=>(kI x,f x):=by refine Qa4 this ?_;rw[H_,A_,H_];rfl
 rw[e]
abbrev SD(E:Nat->List Nat)(n:Nat):D:=.dic ((e_ n).map fun x=>(kI x,LN (E x)))
structure Gf(E:Nat->List Nat)(n:Nat):Prop where
 n1:1<=n
 n7:n<=7
 lt:∀x,x<n->∀y∈E x,y<n
 few:∀x,x<n->(E x).length<=60
section
variable{E:Nat->List Nat}
theorem K2{x:Nat}(h:x<n):ax (SD E n) (nD x)=some (LN (E x)):=yJ (EL (fun x=>LN (E x)) (r_.mpr h))
theorem HY(g:Gf E n){x:Nat}(hx:x<n)(S:List Nat):pD [SD E n,nD x,LN S]=.ok (LN ((E x).filter fun y=>decide (y∈S))):=by refine bz (B:=B3) (n:=3) ?_;unfold B3;refine aS (bj (km (l:=E x) nD (fun y=>decide (y∈S)) nD (hU (am rfl rfl (K2 hx)) rfl) (by have:=g.few x hx;omega) fun y hy=>⟨[some (nD y),some (LN S)],rfl,?_,fun _=>rfl⟩));exact bR (am rfl rfl (sO S y))
abbrev wn(E:Nat->List Nat)(S:List Nat)(x:Nat):List Nat:=(E x).filter fun y=>decide (y∈S)
abbrev lW(E:Nat->List Nat)(S:List Nat):List Nat:=S.filter fun x=>decide (wn E S x≠[])
theorem FV(g:Gf E n){S:List Nat}(hS:∀x∈S,x<n)(hl:S.length<=60)(y1:Option D):Cy [some (SD E n),y1,some (LN S)]=.nx [some (SD E n),some (LN S),some (LN (lW E S))]:=by refine(au (aZ (d:=LN S) rfl)).trans ?_;refine au (aZ (km (l:=S) nD (fun x=>decide (wn E S x≠[])) nD rfl (by omega) fun x hx=>⟨[some (nD x),some (SD E n),some (LN S)],rfl,?_,fun _=>rfl⟩));refine c9 (aT (ai rfl (ai rfl (ai rfl al))) (HY g (hS x hx) S)) ?_;show jL (LN (wn E S x))=_;generalize wn E S x=l;cases l <;> rfl
structure Gn(E:Nat->List Nat)(n:Nat)(S:List Nat):Prop where
 lt:∀x∈S,x<n
 len:S.length<=n
 go:∀x∈S,wn E S x≠[]
theorem FX(g:Gf E n){mm:List Md}:∀(k:Nat)(S:List Nat),S.length<k->(∀x∈S,x<n)->S.length<=n->∃S' z,Gn E n S'/\fg mm Jn Cy k [some (SD E n),some (LN S),some (LN (lW E S))]=.nx [some (SD E n),some (LN S'),z]
|0,S,h,_,_=>absurd h (by omega)
|k+1,S,h,hS,hl=>by
  have n7:=g.n7;have t:=bR (am (f:=fC (ag (gv 2) ae) lenD) (f':=fC (ag (gv 1) ae) lenD) (r:=[some (SD E n),some (LN S),some (LN (lW E S))]) (aW (ai rfl al) (iN _ _)) (aW (ai rfl al) (iN _ _)) (pS (lW E S).length S.length));by_cases e:(lW E S).length=S.length
  .rw[decide_eq_true e]at t;exact⟨S,_,⟨hS,hl,fun x hx=>of_decide_eq_true (Yg.mp e x hx)⟩,qg t⟩
  .rw[decide_eq_false e]at t;have U:(lW E S).length<=S.length:=Yk _ _;have hS':∀x∈lW E S,x<n:=fun x hx=>hS x (Xm.mp hx).1;obtain⟨S',z,G,ih⟩:=FX g k (lW E S) (by omega) hS' (by omega);exact⟨S',z,G,(oM t (FV g hS' (by omega) _)).trans ih⟩
theorem JF(g:Gf E n):zB (SD E n)=some (LN (e_ n)):=by show some (D.lst (((e_ n).map fun x=>(kI x,LN (E x))).map fun kv=>ss kv.1))=_;rw[A_];rfl
theorem QI(g:Gf E n):∃S,Gn E n S/\wV [SD E n]=.ok (LN S):=by have U:=g.n1;have Y:=g.n7;obtain⟨S,z,G,h⟩:=FX g (mm:=dY) 63 (e_ n) (by simp;omega) (fun x hx=>r_.mp hx) (by simp);refine⟨S,G,bz (B:=Cs) (n:=3) ?_⟩;unfold Cs;refine(au (aZ (fU al (by simp)))).trans ?_;refine(au (aZ (fQ rfl (JF g)))).trans ?_;have t:=bR (am (f:=fC (ag (gv 2) ae) lenD) (f':=fC (ag (gv 1) ae) lenD) (r:=[some (SD E n),some (LN []),some (LN (e_ n))]) (aW (ai rfl al) (iN _ _)) (aW (ai rfl al) (iN _ _)) (pS (e_ n).length ([]:List Nat).length));rw[decide_eq_false (by simp;omega)]at t;refine(au ((oM t (FV g (fun x hx=>r_.mp hx) (by simp;omega) _)).trans h)).trans ?_;exact aS (bj (d:=LN S) rfl)
theorem Gr(g:Gf E n){C:List Nat}(G:Gn E n C){mm:List Md}:∀(j:Nat)(walk:List Nat)(p:Nat),p∈C->walk.Nodup->(∀x∈walk,x∈C)->C.length<j+walk.length ->∃U p',p'∈U/\U.length<=n/\fg mm Ch Jf j [some (SD E n),some (LN C),some (LN walk),some (nD p)]=.nx [some (SD E n),some (LN C),some (LN U),some (nD p')]
|0,walk,p,_,hn,hw,h=>by have:=Rg.kB hn hw;omega
|j+1,walk,p,hp,hn,hw,h=>by
  have n7:=g.n7;have hcl:=G.len;have ad:=Rg.kB hn hw;have t:Ch [some (SD E n),some (LN C),some (LN walk),some (nD p)]=.ok (! decide (p∈walk)):=bR (am rfl rfl (tR walk p));by_cases e:p∈walk
  .rw[decide_eq_true e]at t;exact⟨walk,p,e,by omega,qg t⟩
  .rw[decide_eq_false e]at t;have Z:=G.go p hp;have Y:=HY g (G.lt p hp) C;obtain⟨q,l,hq⟩:∃q l,wn E C p=q::l:=by cases hz:wn E C p with
   |nil=>exact absurd hz Z
   |cons q l=>exact⟨q,l,rfl⟩
   have ac:q∈C:=by
    have:q∈wn E C p:=by rw[hq];exact p_
    simpa using(Xm.mp this).2
   rw[show(E p).filter (fun y=>decide (y∈C))=q::l from hq]at Y;obtain⟨U,p',i1,i2,ih⟩:=Gr g G (mm:=mm) j (walk++[p]) q ac (WZ.mpr ⟨hn,by simp,fun a ha b hb=>by simp at hb;rintro rfl;exact e (hb▸ha)⟩) (fun x hx=>by
    rcases Wf.mp hx with z|z
    .exact hw x z
    .rw[Vp.mp z];exact hp) (by simp;omega)
   refine⟨U,p',i1,i2,(oM t ?_).trans ih⟩;refine(au (jj (d:=LN walk) (ds:=[nD p]) (d':=LN (walk++[p])) rfl rfl (ai rfl al) ?_)).trans ?_
   .rw[oO (by simp;omega)];show some (D.lst _)=some (D.lst _);rw[H_];rfl
   exact au (aZ (am (aT (ai rfl (ai rfl (ai rfl al))) Y) rfl (ixA_L0 _ _)))
end
def Ev(rz:List (List Nat))(dl:List Nat)(n:Nat)(h:Nat):List Nat:=(e_ n).filter fun o=>decide (Rg.lk (Wr rz) h (aN dl o) (aN dl h))
theorem KJ{h o:Nat}:o∈Ev rz dl n h↔o<n/\Rg.lk (Wr rz) h (aN dl o) (aN dl h):=by unfold Ev;rw[List.mem_filter,r_,decide_eq_true_eq]
theorem Dl.gf(D:Dl rz dl n m):Gf (Ev rz dl n) n where
 n1:=D.R.n1
 n7:=D.R.n7
 lt:=fun x _ y hy=>(KJ.mp hy).1
 few:=fun x _=>by have h7:=D.R.n7;have:(Ev rz dl n x).length<=(e_ n).length:=Yk _ _;rw[WC]at this;omega
theorem D5:∀(k i:Nat)(f:Nat->Nat),cj i ((Ww i k).map fun o=>nD (f o))=(Ww i k).map fun o=>.tup [nD o,nD (f o)]
|0,i,f=>rfl
|k+1,i,f=>by rw[XE,Vq,Vq,<-D5 k (i+1) f];rfl
theorem EG(hl:dl.length=n):cj 0 (dl.map nD)=(e_ n).map fun o=>DL.D.tup [nD o,nD (aN dl o)]:=by
 have e:dl.map nD=(e_ n).map fun o=>nD (aN dl o):=by
  refine Xv fun i=>?_;rw[n_,n_];by_cases hi:i<n
  .rw[WG hi,d_ (by omega)];unfold aN;rw[VZ,VZ,s_,d_ (by omega)];rfl
  .rw[VB (by omega),VB (by simp;omega)];rfl
 rw[e,V9,D5 n 0 (aN dl)]
theorem QH(D:Dl rz dl n m){h:Nat}(hh:h<n):vQ [WD rz,TN dl,nD h]=.ok (LN (Ev rz dl n h)):=by
 have z:=D.R.n7;refine bz (B:=B1) (n:=3) ?_;unfold B1;refine aS (bj (km (l:=e_ n) (fun o=>DL.D.tup [nD o,nD (aN dl o)]) (fun o=>decide (Rg.lk (Wr rz) h (aN dl o) (aN dl h))) nD ?_ (by simp;omega) fun o hm=>⟨[some (nD o),some (nD (aN dl o)),some (WD rz),some (nD h),some (TN dl)],rfl,?_,fun _=>rfl⟩))
 .exact(show _=Res.ok (cj 0 (dl.map nD))from rfl).trans (by rw[EG D.dn])
 .exact c9 (aT (ai rfl (ai rfl (ai rfl (ai (am rfl rfl (D.at hh)) al)))) (qq D hh (D.dlt (r_.mp hm)) (D.dlt hh))) rfl
theorem Go(D:Dl rz dl n m):∀(k i:Nat)(y3 y4:Option DL.D),i+k=n ->∃z3,aI (aG 3) Ic ((Ww i k).map nD) [some (WD rz),some (TN dl),some (SD (Ev rz dl n) i),y3,y4]=.nx [some (WD rz),some (TN dl),some (SD (Ev rz dl n) n),z3,y4]
|0,i,y3,y4,h=>⟨y3,by rw[show i=n by omega];exact gB⟩
|k+1,i,y3,y4,h=>by have z:=D.R.n7;obtain⟨z3,ih⟩:=Go D k (i+1) (some (nD i)) y4 (by omega);refine⟨z3,?_⟩;rw[<-ih];refine fq (r1:=[some (WD rz),some (TN dl),some (SD (Ev rz dl n) i),some (nD i),y4]) rfl ?_;have es:=L6 (T:=e_ i) (f:=fun x=>LN (Ev rz dl n x)) (x:=i) (by simp) (by simp;omega);rw[<-Zy]at es;exact au (iL (d:=SD (Ev rz dl n) i) (k:=nD i) (v:=LN (Ev rz dl n i)) rfl (aT (ai rfl (ai rfl (ai rfl al))) (QH D (by omega))) rfl es)
theorem GD{l:List Nat}{i:Nat}(h:i<=l.length):kU (LN l) (some (i:Int)) none=some (LN (l.drop i)):=by show some (D.lst (bf (l.map nD) (some (i:Int)) none))=_;unfold bf;rw[HT.ce,HT.bO,g_,Xo h,Wc (by simp)];show some (D.lst _)=some (D.lst ((l.drop i).map nD));rw[XZ]
theorem iM{fa:FE}{fl fh:FP}{r:ao}{d d':D}{lo hi:Option Int}(h1:fa r=.ok d)(h2:fl r=.ok lo)(h3:fh r=.ok hi)(h4:kU d lo hi=some d'):cO fa fl fh r=.ok d':=by unfold cO;rw[h1,bind_ok,h2,bind_ok,h3,bind_ok,h4];rfl
theorem RQ(D:Dl rz dl n m):∃o:Option (List Nat),(∀r,o=some r->r≠[]/\r.length<=7) /\qE [WD rz,TN dl]=.ok (match o with|some r=>.tup [.str "ring",TN r]|none=>.non):=by
 have ac:=D.R.n7;have g:=D.gf;obtain⟨S,G,s5⟩:=QI g;have hcl:=G.len;obtain⟨z3,Y⟩:=Go D n 0 none none (by omega);rw[<-V9]at Y;have U:∀(dr dd:DL.D),wN [SD (Ev rz dl n) n]=.ok dr->lV (aK (f2 (gv 4) (fun _=>Res.ok DL.D.non) nI)) (fun _=>Res.ok DL.D.non) (d5 (ag (fun _=>Res.ok (DL.D.str "ring")) (ag (fC (ag (gv 4) ae) tupD) ae))) [some (WD rz),some (TN dl),some (SD (Ev rz dl n) n),z3,some dr]=.ok dd->qE [WD rz,TN dl]=.ok dd:=fun dr dd h1 h2=>by refine bz (B:=AY) (n:=5) ?_;unfold AY;refine(au (aZ (d:=.dic []) rfl)).trans ?_;refine(au ((fj (ds:=(e_ n).map nD) (kG (ai (d:=nD n) (aW (ai rfl al) D.R.len) al) (kF (by omega)))).trans Y)).trans ?_;refine(au (aZ (aT (ai rfl al) h1))).trans ?_;exact aS (bj h2)
 cases hS:S with
|nil=>refine⟨none,fun r e=>(nomatch e),U .non .non ?_ (DM (bR (am rfl rfl rfl)))⟩;rw[hS]at s5;refine bz (B:=qV) (n:=4) ?_;unfold qV;refine(au (aZ (aT (ai rfl al) s5))).trans ?_;exact aS ((bW (dE (b:=false) (c9 (d:=LN []) rfl rfl))).trans (aS (bj (d:=.non) rfl)))
|cons f0 rest=>
  have hf:f0∈S:=by rw[hS];exact p_
  obtain⟨wk,p,w1,w2,hw⟩:=Gr g G (mm:=ig) 64 [] f0 hf (by simp) (fun h hh=>(nomatch hh)) (by simp;omega);have Z:=VN w1;refine⟨some (wk.drop (wk.idxOf p)),fun r e=>by cases e;exact⟨fun z=>by have:=congrArg WM z;simp at this;omega,by simp;omega⟩,U (LN (wk.drop (wk.idxOf p))) _ ?_ ((DK (bR (am rfl rfl rfl))).trans (gA (ai rfl (ai (aW (ai rfl al) (e_tupL _)) al)) (by simp)))⟩;refine bz (B:=qV) (n:=4) ?_;unfold qV;refine(au (aZ (aT (ai rfl al) s5))).trans ?_;refine(au ((bc (dE (b:=true) (c9 (d:=LN S) rfl (by rw[hS];rfl)))).trans (e_skip _))).trans ?_;refine(au (aZ (fU al (by simp)))).trans ?_;refine(au (aZ (am rfl rfl (by rw[hS];exact ixA_L0 _ _)))).trans ?_;refine(au hw).trans ?_;exact aS (bj (iM rfl (fN (i:=((wk.idxOf p:Nat):Int)) (ly rfl rfl (ai rfl al) (uH w1))) rfl (GD (by omega))))
inductive Wy where
 |ring (r:List Nat)|line (r:List Nat) (x:Nat)
def Wy.hands:Wy->List Nat
|.ring r=>r
|.line r _=>r
def eJ:Wy->DL.D
|.ring r=>.tup [.str "ring",TN r]
|.line r x=>.tup [.str "line",TN r,nD x]
def Wy.kind:Wy->Str
|.ring _ => "ring"
|.line _ _ => "line"
def Wy.last(dl:List Nat):Wy->Nat
|.ring r=>aN dl (r.headD 0)
|.line _ x=>x
def Wy.things(dl:List Nat)(w:Wy):List Nat:=w.hands.tail.map (aN dl)++[w.last dl]
theorem Hv(w:Wy):ax (eJ w) (.int 1)=some (TN w.hands):=by cases w <;> exact fL (i:=1) rfl
theorem KG(w:Wy)(k:Str)(b:Bool)(h:(w.kind==k)=b):(cQ (ax (eJ w) (.int 0))).bind (fun d=>cQ (eqD d (.str k)))=.ok (.bl b):=by cases w with
|ring r=>rw[show ax (eJ (.ring r)) (.int 0)=some (.str "ring")from ixA_T0 _ _,opt_some,bind_ok];unfold eqD;rw[eqB_str,show(("ring" : Str)==k)=b from h];rfl
|line r x=>rw[show ax (eJ (.line r x)) (.int 0)=some (.str "line")from ixA_T0 _ _,opt_some,bind_ok];unfold eqD;rw[eqB_str,show(("line" : Str)==k)=b from h];rfl
theorem AB:∀(l r:List Nat),XG (fun a b=>DL.D.tup [a,b]) (l.map nD) (r.map nD)=(l.zip r).map fun p=>DL.D.tup [nD p.1,nD p.2]
|[],_=>rfl
|_::_,[]=>rfl
|a::l,b::r=>by show DL.D.tup [nD a,nD b]::XG _ (l.map nD) (r.map nD)=_;rw[AB l r];rfl
theorem Am{fa fb:FE}{r:ao}{d e:DL.D}{ds es:List DL.D}(h1:fa r=.ok d)(h2:fb r=.ok e)(h3:bN d=some ds)(h4:bN e=some es):il fa fb r=.ok (XG (fun a b=>DL.D.tup [a,b]) ds es):=by unfold il;rw[h1,bind_ok,h2,bind_ok,h3,opt_some,bind_ok,h4,opt_some,bind_ok]
theorem ED{a b:List Nat}(h:a.length+b.length<=1000):addA (LN a) (LN b)=some (LN (a++b)):=by show(if (a.map nD).length+(b.map nD).length<=sizeLine then some (DL.D.lst (a.map nD++b.map nD))else none)=_;rw[if_pos (by rw[g_,g_,Vw];omega),<-H_]
theorem KM{a b:List Nat}(h:a.length+b.length<=1000):addE (TN a) (TN b)=some (TN (a++b)):=by cases a with
|nil=>rfl
|cons x a=>show(if ((x::a).map nD).length+(b.map nD).length<=sizeLine then some (DL.D.tup ((x::a).map nD++b.map nD))else none)=_;rw[if_pos (by rw[g_,g_,Vw];omega),<-H_]
theorem AH{l:List Nat}{i:Nat}(h:i<=l.length):kU (TN l) (some (i:Int)) none=some (TN (l.drop i)):=by show some (DL.D.tup (bf (l.map nD) (some (i:Int)) none))=_;unfold bf;rw[HT.ce,HT.bO,g_,Xo h,Wc (by simp)];show some (DL.D.tup _)=some (DL.D.tup ((l.drop i).map nD));rw[XZ]
theorem GF(l:List Nat)(k:Nat):kU (TN l) none (some (k:Int))=some (TN (l.take k)):=by show some (DL.D.tup (bf (l.map nD) none (some (k:Int))))=_;unfold bf;rw[HT.ce,HT.bO,g_,YR,Zu,<-Yp];show some (DL.D.tup _)=some (DL.D.tup ((l.take k).map nD));rw[ZC.mpr (by omega:min (min k l.length) l.length=min k l.length)]
theorem Rv{a:Nat}{l:List Nat}(hl:l.length<=900):jp [TN (a::l)]=.ok (TN (l++[a])):=by refine bz (B:=rc) (n:=1) ?_;unfold rc;exact aS (bj (am (iM rfl (fN (i:=((1:Nat):Int)) rfl) rfl (AH (by simp))) (iM rfl rfl (fN (i:=((1:Nat):Int)) rfl) (GF (a::l) 1)) (KM (by simp;omega))))
abbrev c4(rz:List (List Nat))(dl:List Nat)(a:DL.D)(h:Nat)(l_:ao):ao:=some (WD rz)::some (TN dl)::some (a)::some (nD h)::some (nD (aN dl h))::l_
theorem lf_in(D:Dl rz dl n m){h:Nat}(hh:h<n)(left:DL.D):∀(l:List Nat)(y:Option DL.D),(∀x∈l,x<m) ->(∃x,aI (aG 5) qM (l.map nD) (c4 rz dl left h [y])=.rt (eJ (.line [h] x)))\/∃y',aI (aG 5) qM (l.map nD) (c4 rz dl left h [y])=.nx (c4 rz dl left h [y'])
|[],y,_=>.inr ⟨y,gB⟩
|x::l,y,hl=>by have c:(bu (aF (ag (gv 0) (ag (gv 3) (ag (gv 5) (ag (gv 4) ae)))) [] jl)) (c4 rz dl left h [some (nD x)])=.ok (decide (Rg.lk (Wr rz) h x (aN dl h))):=c9 (aT (ai rfl (ai rfl (ai rfl (ai rfl al)))) (qq D hh (hl x p_) (D.dlt hh))) rfl;cases e:decide (Rg.lk (Wr rz) h x (aN dl h))with
 |true=>rw[e]at c;exact .inl ⟨x,oy (r1:=c4 rz dl left h [some (nD x)]) rfl (aS ((bW c).trans (aS (bj (gA (ai rfl (ai (d:=TN [h]) (gA (ai rfl al) (by simp)) (ai rfl al))) (by simp))))))⟩
 |false=>rw[e]at c;have st:aI (aG 5) qM ((x::l).map nD) (c4 rz dl left h [y])=aI (aG 5) qM (l.map nD) (c4 rz dl left h [some (nD x)]):=fq (r1:=c4 rz dl left h [some (nD x)]) rfl ((au (bc c)).trans rfl);rw[st];exact lf_in D hh left l (some (nD x)) fun k hk=>hl k (t_ _ hk)
theorem lf_out(D:Dl rz dl n m){left:List Nat}(hl:∀x∈left,x<m):∀(k i:Nat)(y3 y4 y5:Option DL.D),i+k=n ->(∃h x,aI (c6 (bq (aG 3) (bq (aG 4) cW))) qN ((Ww i k).map fun o=>DL.D.tup [nD o,nD (aN dl o)]) [some (WD rz),some (TN dl),some (LN left),y3,y4,y5]=.rt (eJ (.line [h] x))) \/(∃z3 z4 z5,aI (c6 (bq (aG 3) (bq (aG 4) cW))) qN ((Ww i k).map fun o=>DL.D.tup [nD o,nD (aN dl o)]) [some (WD rz),some (TN dl),some (LN left),y3,y4,y5]=.nx [some (WD rz),some (TN dl),some (LN left),z3,z4,z5])
|0,i,y3,y4,y5,hi=>.inr ⟨y3,y4,y5,gB⟩
|k+1,i,y3,y4,y5,hi=>by
  rw[XE,Vq];rcases lf_in D (show i<n by omega) (LN left) left y5 hl with⟨x,c⟩|⟨y',c⟩
  .exact .inl ⟨i,x,oy (r1:=c4 rz dl (LN left) i [y5]) rfl (aS ((fj (ds:=left.map nD) rfl).trans c))⟩
  .have st:∀ds,aI (c6 (bq (aG 3) (bq (aG 4) cW))) qN (DL.D.tup [nD i,nD (aN dl i)]::ds) [some (WD rz),some (TN dl),some (LN left),y3,y4,y5]=aI (c6 (bq (aG 3) (bq (aG 4) cW))) qN ds (c4 rz dl (LN left) i [y']):=fun ds=>fq (r1:=c4 rz dl (LN left) i [y5]) rfl ((au ((fj (ds:=left.map nD) rfl).trans c)).trans rfl);rw[st];exact lf_out D hl k (i+1) (some (nD i)) (some (nD (aN dl i))) y' (by omega)
def DD:Wy->Prop
|.ring r=>r≠[]/\r.length<=7
|.line r x=>∃h,r=[h]
theorem R6(D:Dl rz dl n m):∃o:Option Wy,(∀w,o=some w->DD w) /\qL [WD rz,TN dl]=.ok (match o with|some w=>eJ w|none=>.non):=by
 have Z:=D.R.n7;have ac:=D.R.m8;generalize hL:((e_ m).filter fun x=>! decide (x∈dl))=left;have Y:∀x∈left,x<m:=fun x hx=>by rw[<-hL]at hx;exact r_.mp (Xm.mp hx).1
 have z:∀y3 y4 y5:Option DL.D,(ap nE 2 (cy 1 [1] (dN dj (ag (aF (ag (gv 0) ae) [] hV) ae)) (aG 0) (aK (f2 (gv 0) (gv 1) cZ)) (gv 0))) [some (WD rz),some (TN dl),none,y3,y4,y5]=.nx [some (WD rz),some (TN dl),some (LN left),y3,y4,y5]:=fun y3 y4 y5=>by rw[<-hL];refine aZ (km (l:=e_ m) nD (fun x=>! decide (x∈dl)) nD (kG (ai (aT (ai rfl al) D.R.things) al) (kF (by omega))) (by simp;omega) fun x hx=>⟨[some (nD x),some (TN dl)],rfl,bR (am rfl rfl ?_),fun _=>rfl⟩);show(if cz (nD x)=true/\(dl.map nD).all cz=true then some ((dl.map nD).any fun y=>eV y (nD x))else none).map (fun b=>DL.D.bl (! b))=_;rw[if_pos ⟨rfl,pK dl⟩,nL];rfl
 have U:fJ (gv 1) [some (WD rz),some (TN dl),some (LN left),none,none,none]=.ok ((Ww 0 n).map fun o=>DL.D.tup [nD o,nD (aN dl o)]):=by rw[<-V9,<-EG D.dn];rfl
 rcases lf_out D Y n 0 none none none (by omega)with⟨h,x,h4⟩|⟨z3,z4,z5,h4⟩
 .have hl:qz [WD rz,TN dl]=.ok (eJ (.line [h] x)):=bz (B:=qy) (n:=6) (by unfold qy;exact(au (z none none none)).trans (aS ((fj U).trans h4)));refine⟨some (.line [h] x),fun w e=>by cases e;exact⟨h,rfl⟩,bz (B:=qJ) (n:=3) ?_⟩;unfold qJ;refine(au (aZ (aT (ai rfl (ai rfl al)) hl))).trans ?_;exact aS (bj ((DK (bR (am rfl rfl rfl))).trans rfl))
 .have hl:qz [WD rz,TN dl]=.ok .non:=bz (B:=qy) (n:=6) (by unfold qy;exact(au (z none none none)).trans ((au ((fj U).trans h4)).trans (aS (bj (d:=.non) rfl))));obtain⟨o,o1,o3⟩:=RQ D;refine⟨o.map Wy.ring,fun w e=>?_,bz (B:=qJ) (n:=3) ?_⟩
  .cases o with
  |none=>cases e
  |some r=>cases e;exact o1 r rfl
  .unfold qJ;refine(au (aZ (aT (ai rfl (ai rfl al)) hl))).trans ?_;refine aS (bj ((DM (bR (am rfl rfl rfl))).trans (aT (ai rfl (ai rfl al)) ?_)));cases o with
  |none=>exact o3
  |some r=>exact o3
theorem Hq{l:List Nat}{y x:Nat}:eM (LN (l++[y])) (.int (-1)) (nD x)=some (LN (l++[x])):=by show(gZ ((l++[y]).map nD).length (-1)).map _=_;unfold gZ;rw[if_neg (by omega),if_pos (by simp;omega)];simp only[VZ,g_,U_,Yi];rw[show(-1+((l.length+1:Nat):Int)).toNat=l.length by omega,H_];show some (DL.D.lst _)=some (DL.D.lst ((l++[x]).map nD));rw[List.set_append_right _ _ (by simp),H_];simp
theorem Nc{f f':FE}{k k':DL.D->DL.D->Option DL.D}{r:ao}{a b c:DL.D}{g:FE}(h1:f r=.ok a)(h2:g r=.ok b)(hc:f' r=.ok c)(h:(cQ (k a b)).bind (fun d=>cQ (k' d c))=.ok (.bl true)\/(cQ (k a b)).bind (fun d=>cQ (k' d c))=.ok (.bl false)):f2 (f2 f g k) f' k' r=(cQ (k a b)).bind (fun d=>cQ (k' d c)):=by unfold f2;rw[h1,bind_ok,h2,bind_ok];cases e:cQ (k a b)with
|ok d=>rw[bind_ok,hc,bind_ok];rfl
|exc x=>rfl
|stuck=>rfl
theorem tx{i:Nat}{r:ao}{w:Wy}{k:Str}{b:Bool}(hr:r[i]? = some (some (eJ w)))(h:(w.kind==k)=b):(aK (f2 (f2 (fun r=>cg r i) (fun _=>Res.ok (DL.D.int 0)) ax) (fun _=>Res.ok (DL.D.str k)) eqD)) r=.ok b:=by have hw:=KG w k b h;have e:=Nc (f:=fun r=>cg r i) (g:=fun _=>Res.ok (DL.D.int 0)) (f':=fun _=>Res.ok (DL.D.str k)) (k:=ax) (k':=eqD) (r:=r) (a:=eJ w) (b:=.int 0) (c:=.str k) (by show cg r i=_;unfold cg;rw[hr]) rfl rfl (by rw[hw];cases b;exact .inr rfl;exact .inl rfl);exact bR (e.trans hw)
theorem Sj(D:Dl rz dl n m){w:Wy}(hw:w.hands≠[])(hlt:∀h∈w.hands,h<n)(hl:w.hands.length<=60):m4 [TN dl,eJ w]=.ok (LN (w.things dl)):=by refine bz (B:=qS) (n:=3) ?_;unfold qS;cases hh:w.hands with
|nil=>exact absurd hh hw
|cons a t=>
  rw[hh]at hlt hl;have z:=Hv w;rw[hh]at z;have e1:(ap dI 2 (cy 1 [0] (aU bN (aF (ag (f2 (gv 1) (fun _=>Res.ok (DL.D.int 1)) ax) ae) [] jp)) (aG 0) (fun _=>Res.ok true) (f2 (gv 1) (gv 0) ax))) [some (TN dl),some (eJ w),none]=.nx [some (TN dl),some (eJ w),some (LN (t.map (aN dl)++[aN dl a]))]:=by
   have:=iA (nl:=1) (cap:=[0]) (fi:=aU bN (aF (ag (f2 (gv 1) (fun _=>Res.ok (DL.D.int 1)) ax) ae) [] jp)) (ft:=aG 0) (fe:=f2 (gv 1) (gv 0) ax) (r:=[some (TN dl),some (eJ w),none]) (l:=t++[a]) nD (fun h=>nD (aN dl h)) (hU (aT (ai (d:=TN (a::t)) (am rfl rfl z) al) (Rv (by simp at hl;omega))) rfl) (by simp at hl ⊢;omega) fun h hm=>⟨[some (nD h),some (TN dl)],rfl,am rfl rfl (D.at (hlt h (by simpa[or_comm]using hm)))⟩
   refine aZ (this.trans ?_);show Res.ok (DL.D.lst _)=Res.ok (DL.D.lst ((t.map (aN dl)++[aN dl a]).map nD));rw[H_,H_,A_];rfl
  refine(au e1).trans ?_;have U:w.things dl=t.map (aN dl)++[w.last dl]:=by unfold Wy.things;rw[hh];rfl
  refine(au (r':=[some (TN dl),some (eJ w),some (LN (w.things dl))]) ?_).trans ?_
  .rw[U];cases w with
  |ring r=>have:r=a::t:=hh;subst this;exact(bc (tx (w:=.ring (a::t)) rfl rfl)).trans rfl
  |line r x=>refine(bW (tx (w:=.line r x) rfl rfl)).trans ?_;exact au (iL (d:=LN (t.map (aN dl)++[aN dl a])) (k:=.int (-1)) (v:=nD x) rfl (am rfl rfl (fL rfl)) rfl Hq)
  exact aS (bj (d:=LN (w.things dl)) rfl)
theorem R9(D:Dl rz dl n m){w:Wy}(hw:w.hands≠[])(hlt:∀h∈w.hands,h<n)(hl:w.hands.length<=60):ng [TN dl,eJ w]=.ok (LN (w.things dl)):=by refine bz (B:=Ca) (n:=3) ?_;unfold Ca;cases hh:w.hands with
|nil=>exact absurd hh hw
|cons a t=>
  rw[hh]at hlt hl;have z:=Hv w;rw[hh]at z;have Y:w.things dl=t.map (aN dl)++[w.last dl]:=by unfold Wy.things;rw[hh];rfl
  have:=iA (nl:=1) (cap:=[0]) (fi:=aU bN (cO (f2 (gv 1) (fun _=>Res.ok (DL.D.int 1)) ax) (dw (fun _=>Res.ok (DL.D.int 1))) (fun _=>Res.ok none))) (ft:=aG 0) (fe:=f2 (gv 1) (gv 0) ax) (r:=[some (TN dl),some (eJ w),none]) (l:=t) nD (fun h=>nD (aN dl h)) (hU (iM (am rfl rfl z) (fN (i:=((1:Nat):Int)) rfl) rfl (AH (by simp))) rfl) (by simp at hl;omega) fun h hm=>⟨[some (nD h),some (TN dl)],rfl,am rfl rfl (D.at (hlt h (t_ _ hm)))⟩
  refine(au (aZ (d:=LN (t.map (aN dl))) (this.trans ?_))).trans ?_
  .show Res.ok (DL.D.lst _)=Res.ok (DL.D.lst ((t.map (aN dl)).map nD));rw[A_];rfl
  rw[Y];have U:(t.map (aN dl)).length+1<=1000:=by simp at hl ⊢;omega
  cases w with
 |ring r=>have:r=a::t:=hh;subst this;refine aS ((bW (tx (w:=.ring (a::t)) rfl rfl)).trans (aS (bj (am (a:=LN (t.map (aN dl))) (b:=LN [aN dl a]) rfl (fU (ai (am (a:=TN dl) (b:=nD a) rfl (am (a:=TN (a::t)) (b:=.int 0) (am rfl rfl z) rfl (ixA_T0 _ _)) (D.at (hlt a p_))) al) (by simp)) (ED U)))))
 |line r x=>refine(au ((bc (tx (w:=.line r x) rfl rfl)).trans (e_skip _))).trans ?_;exact aS (bj (am (a:=LN (t.map (aN dl))) (b:=LN [x]) rfl (fU (ai (am rfl rfl (fL rfl)) al) (by simp)) (ED U)))
theorem mi{r:ao}{i:Nat}{d:DL.D}(h:r[i]? = some (some d)):cg r i=.ok d:=by unfold cg;rw[h]
def wr:Bool->List DL.D->DL.D
|true,ds=>.tup ds
|false,ds=>.lst ds
theorem kh(t:Bool)(ds:List DL.D):bN (wr t ds)=some ds:=by cases t <;> rfl
theorem JE{t:Bool}{ds:List DL.D}{i:Nat}{d:DL.D}(h:ds[i]? = some d):ax (wr t ds) (nD i)=some d:=by
 cases t
 .exact iu h
 .exact fL h
theorem kb(t:Bool)(ds:List DL.D):lenD [wr t ds]=some (nD ds.length):=by cases t <;> rfl
theorem FB{f:FE}{r:ao}{d:DL.D}{ds:List DL.D}(h:f r=.ok d)(h2:bN d=some ds):fJ f r=.ok (cj 0 ds):=by unfold fJ;rw[h,bind_ok,h2,opt_some,bind_ok]
def oi:Option Int->DL.D
|none=>.non
|some i=>.int i
abbrev jJ(ks:List Nat):List (Option Int):=ks.map fun k:Nat=>some (k:Int)
structure Gd1(b:Nat)(l:List (Option Int))(ks:List Nat):Prop where
 eq:l=jJ ks
 nd:ks.Nodup
 lt:∀k∈ks,k<b
def Gd(b:Nat)(l:List (Option Int)):Prop:=∃ks,Gd1 b l ks
abbrev TD(T:List Nat):DL.D:=.dic (T.map fun t=>(kI t,DL.D.bl true))
theorem EF(T:List Nat)(k:Nat):((T.map fun t=>(kI t,DL.D.bl true)).any fun kv=>decide (kv.1=kI k))=decide (k∈T):=by
 rw[WY,R_,V0,decide_eq_true_iff];constructor
 .rintro⟨p,h1,h2⟩
  simp only[WJ,decide_eq_true_eq]at h2;exact qb h2▸h1
 .intro h;exact⟨k,h,by simp⟩
theorem JB(T:List Nat)(k:Nat):eU (nD k) (TD T)=some (.bl (decide (k∈T))):=by rw[<-EF];rfl
theorem L7{T:List Nat}{k:Nat}(h:k∉T)(hl:T.length<=1000):eM (TD T) (nD k) (.bl true)=some (TD (T++[k])):=by show(if (T.map fun t=>(kI t,DL.D.bl true)).length<sizeLine then some (DL.D.dic (dk _ (kI k) (DL.D.bl true)))else none)=_;rw[if_pos (by rw[g_,Vw];omega)];unfold dk;rw[EF,decide_eq_false h,if_neg k_];show _=some (DL.D.dic (VE _ (T++[k])));rw[H_];rfl
theorem FJ(h:Int)(b:Nat):jI [.int h,nD b]=.ok (.bl (decide (0<=h/\h<b))):=by
 refine bz (B:=mV) (n:=2) ?_;unfold mV;refine aS (bj ?_);rw[ji (aT (ai rfl al) (show pe [.int h]=.ok (.bl true)from rfl))];show((if decide ((0:Int)<=h)=true then(Res.ok (DL.D.bl (decide (h<(b:Int)))))else .ok (.bl false)))=_;by_cases c:0<=h
 .rw[if_pos (by simpa using c)];congr 2;rw[decide_eq_decide];exact⟨fun z=>⟨c,z⟩,fun z=>z.2⟩
 .rw[if_neg (by simpa using c),decide_eq_false (fun z=>c z.1)]
theorem No(b:Nat):jI [.non,nD b]=.ok (.bl false):=by refine bz (B:=mV) (n:=2) ?_;unfold mV;refine aS (bj ?_);rw[qa (aT (ai rfl al) (show pe [.non]=.ok (.bl false)from rfl))]
theorem fw_loop(b:Nat)(Y:DL.D):∀(U:List (Option Int))(pre:List Nat)(x y:Option DL.D),pre.length+U.length<=900->pre.Nodup->(∀k∈pre,k<b) ->(Gd b (jJ pre++U)/\∃T x' y',aI (c6 (bq (aG 3) (bq (aG 4) cW))) m7 (cj pre.length (U.map oi)) [some Y,some (nD b),some (TD pre),x,y]=.nx [some Y,some (nD b),some (TD T),x',y']) \/(¬ Gd b (jJ pre++U)/\∃k,k<pre.length+U.length/\aI (c6 (bq (aG 3) (bq (aG 4) cW))) m7 (cj pre.length (U.map oi)) [some Y,some (nD b),some (TD pre),x,y]=.rt (nD k))
|[],pre,x,y,_,nd,lt=>.inl ⟨⟨pre,by rw[Wg],nd,lt⟩,pre,x,y,gB⟩
|o::U,pre,x,y,hl,nd,lt=>by
  rw[Q_]at hl;have Z:(∀k:Nat,o=some (k:Int)->k<b->k∈pre)->¬ Gd b (jJ pre++o::U):=fun h ⟨ks,e,n1,l1⟩=>by
   have hk:∃k,o=some ((k:Nat):Int)/\ks[pre.length]? = some k:=by have:=congrArg (fun l=>l[pre.length]?) e;simp only[n_]at this;rw[VP (by simp)]at this;simp at this;cases hq:ks[pre.length]? with
   |none=>rw[hq]at this;simp at this
   |some k=>rw[hq]at this;exact⟨k,by simpa using this,rfl⟩
   obtain⟨k,ho,hk⟩:=hk;have ad:=h k ho (l1 k (Yq hk));obtain⟨i,hi,ei⟩:=V1 ad;have h2:ks[i]? = some k:=by have:=congrArg (fun l=>l[i]?) e;simp only[n_]at this;rw[O_ (by simpa using hi),n_,d_ hi]at this;cases hq:ks[i]? with
   |none=>rw[hq]at this;simp at this
   |some k'=>rw[hq]at this;simp at this;rw[<-ei];congr 1;omega
   have:=(Qas (i:=i) (j:=pre.length) (by have:=(j_.mp h2).1;exact this) n1).mp (h2.trans hk.symm);omega
  have tup:cj pre.length ((o::U).map oi)=DL.D.tup [nD pre.length,oi o]::cj (pre.length+1) (U.map oi):=rfl;rw[tup];have ret:(dq (bQ (bu (aF (ag (gv 4) (ag (gv 1) ae)) [] jI))) (aK (f2 (gv 4) (gv 2) eU))) [some Y,some (nD b),some (TD pre),some (nD pre.length),some (oi o)]=.ok true->∃k,k<pre.length+(o::U).length/\aI (c6 (bq (aG 3) (bq (aG 4) cW))) m7 (DL.D.tup [nD pre.length,oi o]::cj (pre.length+1) (U.map oi)) [some Y,some (nD b),some (TD pre),x,y]=.rt (nD k):=fun h=>⟨pre.length,by rw[Q_];omega,oy (r1:=[some Y,some (nD b),some (TD pre),some (nD pre.length),some (oi o)]) rfl (aS ((bW h).trans (aS (bj (d:=nD pre.length) rfl))))⟩
  cases o with
 |none=>refine .inr ⟨Z fun k hk=>(nomatch hk),ret ?_⟩;exact df (dE (b:=false) (c9 (aT (ai rfl (ai rfl al)) (No b)) rfl))
 |some i=>
   have hb:=FJ i b;by_cases hi:0<=i/\i<(b:Int)
   .obtain⟨k,rfl⟩:∃k:Nat,i=(k:Int):=⟨i.toNat,by omega⟩
    rw[decide_eq_true hi]at hb;have e1:=dE (b:=true) (c9 (aT (fl:=ag (gv 4) (ag (gv 1) ae)) (r:=[some Y,some (nD b),some (TD pre),some (nD pre.length),some (nD k)]) (ai rfl (ai rfl al)) hb) rfl);have e2:=JB pre k;by_cases hk:k∈pre
    .rw[decide_eq_true hk]at e2;refine .inr ⟨Z fun k' h' _=>(show k=k' from Wt.mp (B_ h'))▸hk,ret ?_⟩;rw[show oi (some (k:Int))=nD k from rfl,bF e1];exact bR (am rfl rfl e2)
    .rw[decide_eq_false hk]at e2;have ac:k<b:=by omega
     have hs:m7 [some Y,some (nD b),some (TD pre),some (nD pre.length),some (nD k)]=.nx [some Y,some (nD b),some (TD (pre++[k])),some (nD pre.length),some (nD k)]:=by
      refine(au ((bc ?_).trans (e_skip _))).trans ?_
      .rw[bF e1];exact bR (am rfl rfl e2)
      .exact au (iL (d:=TD pre) (k:=nD k) rfl rfl rfl (L7 hk (by omega)))
     have e0:aI (c6 (bq (aG 3) (bq (aG 4) cW))) m7 (DL.D.tup [nD pre.length,oi (some (k:Int))]::cj (pre.length+1) (U.map oi)) [some Y,some (nD b),some (TD pre),x,y]=aI (c6 (bq (aG 3) (bq (aG 4) cW))) m7 (cj (pre.length+1) (U.map oi)) [some Y,some (nD b),some (TD (pre++[k])),some (nD pre.length),some (nD k)]:=fq (r1:=[some Y,some (nD b),some (TD pre),some (nD pre.length),some (nD k)]) rfl hs;have el:(pre++[k]).length=pre.length+1:=by simp
     have eg:jJ (pre++[k])++U=jJ pre++some (k:Int)::U:=by simp[jJ]
     have ih:=fw_loop b Y U (pre++[k]) (some (nD pre.length)) (some (nD k)) (by rw[el];omega) (WZ.mpr ⟨nd,by simp,fun a ha c hc z=>hk (by rw[Vp.mp hc]at z;exact z▸ha)⟩) (fun z hz=>by
      rcases Wf.mp hz with z'|z'
      .exact lt z z'
      .rw[Vp.mp z'];exact ac)
     rw[eg,el]at ih;rw[e0];rcases ih with⟨g1,T,x',y',e⟩|⟨g1,k',h',e⟩
     .exact .inl ⟨g1,T,x',y',e⟩
     .exact .inr ⟨g1,k',by rw[Q_];omega,e⟩
   .rw[decide_eq_false hi]at hb;refine .inr ⟨Z fun k hk ac=>?_,ret ?_⟩
    .exfalso;apply hi;have:i=(k:Int):=B_ hk;omega
    .exact df (dE (b:=false) (c9 (aT (ai rfl (ai rfl al)) hb) rfl))
open Classical in
theorem EU(t:Bool){l:List (Option Int)}(b:Nat)(hl:l.length<=900):∃k,pi [wr t (l.map oi),nD b]=.ok (nD k)/\(Gd b l->k=l.length)/\(¬ Gd b l->k<l.length):=by
 have hz:fJ (gv 0) [some (wr t (l.map oi)),some (nD b),some (TD []),none,none]=.ok (cj 0 (l.map oi)):=FB (d:=wr t (l.map oi)) rfl (kh _ _);have hlen:lenD [wr t (l.map oi)]=some (nD l.length):=by rw[kb,g_]
 rcases fw_loop b (wr t (l.map oi)) l [] none none (by simpa using hl) List.nodup_nil (fun _ z=>(nomatch z))with⟨g,T,x',y',e⟩|⟨g,k,hk,e⟩
 .refine⟨l.length,bz (B:=q9) (n:=5) ?_,fun _=>rfl,fun h=>absurd g h⟩;unfold q9;refine(au (aZ (d:=TD []) rfl)).trans ?_;refine(au ((fj hz).trans e)).trans ?_;exact aS (bj (aW (ai rfl al) hlen))
 .refine⟨k,bz (B:=q9) (n:=5) ?_,fun h=>absurd h g,fun _=>by simpa using hk⟩;unfold q9;refine(au (aZ (d:=TD []) rfl)).trans ?_;exact aS ((fj hz).trans e)
open Classical in
theorem Ai(t:Bool){l:List (Option Int)}(b:Nat)(hl:l.length<=900):iP [wr t (l.map oi),nD b]=.ok (.bl (decide (Gd b l))):=by
 obtain⟨k,e,h1,h2⟩:=EU t b hl;have hlen:lenD [wr t (l.map oi)]=some (nD l.length):=by rw[kb,g_]
 have hk:decide (k=l.length)=decide (Gd b l):=by
  by_cases g:Gd b l
  .rw[decide_eq_true g,decide_eq_true (h1 g)]
  .rw[decide_eq_false g,decide_eq_false (by have:=h2 g;omega)]
 refine bz (B:=Ba) (n:=2) ?_;unfold Ba;rw[<-hk];exact aS (bj (am (aT (ai rfl (ai rfl al)) e) (aW (ai rfl al) hlen) (jz _ _)))
open Classical in
theorem F6(t:Bool){l:List (Option Int)}(b:Nat)(hl:l.length<=900):kN [wr t (l.map oi),nD b]=.ok (.bl (decide (l.length=b/\Gd b l))):=by
 have hlen:lenD [wr t (l.map oi)]=some (nD l.length):=by rw[kb,g_]
 have te:=jz l.length b;refine bz (B:=BS) (n:=2) ?_;unfold BS;refine aS (bj ?_);by_cases h:l.length=b
 .rw[decide_eq_true h]at te;rw[ji (am (aW (ai rfl al) hlen) rfl te)];have:decide (l.length=b/\Gd b l)=decide (Gd b l):=by by_cases g:Gd b l <;> simp[h,g]
  rw[this];exact aT (ai rfl (ai rfl al)) (Ai t b hl)
 .rw[decide_eq_false h]at te;rw[qa (am (aW (ai rfl al) hlen) rfl te),decide_eq_false (fun z=>h z.1)]
theorem Fj{n:Nat}{l:List (Option Int)}:(l.length=n/\Gd n l)↔∃ks:List Nat,l=jJ ks/\ks.Perm (e_ n):=by
 constructor
 .rintro⟨h,ks,e,nd,lt⟩
  refine⟨ks,e,Rg.Ah nd (fun x hx=>r_.mpr (lt x hx)) ?_⟩;rw[e]at h;simp at h ⊢;omega
 .rintro⟨ks,e,p⟩
  refine⟨by rw[e];simp[p.length_eq],ks,e,p.nodup_iff.mpr VJ,fun k hk=>r_.mp (p.mem_iff.mp hk)⟩
abbrev OL(oz:List (Option Nat)):D:=.lst (oz.map oD)
structure Own(oz:List (Option Nat))(m:Nat):Prop where
 lt:∀x,some x∈oz->x<m
 inj:∀h k x,own oz h=some x->own oz k=some x->h=k
theorem FM{oz:List (Option Nat)}{h x:Nat}(e:own oz h=some x):some x∈oz/\h<oz.length:=by unfold own at e;cases q:oz[h]? with
|none=>rw[q]at e;cases e
|some o=>rw[q]at e;have:o=some x:=e;subst this;exact⟨Yq q,(j_.mp q).1⟩
theorem KP{mm:List Md}{f:FE}{ft:FT}{r r':ao}{d:D}(h:f r=.ok d)(h2:ft d r=some r'):lq mm f ft r=.nx r':=by unfold lq;rw[h,onE_ok];simp only[h2]
theorem sZ(l:List Nat)(i:Nat):nv (LN l) none (some (i:Int))=some (LN (l.take i)):=by show some (D.lst (bf (l.map nD) none (some (i:Int))))=_;unfold bf;rw[HT.ce,HT.bO,g_,YR,Zu,<-Yp];show some (D.lst _)=some (D.lst ((l.take i).map nD));rw[ZC.mpr (by omega:min (min i l.length) l.length=min i l.length)]
theorem EE{a b:List Nat}(h:a.length+b.length<=1000):addE (LN a) (LN b)=some (LN (a++b)):=by show addA (LN a) (LN b)=_;show(if (a.map nD).length+(b.map nD).length<=sizeLine then some (D.lst (a.map nD++b.map nD))else none)=_;rw[if_pos (by rw[g_,g_,Vw];omega),<-H_]
theorem EZ(l:List Nat)(k:Nat):kU (LN l) none (some (k:Int))=some (LN (l.take k)):=by rw[<-sZ];rfl
abbrev eQ(l:List Nat):List Nat:=l.drop 1++l.take 1
theorem HW{l:List Nat}(h1:1<=l.length)(hl:l.length<=900):jp [LN l]=.ok (LN (eQ l)):=by refine bz (B:=rc) (n:=1) ?_;unfold rc;exact aS (bj (am (iM (d:=LN l) rfl (fN (i:=((1:Nat):Int)) rfl) rfl (GD h1)) (iM (d:=LN l) rfl rfl (fN (i:=((1:Nat):Int)) rfl) (EZ l 1)) (EE (by simp;omega))))
theorem GY:∀l:List Nat,dR (l.map nD)=some (l.map fun k:Nat=>(k:Int))
|[]=>rfl
|k::l=>by show(dR (l.map nD)).map _=_;rw[GY l];rfl
theorem NR{l:List Nat}(h:l≠[]):∃k∈l,(∀x∈l,k<=x)/\je [LN l]=some (nD k):=by cases l with
|nil=>exact absurd rfl h
|cons a l=>
  have e:je [LN (a::l)]=some (.int (dL ((a::l).map fun k:Nat=>(k:Int)))):=by show(dR ((a::l).map nD)).map _=_;rw[GY];rfl
  have hm:=Av (ks:=(a::l).map fun k:Nat=>(k:Int)) (by simp);obtain⟨k,k1,k2⟩:=C_.mp hm;refine⟨k,k1,fun x hx=>?_,by rw[e,<-k2]⟩;have:=qd (ks:=(a::l).map fun k:Nat=>(k:Int)) (C_.mpr ⟨x,hx,rfl⟩);rw[<-k2]at this;exact Int.ofNat_le.mp this
theorem F4{A:List Nat}{i j:Nat}(hi:i<=A.length)(hj:j<A.length):(A.drop i++A.take i)[j]? = A[(i+j)%A.length]?:=by
 by_cases h:j<A.length-i
 .rw[O_ (by rw[VI];exact h),YS,Zd (by omega)]
 .rw[VP (by rw[VI];omega),VI,List.getElem?_take,if_pos (by omega)];congr 1;have:i+j=(i+j-A.length)+A.length:=by omega
  rw[this,Nat.add_mod_right,Zd (by omega)];omega
theorem Cm:∀(ns acc:List Int),(acc++ns).Nodup->(ns.foldl WE acc).length=acc.length+ns.length
|[],acc,_=>rfl
|k::ns,acc,h=>by
  have hk:k∉acc:=fun z=>(List.nodup_append.mp h).2.2 k z k p_ rfl;have e:WE acc k=acc++[k]:=by unfold WE;rw[if_neg (by simpa using hk)]
  rw[Yz,e,Cm ns (acc++[k]) (by simpa using h)];simp;omega
theorem p6{dl:List Nat}{i h:Nat}(e:dl[i]? = some h):aN dl i=h:=by unfold aN;rw[s_,e];rfl
theorem jn{l:List Nat}{n:Nat}(h:l.Perm (e_ n)):l.length=n:=by rw[h.length_eq];simp
theorem Ag{l:List Nat}{n x:Nat}(h:l.Perm (e_ n))(hx:x<n):aN l x<n:=r_.mp (h.mem_iff.mp (tV (by rw[jn h];exact hx)))
theorem uM{l:List Nat}{n x y:Nat}(h:l.Perm (e_ n))(hx:x<n)(hy:y<n)(e:aN l x=aN l y):x=y:=M9 (h.nodup_iff.mpr VJ) (by rw[jn h];exact hx) (by rw[jn h];exact hy) e
abbrev WL(tb:Bool)(w:List Nat):DL.D:=wr tb (w.map nD)
theorem Pa{tb:Bool}{l:List Nat}{n x:Nat}(h:l.Perm (e_ n))(hx:x<n):ax (WL tb l) (nD x)=some (nD (aN l x)):=JE (yD (by rw[jn h];exact hx))
theorem FD(w:List Nat):OL (w.map some)=LN w:=by show DL.D.lst _=DL.D.lst _;rw[A_];rfl
theorem DR{r:List Nat}(h:r≠[]):ax (LN r) (.int 0)=some (nD (r.headD 0)):=by cases r with
|nil=>exact absurd rfl h
|cons a t=>exact ixA_L0 _ _
theorem zY{α:Type}(p:α->Bool):∀l:List α,jd (l.map fun x=>DL.D.bl (p x))=some (l.map p)
|[]=>rfl
|x::l=>by show(jd (l.map fun x=>DL.D.bl (p x))).map _=_;rw[zY p l];rfl
theorem sW{α:Type}(p:α->Bool)(l:List α):anyD [.lst (l.map fun x=>DL.D.bl (p x))]=some (.bl (l.any p)):=by show(jd _).map _=_;rw[zY,VZ,WY];rfl
theorem jW{r:List Nat}{i:Nat}(hi:i<r.length):ax (LN r) (nD i)=some (nD (aN r i)):=iu (yD hi)
theorem iO(r:List Nat):(eQ r).Perm r:=by
 have:=(ZD (l₁:=r.drop 1) (l₂:=r.take 1))
 rw[Yj]at this;exact this
abbrev pI(p:Int×Int):DL.D:=.tup [.int p.1,.int p.2]
abbrev rg(tb:Bool)(ps:List (Int×Int)):DL.D:=wr tb (ps.map pI)
abbrev aL(r:List Nat):List Int:=r.map fun k:Nat=>(k:Int)
theorem mQ:∀l:List Int,dR (l.map DL.D.int)=some l
|[]=>rfl
|k::l=>by show(dR (l.map DL.D.int)).map _=_;rw[mQ l];rfl
theorem uP:∀(ns acc:List Int),(ns.foldl WE acc).length<=acc.length+ns.length
|[],acc=>by simp
|k::ns,acc=>by
  rw[Yz];have:=uP ns (WE acc k);have h2:(WE acc k).length<=acc.length+1:=by unfold WE;split <;> simp
  simp only[Q_];omega
theorem AO:∀(ns acc:List Int),acc.Nodup->(ns.foldl WE acc).length=acc.length+ns.length->(acc++ns).Nodup
|[],acc,h,_=>by simpa using h
|k::ns,acc,h,e=>by
  rw[Yz]at e;by_cases hk:k∈acc
  .have e1:WE acc k=acc:=by unfold WE;rw[if_pos (by simpa using hk)]
   rw[e1]at e;have:=uP ns acc;simp only[Q_]at e;omega
  .have e1:WE acc k=acc++[k]:=by unfold WE;rw[if_neg (by simpa using hk)]
   rw[e1]at e;have:=AO ns (acc++[k]) (WZ.mpr ⟨h,by simp,fun a ha b hb=>by rw[Vp.mp hb];rintro rfl;exact hk ha⟩) (by simp at e ⊢;omega);simpa using this
theorem zL{hs:List Int}(h:∀x∈hs,0<=x):hs=aL (hs.map Xg):=by
 show hs=(hs.map Xg).map _;rw[A_]
 conv=>lhs;rw[<-Y1 hs]
 refine Vx fun x hx=>?_;exact(ZZ (h x hx)).symm
theorem ki(r:List Nat):IN (aL r)=LN r:=by show DL.D.lst _=DL.D.lst _;rw[A_];rfl
theorem tz{r:List Nat}:(aL r).Nodup↔r.Nodup:=by rw[Vy,W0,Vy];exact⟨fun h=>h.imp fun q z=>q (by rw[z]),fun h=>h.imp fun q z=>q (Wt.mp z)⟩
theorem idx_inj{l:List Nat}{a b:Nat}(h1:a∈l)(h2:b∈l)(e:l.idxOf a=l.idxOf b):a=b:=by have x:=Xl (VN h1);have y:=Xl (VN h2);simp only[e]at x;exact x.symm.trans y
theorem xZ(a b:Int):neD (.int a) (.int b)=some (.bl (! decide (a=b))):=by
 unfold neD;rw[eqB_int];show some (DL.D.bl (!(a==b)))=_;have:(a==b)=decide (a=b):=by rw[R_,beq_iff_eq,decide_eq_true_iff]
 rw[this]
theorem C8(l:List Int):lenD [IN l]=some (nD l.length):=iN _ _
theorem sr{l:List Int}(h:l≠[]):je [IN l]=some (.int (dL l)):=by cases l with
|nil=>exact absurd rfl h
|cons a t=>show(dR ((a::t).map DL.D.int)).map _=_;rw[mQ];rfl
theorem C6{l:List Int}(h:l≠[]):mv [IN l]=some (.int (eS l)):=by cases l with
|nil=>exact absurd rfl h
|cons a t=>show(dR ((a::t).map DL.D.int)).map _=_;rw[mQ];rfl
theorem Dd{l:List Int}(h:l≠[]):ax (IN l) (.int 0)=some (.int (l.headD 0)):=by cases l with
|nil=>exact absurd rfl h
|cons a t=>exact ixA_L0 _ _
theorem xW(a b:Int):fH (.int a) (.int b)=some (.bl (decide (a<b))):=rfl
theorem DQ(a b:Int):sv (.int a) (.int b)=some (.bl (decide (a>=b))):=rfl
theorem Ea(a b:Int):lj (.int a) (.int b)=some (.bl (decide (a<=b))):=rfl
theorem rS{l:List Int}(h:l.length<=60):lB (IN l)=some (nD (eh l).length):=by show(dR (l.map DL.D.int)).bind _=_;rw[mQ];show(if _ then some (DL.D.int ((eh l).length:Int))else none)=_;rw[if_pos (by unfold Xd;omega)]
theorem yA{ps:List (Int×Int)}{nl:Nat}{fi:FI}{ft:FT}{fe:FE}{r0:ao}{f:Int×Int->Int}(h1:fi r0=.ok (ps.map pI))(hl:ps.length<=30)(h:∀p,∃r1,ft (pI p) (bY nl [] r0)=some r1/\fe r1=.ok (.int (f p))):cy nl [] fi ft (fun _=>Res.ok true) fe r0=.ok (IN (ps.map f)):=by refine(iA (l:=ps) pI (fun p=>.int (f p)) h1 (by omega) fun p _=>h p).trans ?_;show Res.ok (DL.D.lst _)=Res.ok (DL.D.lst _);rw[A_];rfl
def lS:Wy->DL.D
|.ring r=>.tup [.str "ring",LN r]
|.line r x=>.tup [.str "line",LN r,nD x]
theorem Re(w:Wy):ax (lS w) (.int 1)=some (LN w.hands):=by cases w <;> exact fL (i:=1) rfl
theorem lK{i:Nat}{r:ao}{k0 k:Str}{ds:List DL.D}{b:Bool}(hr:r[i]? = some (some (.tup (.str k0::ds))))(h:(k0==k)=b):(aK (f2 (f2 (fun r=>cg r i) (fun _=>Res.ok (DL.D.int 0)) ax) (fun _=>Res.ok (DL.D.str k)) eqD)) r=.ok b:=by refine bR (am (am (by show cg r i=_;unfold cg;rw[hr]) rfl (ixA_T0 _ _)) rfl ?_);unfold eqD;rw[eqB_str,h];rfl
theorem Gp{i:Nat}{r:ao}{w:Wy}{k:Str}{b:Bool}(hr:r[i]? = some (some (lS w)))(h:(w.kind==k)=b):(aK (f2 (f2 (fun r=>cg r i) (fun _=>Res.ok (DL.D.int 0)) ax) (fun _=>Res.ok (DL.D.str k)) eqD)) r=.ok b:=by cases w with
|ring r=>exact lK hr h
|line r x=>exact lK hr h
theorem QG(D:Dl rz dl n m){w:Wy}(hw:w.hands≠[])(hlt:∀h∈w.hands,h<n)(hl:w.hands.length<=60):m4 [TN dl,lS w]=.ok (LN (w.things dl)):=by refine bz (B:=qS) (n:=3) ?_;unfold qS;cases hh:w.hands with
|nil=>exact absurd hh hw
|cons a t=>
  rw[hh]at hlt hl;have z:=Re w;rw[hh]at z;have e1:(ap dI 2 (cy 1 [0] (aU bN (aF (ag (f2 (gv 1) (fun _=>Res.ok (DL.D.int 1)) ax) ae) [] jp)) (aG 0) (fun _=>Res.ok true) (f2 (gv 1) (gv 0) ax))) [some (TN dl),some (lS w),none]=.nx [some (TN dl),some (lS w),some (LN (t.map (aN dl)++[aN dl a]))]:=by
   have:=iA (nl:=1) (cap:=[0]) (fi:=aU bN (aF (ag (f2 (gv 1) (fun _=>Res.ok (DL.D.int 1)) ax) ae) [] jp)) (ft:=aG 0) (fe:=f2 (gv 1) (gv 0) ax) (r:=[some (TN dl),some (lS w),none]) (l:=t++[a]) nD (fun h=>nD (aN dl h)) (hU (aT (ai (d:=LN (a::t)) (am rfl rfl z) al) (HW (l:=a::t) (by simp) (by simp at hl;simp;omega))) rfl) (by simp at hl ⊢;omega) fun h hm=>⟨[some (nD h),some (TN dl)],rfl,am rfl rfl (D.at (hlt h (by simpa[or_comm]using hm)))⟩
   refine aZ (this.trans ?_);show Res.ok (DL.D.lst _)=Res.ok (DL.D.lst ((t.map (aN dl)++[aN dl a]).map nD));rw[H_,H_,A_];rfl
  refine(au e1).trans ?_;have U:w.things dl=t.map (aN dl)++[w.last dl]:=by unfold Wy.things;rw[hh];rfl
  refine(au (r':=[some (TN dl),some (lS w),some (LN (w.things dl))]) ?_).trans ?_
  .rw[U];cases w with
  |ring r=>have:r=a::t:=hh;subst this;exact(bc (Gp (w:=.ring (a::t)) rfl rfl)).trans rfl
  |line r x=>refine(bW (Gp (w:=.line r x) rfl rfl)).trans ?_;exact au (iL (d:=LN (t.map (aN dl)++[aN dl a])) (k:=.int (-1)) (v:=nD x) rfl (am rfl rfl (fL rfl)) rfl Hq)
  exact aS (bj (d:=LN (w.things dl)) rfl)
def kd:Option Int->Str
|none => "ring"
|some _ => "line"
def rs:Option Int->List DL.D
|none=>[]
|some x=>[.int x]
abbrev wz(tb:Bool)(hs:List Int)(o:Option Int):DL.D:=.tup (.str (kd o)::wr tb (hs.map DL.D.int)::rs o)
theorem rK(tb:Bool)(hs:List Int)(o:Option Int):ax (wz tb hs o) (.int 1)=some (wr tb (hs.map DL.D.int)):=fL (i:=1) rfl
theorem kW(s:Str)(i:Int)(h:Qbl s=true)(k:Nat):cn (k+1) (.tup [.str s,.int i]):=mJ.mpr fun d hd=>by
 rcases m_.mp hd with rfl|hd
 .cases k <;> exact h
 .rcases m_.mp hd with rfl|hd
  .cases k <;> trivial
  .cases hd
theorem Fl{x:DL.D}{ds:List DL.D}(h:cn 60 x/\cn 60 (.tup ds)):inT x (.tup ds)=some (.bl (ds.any fun y=>ky y x)):=by unfold inT;exact if_pos h
theorem OH(tb:Bool)(hs:List Int)(o:Option Int):rj [wz tb hs o]=.ok (.bl true):=by
 refine bz (B:=Cb) (n:=1) ?_;unfold Cb;have hl:lenD [wz tb hs o]=some (.int (match o with|none=>2|some _=>3)):=by cases o <;> rfl
 refine aS (bj ?_);rw[ji (am (aW (ai rfl al) hl) rfl (by cases o <;> rfl))];have s2:cn 60 (.tup [.tup [.str "ring",.int 2],.tup [.str "line",.int 3]]):=mJ.mpr fun d hd=>by
  rcases m_.mp hd with rfl|hd
  .exact kW _ _ (by kernel_rfl) 58
  .rcases m_.mp hd with rfl|hd
   .exact kW _ _ (by kernel_rfl) 58
   .cases hd
 refine am (gA (ai (d:=.str (kd o)) (am rfl rfl (ixA_T0 _ _)) (ai (aW (ai rfl al) hl) al)) (by simp)) (gA (ai (gA (ds:=[.str "ring",.int 2]) rfl (by simp)) (ai (gA (ds:=[.str "line",.int 3]) rfl (by simp)) al)) (by simp)) ?_;cases o with
|none=>exact(Fl ⟨kW _ _ (by kernel_rfl) 59,s2⟩).trans (by kernel_rfl)
|some x=>exact(Fl ⟨kW _ _ (by kernel_rfl) 59,s2⟩).trans (by kernel_rfl)
theorem CO{tb:Bool}{l:List Int}(h:l.length<=60):lB (wr tb (l.map DL.D.int))=some (nD (eh l).length):=by
 have e:=rS h;cases tb
 .exact e
 .exact e
theorem Kl(l:List Nat)(k:Nat):eU (nD k) (TN l)=some (.bl (decide (k∈l))):=(show eU (nD k) (TN l)=eU (nD k) (LN l)from rfl).trans (sO l k)
theorem LG(l:List Nat)(k:Nat):cZ (nD k) (TN l)=some (.bl (! decide (k∈l))):=(show cZ (nD k) (TN l)=cZ (nD k) (LN l)from rfl).trans (tR l k)
def gQ(rz:List (List Nat))(dl:List Nat)(p:Nat×Nat):Bool:=decide (Rg.lk (Wr rz) p.1 p.2 (aN dl p.1))
theorem J6{α:Type}(p:α->Bool)(l:List α):allD [.lst (l.map fun x=>DL.D.bl (p x))]=some (.bl (l.all p)):=by show(jd _).map _=_;rw[zY,VZ,List.all_map];rfl
theorem Ft(D:Dl rz dl n m)(wy hd:Option DL.D):∀(ps:List (Nat×Nat))(y4 y5:Option DL.D),(∀p∈ps,p.1<n/\p.2<m) ->(ps.all (gQ rz dl)=true->∃z U,aI (c6 (bq (aG 4) (bq (aG 5) cW))) rC (ps.map fun p=>DL.D.tup [nD p.1,nD p.2]) [some (WD rz),some (TN dl),wy,hd,y4,y5]=.nx [some (WD rz),some (TN dl),wy,hd,z,U]) /\(ps.all (gQ rz dl)=false->aI (c6 (bq (aG 4) (bq (aG 5) cW))) rC (ps.map fun p=>DL.D.tup [nD p.1,nD p.2]) [some (WD rz),some (TN dl),wy,hd,y4,y5]=.rt (.bl false))
|[],y4,y5,_=>⟨fun _=>⟨y4,y5,gB⟩,fun h=>(nomatch h)⟩
|p::ps,y4,y5,hp=>by obtain⟨h1,h2⟩:=hp p p_;obtain⟨i1,i2⟩:=Ft D wy hd ps (some (nD p.1)) (some (nD p.2)) fun q hq=>hp q (t_ _ hq);have t:=dE (c9 (aT (fl:=ag (gv 0) (ag (gv 4) (ag (gv 5) (ag (f2 (gv 1) (gv 4) ax) ae)))) (dds:=[]) (r:=[some (WD rz),some (TN dl),wy,hd,some (nD p.1),some (nD p.2)]) (ai rfl (ai rfl (ai rfl (ai (am rfl rfl (D.at h1)) al)))) (HX D h1 h2 (D.dlt h1))) rfl);rw[WN];show(((gQ rz dl p&&_)=true->∃z U,aI _ _ (DL.D.tup [nD p.1,nD p.2]::_) _=_)/\((gQ rz dl p&&_)=false->aI _ _ (DL.D.tup [nD p.1,nD p.2]::_) _=_));cases q:gQ rz dl p with
 |true=>rw[show decide (Rg.lk (Wr rz) p.1 p.2 (aN dl p.1))=true from q]at t;have st:=fq (ft:=c6 (bq (aG 4) (bq (aG 5) cW))) (b:=rC) (r:=[some (WD rz),some (TN dl),wy,hd,y4,y5]) (d:=DL.D.tup [nD p.1,nD p.2]) (ds:=ps.map fun p=>DL.D.tup [nD p.1,nD p.2]) (r1:=[some (WD rz),some (TN dl),wy,hd,some (nD p.1),some (nD p.2)]) rfl ((au ((bc t).trans (e_skip _))).trans rfl);rw[st,Qbh];exact⟨i1,i2⟩
 |false=>rw[show decide (Rg.lk (Wr rz) p.1 p.2 (aN dl p.1))=false from q]at t;refine⟨fun h=>by simp at h,fun _=>?_⟩;exact oy (r1:=[some (WD rz),some (TN dl),wy,hd,some (nD p.1),some (nD p.2)]) rfl (aS ((bW t).trans (aS (bj (d:=.bl false) rfl))))
def eL(ks:List Nat):Option Nat->Wy
|none=>.ring ks
|some x=>.line ks x
theorem kr(ks:List Nat)(o:Option Nat):(eL ks o).hands=ks:=by cases o <;> rfl
theorem kQ(tb:Bool)(ks:List Nat)(o:Option Nat):wz tb (aL ks) (o.map fun x:Nat=>(x:Int))=(if tb then eJ (eL ks o)else lS (eL ks o)):=by cases tb <;> cases o <;> (show DL.D.tup (_::_::_)=DL.D.tup (_::_::_);unfold aL wr;rw[A_];rfl)
theorem Mt(D:Dl rz dl n m)(tb:Bool){ks:List Nat}{o:Option Nat}(ne:ks≠[])(lt:∀h∈ks,h<n)(hl:ks.length<=60):m4 [TN dl,wz tb (aL ks) (o.map fun x:Nat=>(x:Int))]=.ok (LN ((eL ks o).things dl)):=by
 rw[kQ];cases tb
 .exact QG D (by rw[kr];exact ne) (by rw[kr];exact lt) (by rw[kr];exact hl)
 .exact Sj D (by rw[kr];exact ne) (by rw[kr];exact lt) (by rw[kr];exact hl)
theorem Mu(D:Dl rz dl n m){ks:List Nat}{o:Option Nat}(ne:ks≠[])(lt:∀h∈ks,h<n)(hl:ks.length<=60):ng [TN dl,wz true (aL ks) (o.map fun x:Nat=>(x:Int))]=.ok (LN ((eL ks o).things dl)):=by rw[kQ];exact R9 D (by rw[kr];exact ne) (by rw[kr];exact lt) (by rw[kr];exact hl)
theorem Ht(D:Dl rz dl n m){ks:List Nat}{o:Option Nat}(ne:ks≠[])(lt:∀h∈ks,h<n)(ho:∀x,o=some x->x<m):∀x∈(eL ks o).things dl,x<m:=by
 intro x hx;unfold Wy.things at hx;rw[kr]at hx;rcases Wf.mp hx with h|h
 .obtain⟨k,k1,rfl⟩:=C_.mp h;exact D.dlt (lt k (List.mem_of_mem_tail k1))
 .rw[Vp.mp h];cases o with
 |none=>refine D.dlt (lt _ ?_);cases ks with
  |nil=>exact absurd rfl ne
  |cons a t=>exact p_
 |some y=>exact ho y rfl
theorem E7{ks ts:List Nat}(h1:∀h∈ks,h<n)(h2:∀x∈ts,x<m):∀p∈ks.zip ts,p.1<n/\p.2<m:=fun p hp=>by obtain⟨a,b⟩:=p;exact⟨h1 a (X0 hp).1,h2 b (X0 hp).2⟩
open Classical in
theorem Gz(D:Dl rz dl n m)(x:Int):vR [WD rz,TN dl,.int x]=.ok (.bl (decide (∃k:Nat,x=(k:Int)/\k<m/\k∉dl))):=by
 refine bz (B:=B2) (n:=3) ?_;unfold B2;have hb:=FJ x m;have c:=aT (fl:=ag (gv 2) (ag (aF (ag (gv 0) ae) [] hV) ae)) (dds:=[]) (r:=a9 3 [WD rz,TN dl,.int x]) (ai rfl (ai (d:=nD m) (aT (ai rfl al) D.R.things) al)) hb;refine aS (bj ?_);by_cases h:0<=x/\x<(m:Int)
 .obtain⟨k,rfl⟩:∃k:Nat,x=(k:Int):=⟨x.toNat,by omega⟩
  rw[decide_eq_true h]at c;rw[ji c];refine(am rfl rfl (LG dl k)).trans ?_;congr 2;rw[<-decide_not,decide_eq_decide];exact⟨fun z=>⟨k,rfl,by omega,z⟩,fun⟨k',e,_,z⟩=>by have:k=k':=Wt.mp e;rw[this];exact z⟩
 .rw[decide_eq_false h]at c;rw[qa c,decide_eq_false]
  rintro⟨k,rfl,z,_⟩
  exact h ⟨by omega,by omega⟩
abbrev j4(rz:List (List Nat))(dl:List Nat)(hs:List Int)(o:Option Int)(l_:ao):ao:=some (WD rz)::some (TN dl)::some (wz true hs o)::some (wr true (hs.map DL.D.int))::l_
theorem Cz(tb:Bool)(hs:List Int):jL (wr tb (hs.map DL.D.int))=some (decide (hs≠[])):=by cases hs <;> cases tb <;> rfl
theorem zP(hs:List Int):(hs.map some).map oi=hs.map DL.D.int:=by rw[A_];rfl
theorem C7(tb:Bool)(hs:List Int):lenD [wr tb (hs.map DL.D.int)]=some (nD hs.length):=by rw[kb,g_]
theorem Nv{fa fb fc:FE}{k k':DL.D->DL.D->Option DL.D}{r:ao}{x y:DL.D}(h1:fa r=.ok x)(h2:fb r=.ok y)(h3:k x y=some (.bl false)):jA fa fb fc k k' r=.ok (.bl false):=by unfold jA;rw[h1,bind_ok,h2,bind_ok,h3];rfl
theorem C4{l:List Int}(h:l≠[]):je [wr true (l.map DL.D.int)]=some (.int (dL l)):=by cases l with
|nil=>exact absurd rfl h
|cons a t=>show(dR ((a::t).map DL.D.int)).map _=_;rw[mQ];rfl
theorem C5{l:List Int}(h:l≠[]):mv [wr true (l.map DL.D.int)]=some (.int (eS l)):=by cases l with
|nil=>exact absurd rfl h
|cons a t=>show(dR ((a::t).map DL.D.int)).map _=_;rw[mQ];rfl
theorem tH{n:Nat}{hs:List Int}(h:Gd n (hs.map some)):∃ks:List Nat,hs=aL ks/\ks.Nodup/\∀k∈ks,k<n:=by obtain⟨ks,e,nd,lt⟩:=h;refine⟨ks,?_,nd,lt⟩;have:=congrArg (VE fun o:Option Int=>o.getD 0) e;simpa[Y0]using this
theorem p9{n:Nat}{ks:List Nat}(nd:ks.Nodup)(lt:∀k∈ks,k<n):Gd n ((aL ks).map some):=⟨ks,by show(VE _ (VE _ ks))=_;rw[A_];rfl,nd,lt⟩
variable{hs:List Int}
open Classical in
theorem nk(tb:Bool)(hl:hs.length<=60):iP [wr tb (hs.map DL.D.int),nD n]=.ok (.bl (decide (Gd n (hs.map some)))):=by have h:=Ai tb (l:=hs.map some) n (by simp;omega);rw[zP]at h;exact h
abbrev SZ:FQ:=(dq (bQ (bu (aF (ag (gv 2) ae) [] rj))) (dq (bQ (bu (f2 (gv 2) (ci 1) ax))) (bQ (bu (aF (ag (f2 (gv 2) (ci 1) ax) (ag (fC (ag (gv 0) ae) lenD) ae)) [] iP)))))
open Classical in
theorem zI(D:Dl rz dl n m)(tb:Bool)(hl:hs.length<=60)(o:Option Int):SZ [some (WD rz),some (TN dl),some (wz tb hs o)]=.ok (! decide (hs≠[]/\Gd n (hs.map some))):=by
 have e1:=dE (c9 (aT (fl:=ag (gv 2) ae) (dds:=[]) (r:=[some (WD rz),some (TN dl),some (wz tb hs o)]) (ai rfl al) (OH tb hs o)) (b:=true) rfl);have w1:=am (f:=gv 2) (f':=fun _=>Res.ok (DL.D.int 1)) (k:=ax) (r:=[some (WD rz),some (TN dl),some (wz tb hs o)]) (a:=wz tb hs o) (b:=.int 1) rfl rfl (rK tb hs o);have e2:=dE (c9 w1 (Cz tb hs));have e3:=dE (c9 (aT (dds:=[]) (ai w1 (ai (f:=fC (ag (gv 0) ae) lenD) (d:=nD n) (aW (ai rfl al) D.R.len) al)) (nk (n:=n) tb hl)) rfl);refine(bF e1).trans ?_;by_cases c:hs=[]
 .rw[decide_eq_false (fun z:hs≠[]=>z c)]at e2;rw[decide_eq_false (fun z:hs≠[]/\Gd n (hs.map some)=>z.1 c)];exact df e2
 .rw[decide_eq_true c]at e2;refine(bF e2).trans (e3.trans ?_);congr 2;rw[decide_eq_decide];exact⟨fun z=>⟨c,z⟩,fun z=>z.2⟩
open Classical in
theorem Lg(D:Dl rz dl n m)(tb:Bool)(hl:hs.length<=60)(o:Option Int)(h:¬ (hs≠[]/\Gd n (hs.map some))):lR [WD rz,TN dl,wz tb hs o]=.ok (.bl false):=by have e:=zI D tb hl o;rw[decide_eq_false h]at e;refine bz (B:=m5) (n:=3) ?_;unfold m5;exact aS ((bW e).trans (aS (bj (d:=.bl false) rfl)))
abbrev lg(dl:List Nat)(m:Nat)(x:Int):Prop:=∃k:Nat,x=(k:Int)/\k<m/\k∉dl
open Classical in
theorem CZ(D:Dl rz dl n m)(tb:Bool)(hl:hs.length<=60){x:Int}(h:hs≠[]/\Gd n (hs.map some))(hx:¬ lg dl m x):lR [WD rz,TN dl,wz tb hs (some x)]=.ok (.bl false):=by have e:=zI D tb hl (some x);rw[decide_eq_true h]at e;have l:=Gz D x;rw[decide_eq_false hx]at l;refine bz (B:=m5) (n:=3) ?_;unfold m5;refine(au ((bc e).trans (e_skip _))).trans ?_;refine aS ((bW ?_).trans (aS (bj (d:=.bl false) rfl)));refine(jc (lK (k0 := "line") (ds:=wr tb (hs.map DL.D.int)::rs (some x)) rfl rfl)).trans ?_;exact dE (b:=false) (c9 (aT (ai rfl (ai rfl (ai (d:=.int x) (am rfl rfl (fL (i:=2) rfl)) al))) l) rfl)
open Classical in
theorem Lf(D:Dl rz dl n m)(tb:Bool){ks:List Nat}(hl:ks.length<=60){o:Option Nat}(ne:ks≠[])(nd:ks.Nodup)(lt:∀h∈ks,h<n)(ho:∀x,o=some x->x<m/\x∉dl):lR [WD rz,TN dl,wz tb (aL ks) (o.map fun x:Nat=>(x:Int))]=.ok (.bl ((ks.zip ((eL ks o).things dl)).all (gQ rz dl))):=by
 have e:=zI D tb (hs:=aL ks) (by simpa[aL]using hl) (o.map fun x:Nat=>(x:Int));rw[decide_eq_true ⟨by cases ks with|nil=>exact absurd rfl ne|cons a t=>simp[aL],p9 nd lt⟩]at e;have hz:=E7 (n:=n) (m:=m) lt (Ht D ne lt fun x hx=>(ho x hx).1);refine bz (B:=m5) (n:=3) ?_;unfold m5;refine(au ((bc e).trans (e_skip _))).trans ?_;refine(au ((bc ?_).trans (e_skip _))).trans ?_
 .cases o with
 |none=>exact l8 (lK (k0 := "ring") (ds:=[wr tb ((aL ks).map DL.D.int)]) rfl rfl)
 |some x=>have l:=Gz D (x:Int);rw[decide_eq_true (show lg dl m (x:Int)from⟨x,rfl,ho x rfl⟩)]at l;refine(jc (lK (k0 := "line") (ds:=wr tb ((aL ks).map DL.D.int)::[.int (x:Int)]) rfl rfl)).trans ?_;exact dE (b:=true) (c9 (aT (ai rfl (ai rfl (ai (d:=.int (x:Int)) (am rfl rfl (fL (i:=2) rfl)) al))) l) rfl)
 have hs1:bN (wr tb ((aL ks).map DL.D.int))=some (ks.map nD):=by rw[kh];show some (VE _ (VE _ ks))=_;rw[A_];rfl
 have hzip:=Am (fa:=f2 (gv 2) (fun _=>Res.ok (DL.D.int 1)) ax) (fb:=aF (ag (gv 1) (ag (gv 2) ae)) [] m4) (r:=[some (WD rz),some (TN dl),some (wz tb (aL ks) (o.map fun x:Nat=>(x:Int)))]) (am rfl rfl (rK _ _ _)) (aT (dds:=[]) (ai rfl (ai rfl al)) (Mt D tb ne lt hl)) hs1 (show bN (LN _)=some _ from rfl);rw[AB]at hzip;exact aS (bj ((aW (ai (iA (l:=ks.zip ((eL ks o).things dl)) (fun p=>DL.D.tup [nD p.1,nD p.2]) (fun p=>DL.D.bl (gQ rz dl p)) hzip (by rw[List.length_zip];omega) fun p hp=>⟨[some (nD p.1),some (nD p.2),some (WD rz),some (TN dl)],rfl,aT (ai rfl (ai rfl (ai rfl (ai (am rfl rfl (D.at (hz p hp).1)) al)))) (qq D (hz p hp).1 (hz p hp).2 (D.dlt (hz p hp).1))⟩) al) (J6 (gQ rz dl) _))))
abbrev Ju:FQ:=(dq (aK (f2 (fC (ag (gv 3) ae) lenD) (ci 0) eqD)) (dq (aK (f2 (f1 (gv 3) lB) (fC (ag (gv 3) ae) lenD) fH)) (dq (aK (f2 (fC (ag (gv 3) ae) je) (ci 0) fH)) (aK (f2 (fC (ag (gv 3) ae) mv) (fC (ag (gv 0) ae) lenD) sv)))))
open Classical in
theorem zO(D:Dl rz dl n m)(hl:hs.length<=60)(o:Option Int):Ju (j4 rz dl hs o [none,none])=.ok (! decide (hs≠[]/\Gd n (hs.map some))):=by
 have L:=aW (fl:=ag (gv 3) ae) (r:=j4 rz dl hs o [none,none]) (ai rfl al) (C7 true hs);have e0:=bR (am (f':=fun _=>Res.ok (DL.D.int 0)) L (b:=nD 0) rfl (jz hs.length 0));by_cases c:hs=[]
 .rw[decide_eq_true (by rw[c];rfl)]at e0;rw[decide_eq_false (fun z:hs≠[]/\Gd n (hs.map some)=>z.1 c)];exact df e0
 rw[decide_eq_false (by intro z;exact c (Ze.mp z))]at e0;refine(bF e0).trans ?_;have e1:=bR (am (fQ (f:=gv 3) (k:=lB) (r:=j4 rz dl hs o [none,none]) (a:=wr true (hs.map DL.D.int)) rfl (CO hl)) L (nY (eh hs).length hs.length));have e2:=bR (am (f':=fun _=>Res.ok (DL.D.int 0)) (aW (fl:=ag (gv 3) ae) (r:=j4 rz dl hs o [none,none]) (ai rfl al) (C4 c)) (b:=.int 0) rfl (xW _ _));have e3:=bR (am (aW (fl:=ag (gv 3) ae) (r:=j4 rz dl hs o [none,none]) (ai rfl al) (C5 c)) (aW (fl:=ag (gv 0) ae) (ai rfl al) D.R.len) (DQ _ _));by_cases g:Gd n (hs.map some)
 .obtain⟨ks,rfl,nd,lt⟩:=tH g;rw[decide_eq_true ⟨c,g⟩];have f1:(eh (aL ks)).length=(aL ks).length:=by have:=Cm (aL ks) [] (by simpa using tz.mpr nd);unfold eh;rw[this];simp
  rw[decide_eq_false (by omega)]at e1;have f2:¬ dL (aL ks)<0:=by obtain⟨k,k1,k2⟩:=C_.mp (Av c);rw[<-k2];omega
  rw[decide_eq_false f2]at e2;have f3:¬ eS (aL ks)>=(n:Int):=by obtain⟨k,k1,k2⟩:=C_.mp (GU c);have:=lt k k1;rw[<-k2];omega
  rw[decide_eq_false f3]at e3;exact(bF e1).trans ((bF e2).trans e3)
 .rw[decide_eq_false (fun z:hs≠[]/\Gd n (hs.map some)=>g z.2)];by_cases c1:(eh hs).length<hs.length
  .rw[decide_eq_true c1]at e1;exact df e1
  rw[decide_eq_false c1]at e1;refine(bF e1).trans ?_;by_cases c2:dL hs<0
  .rw[decide_eq_true c2]at e2;exact df e2
  rw[decide_eq_false c2]at e2;refine(bF e2).trans ?_;by_cases c3:eS hs>=(n:Int)
  .rw[decide_eq_true c3]at e3;exact e3
  exfalso;apply g;have hnd:hs.Nodup:=by have:=uP hs [];have:=AO hs [] (by simp) (by unfold eh at c1;simp at this c1 ⊢;omega);simpa using this
  have hr:=zL (hs:=hs) fun x hx=>by have:=qd hx;omega
  generalize hs.map Xg=ks at hr;subst hr;refine p9 (tz.mp hnd) fun k hk=>?_;have:=F7 (ks:=aL ks) (x:=(k:Int)) (C_.mpr ⟨k,hk,rfl⟩);omega
theorem xU(o:Option Int):pC (a9 6 [WD rz,TN dl,wz true hs o])=(af (bI de Ju (af (aw de (fun _=>Res.ok (D.bl false))) aq) aq) (af (bI de (c7 (aK (f2 (f2 (gv 2) (ci 0) ax) (fun _=>Res.ok (D.str "line")) eqD)) (dq (bQ (aK (jA (ci 0) (f2 (gv 2) (ci 2) ax) (fC (ag (f2 (gv 0) (ci 0) ax) ae) lenD) lj fH))) (aK (f2 (f2 (gv 2) (ci 2) ax) (gv 1) eU)))) (af (aw de (fun _=>Res.ok (D.bl false))) aq) aq) (af (eF de (il (gv 3) (aF (ag (gv 1) (ag (gv 2) ae)) [] ng)) (c6 (bq (aG 4) (bq (aG 5) cW))) rC) (af (aw de (fun _=>Res.ok (D.bl true))) aq)))) (j4 rz dl hs o [none,none]):=by unfold pC;exact au (aZ (am rfl rfl (rK true hs o)))
open Classical in
theorem LC(D:Dl rz dl n m)(hl:hs.length<=60)(o:Option Int)(h:¬ (hs≠[]/\Gd n (hs.map some))):mZ [WD rz,TN dl,wz true hs o]=.ok (.bl false):=by have e:=zO D hl o;rw[decide_eq_false h]at e;refine bz (B:=pC) (n:=6) ((xU o).trans ?_);exact aS ((bW e).trans (aS (bj (d:=.bl false) rfl)))
open Classical in
theorem EN(D:Dl rz dl n m)(x:Int):(dq (bQ (aK (jA (fun _=>Res.ok (DL.D.int 0)) (f2 (gv 2) (fun _=>Res.ok (DL.D.int 2)) ax) (fC (ag (f2 (gv 0) (fun _=>Res.ok (DL.D.int 0)) ax) ae) lenD) lj fH))) (aK (f2 (f2 (gv 2) (fun _=>Res.ok (DL.D.int 2)) ax) (gv 1) eU))) (j4 rz dl hs (some x) [none,none])=.ok (! decide (lg dl m x)):=by
 have g2:=am (f:=gv 2) (f':=fun _=>Res.ok (DL.D.int 2)) (k:=ax) (r:=j4 rz dl hs (some x) [none,none]) (a:=wz true hs (some x)) (b:=.int 2) rfl rfl (fL (i:=2) (d:=.int x) rfl);obtain⟨r0,hr0,hr1⟩:=D.R.ix0;by_cases c0:0<=x
 .have ch:=dE (bR (Fv (fa:=fun _=>Res.ok (DL.D.int 0)) (fc:=fC (ag (f2 (gv 0) (fun _=>Res.ok (DL.D.int 0)) ax) ae) lenD) (k:=lj) (k':=fH) (x:=.int 0) rfl g2 ((Ea 0 x).trans (by rw[decide_eq_true c0])) (aW (ai (am rfl rfl hr0) al) hr1) (xW x m)));by_cases c1:x<(m:Int)
  .rw[decide_eq_true c1]at ch;refine(bF ch).trans ?_;obtain⟨k,rfl⟩:∃k:Nat,x=(k:Int):=⟨x.toNat,by omega⟩
   refine(bR (am g2 (b:=TN dl) rfl (Kl dl k))).trans ?_;congr 1;by_cases z:k∈dl
   .rw[decide_eq_true z,decide_eq_false];rfl
    rintro⟨k',e,_,q⟩
    exact q (Wt.mp e▸z)
   .rw[decide_eq_false z,decide_eq_true];rfl;exact⟨k,rfl,by omega,z⟩
  .rw[decide_eq_false c1]at ch;rw[decide_eq_false (show ¬ lg dl m x from fun⟨k,e,q,_⟩=>c1 (by omega))];exact df ch
 .have ch:=dE (bR (Nv (fa:=fun _=>Res.ok (DL.D.int 0)) (fc:=fC (ag (f2 (gv 0) (fun _=>Res.ok (DL.D.int 0)) ax) ae) lenD) (k:=lj) (k':=fH) (x:=.int 0) rfl g2 ((Ea 0 x).trans (by rw[decide_eq_false c0]))));rw[decide_eq_false (show ¬ lg dl m x from fun⟨k,e,q,_⟩=>c0 (by omega))];exact df ch
open Classical in
theorem C9(D:Dl rz dl n m)(hl:hs.length<=60){x:Int}(h:hs≠[]/\Gd n (hs.map some))(hx:¬ lg dl m x):mZ [WD rz,TN dl,wz true hs (some x)]=.ok (.bl false):=by have e:=zO D hl (some x);rw[decide_eq_true h]at e;have l:=EN (hs:=hs) D x;rw[decide_eq_false hx]at l;refine bz (B:=pC) (n:=6) ((xU _).trans ?_);refine(au ((bc e).trans (e_skip _))).trans ?_;exact aS ((bW ((jc (lK (k0 := "line") (ds:=wr true (hs.map DL.D.int)::rs (some x)) rfl rfl)).trans l)).trans (aS (bj (d:=.bl false) rfl)))
open Classical in
theorem LB(D:Dl rz dl n m){ks:List Nat}(hl:ks.length<=60){o:Option Nat}(ne:ks≠[])(nd:ks.Nodup)(lt:∀h∈ks,h<n)(ho:∀x,o=some x->x<m/\x∉dl):mZ [WD rz,TN dl,wz true (aL ks) (o.map fun x:Nat=>(x:Int))]=.ok (.bl ((ks.zip ((eL ks o).things dl)).all (gQ rz dl))):=by
 have e:=zO D (hs:=aL ks) (by simpa[aL]using hl) (o.map fun x:Nat=>(x:Int));rw[decide_eq_true ⟨by cases ks with|nil=>exact absurd rfl ne|cons a t=>simp[aL],p9 nd lt⟩]at e;have hz:=E7 (n:=n) (m:=m) lt (Ht D ne lt fun x hx=>(ho x hx).1);refine bz (B:=pC) (n:=6) ((xU _).trans ?_);refine(au ((bc e).trans (e_skip _))).trans ?_;refine(au ((bc ?_).trans (e_skip _))).trans ?_
 .cases o with
 |none=>exact l8 (lK (k0 := "ring") (ds:=[wr true ((aL ks).map DL.D.int)]) rfl rfl)
 |some x=>have l:=EN (hs:=aL ks) D (x:Int);rw[decide_eq_true (show lg dl m (x:Int)from⟨x,rfl,ho x rfl⟩)]at l;exact(jc (lK (k0 := "line") (ds:=wr true ((aL ks).map DL.D.int)::[.int (x:Int)]) rfl rfl)).trans l
 have hs1:bN (wr true ((aL ks).map DL.D.int))=some (ks.map nD):=by rw[kh];show some (VE _ (VE _ ks))=_;rw[A_];rfl
 have hzip:=Am (fa:=gv 3) (fb:=aF (ag (gv 1) (ag (gv 2) ae)) [] ng) (r:=[some (WD rz),some (TN dl),some (wz true (aL ks) (o.map fun x:Nat=>(x:Int))),some (wr true ((aL ks).map DL.D.int)),none,none]) (d:=wr true ((aL ks).map DL.D.int)) rfl (aT (dds:=[]) (ai rfl (ai rfl al)) (Mu D ne lt hl)) hs1 (show bN (LN _)=some _ from rfl);rw[AB]at hzip;obtain⟨b1,b2⟩:=Ft D (some (wz true (aL ks) (o.map fun x:Nat=>(x:Int)))) (some (wr true ((aL ks).map DL.D.int))) (ks.zip ((eL ks o).things dl)) none none hz;cases q:(ks.zip ((eL ks o).things dl)).all (gQ rz dl)with
|true=>obtain⟨y4,y5,h⟩:=b1 q;refine(au ((fj hzip).trans h)).trans ?_;exact aS (bj (d:=.bl true) rfl)
|false=>exact aS ((fj hzip).trans (b2 q))
open Classical in
theorem Np(D:Dl rz dl n m)(hl:hs.length<=60)(o:Option Int):∃b:Bool,(∀tb,lR [WD rz,TN dl,wz tb hs o]=.ok (.bl b))/\mZ [WD rz,TN dl,wz true hs o]=.ok (.bl b):=by
 by_cases c:hs≠[]/\Gd n (hs.map some)
 rotate_left
 .exact⟨false,fun tb=>Lg D tb hl o c,LC D hl o c⟩
 by_cases hx:∀x,o=some x->lg dl m x
 .obtain⟨ks,rfl,nd,lt⟩:=tH c.2;obtain⟨o',rfl,ho'⟩:∃o':Option Nat,o=o'.map (fun x:Nat=>(x:Int))/\∀x,o'=some x->x<m/\x∉dl:=by cases o with
  |none=>exact⟨none,rfl,fun x h=>(nomatch h)⟩
  |some x=>obtain⟨k,rfl,k1,k2⟩:=hx x rfl;exact⟨some k,rfl,fun y hy=>by cases hy;exact⟨k1,k2⟩⟩
  have ne:ks≠[]:=by rintro rfl;exact c.1 rfl
  have hl':ks.length<=60:=by simpa[aL]using hl
  exact⟨_,fun tb=>Lf D tb hl' ne nd lt ho',LB D hl' ne nd lt ho'⟩
 .obtain⟨x,rfl,hx2⟩:∃x,o=some x/\¬ lg dl m x:=by cases o with
  |none=>exact absurd (fun x h=>(nomatch h)) hx
  |some x=>exact⟨x,rfl,fun z=>hx fun y hy=>by cases hy;exact z⟩
  exact⟨false,fun tb=>CZ D tb hl c hx2,C9 D hl c hx2⟩
theorem LI{s:FS}{r r':ao}(h:s r=.nx r'):ii s r=.nx r':=by unfold ii;rw[h]
theorem R7{a:Nat->Nat}{kvs:List (Nat×Nat)}{L:List Nat}{n:Nat}(g:GI a kvs L)(h:∀x,x∈L↔x<n)(h8:n<=60):vL [KD kvs]=.ok (TN ((e_ n).map a)):=by have hl:=g.full h;refine bz (B:=Bb) (n:=1) ?_;unfold Bb;refine aS (bj (aW (ai (km (l:=e_ n) nD (fun _=>true) (fun h=>nD (a h)) (kG (ds:=[nD n]) (ai (aW (ai rfl al) (by rw[Oo,hl])) al) (kF (by omega))) (by simp;omega) fun x hx=>⟨[some (nD x),some (KD kvs)],rfl,rfl,fun _=>am rfl rfl (yJ (AQ g.val ((g.key x).mpr ((h x).mpr (r_.mp hx)))))⟩) al) ?_));rw[qm,e_tupL];show some (D.tup _)=some (D.tup _);rw[A_];rfl
theorem Rws.best(R:Rws rz n m){h:Nat}{T:List Nat}(hh:h<n)(hT:0<T.length)(hm:∀x∈T,x<m):qu [TN (Wr rz h),LN T]=.ok (nD (Rg.best (Wr rz h) T)):=Pq (R.one hh hT hm) (by rw[(R.row hh).length_eq];have:=R.m8;simp;omega)
theorem Fs(R:Rws rz n m)(d:Nat->Nat)(od:Option D):∀(o L T:List Nat)(kvs:List (Nat×Nat))(y:Option D),Rg.nO (Wr rz) d o T->GI d kvs L->(∀h∈L++o,h<n)->o.length<=T.length->(∀x∈T,x<m) ->∃z T' y',GI d z (L++o)/\aI (aG 4) (ii IR) (o.map nD) [some (WD rz),od,some (LN T),some (KD kvs),y]=.nx [some (WD rz),od,some (LN T'),some (KD z),y']
|[],L,T,kvs,y,_,g,_,_,_=>⟨kvs,T,y,by rw[Wg];exact g,gB⟩
|h::o,L,T,kvs,y,s,g,hL,hl,hT=>by
  have hh:h<n:=hL h (by simp);have hp:0<T.length:=by simp at hl;omega
  have hb:=R.best hh hp hT;have U:=R.inT hh hp hT;rw[s.1]at hb U;obtain⟨z,T',y',g',ih⟩:=Fs R d od o (L++[h]) (T.erase (d h)) (putN kvs h (d h)) (some (nD h)) s.2 (g.put h) (by simpa using hL) (by rw[Ws U];simp at hl;omega) (fun x hx=>hT x (Xs hx));refine⟨z,T',y',by simpa using g',?_⟩;rw[<-ih];have hk:=g.len (line:=e_ n) fun x hx=>r_.mpr (hL x (Xx _ hx));have Y:=R.n7;refine fq (r1:=[some (WD rz),od,some (LN T),some (KD kvs),some (nD h)]) rfl ?_;refine LI ?_;refine(au (iL (d:=KD kvs) (k:=nD h) (v:=nD (d h)) rfl (aT (ai (am rfl rfl (fL (p8 (by rw[R.rl];exact hh)))) (ai rfl al)) hb) rfl (L5 (by simp at hk;omega)))).trans ?_;exact au (jj (d:=LN T) (ds:=[nD (d h)]) rfl rfl (ai (am rfl rfl (yJ (AQ (g.put h).val (((g.put h).key h).mpr (by simp))))) al) (tT U))
theorem Gc(R:Rws rz n m)(od:Option D):∀(o T:List Nat)(g:List (Option Nat))(y:Option D),o.Nodup->(∀h∈o,h<n)->o.length<=T.length->(∀x∈T,x<m)->g.length=n ->∃(g':List (Option Nat))(T':List Nat)(y':Option D),g'.length=n/\(∀h∈o,g'[h]? = some (some (Rg.eN (Wr rz) o T h)))/\(∀h,h∉o->g'[h]? = g[h]?) /\aI (aG 4) Jh (o.map nD) [some (WD rz),od,some (LN T),some (.lst (g.map oD)),y]=.nx [some (WD rz),od,some (LN T'),some (.lst (g'.map oD)),y']
|[],T,g,y,_,_,_,_,hg=>⟨g,T,y,hg,fun _ h=>(nomatch h),fun _ _=>rfl,gB⟩
|h::o,T,g,y,hn,hh,hl,hT,hg=>by
  have h0:=hh h p_;have U:=VQ.mp hn;have hp:0<T.length:=by simp at hl;omega
  have Z:=R.inT h0 hp hT;obtain⟨g',T',y',i1,i2,i3,i4⟩:=Gc R od o (T.erase (Rg.best (Wr rz h) T)) (g.set h (some (Rg.best (Wr rz h) T))) (some (nD h)) U.2 (fun k hk=>hh k (t_ _ hk)) (by rw[Ws Z];simp at hl;omega) (fun x hx=>hT x (Xs hx)) (by rw[Zx];exact hg);refine⟨g',T',y',i1,fun k hk=>?_,fun k hk=>?_,?_⟩
  .rcases m_.mp hk with e|Y
   .subst e;rw[i3 k U.1,x_ (by omega)];simp[Rg.eN]
   .have hne:k≠h:=fun e=>by subst e;exact U.1 Y
    rw[i2 k Y];simp[Rg.eN,hne]
  .rw[i3 k fun z=>hk (t_ _ z),h_]
   rintro rfl
   exact hk p_
  .rw[<-i4];refine fq (r1:=[some (WD rz),od,some (LN T),some (.lst (g.map oD)),some (nD h)]) rfl ?_;have es:(g.map oD).set h (nD (Rg.best (Wr rz h) T))=(g.set h (some (Rg.best (Wr rz h) T))).map oD:=by rw[Zv];rfl
   refine(au (iL (d:=.lst (g.map oD)) (k:=nD h) (v:=nD (Rg.best (Wr rz h) T)) rfl (aT (ai (am rfl rfl (fL (p8 (by rw[R.rl];exact h0)))) (ai rfl al)) (R.lbest h0 hp hT)) rfl (tu (by rw[g_];omega)))).trans ?_;rw[es];refine au (jj (d:=LN T) (ds:=[nD (Rg.best (Wr rz h) T)]) rfl rfl (ai (am rfl rfl (iu ?_)) al) (tT Z));rw[n_,x_ (by omega)];rfl
theorem IZ(R:Rws rz n m)(tb:Bool){o:List Nat}(hp:o.Perm (e_ n)):kt [WD rz,WL tb o]=.ok (TN ((e_ n).map (Rg.eN (Wr rz) o (e_ m)))):=by
 have U:=R.n7;have Y:=R.m8;have Z:=R.nm;have hlen:o.length=n:=by rw[hp.length_eq];simp
 obtain⟨r0,hr0,z⟩:=R.ix0;obtain⟨g',T',y',i1,i2,i3,i4⟩:=Gc R (some (WL tb o)) o (e_ m) (o.map fun _=>none) none (hp.nodup_iff.mpr VJ) (fun h hh=>r_.mp (hp.mem_iff.mp hh)) (by simp;omega) (fun x hx=>r_.mp hx) (by simp;exact hlen);have hg:g'=(e_ n).map fun h=>some (Rg.eN (Wr rz) o (e_ m) h):=by
  refine Xv fun h=>?_;by_cases hh:h<n
  .rw[i2 h (hp.mem_iff.mpr (r_.mpr hh)),n_,WG hh];rfl
  .rw[VB (by omega),VB (by simp;omega)]
 refine bz (B:=Ci) (n:=5) ?_;unfold Ci;refine(au (aZ (aW (ai (d:=nD m) (aW (ai (am rfl rfl hr0) al) z) al) (oS (by omega))))).trans ?_;refine(au (aZ (km (l:=o) nD (fun _=>true) (fun _=>.non) (hU rfl (kh tb _)) (by omega) fun h hh=>⟨[some (nD h)],rfl,rfl,fun _=>rfl⟩))).trans ?_;rw[qm];have em:o.map (fun _=>D.non)=(o.map fun _=>(none:Option Nat)).map oD:=by rw[A_];rfl
 rw[em];refine(au ((fj (ds:=o.map nD) (hU rfl (kh tb _))).trans i4)).trans ?_;refine aS (bj (aW (ai rfl al) ?_));rw[e_tupL,hg,A_];show some (D.tup _)=some (D.tup _);rw[A_];rfl
theorem uC{s1 s2:FS}{r r':ao}{x:D}(h:s1 r=.exc x r'):af s1 s2 r=.exc x r':=by unfold af;rw[h]
theorem F5{B:FS}{n:Nat}{ds:List D}{x:D}{r':ao}(h:B (a9 n ds)=.exc x r'):aH false (B (a9 n ds))=.exc x:=by rw[h];rfl
theorem Mr{m:List Md}{nm f:Str}{fl:ao->Res (List D)}{r:ao}{i:Int}(h:fl r=.ok [.int i])(hi:i.natAbs.log2<64):tp m nm f fl r=.exc (xD nm [(f,.int i)]) (forget m r):=by unfold tp;rw[h,onE_ok];show(if i.natAbs.log2<64 then _ else _)=_;rw[if_pos hi]
theorem Qs{k:Nat}(h:k<=60):((k:Nat):Int).natAbs.log2<64:=by rw[Int.natAbs_natCast];have:=Nat.log2_le_self k;omega
theorem uG{fl:ao->Res (List D)}{dds zs:List D}{F:List D->Res D}{r:ao}{d:Res D}(h1:fl r=.ok zs)(h2:F (zs++dds)=d):iq fl dds F r=d:=by unfold iq;rw[h1,bind_ok,h2]
abbrev WI(tb:Bool)(hs:List Int):D:=wr tb (hs.map D.int)
theorem p5(tb:Bool)(ks:List Nat):WI tb (aL ks)=WL tb ks:=by show wr tb (VE _ (VE _ ks))=_;rw[A_];rfl
theorem DT(tb:Bool)(ds:List D):nI (wr tb ds) .non=some (.bl false):=by cases tb <;> rfl
theorem MQ(tb:Bool)(ds:List D):gI [wr tb ds]=some (.lst ds):=by cases tb <;> rfl
open Classical in
theorem su(tb:Bool)(hl:hs.length<=60):kN [WI tb hs,nD n]=.ok (.bl (decide ((hs.map some).length=n/\Gd n (hs.map some)))):=by have h:=F6 tb (l:=hs.map some) n (by simp;omega);rw[zP]at h;exact h
abbrev Og(n:Nat)(hs:List Int):Prop:=∃o:List Nat,hs=aL o/\o.Perm (e_ n)
theorem ER:((hs.map some).length=n/\Gd n (hs.map some))↔Og n hs:=by
 rw[Fj];constructor
 .rintro⟨ks,e,p⟩
  refine⟨ks,?_,p⟩;have:=congrArg (VE fun o:Option Int=>o.getD 0) e;simpa[Y0]using this
 .rintro⟨o,rfl,p⟩
  exact⟨o,by show(VE _ (VE _ o))=_;rw[A_];rfl,p⟩
open Classical in
theorem Rx(R:Rws rz n m)(tb:Bool)(hl:hs.length<=60)(hb:¬ Og n hs):∃x,pv [WD rz,WI tb hs]=.exc (xD "NoOrder" [("at",.int x)]):=by
 have h:=su (n:=n) tb hl;rw[decide_eq_false (fun z=>hb (ER.mp z))]at h;obtain⟨k,f1,f2,f3⟩:=EU tb (l:=hs.map some) n (by simp;omega);rw[zP]at f1;have hk:k<=60:=by
  by_cases g:Gd n (hs.map some)
  .rw[f2 g];simp;exact hl
  .have:=f3 g;simp at this;omega
 refine⟨(k:Int),F5 (B:=pq) (n:=2) (r':=forget cM [some (WD rz),some (WI tb hs)]) ?_⟩;unfold pq;refine(au (r':=[some (WD rz),some (WI tb hs)]) ((bc (bR (am rfl rfl (DT tb _)))).trans (e_skip _))).trans ?_;exact uC ((bW (dE (b:=false) (c9 (aT (ai rfl (ai (d:=nD n) (aW (ai rfl al) R.len) al)) h) rfl))).trans (uC (Mr (ai (aT (ai rfl (ai (d:=nD n) (aW (ai rfl al) R.len) al)) f1) al) (Qs hk))))
open Classical in
theorem Rw(R:Rws rz n m)(tb:Bool){o:List Nat}(hp:o.Perm (e_ n)):pv [WD rz,WL tb o]=.ok (LN o):=by
 have hl:o.length<=60:=by have:=R.n7;rw[hp.length_eq];simp;omega
 have h:=su (n:=n) (hs:=aL o) tb (by simpa[aL]using hl);rw[decide_eq_true (ER.mpr ⟨o,rfl,hp⟩),p5]at h;refine bz (B:=pq) (n:=2) ?_;unfold pq;refine(au (r':=[some (WD rz),some (WL tb o)]) ((bc (bR (am rfl rfl (DT tb _)))).trans (e_skip _))).trans ?_;refine(au ((bc (dE (b:=true) (c9 (aT (ai rfl (ai (d:=nD n) (aW (ai rfl al) R.len) al)) h) rfl))).trans (e_skip _))).trans ?_;exact aS (bj (aW (ai rfl al) (MQ tb _)))
theorem OG(R:Rws rz n m)(tb:Bool)(hl:hs.length<=60)(hb:¬ Og n hs):∃x,kM [WD rz,WI tb hs]=.exc (xD "NoOrder" [("at",.int x)]):=by have z:=R.m8;obtain⟨x,hx⟩:=Rx R tb hl hb;refine⟨x,F5 (B:=pk) (n:=5) (r':=forget iV [some (WD rz),some (WI tb hs),some (LN (e_ m)),some (KD []),none]) ?_⟩;unfold pk;refine(au (aZ (aW (ai (aT (ai rfl al) R.things) al) (oS (by omega))))).trans ?_;refine(au (r':=[some (WD rz),some (WI tb hs),some (LN (e_ m)),some (KD []),none]) rfl).trans ?_;refine uC ?_;unfold tJ aU;rw[uG (fl:=ag (gv 0) (ag (gv 1) ae)) (dds:=[]) (r:=[some (WD rz),some (WI tb hs),some (LN (e_ m)),some (KD []),none]) (ai rfl (ai rfl al)) hx];rfl
theorem OF(R:Rws rz n m)(tb:Bool){o:List Nat}{d:Nat->Nat}(hp:o.Perm (e_ n))(s:Rg.nO (Wr rz) d o (e_ m)):kM [WD rz,WL tb o]=.ok (TN ((e_ n).map d)):=by
 have U:=R.n7;have Y:=R.m8;have Z:=R.nm;have hlt:∀h∈o,h<n:=fun h hh=>r_.mp (hp.mem_iff.mp hh);have hlen:o.length=n:=by rw[hp.length_eq];simp
 obtain⟨z,T',y',g,hl⟩:=Fs R d (some (WL tb o)) o [] (e_ m) [] none s (GI.nil d) (by simpa using hlt) (by simp;omega) (fun x hx=>r_.mp hx);refine bz (B:=pk) (n:=5) ?_;unfold pk;refine(au (aZ (aW (ai (aT (ai rfl al) R.things) al) (oS (by omega))))).trans ?_;refine(au (r':=[some (WD rz),some (WL tb o),some (LN (e_ m)),some (KD []),none]) rfl).trans ?_;refine(au (r':=[some (WD rz),some (WL tb o),some (LN T'),some (KD z),y']) ?_).trans ?_
 .unfold tJ;rw[hU (f:=iq (ag (gv 0) (ag (gv 1) ae)) [] pv) (r:=[some (WD rz),some (WL tb o),some (LN (e_ m)),some (KD []),none]) (uG (ai rfl (ai rfl al)) (Rw R tb hp)) rfl,onE_ok];exact hl
 exact aS (bj (aT (ai rfl al) (R7 g (fun x=>by rw[List.nil_append,hp.mem_iff];exact r_) (by omega))))
open Classical in
theorem t8(D:Dl rz dl n m):jo [WD rz,TN dl]=.ok (.bl true):=by
 have h7:=D.R.n7;have hdn:=D.dn;have h:=Ai true (l:=jJ dl) m (by simp;omega);rw[decide_eq_true (show Gd m (jJ dl)from⟨dl,rfl,D.nd,D.lt⟩)]at h;have e:(jJ dl).map oi=dl.map nD:=by rw[A_];rfl
 rw[e]at h;refine bz (B:=Bc) (n:=2) ?_;unfold Bc;refine aS (bj ?_);rw[ji (am (aW (ai rfl al) (by rw[uJ,hdn])) (aW (ai rfl al) D.R.len) (Oh n))];exact aT (ai rfl (ai (d:=nD m) (aT (ai rfl al) D.R.things) al)) h
abbrev pO(rz:List (List Nat))(n m:Nat)(o:List Nat):List Nat:=(e_ n).map (Rg.eN (Wr rz) o (e_ m))
abbrev OO(tb:Bool)(hs:List Int):D:=iD "Ordered" [("order",WI tb hs)]
theorem sx{d:D}:dg kj "order" (iD "Ordered" [("order",d)])=some d:=rfl
theorem Qq(D:Dl rz dl n m)(tb:Bool)(hl:hs.length<=60)(hb:¬ Og n hs):m6 [OO tb hs,WD rz,TN dl]=.ok (.bl false):=by
 obtain⟨x,hx⟩:=OG D.R tb hl hb;refine bz (B:=pA) (n:=3) ?_;unfold pA;refine aS ?_;have z:(af (aw dX (cq (aF (ag (gv 1) (ag (gv 2) ae)) [] jo) (f2 (iq (ag (gv 1) (ag (f1 (gv 0) (dg kj "order")) ae)) [] kM) (gv 2) eqD))) aq) [some (OO tb hs),some (WD rz),some (TN dl)]=.exc (xD "NoOrder" [("at",.int x)]) (forget dX [some (OO tb hs),some (WD rz),some (TN dl)]):=by refine uC ?_;unfold aw;rw[ji (aT (ai rfl (ai rfl al)) (t8 D))];unfold f2;rw[uG (ai rfl (ai (fQ rfl sx) al)) hx];rfl
 unfold jK;show(match (af (aw dX (cq (aF (ag (gv 1) (ag (gv 2) ae)) [] jo) (f2 (iq (ag (gv 1) (ag (f1 (gv 0) (dg kj "order")) ae)) [] kM) (gv 2) eqD))) aq) [some (OO tb hs),some (WD rz),some (TN dl)]with
  |.nx r'=>_
  |.rt d=>_
  |.exc x r'=>_
  |_=>_)=_
 rw[z];rfl
theorem Qp(D:Dl rz dl n m)(tb:Bool){o:List Nat}(hp:o.Perm (e_ n)):m6 [OO tb (aL o),WD rz,TN dl]=.ok (.bl (decide (pO rz n m o=dl))):=by
 have h:=OF D.R tb hp (Rg.xS o (e_ m) (hp.nodup_iff.mpr VJ));refine bz (B:=pA) (n:=3) ?_;unfold pA;refine aS ?_;have z:(af (aw dX (cq (aF (ag (gv 1) (ag (gv 2) ae)) [] jo) (f2 (iq (ag (gv 1) (ag (f1 (gv 0) (dg kj "order")) ae)) [] kM) (gv 2) eqD))) aq) [some (OO tb (aL o)),some (WD rz),some (TN dl)]=.rt (.bl (decide (pO rz n m o=dl))):=by refine aS (bj ?_);rw[ji (aT (ai rfl (ai rfl al)) (t8 D))];exact am (uG (ai rfl (ai (d:=WL tb o) (by rw[<-p5];exact fQ rfl sx) al)) h) rfl (EJ _ _)
 unfold jK;show(match (af (aw dX (cq (aF (ag (gv 1) (ag (gv 2) ae)) [] jo) (f2 (iq (ag (gv 1) (ag (f1 (gv 0) (dg kj "order")) ae)) [] kM) (gv 2) eqD))) aq) [some (OO tb (aL o)),some (WD rz),some (TN dl)]with
  |.nx r'=>_
  |.rt d=>_
  |.exc x r'=>_
  |_=>_)=_
 rw[z]
theorem Hh:∀l l':List Int,Wu (zdH (l.map D.int)) (zdH (l'.map D.int))=decide (l=l')
|[],[]=>by simp[zdH,Wu]
|[],k::l=>by simp[zdH,Wu]
|k::l,[]=>by simp[zdH,Wu]
|k::l,k'::l'=>by have ih:=Hh l l';simp only[Vq,zdH,bL,Wu,Zs,ih];rw[R_];simp
theorem Eu{l:List Int}{k:Nat}:∀d∈l.map D.int,cn k d:=by intro d hd;obtain⟨x,_,rfl⟩:=C_.mp hd;cases k <;> trivial
theorem EH(l l':List Int):iF (IN l) (IN l')=some (decide (l=l')):=by rw[GL rfl (uE.mpr Eu) (uE.mpr Eu)];unfold ky;simp only[bL,Zs,Hh]
theorem EI(l l':List Int):eqD (IN l) (IN l')=some (.bl (decide (l=l'))):=by unfold eqD;rw[EH];rfl
theorem EO(l l':List Int):neD (IN l) (IN l')=some (.bl (! decide (l=l'))):=by unfold neD;rw[EH];rfl
theorem Gq{a b:List Nat}(h:aL a=aL b):a=b:=by
 have f:∀l:List Nat,(aL l).map Xg=l:=fun l=>by
  show VE _ (VE _ _)=_;rw[A_]
  conv=>rhs;rw[<-Y1 l]
  exact Vx fun x _=>rfl
 rw[<-f a,h,f]
variable{w:List Nat}{ps:List (Int×Int)}
section
variable{tb:Bool}{r:List Nat}
theorem GX(R:Rws rz n n):∀(l:List Nat)(i:Nat)(y2 y3:Option DL.D),(∀x∈l,x<n) ->∃Y U,aI (c6 (bq (aG 2) (bq (aG 3) cW))) Jp (cj i (l.map nD)) [some (WD rz),some (WL tb w),y2,y3]=.nx [some (WD rz),some (WL tb w),Y,U]
|[],i,y2,y3,_=>⟨y2,y3,gB⟩
|x::l,i,y2,y3,hl=>by obtain⟨a,b,ih⟩:=GX R l (i+1) (some (nD i)) (some (nD x)) fun z hz=>hl z (t_ _ hz);refine⟨a,b,?_⟩;rw[<-ih];show aI _ _ (.tup [.int ((i:Nat):Int),nD x]::cj (i+1) (l.map nD)) _=_;refine fq (r1:=[some (WD rz),some (WL tb w),some (nD i),some (nD x)]) rfl ?_;have h0:=RO x n;rw[decide_eq_true (hl x p_)]at h0;exact au ((bc (dE (b:=true) (c9 (aT (ai rfl (ai (d:=nD n) (aW (ai rfl al) R.len) al)) h0) rfl))).trans (e_skip _))
theorem EV{m:Nat}(R:Rws rz n m):mW [WD rz]=.ok (.bl (decide (m=n))):=by refine bz (B:=Bk) (n:=1) ?_;unfold Bk;exact aS (bj (am (aT (ai rfl al) R.things) (aW (ai rfl al) R.len) (jz m n)))
theorem QJ(R:Rws rz n n)(hw:w.Perm (e_ n)):wZ [WD rz,WL tb w]=.ok .non:=by
 obtain⟨a,b,h⟩:=GX (tb:=tb) (w:=w) R w 0 none none fun x hx=>r_.mp (hw.mem_iff.mp hx);have hq:=EV R;rw[decide_eq_true rfl]at hq;have:wY (a9 4 [WD rz,WL tb w])=.nx [some (WD rz),some (WL tb w),a,b]:=by unfold wY;refine(au ((bc (dE (b:=true) (c9 (aT (ai rfl al) hq) rfl))).trans (e_skip _))).trans ?_;exact(au ((fj (ds:=cj 0 (w.map nD)) (FB (d:=WL tb w) rfl (kh tb _))).trans h)).trans rfl
 show aH false (wY (a9 4 [WD rz,WL tb w]))=_;rw[this];rfl
structure Rk(w:List Nat)(n:Nat)(ps:List (Int×Int))(r:List Nat):Prop where
 hs:ps.map (·.1)=aL r
 ne:r≠[]
 nd:r.Nodup
 lt:∀h∈r,h<n
 mn:∀h∈r,r.headD 0<=h
 ts:ps.map (·.2)=aL ((eQ r).map (aN w))
abbrev lY(w:List Nat)(n:Nat)(ps:List (Int×Int)):Prop:=∃r,Rk w n ps r
theorem stop{p:FQ}{s2:FS}{mm:List Md}{r0:ao}(h:p r0=.ok true):af (bI mm p (af (aw mm (fun _=>Res.ok (DL.D.bl false))) aq) aq) s2 r0=.rt (.bl false):=aS ((bW h).trans (aS (bj (d:=.bl false) rfl)))
theorem tK(ne:r≠[]):(dL (aL r)=(r.headD 0:Nat))↔∀h∈r,r.headD 0<=h:=by
 have hne:aL r≠[]:=by simpa[aL]using ne
 have z:r.headD 0∈r:=by cases r with
 |nil=>exact absurd rfl ne
 |cons a t=>exact p_
 constructor
 .intro e h hh;have:=qd (ks:=aL r) (x:=(h:Int)) (C_.mpr ⟨h,hh,rfl⟩);omega
 .intro h;obtain⟨k,k1,k2⟩:=C_.mp (Av hne);have a:=h k k1;have b:=qd (ks:=aL r) (x:=((r.headD 0:Nat):Int)) (C_.mpr ⟨_,z,rfl⟩);rw[<-k2]at b ⊢;omega
open Classical in
theorem OP(hw:w.Perm (e_ n))(h7:n<=7)(hl:ps.length<=30):wJ [WL tb w,rg tb ps]=.ok (.bl (decide (lY w n ps))):=by
 refine bz (B:=Cc) (n:=4) ?_;unfold Cc;refine(au (aZ (yA (f:=fun p=>p.1) (hU rfl (kh tb _)) hl fun p=>⟨[some (.int p.1),some (.int p.2)],rfl,rfl⟩))).trans ?_;refine(au (aZ (yA (f:=fun p=>p.2) (hU rfl (kh tb _)) hl fun p=>⟨[some (.int p.1),some (.int p.2)],rfl,rfl⟩))).trans ?_;have l1:(ps.map (·.1)).length<=60:=by simp;omega
 have l2:(ps.map (·.2)).length<=60:=by simp;omega
 have g:∀r,Rk w n ps r->Gd n ((ps.map (·.1)).map some)/\Gd n ((ps.map (·.2)).map some):=fun r R=>by
  refine⟨by rw[R.hs];exact p9 R.nd R.lt,by
   rw[R.ts];refine p9 ?_ fun x hx=>?_
   .rw[Vy,W0];refine W9 (fun ha hb h z=>h ?_) ((iO r).nodup_iff.mpr R.nd);exact uM hw (R.lt _ ((iO r).mem_iff.mp ha)) (R.lt _ ((iO r).mem_iff.mp hb)) z
   .obtain⟨h,h1,rfl⟩:=C_.mp hx;exact Ag hw (R.lt _ ((iO r).mem_iff.mp h1))⟩
 have e1:=dE (c9 (aT (fl:=ag (gv 2) (ag (fC (ag (gv 0) ae) lenD) ae)) (dds:=[]) (r:=[some (WL tb w),some (rg tb ps),some (IN (ps.map (·.1))),some (IN (ps.map (·.2)))]) (ai rfl (ai (d:=nD n) (aW (ai rfl al) (by rw[kb,g_,jn hw])) al)) (nk (n:=n) false l1)) rfl);have e2:=dE (c9 (aT (fl:=ag (gv 3) (ag (fC (ag (gv 0) ae) lenD) ae)) (dds:=[]) (r:=[some (WL tb w),some (rg tb ps),some (IN (ps.map (·.1))),some (IN (ps.map (·.2)))]) (ai rfl (ai (d:=nD n) (aW (ai rfl al) (by rw[kb,g_,jn hw])) al)) (nk (n:=n) false l2)) rfl);by_cases g1:Gd n ((ps.map (·.1)).map some)
 rotate_left
 .rw[decide_eq_false g1]at e1;rw[decide_eq_false (fun⟨r,R⟩=>g1 (g r R).1)];exact stop (df e1)
 rw[decide_eq_true g1]at e1;by_cases g2:Gd n ((ps.map (·.2)).map some)
 rotate_left
 .rw[decide_eq_false g2]at e2;rw[decide_eq_false (fun⟨r,R⟩=>g2 (g r R).2)];exact stop ((bF e1).trans e2)
 rw[decide_eq_true g2]at e2;refine(au ((bc ((bF e1).trans e2)).trans (e_skip _))).trans ?_;obtain⟨r,hr,nd,lt⟩:=tH g1;obtain⟨t,ht,-,-⟩:=tH g2;have same:∀r',Rk w n ps r'->r'=r:=fun r' R=>Gq (R.hs.symm.trans hr);have rl:r.length=ps.length:=by have:=congrArg WM hr;simpa[aL]using this.symm
 rw[hr,ht];by_cases c0:r=[]
 .subst c0;rw[decide_eq_false (fun⟨r',R⟩=>R.ne (same r' R))];exact stop (df (dE (b:=false) (c9 (d:=IN (aL [])) rfl rfl)))
 have hne:aL r≠[]:=by simpa[aL]using c0
 have hd0:(aL r).headD 0=((r.headD 0:Nat):Int):=by cases r <;> rfl
 have n0:bQ (bu (gv 2)) [some (WL tb w),some (rg tb ps),some (IN (aL r)),some (IN (aL t))]=.ok false:=dE (b:=true) (c9 (d:=IN (aL r)) rfl (by cases r with|nil=>exact absurd rfl c0|cons a b=>rfl));have e3:=bR (am (f:=f2 (gv 2) (fun _=>Res.ok (DL.D.int 0)) ax) (f':=fC (ag (gv 2) ae) je) (r:=[some (WL tb w),some (rg tb ps),some (IN (aL r)),some (IN (aL t))]) (am rfl rfl (Dd hne)) (aW (ai rfl al) (sr hne)) (xZ _ _));by_cases c1:dL (aL r)=(r.headD 0:Nat)
 rotate_left
 .rw[decide_eq_false (fun z=>c1 (by rw[<-z,hd0]))]at e3;rw[decide_eq_false (fun⟨r',R⟩=>c1 ((tK c0).mpr (by rw[<-same r' R];exact R.mn)))];exact stop ((bF n0).trans e3)
 rw[decide_eq_true (by rw[hd0,c1])]at e3;refine(au ((bc ((bF n0).trans e3)).trans (e_skip _))).trans ?_;have rpos:0<r.length:=WH.mpr c0;have hm:=(iA (nl:=1) (cap:=[0]) (fi:=aU bN (aF (ag (gv 2) ae) [] jp)) (ft:=aG 0) (fe:=f2 (gv 1) (gv 0) ax) (r:=[some (WL tb w),some (rg tb ps),some (IN (aL r)),some (IN (aL t))]) (l:=eQ r) nD (fun h=>nD (aN w h)) (hU (aT (ai (d:=LN r) (by rw[<-ki];rfl) al) (HW rpos (by omega))) rfl) (by rw[(iO r).length_eq];omega) fun h hh=>⟨[some (nD h),some (WL tb w)],rfl,am rfl rfl (Pa hw (lt h ((iO r).mem_iff.mp hh)))⟩)
 have em:(eQ r).map (fun h=>nD (aN w h))=(aL ((eQ r).map (aN w))).map DL.D.int:=by show _=VE _ (VE _ (VE _ _));rw[A_,A_];rfl
 rw[em]at hm;refine aS (bj ((am rfl hm (EI _ _)).trans (congrArg (fun b=>Res.ok (DL.D.bl b)) ?_)));refine decide_eq_decide.mpr ⟨fun e=>⟨r,hr,c0,nd,lt,(tK c0).mp c1,ht.trans e⟩,fun⟨r',R⟩=>?_⟩;have:=R.ts;rw[same r' R]at this;exact ht.symm.trans this
abbrev qp(ps:List (Int×Int)):List (Nat×Nat):=ps.map fun p=>(p.1.toNat,p.2.toNat)
abbrev qD(q:Nat×Nat):DL.D:=.tup [nD q.1,nD q.2]
def jr(rz:List (List Nat))(dl:List Nat)(q:Nat×Nat):Bool:=decide (Rg.lk (Wr rz) q.1 (aN dl q.1) q.2)
def oth(dl:List Nat)(q:Nat×Nat):Bool:=! decide (aN dl q.1=q.2)
theorem Rk.qp(hw:w.Perm (e_ n))(R:Rk w n ps r):(∀q∈Law.qp ps,q.1<n/\q.2<n)/\ps.map pI=(Law.qp ps).map qD:=by
 have hp:∀p∈ps,∃a b:Nat,p=((a:Int),(b:Int))/\a<n/\b<n:=fun p hp=>by
  obtain⟨p1,p2⟩:=p;have h1:p1∈aL r:=by rw[<-R.hs];exact C_.mpr ⟨_,hp,rfl⟩
  have h2:p2∈aL ((eQ r).map (aN w)):=by rw[<-R.ts];exact C_.mpr ⟨_,hp,rfl⟩
  obtain⟨a,a1,rfl⟩:=C_.mp h1;obtain⟨b,b1,rfl⟩:=C_.mp h2;obtain⟨h,h3,rfl⟩:=C_.mp b1;exact⟨a,_,rfl,R.lt a a1,Ag hw (R.lt _ ((iO r).mem_iff.mp h3))⟩
 refine⟨fun q hq=>?_,?_⟩
 .obtain⟨p,h1,rfl⟩:=C_.mp hq;obtain⟨a,b,rfl,h2,h3⟩:=hp p h1;exact⟨h2,h3⟩
 .rw[A_];refine Vx fun p h1=>?_;obtain⟨a,b,rfl,_,_⟩:=hp p h1;rfl
open Classical in
theorem OI(D:Dl rz dl n n)(hw:w.Perm (e_ n))(hl:ps.length<=30):pY [WD rz,WL tb w,TN dl,rg tb ps]=.ok (.bl (decide (lY w n ps)&&((qp ps).any (gQ rz dl) && !(qp ps).any (jr rz dl)))):=by
 have rr:=OP (tb:=tb) hw D.R.n7 hl;refine bz (B:=yW) (n:=6) ?_;unfold yW;refine(au (r':=[some (WD rz),some (WL tb w),some (TN dl),some (rg tb ps),none,none]) ?_).trans ?_
 .show gY _ _ _ _=_;rw[aT (fl:=ag (gv 0) (ag (gv 1) ae)) (dds:=[]) (r:=a9 6 [WD rz,WL tb w,TN dl,rg tb ps]) (ai rfl (ai rfl al)) (QJ D.R hw)];rfl
 by_cases c:lY w n ps
 rotate_left
 .rw[decide_eq_false c]at rr ⊢;exact stop (dE (b:=false) (c9 (aT (ai rfl (ai rfl al)) rr) rfl))
 rw[decide_eq_true c]at rr ⊢;refine(au ((bc (dE (b:=true) (c9 (aT (ai rfl (ai rfl al)) rr) rfl))).trans (e_skip _))).trans ?_;obtain⟨r,R⟩:=c;obtain⟨q1,q2⟩:=R.qp hw;have l1:(qp ps).length<=1000:=by simp;omega
 have hz:∀(y:Option DL.D),aU bN (gv 3) [some (WD rz),some (WL tb w),some (TN dl),some (rg tb ps),y,none]=.ok ((qp ps).map qD):=fun y=>hU rfl ((kh tb _).trans (by rw[q2]));refine(au (aZ (aW (ai (iA (l:=qp ps) qD (fun q=>DL.D.bl (gQ rz dl q)) (hz none) l1 fun q hq=>⟨[some (nD q.1),some (nD q.2),some (WD rz),some (TN dl)],rfl,aT (ai rfl (ai rfl (ai rfl (ai (am rfl rfl (D.at (q1 q hq).1)) al)))) (qq D (q1 q hq).1 (q1 q hq).2 (D.dlt (q1 q hq).1))⟩) al) (sW (gQ rz dl) (qp ps))))).trans ?_;refine(au (aZ (aW (ai (iA (l:=qp ps) qD (fun q=>DL.D.bl (jr rz dl q)) (hz _) l1 fun q hq=>⟨[some (nD q.1),some (nD q.2),some (WD rz),some (TN dl)],rfl,aT (ai rfl (ai rfl (ai (am rfl rfl (D.at (q1 q hq).1)) (ai rfl al)))) (qq D (q1 q hq).1 (D.dlt (q1 q hq).1) (q1 q hq).2)⟩) al) (sW (jr rz dl) (qp ps))))).trans ?_;refine aS (bj ?_);cases(qp ps).any (gQ rz dl) <;> cases(qp ps).any (jr rz dl) <;> rfl
theorem lg_loop(hw:w.Perm (e_ n))(dd:Option DL.D)(lt:∀h∈r,h<n)(hlen:ps.length=r.length)(hr:0<r.length):∀(j i:Nat)(y:Option DL.D),i+j=r.length ->((∀k,i<=k->k<r.length->(ps.map (·.2))[k]? = some ((aN w (aN r ((k+1)%r.length)):Nat):Int))/\∃y',aI (aG 5) rh ((Ww i j).map nD) [some (WD rz),some (LN w),dd,some (rg false ps),some (LN r),y]=.nx [some (WD rz),some (LN w),dd,some (rg false ps),some (LN r),y']) \/((∃k,k<r.length/\(ps.map (·.2))[k]?≠some ((aN w (aN r ((k+1)%r.length)):Nat):Int))/\aI (aG 5) rh ((Ww i j).map nD) [some (WD rz),some (LN w),dd,some (rg false ps),some (LN r),y]=.rt (.bl false))
|0,i,y,h=>.inl ⟨fun k a b=>by omega,y,gB⟩
|j+1,i,y,h=>by
  have hi:i<r.length:=by omega
  have U:i<ps.length:=by omega
  have hm:(i+1)%r.length<r.length:=Wm _ hr;have hx:aN r ((i+1)%r.length)<n:=lt _ (tV hm);have ep:(ps.map pI)[i]? = some (pI ps[i]):=by rw[n_,d_ U];rfl
  have e2:(ps.map (·.2))[i]? = some ps[i].2:=by rw[n_,d_ U];rfl
  have t:=bR (am (f:=f2 (f2 (gv 3) (gv 5) ax) (fun _=>Res.ok (DL.D.int 1)) ax) (f':=f2 (gv 1) (f2 (gv 4) (f2 (f2 (gv 5) (fun _=>Res.ok (DL.D.int 1)) addA) (fC (ag (gv 4) ae) lenD) az) ax) ax) (r:=[some (WD rz),some (LN w),dd,some (rg false ps),some (LN r),some (nD i)]) (a:=.int ps[i].2) (b:=nD (aN w (aN r ((i+1)%r.length)))) (am (am rfl rfl (iu ep)) rfl (fL rfl)) (am rfl (am rfl (am (am rfl rfl (iK i 1)) (aW (ai rfl al) (iN _ _)) (e8 hr)) (jW hm)) (jW (by rw[jn hw];exact hx))) (xZ _ _));by_cases e:ps[i].2=((aN w (aN r ((i+1)%r.length)):Nat):Int)
  .rw[decide_eq_true e]at t;have st:∀ds,aI (aG 5) rh (nD i::ds) [some (WD rz),some (LN w),dd,some (rg false ps),some (LN r),y]=aI (aG 5) rh ds [some (WD rz),some (LN w),dd,some (rg false ps),some (LN r),some (nD i)]:=fun ds=>fq (r1:=[some (WD rz),some (LN w),dd,some (rg false ps),some (LN r),some (nD i)]) rfl (au ((bc t).trans (e_skip _)));rw[XE,Vq,st];refine(lg_loop hw dd lt hlen hr j (i+1) (some (nD i)) (by omega)).imp (fun⟨q,z⟩=>⟨fun k a b=>?_,z⟩) id;by_cases z:k=i
   .subst z;rw[e2,e]
   .exact q k (by omega) b
  .rw[decide_eq_false e]at t;exact .inr ⟨⟨i,hi,fun z=>e (B_ (e2.symm.trans z))⟩,oy (r1:=[some (WD rz),some (LN w),dd,some (rg false ps),some (LN r),some (nD i)]) rfl (aS ((bW t).trans (aS (bj (d:=.bl false) rfl))))⟩
theorem Ff{r:List Nat}{i:Nat}(hi:i<r.length):(aL ((eQ r).map (aN w)))[i]? = some ((aN w (aN r ((i+1)%r.length)):Nat):Int):=by have hm:(i+1)%r.length<r.length:=Wm _ (by omega);show(((eQ r).map (aN w)).map _)[i]? = _;rw[n_,n_,F4 (A:=r) (i:=1) (by omega) hi,Nat.add_comm 1 i,d_ hm,p6 (d_ hm)];rfl
open Classical in
theorem Mv(D:Dl rz dl n n)(hw:w.Perm (e_ n))(hl:ps.length<=30):qt [WD rz,LN w,TN dl,rg false ps]=.ok (.bl (decide (lY w n ps)&&(!(qp ps).any (jr rz dl)&&(qp ps).any (oth dl)))):=by
 have h7:=D.R.n7;refine bz (B:=Bh) (n:=6) ?_;unfold Bh;refine(au (aZ (yA (f:=fun p=>p.1) rfl hl fun p=>⟨[some (.int p.1),some (.int p.2)],rfl,rfl⟩))).trans ?_;have fls:¬ lY w n ps->(decide (lY w n ps)&&(!(qp ps).any (jr rz dl)&&(qp ps).any (oth dl)))=false:=fun h=>by rw[decide_eq_false h];rfl
 have e0:=bR (am (f:=fC (ag (gv 3) ae) lenD) (f':=fun _=>Res.ok (DL.D.int 0)) (r:=[some (WD rz),some (LN w),some (TN dl),some (rg false ps),some (IN (ps.map (·.1))),none]) (a:=nD ps.length) (b:=nD 0) (aW (ai rfl al) (by rw[kb,g_])) rfl (jz ps.length 0));by_cases c0:ps.length=0
 .rw[decide_eq_true c0]at e0;rw[fls fun⟨r,R⟩=>R.ne (by have:=congrArg WM R.hs;simp[aL,c0]at this;exact Ze.mp this.symm)];exact stop (df e0)
 rw[decide_eq_false c0]at e0;have hne:ps.map (·.1)≠[]:=by intro z;have:=congrArg WM z;simp at this;exact c0 (by rw[this];rfl)
 have hl2:(ps.map (·.1)).length=ps.length:=by simp
 have Hs:∀r,Rk w n ps r->ps.map (·.1)=aL r:=fun r R=>R.hs;generalize hhs:ps.map (·.1)=hs at hne e0 hl2 Hs ⊢;have e1:=bR (am (f:=fC (ag (gv 4) ae) je) (f':=f2 (gv 4) (fun _=>Res.ok (DL.D.int 0)) ax) (r:=[some (WD rz),some (LN w),some (TN dl),some (rg false ps),some (IN hs),none]) (aW (ai rfl al) (sr hne)) (am rfl rfl (Dd hne)) (xZ _ _));have hd0:∀r:List Nat,(aL r).headD 0=((r.headD 0:Nat):Int):=fun r=>by cases r <;> rfl
 by_cases c1:dL hs=hs.headD 0
 rotate_left
 .rw[decide_eq_false c1]at e1;rw[fls fun⟨r,R⟩=>c1 (by rw[Hs r R,hd0];exact(tK R.ne).mpr R.mn)];exact stop ((bF e0).trans (df e1))
 rw[decide_eq_true c1]at e1;have e2:=bR (am (f:=f2 (gv 4) (fun _=>Res.ok (DL.D.int 0)) ax) (f':=fun _=>Res.ok (DL.D.int 0)) (r:=[some (WD rz),some (LN w),some (TN dl),some (rg false ps),some (IN hs),none]) (am rfl rfl (Dd hne)) (b:=.int 0) rfl (xW _ _));by_cases c2:hs.headD 0<0
 .rw[decide_eq_true c2]at e2;rw[fls fun⟨r,R⟩=>by rw[Hs r R,hd0]at c2;omega];exact stop ((bF e0).trans ((bF e1).trans (df e2)))
 rw[decide_eq_false c2]at e2;have e3:=bR (am (f:=fC (ag (gv 4) ae) mv) (f':=fC (ag (gv 1) ae) lenD) (r:=[some (WD rz),some (LN w),some (TN dl),some (rg false ps),some (IN hs),none]) (b:=nD n) (aW (ai rfl al) (C6 hne)) (aW (ai rfl al) (by rw[iN,jn hw])) (DQ _ _));by_cases c3:eS hs>=(n:Int)
 .rw[decide_eq_true c3]at e3;rw[fls fun⟨r,R⟩=>by obtain⟨k,k1,k2⟩:=C_.mp (show eS hs∈aL r by rw[<-Hs r R];exact GU hne);have:=R.lt k k1;omega];exact stop ((bF e0).trans ((bF e1).trans ((bF e2).trans e3)))
 rw[decide_eq_false c3]at e3;refine(au ((bc ((bF e0).trans ((bF e1).trans ((bF e2).trans e3)))).trans (e_skip _))).trans ?_;have e4:=bR (am (f:=f1 (gv 4) lB) (f':=fC (ag (gv 4) ae) lenD) (r:=[some (WD rz),some (LN w),some (TN dl),some (rg false ps),some (IN hs),none]) (fQ rfl (rS (by omega))) (aW (ai rfl al) (C8 hs)) (nY (eh hs).length hs.length));by_cases c4:(eh hs).length<hs.length
 .rw[decide_eq_true c4]at e4;rw[fls fun⟨r,R⟩=>by have:=Cm hs [] (by rw[Hs r R];simpa using tz.mpr R.nd);unfold eh at c4;simp at this c4;omega];exact stop e4
 rw[decide_eq_false c4]at e4;refine(au ((bc e4).trans (e_skip _))).trans ?_;have hnd:hs.Nodup:=by have:=uP hs [];have:=AO hs [] (by simp) (by unfold eh at c4;simp at this c4 ⊢;omega);simpa using this
 have hr:=zL (hs:=hs) fun x hx=>by have:=qd hx;omega
 generalize hs.map Xg=r at hr;subst hr;have hrl:ps.length=r.length:=by rw[<-hl2];simp[aL]
 have lt:∀h∈r,h<n:=fun h hh=>by have:=F7 (ks:=aL r) (x:=(h:Int)) (C_.mpr ⟨h,hh,rfl⟩);omega
 have rne:r≠[]:=by rintro rfl;exact hne rfl
 rw[ki];have rng:=kG (k:=dj) (fl:=ag (fC (ag (gv 3) ae) lenD) ae) (r:=[some (WD rz),some (LN w),some (TN dl),some (rg false ps),some (LN r),none]) (ai (d:=nD ps.length) (aW (ai rfl al) (by rw[kb,g_])) al) (kF (by omega));rw[hrl,V9]at rng;rcases lg_loop (rz:=rz) hw (some (TN dl)) lt hrl (by omega) r.length 0 none (by omega)with⟨q,y,z⟩|⟨⟨k,k1,k2⟩,z⟩
 rotate_left
 .rw[fls fun⟨r',R⟩=>by have:=Gq (Hs r' R);subst this;exact k2 (by rw[R.ts];exact Ff k1)];exact aS ((fj rng).trans z)
 have R:Rk w n ps r:=⟨hhs,rne,tz.mp hnd,lt,(tK rne).mp (by rw[c1,hd0]),Xv fun i=>by
  by_cases hi:i<r.length
  .rw[q i (VM _) hi,Ff hi]
  .rw[VB (by simp;omega),VB (by simp[aL,(iO r).length_eq];omega)]⟩
 rw[decide_eq_true (show lY w n ps from⟨r,R⟩),Qbh];refine(au ((fj rng).trans z)).trans ?_;obtain⟨q1,q2⟩:=R.qp hw;have l1:(qp ps).length<=1000:=by simp;omega
 have hz:aU bN (gv 3) [some (WD rz),some (LN w),some (TN dl),some (rg false ps),some (LN r),y]=.ok ((qp ps).map qD):=hU rfl ((kh false _).trans (by rw[q2]));have hww:=aW (ai (iA (nl:=2) (cap:=[0,2]) (ft:=c6 (bq (aG 0) (bq (aG 1) cW))) (fe:=aF (ag (gv 2) (ag (gv 0) (ag (f2 (gv 3) (gv 0) ax) (ag (gv 1) ae)))) [] m9) (l:=qp ps) qD (fun q=>DL.D.bl (jr rz dl q)) hz l1 fun q hq=>⟨[some (nD q.1),some (nD q.2),some (WD rz),some (TN dl)],rfl,aT (ai rfl (ai rfl (ai (am rfl rfl (D.at (q1 q hq).1)) (ai rfl al)))) (HX D (q1 q hq).1 (D.dlt (q1 q hq).1) (q1 q hq).2)⟩) al) (sW (jr rz dl) (qp ps));cases hq:(qp ps).any (jr rz dl)with
|true=>rw[hq]at hww;exact aS ((bW (c9 hww rfl)).trans (aS (bj (d:=.bl false) rfl)))
|false=>rw[hq]at hww;refine(au ((bc (c9 hww rfl)).trans (e_skip _))).trans ?_;exact aS (bj (aW (ai (iA (l:=qp ps) qD (fun q=>DL.D.bl (oth dl q)) hz l1 fun q hq=>⟨[some (nD q.1),some (nD q.2),some (TN dl)],rfl,am (am rfl rfl (D.at (q1 q hq).1)) rfl (pS _ _)⟩) al) (sW (oth dl) (qp ps))))
open Classical in
theorem Dp(D:Dl rz dl n n)(hw:w.Perm (e_ n))(hl:ps.length<=30):∃b:Bool,(∀tb,pY [WD rz,WL tb w,TN dl,rg tb ps]=.ok (.bl b))/\qt [WD rz,WL false w,TN dl,rg false ps]=.ok (.bl b):=by
 refine⟨_,fun tb=>OI D hw hl,(Mv D hw hl).trans ?_⟩;by_cases c:lY w n ps
 rotate_left
 .rw[decide_eq_false c];rfl
 obtain⟨r,R⟩:=c;obtain⟨q1,q2⟩:=R.qp hw;have:(qp ps).any (jr rz dl)=false->(qp ps).any (oth dl)=(qp ps).any (gQ rz dl):=fun q=>by
  have key:∀h∈qp ps,oth dl h=gQ rz dl h:=fun h hh=>by
   have nw:¬ Rg.lk (Wr rz) h.1 (aN dl h.1) h.2:=by have:=List.any_eq_false.mp q h hh;simpa[jr]using this
   have h1:=D.R.has (q1 h hh).1 (D.dlt (q1 h hh).1);have h2:=D.R.has (q1 h hh).1 (q1 h hh).2;unfold oth gQ;rw[R_];simp only[Yf,decide_eq_false_iff_not,decide_eq_true_eq];unfold Rg.lk at nw ⊢;constructor
   .intro z;have:(Wr rz h.1).idxOf (aN dl h.1)≠(Wr rz h.1).idxOf h.2:=fun y=>z (idx_inj h1 h2 y);omega
   .intro z y;rw[y]at z;omega
  rw[R_,V0,V0];exact⟨fun⟨h,a,b⟩=>⟨h,a,by rw[<-key h a];exact b⟩,fun⟨h,a,b⟩=>⟨h,a,by rw[key h a];exact b⟩⟩
 cases q:(qp ps).any (jr rz dl)with
|true=>simp
|false=>rw[this q];simp
end
theorem OX:∀(n i:Nat),((Ww i n).map fun k:Nat=>(k:Int)).Pairwise (·<=·):=fun n i=>by rw[W0];refine List.Pairwise.imp (fun{a b} h=>?_) (List.pairwise_lt_range' (s:=i) (n:=n));omega
theorem uF{n:Nat}{hs:List Int}:dU hs=aL (e_ n)↔Og n hs:=by
 constructor
 .intro e;have hp:=(uW hs).symm;rw[e]at hp;have hr:=zL (hs:=hs) fun x hx=>by obtain⟨k,_,rfl⟩:=C_.mp (hp.mem_iff.mp hx);omega
  refine⟨hs.map Xg,hr,?_⟩;have:=hp.map Xg;rw[show(aL (e_ n)).map Xg=e_ n by
   show VE _ (VE _ _)=_;rw[A_]
   conv=>rhs;rw[<-Y1 (e_ n)]
   exact Vx fun x _=>rfl]at this
  exact this
 .rintro⟨o,rfl,p⟩
  refine yM ((uW _).trans (p.map _)) (z9 _) ?_;rw[V9];exact OX n 0
theorem yR{hs:List Int}(h:hs.length<64):oq [IN hs]=some (IN (dU hs)):=by show(dR (hs.map D.int)).bind _=_;rw[mQ];show(if hs.length<64 then some (D.lst ((dU hs).map D.int))else none)=_;rw[if_pos h]
theorem xV{n:Nat}(h:n<=1000):iw [nD n]=some (IN (aL (e_ n))):=by rw[oS h,ki]
def oI(o:Option Nat):Option Int:=o.map fun k:Nat=>(k:Int)
theorem JK(oz:List (Option Nat)):(oz.map oI).map oi=oz.map oD:=by rw[A_];refine Vx fun o _=>?_;cases o <;> rfl
abbrev WO(tb:Bool)(oz:List (Option Nat)):D:=wr tb (oz.map oD)
def somes:List (Option Nat)->List Nat
|[]=>[]
|none::l=>somes l
|some k::l=>k::somes l
theorem uV:∀l:List (Option Nat),(somes l).length<=l.length
|[]=>w_ _
|none::l=>Nat.le_succ_of_le (uV l)
|some k::l=>Zb (uV l)
theorem Hn:∀{l:List (Option Nat)},(somes l).length=l.length->l=(somes l).map some
|[],_=>rfl
|none::l,h=>by have:=uV l;have h':(somes l).length=l.length+1:=h;omega
|some k::l,h=>by have h':(somes l).length+1=l.length+1:=h;show some k::l=some k::_;rw[<-Hn (l:=l) (by omega)]
theorem Ia:∀l:List Nat,somes (l.map some)=l
|[]=>rfl
|k::l=>by show k::somes (l.map some)=_;rw[Ia l]
theorem A4:∀l:List (Option Nat),eD (aG 0) (aK (f2 (gv 0) (fun _=>Res.ok D.non) gp)) (gv 0) [none] (l.map oD)=.ok ((somes l).map nD)
|[]=>Hg
|o::l=>by have ih:=A4 l;cases o with
 |none=>show eD _ _ _ _ (D.non::l.map oD)=_;unfold eD;exact ih
 |some k=>show eD _ _ _ _ (nD k::l.map oD)=_;unfold eD;show((eD _ _ _ _ (l.map oD)).bind _)=_;rw[ih];rfl
variable{oz:List (Option Nat)}
open Classical in
theorem Dc(tb:Bool)(hl:oz.length<=60):kN [WO tb oz,nD n]=.ok (.bl (decide (∃w:List Nat,oz=w.map some/\w.Perm (e_ n)))):=by
 have h:=F6 tb (l:=oz.map oI) n (by simp;omega);rw[JK]at h;rw[h];congr 2;rw[decide_eq_decide,Fj];constructor
 .rintro⟨ks,e,p⟩
  refine⟨ks,?_,p⟩;have:=congrArg (VE fun o:Option Int=>o.map Xg) e;rw[A_,A_]at this;have e1:oz.map ((fun o:Option Int=>o.map Xg)∘oI)=oz:=by
   conv=>rhs;rw[<-Y1 oz]
   exact Vx fun o _=>by cases o <;> rfl
  rw[e1]at this;rw[this];exact Vx fun x _=>rfl
 .rintro⟨w,rfl,p⟩
  exact⟨w,by rw[A_];rfl,p⟩
abbrev GO(tb:Bool)(oz:List (Option Nat))(ps:List (Int×Int)):D:=iD "Goes" [("owns",WO tb oz),("ring",rg tb ps)]
theorem sw{a b:D}:dg lE "owns" (iD "Goes" [("owns",a),("ring",b)])=some a:=rfl
theorem Dj{a b:D}:dg on "ring" (iD "Goes" [("owns",a),("ring",b)])=some b:=rfl
open Classical in
theorem sC(D:Dl rz dl n m)(tb:Bool)(hl:oz.length<=60):(cq (aF (ag (gv 1) ae) [] mW) (aF (ag (f1 (gv 0) (dg lE "owns")) (ag (fC (ag (gv 1) ae) lenD) ae)) [] kN)) [some (GO tb oz ps),some (WD rz),some (TN dl),none]=.ok (.bl (decide (m=n/\∃w:List Nat,oz=w.map some/\w.Perm (e_ n)))):=by
 have sq:=aT (fl:=ag (gv 1) ae) (dds:=[]) (r:=[some (GO tb oz ps),some (WD rz),some (TN dl),none]) (ai rfl al) (EV D.R);by_cases c:m=n
 .rw[decide_eq_true c]at sq;rw[ji sq];refine(aT (ai (fQ rfl sw) (ai (d:=nD n) (aW (ai rfl al) D.R.len) al)) (Dc (n:=n) tb hl)).trans ?_;congr 2;rw[decide_eq_decide];exact⟨fun z=>⟨c,z⟩,fun z=>z.2⟩
 .rw[decide_eq_false c]at sq;rw[qa sq,decide_eq_false (fun z=>c z.1)]
open Classical in
theorem MP(D:Dl rz dl n m)(hl:oz.length<=60)(h:¬ (m=n/\∃w:List Nat,oz=w.map some/\w.Perm (e_ n))):rH [WD rz,WO false oz,TN dl,rg false ps]=.ok (.bl false):=by
 obtain⟨r0,hr0,hr1⟩:=D.R.ix0;have h7:=D.R.n7;refine bz (B:=qU) (n:=5) ?_;unfold qU;refine(au (aZ (aW (ai rfl al) D.R.len))).trans ?_;refine aS ((bW ?_).trans (aS (bj (d:=.bl false) rfl)));have e0:=bR (am (f:=fC (ag (f2 (gv 0) (fun _=>Res.ok (DL.D.int 0)) ax) ae) lenD) (f':=gv 4) (r:=[some (WD rz),some (WO false oz),some (TN dl),some (rg false ps),some (nD n)]) (a:=nD m) (b:=nD n) (aW (ai (am rfl rfl hr0) al) hr1) rfl (nW m n));by_cases c0:n<m
 .rw[decide_eq_true c0]at e0;exact df e0
 rw[decide_eq_false c0]at e0;have hmn:m=n:=by have:=D.R.nm;omega
 refine(bF e0).trans ?_;have e1:=bR (am (f:=fC (ag (gv 1) ae) lenD) (f':=gv 4) (r:=[some (WD rz),some (WO false oz),some (TN dl),some (rg false ps),some (nD n)]) (a:=nD oz.length) (b:=nD n) (aW (ai rfl al) (by rw[kb,g_])) rfl (pS oz.length n));by_cases c1:oz.length=n
 rotate_left
 .rw[decide_eq_false c1]at e1;exact df e1
 rw[decide_eq_true c1]at e1;refine(bF e1).trans ?_;have hcmp:cy 1 [] (aU bN (gv 1)) (aG 0) (aK (f2 (gv 0) (fun _=>Res.ok DL.D.non) gp)) (gv 0) [some (WD rz),some (WO false oz),some (TN dl),some (rg false ps),some (nD n)]=.ok (IN (aL (somes oz))):=by unfold cy;rw[hU (ds:=oz.map oD) rfl rfl,bind_ok];rw[jM (by simp;omega),opt_some,bind_ok];show(lh (eD _ _ _ [none] (oz.map oD))).bind _=_;rw[A4,ki];rfl
 refine(bR (am (aW (ai hcmp al) (yR (by have:=uV oz;simp[aL];omega))) (aW (ai rfl al) (xV (by omega))) (EO _ _))).trans ?_;congr 1;rw[decide_eq_false];rfl;intro e;apply h;obtain⟨o,e1,e2⟩:=uF.mp e;have e3:somes oz=o:=by
  have:=congrArg (VE Xg) e1;show somes oz=o;have f:∀l:List Nat,(aL l).map Xg=l:=fun l=>by
   show VE _ (VE _ _)=_;rw[A_]
   conv=>rhs;rw[<-Y1 l]
   exact Vx fun x _=>rfl
  rw[f,f]at this;exact this
 refine⟨hmn,somes oz,Hn ?_,by rw[e3];exact e2⟩;rw[e3,e2.length_eq,c1];simp
theorem FF(tb:Bool)(w:List Nat):WO tb (w.map some)=WL tb w:=by show wr tb _=wr tb _;rw[A_];rfl
open Classical in
theorem Ng(D:Dl rz dl n m)(hl:oz.length<=60)(hp:ps.length<=30):∃b:Bool,(∀tb,qK [GO tb oz ps,WD rz,TN dl]=.ok (.bl b))/\rH [WD rz,WO false oz,TN dl,rg false ps]=.ok (.bl b):=by
 by_cases c:m=n/\∃w:List Nat,oz=w.map some/\w.Perm (e_ n)
 rotate_left
 .refine⟨false,fun tb=>?_,MP D hl c⟩;have a:=sC (ps:=ps) D tb hl;rw[decide_eq_false c]at a;refine bz (B:=pj) (n:=4) ?_;unfold pj;refine(au (aZ a)).trans ?_;exact aS (bj (qa rfl))
 obtain⟨rfl,w,rfl,hw⟩:=c;obtain⟨b,b1,b2⟩:=Dp D hw hp;refine⟨b,fun tb=>?_,?_⟩
 .have a:=sC (ps:=ps) (oz:=w.map some) D tb hl;rw[decide_eq_true ⟨rfl,w,rfl,hw⟩]at a;refine bz (B:=pj) (n:=4) ?_;unfold pj;refine(au (aZ a)).trans ?_;refine aS (bj ?_);rw[ji rfl,ji (aT (ai rfl (ai rfl al)) (t8 D))];exact aT (ai rfl (ai (d:=WL tb w) (by rw[<-FF];exact fQ rfl sw) (ai rfl (ai (fQ rfl Dj) al)))) (b1 tb)
 .obtain⟨r0,hr0,hr1⟩:=D.R.ix0;have h7:=D.R.n7;have hwl:w.length=m:=jn hw;rw[FF];refine bz (B:=qU) (n:=5) ?_;unfold qU;refine(au (aZ (aW (ai rfl al) D.R.len))).trans ?_;have e0:=bR (am (f:=fC (ag (f2 (gv 0) (fun _=>Res.ok (DL.D.int 0)) ax) ae) lenD) (f':=gv 4) (r:=[some (WD rz),some (WL false w),some (TN dl),some (rg false ps),some (nD m)]) (a:=nD m) (b:=nD m) (aW (ai (am rfl rfl hr0) al) hr1) rfl (nW m m));rw[decide_eq_false (by omega)]at e0;have e1:=bR (am (f:=fC (ag (gv 1) ae) lenD) (f':=gv 4) (r:=[some (WD rz),some (WL false w),some (TN dl),some (rg false ps),some (nD m)]) (a:=nD m) (b:=nD m) (aW (ai rfl al) (by rw[kb,g_,hwl])) rfl (pS m m));rw[decide_eq_true rfl]at e1;have hcmp:cy 1 [] (aU bN (gv 1)) (aG 0) (aK (f2 (gv 0) (fun _=>Res.ok DL.D.non) gp)) (gv 0) [some (WD rz),some (WL false w),some (TN dl),some (rg false ps),some (nD m)]=.ok (IN (aL w)):=by unfold cy;rw[hU (ds:=w.map nD) rfl rfl,bind_ok];rw[jM (by simp;omega),opt_some,bind_ok];show(lh (eD _ _ _ [none] (w.map nD))).bind _=_;have:=A4 (w.map some);rw[Ia,A_]at this;rw[show w.map nD=w.map (oD∘some)from rfl,this,ki];rfl
  refine(au ((bc ((bF e0).trans ((bF e1).trans ((bR (am (aW (ai hcmp al) (yR (by simp[aL];omega))) (aW (ai rfl al) (xV (by omega))) (EO _ _))).trans (by rw[decide_eq_true (uF.mpr ⟨w,rfl,hw⟩)];rfl))))).trans (e_skip _))).trans ?_;exact aS (bj (aT (ai rfl (ai rfl (ai rfl (ai rfl al)))) b2))
def Cp:Nat->D->Prop
|_,.non=>True
|_,.int _=>True
|_,.str _=>True
|k+1,.tup ds=>ds.length<=1000/\∀d∈ds,Cp k d
|k+1,.lst ds=>ds.length<=1000/\∀d∈ds,Cp k d
|_,_=>False
theorem EC(k:Nat)(ds:List D):jm (k+1) ds=aH false (mO (jm k) (a9 1 ds)):=rfl
theorem uY:∀(k:Nat)(d:D),Cp k d->jm (k+1) [d]=.ok d:=by
 intro k
 induction k with
|zero=>intro d h;cases d with
 |non=>rfl
 |int i=>rfl
 |str s=>rfl
 |_=>exact h.elim
|succ k ih=>intro d h;cases d with
 |non=>rfl
 |int i=>rfl
 |str s=>rfl
 |tup ds=>
   obtain⟨h1,h2⟩:ds.length<=1000/\∀d∈ds,Cp k d:=h;rw[EC];refine bz (B:=mO (jm (k+1))) (n:=1) ?_;unfold mO;refine(au ((bc (c9 (fQ (a:=.tup ds) (d:=.bl false) rfl rfl) rfl)).trans (e_skip _))).trans ?_;refine aS ((bW (c9 (fQ (a:=.tup ds) (d:=.bl true) rfl rfl) rfl)).trans (aS (bj (aW (ai (d:=.lst ds) ?_ al) (e_tupL _)))));have:=iA (nl:=1) (cap:=[]) (fi:=aU bN (gv 0)) (ft:=aG 0) (fe:=aF (ag (gv 0) ae) [] (jm (k+1))) (r:=a9 1 [.tup ds]) (l:=ds) (fun d=>d) (fun d=>d) (by rw[Zw];rfl) h1 fun d hd=>⟨[some d],rfl,aT (ai rfl al) (ih d (h2 d hd))⟩
   rw[Zw]at this;exact this
 |lst ds=>
   obtain⟨h1,h2⟩:ds.length<=1000/\∀d∈ds,Cp k d:=h;rw[EC];refine bz (B:=mO (jm (k+1))) (n:=1) ?_;unfold mO;refine aS ((bW (c9 (fQ (a:=.lst ds) (d:=.bl true) rfl rfl) rfl)).trans (aS (bj ?_)));have:=iA (nl:=1) (cap:=[]) (fi:=aU bN (gv 0)) (ft:=aG 0) (fe:=aF (ag (gv 0) ae) [] (jm (k+1))) (r:=a9 1 [.lst ds]) (l:=ds) (fun d=>d) (fun d=>d) (by rw[Zw];rfl) h1 fun d hd=>⟨[some d],rfl,aT (ai rfl al) (ih d (h2 d hd))⟩
   rw[Zw]at this;exact this
 |_=>exact h.elim
theorem yB{k:Nat}(tb:Bool){ds:List D}(h1:ds.length<=1000)(h2:∀d∈ds,Cp k d):Cp (k+1) (wr tb ds):=by cases tb <;> exact⟨h1,h2⟩
theorem tD(k:Nat)(i:Int):Cp k (.int i):=by cases k <;> trivial
theorem KR(k:Nat)(s:Str):Cp k (.str s):=by cases k <;> trivial
theorem Dm(k:Nat)(o:Option Nat):Cp k (oD o):=by cases o <;> cases k <;> trivial
theorem D3(k:Nat)(tb:Bool){hs:List Int}(h:hs.length<=1000):Cp (k+1) (WI tb hs):=yB tb (by simpa using h) fun d hd=>by obtain⟨x,_,rfl⟩:=C_.mp hd;exact tD k x
theorem J9(k:Nat)(tb:Bool){oz:List (Option Nat)}(h:oz.length<=1000):Cp (k+1) (WO tb oz):=yB tb (by simpa using h) fun d hd=>by obtain⟨x,_,rfl⟩:=C_.mp hd;exact Dm k x
theorem Ka(k:Nat)(tb:Bool){ps:List (Int×Int)}(h:ps.length<=1000):Cp (k+2) (rg tb ps):=yB tb (by simpa using h) fun d hd=>by
 obtain⟨x,_,rfl⟩:=C_.mp hd;refine⟨by simp,fun d hd=>?_⟩;rcases m_.mp hd with rfl|hd
 .exact tD k _
 .rcases m_.mp hd with rfl|hd
  .exact tD k _
  .cases hd
theorem Kb(k:Nat)(tb:Bool){hs:List Int}{o:Option Int}(h:hs.length<=1000):Cp (k+2) (wz tb hs o):=by
 refine⟨by cases o <;> simp[rs],fun d hd=>?_⟩;rcases m_.mp hd with rfl|hd
 .exact KR _ _
 .rcases m_.mp hd with rfl|hd
  .exact D3 k tb h
  .cases o with
  |none=>cases hd
  |some x=>
    rcases m_.mp hd with rfl|hd
    .exact tD _ _
    .cases hd
theorem MT{a b:D}(h1:Cp 5 a)(h2:Cp 5 b):mS [a,b]=.ok [("owns",a),("ring",b)]:=by unfold mS Az gR;rw[aT (ai rfl al) (uY 5 a h1)];have e:=aT (fl:=ag (gv 2) ae) (dds:=[]) (F:=kK) (r:=none::(VE some [a,b]++L_ (AA.length-([a,b].length+1)) none)) (ai rfl al) (uY 5 b h2);simp only[e];rfl
theorem QB{a:D}(h1:Cp 5 a):nc [a]=.ok [("order",a)]:=by unfold nc Be gR;rw[aT (ai rfl al) (uY 5 a h1)];rfl
theorem QA{a:D}(h1:Cp 5 a):nb [a]=.ok [("way",a)]:=by unfold nb Bd gR;rw[aT (ai rfl al) (uY 5 a h1)];rfl
theorem oU{nm:Str}{fl:ao->Res (List D)}{F:lZ}{r:ao}{ds:List D}{fd:List (Str×D)}(h1:fl r=.ok ds)(h2:F ds=.ok fd):j9 nm fl [] F r=.ok (iD nm fd):=by unfold j9;rw[h1,bind_ok,Wg,h2]
abbrev BO(tb:Bool)(hs:List Int)(o:Option Int):D:=iD "Betters" [("way",wz tb hs o)]
theorem Di{d:D}:dg oh "way" (iD "Betters" [("way",d)])=some d:=rfl
theorem QY(D:Dl rz dl n m){o:Option Int}{b:Bool}{tb:Bool}(h:lR [WD rz,TN dl,wz tb hs o]=.ok (.bl b)):qW [BO tb hs o,WD rz,TN dl]=.ok (.bl b):=by refine bz (B:=vX) (n:=3) ?_;unfold vX;refine aS (bj ?_);rw[ji (aT (ai rfl (ai rfl al)) (t8 D))];exact aT (ai rfl (ai rfl (ai (fQ rfl Di) al))) h
structure Pp(rz:List (List Nat))(dl:List Nat)(nm:Str)(fs:List (Str×D))(b:Bool):Prop where
 hit:oX nm=true
 lk:fs.lookup ("shows" : Str)=none
 tn:my nm=some true
 sh:pc [iD nm fs,WD rz,TN dl]=.ok (.bl b)
theorem zZ{nm:Str}{fs:List (Str×D)}{b:Bool}(p:Pp rz dl nm fs b)(d0 d3 d4 d7:Option D):IP [d0,some (WD rz),some (TN dl),d3,d4,some (iD nm fs),some (.bl b),d7]=.nx [d0,some (WD rz),some (TN dl),d3,d4,some (iD nm fs),some (.bl b),some (.bl b)]:=by
 have hm:(xX oX "shows" (gv 5) (ag (gv 1) (ag (gv 2) ae)) pc) [d0,some (WD rz),some (TN dl),d3,d4,some (iD nm fs),some (.bl b),d7]=.ok (.bl b):=by show(if oX nm=true/\fs.lookup ("shows" : Str)=none then lU (pc [iD nm fs,WD rz,TN dl])else .stuck)=_;rw[if_pos ⟨p.hit,p.lk⟩,p.sh];rfl
 refine(au (aZ hm)).trans ?_;refine(au ((bc ?_).trans (e_skip _))).trans rfl;refine(bF (dE (b:=true) (c9 (d:=.bl true) (fQ rfl ?_) rfl))).trans ?_
 .show(my nm).map D.bl=_;rw[p.tn];rfl
 refine(bF (dE (b:=true) (c9 (d:=.bl true) (fQ (a:=.bl b) rfl rfl) rfl))).trans ?_;refine bR (am rfl rfl ?_);cases b <;> rfl
theorem J7{n1 n2 n3:Str}{f1 f2 f3:List (Str×D)}{b1 b2 b3:Bool}(p1:Pp rz dl n1 f1 b1)(p2:Pp rz dl n2 f2 b2)(p3:Pp rz dl n3 f3 b3):pr [.lst [iD n1 f1,iD n2 f2,iD n3 f3],WD rz,TN dl,.lst [.bl b1,.bl b2,.bl b3]]=.ok (.bl true):=by
 refine bz (B:=A8) (n:=8) ?_;unfold A8;have one:∀(t:Nat)(y5 y6 y7:Option D),IQ [some (.lst [iD n1 f1,iD n2 f2,iD n3 f3]),some (WD rz),some (TN dl),some (.lst [.bl b1,.bl b2,.bl b3]),some (nD t),y5,y6,y7]=.nx [some (.lst [iD n1 f1,iD n2 f2,iD n3 f3]),some (WD rz),some (TN dl),some (.lst [.bl b1,.bl b2,.bl b3]),some (nD t),some (iD n3 f3),some (.bl b3),some (.bl b3)]:=fun t y5 y6 y7=>by refine(au ((fj (ds:=[.tup [iD n1 f1,.bl b1],.tup [iD n2 f2,.bl b2],.tup [iD n3 f3,.bl b3]]) (Am (d:=.lst [iD n1 f1,iD n2 f2,iD n3 f3]) (e:=.lst [.bl b1,.bl b2,.bl b3]) rfl rfl rfl rfl)).trans ?_)).trans rfl;refine(fq (r1:=[some (.lst [iD n1 f1,iD n2 f2,iD n3 f3]),some (WD rz),some (TN dl),some (.lst [.bl b1,.bl b2,.bl b3]),some (nD t),some (iD n1 f1),some (.bl b1),y7]) rfl (zZ p1 _ _ _ _)).trans ?_;refine(fq (r1:=[some (.lst [iD n1 f1,iD n2 f2,iD n3 f3]),some (WD rz),some (TN dl),some (.lst [.bl b1,.bl b2,.bl b3]),some (nD t),some (iD n2 f2),some (.bl b2),some (.bl b1)]) rfl (zZ p2 _ _ _ _)).trans ?_;exact(fq (r1:=[some (.lst [iD n1 f1,iD n2 f2,iD n3 f3]),some (WD rz),some (TN dl),some (.lst [.bl b1,.bl b2,.bl b3]),some (nD t),some (iD n3 f3),some (.bl b3),some (.bl b2)]) rfl (zZ p3 _ _ _ _)).trans gB
 refine(au ((fj (ds:=(e_ 2).map nD) (kG (ai rfl al) (kF (by omega)))).trans ((fq (d:=nD 0) (ds:=[nD 1]) (r1:=[some (.lst [iD n1 f1,iD n2 f2,iD n3 f3]),some (WD rz),some (TN dl),some (.lst [.bl b1,.bl b2,.bl b3]),some (nD 0),none,none,none]) rfl (one 0 _ _ _)).trans ((fq (d:=nD 1) (ds:=[]) (r1:=[some (.lst [iD n1 f1,iD n2 f2,iD n3 f3]),some (WD rz),some (TN dl),some (.lst [.bl b1,.bl b2,.bl b3]),some (nD 1),some (iD n3 f3),some (.bl b3),some (.bl b3)]) rfl (one 1 _ _ _)).trans gB)))).trans ?_;exact aS (bj (d:=.bl true) rfl)
theorem NF{tb:Bool}{oz:List (Option Nat)}{ps:List (Int×Int)}{b:Bool}(h:qK [GO tb oz ps,WD rz,TN dl]=.ok (.bl b)):Pp rz dl "Goes" [("owns",WO tb oz),("ring",rg tb ps)] b:=⟨rfl,rfl,rfl,h⟩
theorem QF{tb:Bool}{b:Bool}(h:m6 [OO tb hs,WD rz,TN dl]=.ok (.bl b)):Pp rz dl "Ordered" [("order",WI tb hs)] b:=⟨rfl,rfl,rfl,h⟩
theorem QE{tb:Bool}{o:Option Int}{b:Bool}(h:qW [BO tb hs o,WD rz,TN dl]=.ok (.bl b)):Pp rz dl "Betters" [("way",wz tb hs o)] b:=⟨rfl,rfl,rfl,h⟩
abbrev u4(rz:List (List Nat))(w:List Nat)(od:Option D)(T:List Nat)(l_:ao):ao:=some (WD rz)::some (LN w)::od::some (LN T)::l_
theorem fT{mm:List Md}{p:FQ}{b rest:FS}{r r':ao}{c:Bool}(hp:p r=.ok c)(h1:c=true->b r=.nx r')(h2:c=false->r'=r):af (bI mm p b aq) rest r=rest r':=by cases c with
|true=>exact au ((bW hp).trans (h1 rfl))
|false=>rw[h2 rfl];exact au ((bc hp).trans (e_skip _))
section
abbrev gE(rz:List (List Nat))(T:List Nat)(h:Nat):Nat:=Rg.best (Wr rz h) T
def sQ(w:List Nat)(x:Nat)(l:List Nat)(here:Nat):Nat:=l.foldl (fun acc h=>if aN w h=x then h else acc) here
theorem GS{x k:Nat}(hk:aN w k=x):∀{l:List Nat}{here:Nat},(∀h∈l,aN w h=x->h=k)->k∈l\/here=k->sQ w x l here=k
|[],_,_,h=>h.elim (fun z=>(nomatch z)) id
|a::l,here,hu,h=>by
  show sQ w x l (if aN w a=x then a else here)=k;refine GS hk (fun j hj=>hu j (t_ _ hj)) ?_;by_cases e:aN w a=x
  .rw[if_pos e];exact .inr (hu a p_ e)
  .rw[if_neg e];rcases h with z|z
   .rcases m_.mp z with rfl|z
    .exact absurd hk e
    .exact .inl z
   .exact .inr z
structure Lt(w:List Nat)(n:Nat)(L T:List Nat):Prop where
 nl:L.Nodup
 lt:∀h∈L,h<n
 nt:T.Nodup
 tl:∀x∈T,x<n
 own:∀x∈T,∃h∈L,aN w h=x
 thg:∀h∈L,aN w h∈T
variable{L T:List Nat}
abbrev nH(rz:List (List Nat))(w L T:List Nat)(h:Nat):Nat:=sQ w (gE rz T h) L (L.headD 0)
theorem Lt.in(I:Lt w n L T)(R:Rws rz n n){h:Nat}(hh:h∈L):gE rz T h∈T:=R.inT (I.lt h hh) (Xk (I.thg h hh)) I.tl
theorem Lt.nx(I:Lt w n L T)(R:Rws rz n n)(hw:w.Perm (e_ n)){h:Nat}(hh:h∈L):nH rz w L T h∈L/\aN w (nH rz w L T h)=gE rz T h:=by obtain⟨k,k1,k2⟩:=I.own _ (I.in R hh);have:nH rz w L T h=k:=GS k2 (fun j hj e=>uM hw (I.lt j hj) (I.lt k k1) (e.trans k2.symm)) (.inl k1);rw[this];exact⟨k1,k2⟩
theorem FY(hw:w.length=n)(wd od th ln g path:Option D)(x:Nat):∀(l:List Nat)(here:Nat)(y:Option D),(∀h∈l,h<n) ->∃y',aI (aG 9) Ji (l.map nD) [wd,some (LN w),od,th,ln,g,some (nD here),path,some (nD x),y]=.nx [wd,some (LN w),od,th,ln,g,some (nD (sQ w x l here)),path,some (nD x),y']
|[],here,y,_=>⟨y,gB⟩
|h::l,here,y,hl=>by
  obtain⟨y',ih⟩:=FY hw wd od th ln g path x l (if aN w h=x then h else here) (some (nD h)) fun k hk=>hl k (t_ _ hk);refine⟨y',Qa4 ?_ ih⟩;refine fq (r1:=[wd,some (LN w),od,th,ln,g,some (nD here),path,some (nD x),some (nD h)]) rfl ?_;refine(fT (r':=[wd,some (LN w),od,th,ln,g,some (nD (if aN w h=x then h else here)),path,some (nD x),some (nD h)]) (bR (am (am rfl rfl (jW (by rw[hw];exact hl h p_))) (b:=nD x) rfl (jz _ _))) (fun q=>?_) (fun q=>?_)).trans rfl
  .rw[if_pos (of_decide_eq_true q)];exact au (aZ (d:=nD h) rfl)
  .rw[if_neg (of_decide_eq_false q)]
def DE(f:Nat->Nat)(path:List Nat)(here:Nat):Prop:=∀i,i<path.length->f (aN path i)=aN (path++[here]) (i+1)
theorem Ap{a b:List Nat}{i:Nat}(h:i<a.length):aN (a++b) i=aN a i:=by unfold aN;rw[s_,O_ h,s_]
theorem Aq{a:List Nat}{x:Nat}:aN (a++[x]) a.length=x:=p6 (by simp)
theorem NN(R:Rws rz n n)(hw:w.Perm (e_ n))(I:Lt w n L T)(od g:Option D){mm:List Md}:∀(j:Nat)(path:List Nat)(here:Nat)(x y:Option D),here∈L->path.Nodup->(∀h∈path,h∈L)->DE (nH rz w L T) path here->n<j+path.length ->
  ∃U Y x' y',Y∈U/\U.Nodup/\(∀h∈U,h∈L)/\DE (nH rz w L T) U Y/\fg mm Co Jj j (u4 rz w od T [some (LN L),g,some (nD here),some (LN path),x,y])
   = .nx (u4 rz w od T [some (LN L),g,some (nD Y),some (LN U),x',y']):=by
 intro j;have n7:=R.n7
 induction j with
|zero=>intro path here x y _ hn hs _ h2;have:=Rg.kB (m:=e_ n) hn fun x hx=>r_.mpr (I.lt x (hs x hx));simp at this;omega
|succ j ih=>
  intro path here x y hh hn hs hc hj;have hl:=Rg.kB (m:=e_ n) hn fun x hx=>r_.mpr (I.lt x (hs x hx));rw[WC]at hl;have q:Co (u4 rz w od T [some (LN L),g,some (nD here),some (LN path),x,y])=.ok (! decide (here∈path)):=bR (am rfl rfl (tR _ _));by_cases c:here∈path
  .rw[decide_eq_true c]at q;exact⟨path,here,x,y,c,hn,hs,hc,qg q⟩
  rw[decide_eq_false c]at q;obtain⟨y1,hp⟩:=FY (jn hw) (some (WD rz)) od (some (LN T)) (some (LN L)) g (some (LN (path++[here]))) (gE rz T here) L (L.headD 0) y I.lt;obtain⟨U,Y,x',y',e1,e2,e3,e4,e5⟩:=ih (path++[here]) (nH rz w L T here) (some (nD (gE rz T here))) y1 (I.nx R hw hh).1 (WZ.mpr ⟨hn,by simp,fun a ha b hb=>by rw[Vp.mp hb];rintro rfl;exact c ha⟩) (fun h h'=>by
   rcases Wf.mp h' with z|z
   .exact hs h z
   .rw[Vp.mp z];exact hh) (fun i hi=>by
   by_cases z:i<path.length
   .rw[Ap z,hc i z];exact(Ap (a:=path++[here]) (by simp;omega)).symm
   .have:i=path.length:=by simp at hi;omega
    subst this;rw[Aq];have:=Aq (a:=path++[here]) (x:=nH rz w L T here);rw[U_]at this;exact this.symm) (by simp;omega)
  refine⟨U,Y,x',y',e1,e2,e3,e4,(oM q ?_).trans e5⟩;refine(au (jj (d:=LN path) (ds:=[nD here]) (d':=LN (path++[here])) rfl rfl (ai rfl al) ?_)).trans ?_
  .rw[oO (by simp;omega)];show some (D.lst _)=some (D.lst _);rw[H_];rfl
  refine(au (aZ (aT (ai (am rfl rfl (fL (p8 (by rw[R.rl];exact I.lt here hh)))) (ai rfl al)) (R.lbest (I.lt here hh) (Xk (I.thg here hh)) I.tl)))).trans ?_;refine(au (aZ (am rfl rfl (DR (List.ne_nil_of_mem hh))))).trans ?_;exact au ((fj (ds:=L.map nD) rfl).trans hp)
theorem Pn{f:Nat->Nat}{path:List Nat}{here:Nat}(hn:path.Nodup)(hh:here∈path)(hc:DE f path here):(path.drop (path.idxOf here)).map f=eQ (path.drop (path.idxOf here)):=by
 have hi:=VN hh;have h0:=Xl hi;refine Xv fun j=>?_;rw[n_,YS];by_cases hj:path.idxOf here+j<path.length
 .have e:=hc (path.idxOf here+j) hj;rw[p6 (d_ hj)]at e;rw[d_ hj,VZ,e,F4 (A:=path.drop (path.idxOf here)) (i:=1) (by simp;omega) (by simp;omega),VI,YS];by_cases z:path.idxOf here+j+1<path.length
  .rw[Zd (by omega),Ap z,d_ (by omega)];rw[p6 (d_ z)];congr 1;simp only[show path.idxOf here+(1+j)=path.idxOf here+j+1 by omega]
  .have:path.idxOf here+j+1=path.length:=by omega
   rw[this,Aq,show 1+j=path.length-path.idxOf here by omega,Nat.mod_self,Nat.add_zero,d_ hi,h0]
 .rw[VB (by omega),VB (by rw[U_,VI,Vz,VI];omega)];rfl
theorem Gi(R:Rws rz n n)(I:Lt w n L T)(od ln here path U:Option D):∀(C:List Nat)(g:List (Option Nat))(y:Option D),g.length=n->(∀h∈C,h∈L) ->∃(g':List (Option Nat))(y':Option D),g'.length=n/\(∀h,h∈C->g'[h]? = some (some (gE rz T h)))/\(∀h,h∉C->g'[h]? = g[h]?) /\aI (aG 9) Jk (C.map nD) (u4 rz w od T [ln,some (.lst (g.map oD)),here,path,U,y])=.nx (u4 rz w od T [ln,some (.lst (g'.map oD)),here,path,U,y'])
|[],g,y,hg,_=>⟨g,y,hg,fun h hh=>(nomatch hh),fun _ _=>rfl,gB⟩
|h::C,g,y,hg,hC=>by
  have hL:=hC h p_;have hn:=I.lt h hL;obtain⟨g',y',i1,i2,i3,i4⟩:=Gi R I od ln here path U C (g.set h (some (gE rz T h))) (some (nD h)) (by simpa using hg) fun k hk=>hC k (t_ _ hk);refine⟨g',y',i1,fun k hk=>?_,fun k hk=>?_,Qa4 ?_ i4⟩
  .by_cases z:k∈C
   .exact i2 k z
   .have:k=h:=(m_.mp hk).resolve_right z;subst this;rw[i3 k z,x_ (by omega)]
  .rw[i3 k fun z=>hk (t_ _ z),h_ (by rintro rfl;exact hk p_)]
  .refine fq (r1:=u4 rz w od T [ln,some (.lst (g.map oD)),here,path,U,some (nD h)]) rfl ?_;refine(au (iL (d:=.lst (g.map oD)) (k:=nD h) (v:=nD (gE rz T h)) (d':=.lst ((g.set h (some (gE rz T h))).map oD)) rfl (aT (ai (am rfl rfl (fL (p8 (by rw[R.rl];exact hn)))) (ai rfl al)) (R.lbest hn (Xk (I.thg h hL)) I.tl)) rfl ?_)).trans rfl;rw[tu (by rw[g_];omega),Zv];rfl
theorem Gj{a:Nat->Nat}(w ow od here path z:Option D)(g:List (Option Nat)):∀(C L T:List Nat)(y:Option D),C.Nodup->(C.map a).Nodup->(∀h∈C,h∈L/\a h∈T/\g[h]? = some (some (a h))) ->∃y',aI (aG 9) Jl (C.map nD) [w,ow,od,some (LN T),some (LN L),some (.lst (g.map oD)),here,path,z,y]=.nx [w,ow,od,some (LN ((C.map a).foldl (fun l h=>l.erase h) T)),some (LN (C.foldl (fun l h=>l.erase h) L)),some (.lst (g.map oD)),here,path,z,y']
|[],L,T,y,_,_,_=>⟨y,gB⟩
|h::C,L,T,y,n1,n2,hC=>by
  have Y:=VQ.mp n1;have U:=VQ.mp n2;obtain⟨h1,h2,h3⟩:=hC h p_;obtain⟨y',ih⟩:=Gj (a:=a) w ow od here path z g C (L.erase h) (T.erase (a h)) (some (nD h)) Y.2 U.2 fun k hk=>by
   obtain⟨z1,z2,z3⟩:=hC k (t_ _ hk);refine⟨(Xz ?_).mpr z1,(Xz ?_).mpr z2,z3⟩
   .rintro rfl;exact Y.1 hk
   .intro q;exact U.1 (by rw[<-q];exact C_.mpr ⟨k,hk,rfl⟩)
  refine⟨y',Qa4 ?_ ih⟩;refine fq (r1:=[w,ow,od,some (LN T),some (LN L),some (.lst (g.map oD)),here,path,z,some (nD h)]) rfl ?_;refine(au (jj (d:=LN L) (ds:=[nD h]) rfl rfl (ai rfl al) (tT h1))).trans ?_;refine(au (jj (d:=LN T) (ds:=[nD (a h)]) rfl rfl (ai (am rfl rfl (iu (by rw[n_,h3];rfl))) al) (tT h2))).trans rfl
end
structure Dn(n:Nat)(g:List (Option Nat))(L T:List Nat):Prop where
 gl:g.length=n
 ex:∀h,h<n->h∉L->∃x,g[h]? = some (some x)/\x<n/\x∉T
 inj:∀h k x,h∉L->k∉L->g[h]? = some (some x)->g[k]? = some (some x)->h=k
theorem NP(R:Rws rz n n)(hw:w.Perm (e_ n))(od:Option D){mm:List Md}:∀(j:Nat)(L T:List Nat)(g:List (Option Nat))(x1 x2 x3 x4:Option D),Lt w n L T->Dn n g L T->L.length<j ->
  ∃(g':List (Option Nat))(T':List Nat)(y1 y2 y3 y4:Option D),Dn n g' [] T' /\
   fg mm Cq Jm j (u4 rz w od T [some (LN L),some (.lst (g.map oD)),x1,x2,x3,x4])
    = .nx [some (WD rz),some (LN w),od,some (LN T'),some (LN []),some (.lst (g'.map oD)),y1,y2,y3,y4]:=by
 intro j;have n7:=R.n7
 induction j with
|zero=>intro L T g x1 x2 x3 x4 _ _ h;omega
|succ j ih=>
  intro L T g x1 x2 x3 x4 I G hj;have q:Cq (u4 rz w od T [some (LN L),some (.lst (g.map oD)),x1,x2,x3,x4])=.ok (decide (0<L.length)):=bR (am (aW (ai rfl al) (iN _ _)) rfl (nW L.length 0));by_cases c0:L=[]
  .subst c0;exact⟨g,T,x1,x2,x3,x4,G,qg q⟩
  rw[decide_eq_true (WH.mpr c0)]at q;have hf:L.headD 0∈L:=by cases L with
  |nil=>exact absurd rfl c0
  |cons a t=>exact p_
  obtain⟨P,e,x',y',p1,p2,p3,p4,hp⟩:=NN R hw I od (some (.lst (g.map oD))) (mm:=dZ) 64 [] (L.headD 0) x3 x4 hf (by simp) (fun h hh=>(nomatch hh)) (fun i hi=>(nomatch hi)) (by simp;omega);have Z:=Pn p2 p1 p4;have ld:=VN p1;generalize hC:P.drop (P.idxOf e)=C at Z;have nC:C.Nodup:=by rw[<-hC];exact List.Nodup.sublist (List.drop_sublist _ _) p2
  have cL:∀h∈C,h∈L:=fun h hh=>p3 h (by rw[<-hC]at hh;exact List.mem_of_mem_drop hh);have hb:C.map (gE rz T)=(eQ C).map (aN w):=by rw[<-Z,A_];exact Vx fun h hh=>(I.nx R hw (cL h hh)).2.symm
  have nB:(C.map (gE rz T)).Nodup:=by rw[hb,Vy,W0];refine W9 (fun ha hb h z=>h ?_) ((iO C).nodup_iff.mpr nC);exact uM hw (I.lt _ (cL _ ((iO C).mem_iff.mp ha))) (I.lt _ (cL _ ((iO C).mem_iff.mp hb))) z
  have cne:C≠[]:=by intro z;have:=congrArg WM hC;rw[z,VI]at this;simp at this;omega
  obtain⟨g1,w1,i1,i2,i3,i4⟩:=Gi R I od (some (LN L)) (some (nD e)) (some (LN P)) x' C g y' G.gl cL;obtain⟨w2,i5⟩:=Gj (a:=gE rz T) (some (WD rz)) (some (LN w)) od (some (nD e)) (some (LN P)) x' g1 C L T w1 nC nB fun h hh=>⟨cL h hh,I.in R (cL h hh),i2 h hh⟩
  rw[Rg.Ao I.nl,Rg.Ao I.nt]at i5;have mL:∀h,h∈L.filter (fun x=>decide (x∉C))↔h∈L/\h∉C:=fun h=>by simp
  have mT:∀x,x∈T.filter (fun x=>decide (x∉C.map (gE rz T)))↔x∈T/\x∉C.map (gE rz T):=fun x=>by simp
  have mB:∀k,k∈L->(aN w k∈C.map (gE rz T)↔k∈C):=fun k hk=>by
   rw[hb];constructor
   .intro z;obtain⟨k',z1,z2⟩:=C_.mp z;have U:=(iO C).mem_iff.mp z1;rw[<-uM hw (I.lt _ (cL _ U)) (I.lt _ hk) z2];exact U
   .intro z;exact C_.mpr ⟨k,(iO C).mem_iff.mpr z,rfl⟩
  generalize Y:L.filter (fun x=>decide (x∉C))=L' at i5 mL;generalize ac:T.filter (fun x=>decide (x∉C.map (gE rz T)))=T' at i5 mT;have I':Lt w n L' T':=by
   refine⟨?_,fun h hh=>I.lt h ((mL h).mp hh).1,?_,fun x hx=>I.tl x ((mT x).mp hx).1,fun x hx=>?_,fun h hh=>?_⟩
   .rw[<-Y];exact I.nl.sublist Z0
   .rw[<-ac];exact I.nt.sublist Z0
   .obtain⟨a,b⟩:=(mT x).mp hx;obtain⟨k,k1,rfl⟩:=I.own x a;exact⟨k,(mL k).mpr ⟨k1,fun z=>b ((mB k k1).mpr z)⟩,rfl⟩
   .obtain⟨a,b⟩:=(mL h).mp hh;exact(mT _).mpr ⟨I.thg h a,fun z=>b ((mB h a).mp z)⟩
  have G':Dn n g1 L' T':=by
   refine⟨i1,fun h hn hh=>?_,fun h k x hh hk e1 e2=>?_⟩
   .by_cases z:h∈C
    .exact⟨_,i2 h z,I.tl _ (I.in R (cL h z)),fun y=>((mT _).mp y).2 (C_.mpr ⟨h,z,rfl⟩)⟩
    .obtain⟨x,a1,a2,a3⟩:=G.ex h hn fun y=>hh ((mL h).mpr ⟨y,z⟩);exact⟨x,(i3 h z).trans a1,a2,fun y=>a3 ((mT x).mp y).1⟩
   .have out:∀h,h∉L'->h∉C->h∉L:=fun h a b y=>a ((mL h).mpr ⟨y,b⟩);have old:∀h k,k∈C->h∉C->h∉L'->g1[h]? = some (some x)->g1[k]? = some (some x)->False:=fun h k zk zh hh e1 e2=>by
     rw[i3 h zh]at e1;rw[i2 k zk]at e2;cases e2;have hlt:h<n:=by have:=(j_.mp e1).1;have:=G.gl;omega
     obtain⟨x',a1,_,a3⟩:=G.ex h hlt (out h hh zh);rw[e1]at a1;cases a1;exact a3 (I.in R (cL k zk))
    by_cases zh:h∈C <;> by_cases zk:k∈C
    .rw[i2 h zh]at e1;rw[i2 k zk]at e2;have e3:gE rz T h=gE rz T k:=(B_ (B_ e1)).trans (B_ (B_ e2)).symm;obtain⟨a,ha,ra⟩:=V1 zh;obtain⟨b,ad,rb⟩:=V1 zk;have:=(Qat (i:=a) (j:=b) (h₀:=by simpa using ha) (h₁:=by simpa using ad) nB).mp (by simp only[Zc,ra,rb];exact e3);subst this;exact ra.symm.trans rb
    .exact(old k h zh zk hk e2 e1).elim
    .exact(old h k zk zh hh e1 e2).elim
    .exact G.inj h k x (out h hh zh) (out k hk zk) ((i3 h zh).symm.trans e1) ((i3 k zk).symm.trans e2)
  have hlt:L'.length<L.length:=by obtain⟨x,hx⟩:=List.exists_mem_of_ne_nil _ cne;rw[<-Y];have h1:=Yk (fun x=>decide (x∉C)) L;refine Nat.lt_of_le_of_ne h1 fun z=>?_;have:=(Yg.mp z) x (cL x hx);simp[hx]at this
  obtain⟨g',T2,y1,y2,y3,y4,j1,j2⟩:=ih L' T' g1 (some (nD e)) (some (LN P)) x' w2 I' G' (by omega);refine⟨g',T2,y1,y2,y3,y4,j1,(oM q ?_).trans j2⟩;refine(au (aZ (am rfl rfl (DR c0)))).trans ?_;refine(au (aZ (fU al (by simp)))).trans ?_;refine(au hp).trans ?_;have sl:∀gg ww:Option D,∀th ln:List Nat,(aU bN (iE (gv 7) (dw (fM "list" (gv 7) (ag (gv 6) ae) kn)) (fun _=>Res.ok none))) (u4 rz w od th [some (LN ln),gg,some (nD e),some (LN P),x',ww])=.ok (C.map nD):=by intro gg ww th ln;refine hU (d:=LN C) (mh (d:=LN P) rfl (fN (i:=(P.idxOf e:Nat)) (ly (d:=LN P) rfl rfl (ai rfl al) (uH p1))) rfl ?_) rfl;rw[Gv (by omega),hC]
  refine(au ((fj (sl _ _ _ _)).trans i4)).trans ?_;exact au ((fj (sl _ _ _ _)).trans i5)
theorem Kt(R:Rws rz n n)(hw:w.Perm (e_ n)):∃a:Nat->Nat,(∀h,h<n->a h<n)/\Dl rz ((e_ n).map a) n n/\rn [WD rz,LN w,LN (e_ n)]=.ok (TN ((e_ n).map a)):=by
 have n7:=R.n7;have I:Lt w n (e_ n) (e_ n):=⟨VJ,fun h hh=>r_.mp hh,VJ,fun h hh=>r_.mp hh,fun x hx=>by obtain⟨i,hi,e⟩:=V1 (hw.mem_iff.mpr hx);exact⟨i,r_.mpr (by rw[<-jn hw];exact hi),p6 (by rw[d_ hi,e])⟩,fun h hh=>r_.mpr (Ag hw (r_.mp hh))⟩
 obtain⟨g,T',y1,y2,y3,y4,G,hr⟩:=NP R hw (some (LN (e_ n))) (mm:=iZ) 64 (e_ n) (e_ n) ((e_ n).map fun _=>none) none none none none I ⟨by simp,fun h hh hn=>absurd (r_.mpr hh) hn,fun h k x hh hk e1 _=>by rw[n_]at e1;cases z:(e_ n)[h]? with
 |none=>rw[z]at e1;cases e1
 |some y=>rw[z]at e1;cases e1⟩ (by simp;omega)
 let a:Nat->Nat:=fun h=>((g[h]?).getD none).getD 0;have ha:∀h,h<n->g[h]? = some (some (a h))/\a h<n:=fun h hh=>by
  obtain⟨x,e,l,_⟩:=G.ex h hh (fun z=>(nomatch z));have:a h=x:=by show((g[h]?).getD none).getD 0=x;rw[e];rfl
  rw[this];exact⟨e,l⟩
 have eg:g=(e_ n).map fun h=>some (a h):=by
  refine Xv fun h=>?_;by_cases hh:h<n
  .rw[(ha h hh).1,n_,WG hh];rfl
  .rw[VB (by rw[G.gl];omega),VB (by simp;omega)]
 refine⟨a,fun h hh=>(ha h hh).2,⟨R,by simp,?_,fun x hx=>?_⟩,bz (B:=Cj) (n:=10) ?_⟩
 .rw[Vy,W0];refine W9 (fun{x y} hx hy h z=>h ?_) (Vy.mp (VJ (n:=n)));have e1:=(ha x (r_.mp hx)).1;have e2:=(ha y (r_.mp hy)).1;rw[z]at e1;exact G.inj x y _ (fun z=>(nomatch z)) (fun z=>(nomatch z)) e1 e2
 .obtain⟨h,hh,rfl⟩:=C_.mp hx;exact(ha h (r_.mp hh)).2
 obtain⟨r0,hr0,hr1⟩:=R.ix0;unfold Cj;refine(au (aZ (aW (ai (d:=nD n) (aW (ai (am rfl rfl hr0) al) hr1) al) (oS (by omega))))).trans ?_;refine(au (aZ (aW (ai rfl al) rfl))).trans ?_;refine(au (aZ (km (l:=e_ n) nD (fun _=>true) (fun _=>.non) rfl (by simp;omega) fun h hh=>⟨[some (nD h)],rfl,rfl,fun _=>rfl⟩))).trans ?_;rw[qm];have em:(e_ n).map (fun _=>D.non)=((e_ n).map fun _=>(none:Option Nat)).map oD:=by rw[A_];rfl
 rw[em];refine(au hr).trans ?_;refine aS (bj (aW (ai rfl al) ?_));rw[e_tupL,eg,A_];show some (D.tup _)=some (D.tup _);rw[A_];rfl
theorem FL{oz:List (Option Nat)}{o:Option Nat}{h:Nat}:own (oz++[o]) h=if h<oz.length then own oz h else if h=oz.length then o else none:=by
 unfold own;by_cases q:h<oz.length
 .rw[if_pos q,O_ q]
 .rw[if_neg q,VP (by omega)];by_cases z:h=oz.length
  .subst z;simp
  .rw[if_neg z,VB (by simp;omega)];rfl
theorem Own.app_none{oz:List (Option Nat)}{m:Nat}(w:Own oz m):Own (oz++[none]) m where
 lt:=fun x hx=>w.lt x (by simpa using hx)
 inj:=fun h k x h1 h2=>by
  rw[FL]at h1 h2;have f:∀h,(if h<oz.length then own oz h else if h=oz.length then none else none)=some x->own oz h=some x:=by
   intro h e;split at e
   .exact e
   .split at e <;> cases e
  exact w.inj h k x (f h h1) (f k h2)
theorem Own.app_some{oz:List (Option Nat)}{m t:Nat}(w:Own oz m)(ht:t<m)(hn:some t∉oz):Own (oz++[some t]) m where
 lt:=fun x hx=>by
  rcases Wf.mp hx with z|z
  .exact w.lt x z
  .simp at z;omega
 inj:=fun h k x h1 h2=>by
  rw[FL]at h1 h2;split at h1 <;> split at h2
  .exact w.inj h k x h1 h2
  .split at h2
   .cases h2;exact absurd (FM h1).1 hn
   .cases h2
  .split at h1
   .cases h1;exact absurd (FM h2).1 hn
   .cases h1
  .split at h1
   .split at h2
    .omega
    .cases h2
   .cases h1
theorem Dr(l:List (Option Nat))(k:Nat):(l.map oD).any (fun y=>eV y (nD k))=decide (some k∈l):=by
 rw[WY,R_,V0,decide_eq_true_iff];constructor
 .rintro⟨x,h1,h2⟩
  cases x with
 |none=>cases h2
 |some x=>have:(((x:Nat):Int)==(k:Int))=true:=h2;have:=Wt.mp (Wj this);subst this;exact h1
 .intro h;exact⟨some k,h,by show(((k:Nat):Int)==(k:Int))=true;simp⟩
theorem yE(l:List (Option Nat)):(l.map oD).all cz=true:=by rw[Wl];intro x hx;obtain⟨k,_,rfl⟩:=C_.mp hx;cases k <;> rfl
theorem Kk(l:List (Option Nat))(k:Nat):eU (nD k) (.lst (l.map oD))=some (.bl (decide (some k∈l))):=by show(if cz (nD k)=true/\(l.map oD).all cz=true then some ((l.map oD).any fun y=>eV y (nD k))else none).map D.bl=_;rw[if_pos ⟨rfl,yE l⟩,Dr];rfl
theorem FK(n m:Nat)(hm:m<=60):∀(l:List Nat)(c:Nat)(oz:List (Option Nat))(x y:Option D),Own oz m->oz.length+l.length<=60 ->∃(c':Nat)(U:List (Option Nat))(x' y':Option D),Own U m/\U.length=oz.length+l.length/\aI (aG 4) BC (l.map nD) [some (nD c),some (nD n),some (nD m),some (.lst (oz.map oD)),x,y]=.nx [some (nD c'),some (nD n),some (nD m),some (.lst (U.map oD)),x',y']
|[],c,oz,x,y,w,_=>⟨c,oz,x,y,w,rfl,gB⟩
|h::l,c,oz,x,y,w,hl=>by
  have Z:c%(m+1)<m+1:=Wm _ (by omega);have step:∃o,Own (oz++[o]) m/\BC [some (nD c),some (nD n),some (nD m),some (.lst (oz.map oD)),some (nD h),y]=.nx [some (nD (c/(m+1))),some (nD n),some (nD m),some (.lst ((oz++[o]).map oD)),some (nD h),some (nD (c%(m+1)))]:=by
   have t1:=bR (am (f:=gv 5) (f':=gv 2) (r:=[some (nD (c/(m+1))),some (nD n),some (nD m),some (.lst (oz.map oD)),some (nD h),some (nD (c%(m+1)))]) (a:=nD (c%(m+1))) (b:=nD m) rfl rfl (jz (c%(m+1)) m));have t2:=bR (am (f:=gv 5) (f':=gv 3) (r:=[some (nD (c/(m+1))),some (nD n),some (nD m),some (.lst (oz.map oD)),some (nD h),some (nD (c%(m+1)))]) (a:=nD (c%(m+1))) (b:=.lst (oz.map oD)) rfl rfl (Kk oz (c%(m+1))));have pre:∀s2:FS,af (ap fG 5 (f2 (gv 0) (f2 (gv 2) (ci 1) addA) az)) (af (ap fG 0 (f2 (gv 0) (f2 (gv 2) (ci 1) addA) ck)) s2) [some (nD c),some (nD n),some (nD m),some (.lst (oz.map oD)),some (nD h),y]=s2 [some (nD (c/(m+1))),some (nD n),some (nD m),some (.lst (oz.map oD)),some (nD h),some (nD (c%(m+1)))]:=by intro s2;refine(au (aZ (am rfl (am rfl rfl (iK m 1)) (e8 (by omega))))).trans ?_;exact au (aZ (am rfl (am rfl rfl (iK m 1)) (An (by omega) (by omega))))
   have Y:(oz.map oD).length<=1000:=by rw[g_];omega
   by_cases q:c%(m+1)=m\/some (c%(m+1))∈oz
   .refine⟨none,w.app_none,(pre _).trans ((au ((bW ?_).trans (au (jj (d:=.lst (oz.map oD)) (ds:=[.non]) rfl rfl (ai rfl al) (oO Y))))).trans ?_)⟩
    .by_cases z:c%(m+1)=m
     .rw[decide_eq_true z]at t1;exact df t1
     .rw[decide_eq_false z]at t1;rw[decide_eq_true (q.resolve_left z)]at t2;exact(bF t1).trans t2
    .show Out.nx [_,_,_,some (D.lst (oz.map oD++[.non])),_,_]=_;rw[H_];rfl
   .have z1:¬ c%(m+1)=m:=fun z=>q (.inl z);have z2:some (c%(m+1))∉oz:=fun z=>q (.inr z);rw[decide_eq_false z1]at t1;rw[decide_eq_false z2]at t2;refine⟨some (c%(m+1)),w.app_some (by omega) z2,(pre _).trans ((au ((bc ((bF t1).trans t2)).trans (au (jj (d:=.lst (oz.map oD)) (ds:=[nD (c%(m+1))]) rfl rfl (ai rfl al) (oO Y))))).trans ?_)⟩;show Out.nx [_,_,_,some (D.lst (oz.map oD++[nD (c%(m+1))])),_,_]=_;rw[H_];rfl
  obtain⟨o,w',hs⟩:=step;obtain⟨c',U,x',y',h1,h2,h3⟩:=FK n m hm l (c/(m+1)) (oz++[o]) (some (nD h)) (some (nD (c%(m+1)))) w' (by simp at hl ⊢;omega);refine⟨c',U,x',y',h1,by rw[h2];simp;omega,?_⟩;rw[<-h3];exact fq (r1:=[some (nD c),some (nD n),some (nD m),some (.lst (oz.map oD)),some (nD h),y]) rfl hs
theorem OM(c n m:Nat)(hn:n<=60)(hm:m<=60):∃oz:List (Option Nat),Own oz m/\oz.length=n/\vF [nD c,nD n,nD m]=.ok (OD oz):=by obtain⟨c',z,x',y',h1,h2,h3⟩:=FK n m hm (e_ n) c [] none none ⟨fun x hx=>(nomatch hx),fun h k x e=>by unfold own at e;simp at e⟩ (by simp;omega);refine⟨z,h1,by rw[h2];simp,bz (B:=Bi) (n:=6) ?_⟩;unfold Bi;refine(au (aZ (fU al (by simp)))).trans ?_;refine(au ((fj (ds:=(e_ n).map nD) (kG (ai rfl al) (kF (by omega)))).trans h3)).trans ?_;exact aS (bj (aW (ai rfl al) rfl))
theorem sB(l:List (Option Nat)):(l.map oD).any (fun y=>eV y .non)=decide (none∈l):=by
 rw[WY,R_,V0,decide_eq_true_iff];constructor
 .rintro⟨x,h1,h2⟩
  cases x with
 |none=>exact h1
 |some x=>cases h2
 .intro h;exact⟨none,h,rfl⟩
theorem C2(l:List (Option Nat)):cZ .non (OL l)=some (.bl (! decide (none∈l))):=by show(if cz .non=true/\(l.map oD).all cz=true then some ((l.map oD).any fun y=>eV y .non)else none).map (fun b=>D.bl (! b))=_;rw[if_pos ⟨rfl,yE l⟩,sB];rfl
theorem S0(l:List (Option Nat)):eU .non (OL l)=some (.bl (decide (none∈l))):=by show(if cz .non=true/\(l.map oD).all cz=true then some ((l.map oD).any fun y=>eV y .non)else none).map D.bl=_;rw[if_pos ⟨rfl,yE l⟩,sB];rfl
theorem Ga:∀{l:List (Option Nat)},none∉l->l=(somes l).map some
|[],_=>rfl
|none::l,h=>absurd p_ h
|some k::l,h=>by show some k::l=some k::_;rw[<-Ga (l:=l) fun z=>h (t_ _ z)]
theorem Af{w:List Nat}{h:Nat}:own (w.map some) h=w[h]?:=by unfold own;rw[n_];cases w[h]? <;> rfl
theorem Ld{w:List Nat}{m:Nat}(nd:w.Nodup)(lt:∀x∈w,x<m):Own (w.map some) m where
 lt:=fun x hx=>by obtain⟨y,h1,h2⟩:=C_.mp hx;cases h2;exact lt _ h1
 inj:=fun h k x h1 h2=>by rw[Af]at h1 h2;have a:=(j_.mp h1).1;exact(Qas a nd).mp (h1.trans h2.symm)
theorem O4{oz:List (Option Nat)}{n:Nat}(w:Own oz n)(hl:oz.length=n)(h:none∉oz):∃ks:List Nat,oz=ks.map some/\ks.Perm (e_ n):=by have e:=Ga h;generalize somes oz=ks at e;subst e;refine⟨ks,rfl,Rg.Ah ?_ (fun x hx=>r_.mpr (w.lt x (C_.mpr ⟨x,hx,rfl⟩))) (by simpa using XD hl.symm)⟩;rw[Vy,YT];intro i j hi hj z e;have:=w.inj i j ks[i] (by rw[Af,d_ hi]) (by rw[Af,d_ hj,e]);omega
theorem Nb{rz:List (List Nat)}{n m:Nat}(R:Rws rz n m){row:List Nat}(hp:row.Perm (e_ m)):Dl rz (row.take n) n m where
 R:=R
 dn:=by rw[Vz,hp.length_eq];have:=R.nm;simp;omega
 nd:=((hp.nodup_iff.mpr VJ).sublist (YV _ _))
 lt:=fun x hx=>r_.mp (hp.mem_iff.mp (Yu hx))
theorem Of{rz:List (List Nat)}{n m:Nat}(R:Rws rz n m){o:List Nat}(hp:o.Perm (e_ n)):Dl rz (pO rz n m o) n m:=by
 have hnd:=hp.nodup_iff.mpr VJ;obtain⟨h1,h2⟩:=Rg.ET (Rg.xS (W:=Wr rz) o (e_ m) hnd) VJ (by rw[hp.length_eq];have:=R.nm;simp;omega) fun h hh x hx=>R.has (r_.mp (hp.mem_iff.mp hh)) (r_.mp hx);refine⟨R,by simp,?_,fun x hx=>?_⟩
 .rw[Vy,W0];refine W9 (fun ha hb h z=>h ?_) (Vy.mp (VJ (n:=n)));exact h2 _ (hp.mem_iff.mpr ha) _ (hp.mem_iff.mpr hb) hnd z
 .obtain⟨h,hh,rfl⟩:=C_.mp hx;exact r_.mp (h1 h (hp.mem_iff.mpr hh))
theorem Gk(l:List Nat)(z:Nat):ax (LN (l++[z])) (.int (-1))=some (nD z):=by
 show gF ((l++[z]).map nD) (-1)=_;unfold gF gZ;rw[if_neg (by decide),if_pos (by rw[g_,U_];simp;omega)];show((l++[z]).map nD)[((-1:Int)+(((l++[z]).map nD).length:Int)).toNat]? = _;have e:((-1:Int)+(((l++[z]).map nD).length:Int)).toNat=l.length:=by rw[g_,U_];simp;omega
 rw[e,n_,VP (w_ _)];simp
theorem Fk{mm:List Md}(hw:w.Perm (e_ n))(h7:n<=7){a:Nat->Nat}(ha:∀h,h<n->a h<n)(d0 d1 d2 d3 d4 d6:Option D):∀(j:Nat)(l:List Nat)(z:Nat),(l++[z]).Nodup->(∀h∈l++[z],h<n)->n<j+(l++[z]).length ->∃l':List Nat,l'≠[]/\l'.length<=n/\(∀h∈l',h<n)/\fg mm wB BB j [d0,d1,d2,d3,d4,some (LN w),d6,some (LN (l++[z])),some (TN ((e_ n).map a))]=.nx [d0,d1,d2,d3,d4,some (LN w),d6,some (LN l'),some (TN ((e_ n).map a))]
|0,l,z,hn,hlt,hj=>by have:=Rg.kB (m:=e_ n) hn fun x hx=>r_.mpr (hlt x hx);rw[WC]at this;omega
|j+1,l,z,hn,hlt,hj=>by
  have U:=Rg.kB (m:=e_ n) hn fun x hx=>r_.mpr (hlt x hx);rw[WC]at U;have hz:z<n:=hlt z (by simp);have Y:a z∈w:=hw.mem_iff.mpr (r_.mpr (ha z hz));have Z:w.idxOf (a z)<n:=by have:=VN Y;rw[jn hw]at this;exact this
  have nx:fM "list" (gv 5) (ag (f2 (gv 8) (f2 (gv 7) (f1 (ci 1) gj) ax) ax) ae) kn [d0,d1,d2,d3,d4,some (LN w),d6,some (LN (l++[z])),some (TN ((e_ n).map a))]=.ok (nD (w.idxOf (a z))):=ly rfl rfl (ai (d:=nD (a z)) (am rfl (am rfl (fQ rfl rfl) (Gk l z)) (fL (by rw[n_,n_,WG hz];rfl))) al) (uH Y);have t:wB [d0,d1,d2,d3,d4,some (LN w),d6,some (LN (l++[z])),some (TN ((e_ n).map a))]=.ok (! decide (w.idxOf (a z)∈l++[z])):=bR (am nx rfl (tR _ _));by_cases e:w.idxOf (a z)∈l++[z]
  .rw[decide_eq_true e]at t;exact⟨l++[z],by simp,U,hlt,qg t⟩
  .rw[decide_eq_false e]at t;obtain⟨l',i1,i2,i3,i4⟩:=Fk (mm:=mm) hw h7 ha d0 d1 d2 d3 d4 d6 j (l++[z]) (w.idxOf (a z)) (WZ.mpr ⟨hn,by simp,fun p hp q hq=>by rw[Vp.mp hq];rintro rfl;exact e hp⟩) (fun h hh=>by
    rcases Wf.mp hh with y|y
    .exact hlt h y
    .rw[Vp.mp y];exact Z) (by simp at hj ⊢;omega)
   refine⟨l',i1,i2,i3,(oM t ?_).trans i4⟩;refine au (jj (d:=LN (l++[z])) (ds:=[nD (w.idxOf (a z))]) (d':=LN ((l++[z])++[w.idxOf (a z)])) rfl rfl (ai nx al) ?_);rw[oO (by rw[g_];omega)];show some (D.lst _)=some (D.lst _);rw[H_ (l₁:=l++[z])];rfl
abbrev s9(ns:List Int)(rz:List (List Nat))(n m c:Nat)(l_:ao):ao:=some (IN ns)::some (WD rz)::some (nD n)::some (nD m)::some (nD c)::l_
theorem fu{f:FE}{r:ao}{c a k:Nat}(h:f r=.ok (nD c))(ha:0<a):aK (f2 (f2 f (fun _=>Res.ok (D.int (a:Int))) az) (fun _=>Res.ok (D.int (k:Int))) eqD) r=.ok (decide (c%a=k)):=bR (am (am h rfl (e8 ha)) rfl (jz _ _))
theorem fK{f:FE}{r:ao}{c a:Nat}(h:f r=.ok (nD c))(ha:0<a)(h2:a<1000):f2 f (fun _=>Res.ok (D.int (a:Int))) ck r=.ok (nD (c/a)):=am h rfl (An ha h2)
def xQ(rz:List (List Nat))(n m:Nat)(x:Out):Prop:=∃(oz:List (Option Nat))(dl l:List Nat),oz.length=n/\Dl rz dl n m/\l≠[]/\l.length<=7/\(∀h∈l,h<n)/\x=.rt (.tup [OL oz,TN dl,LN l])
theorem pE{rz:List (List Nat)}{n m:Nat}{a b:Out}(h:a=b)(k:xQ rz n m b):xQ rz n m a:=h▸k
theorem OJ(R:Rws rz n m)(ns:List Int):∃(oz:List (Option Nat))(dl l:List Nat),oz.length=n/\Dl rz dl n m/\l≠[]/\l.length<=7/\(∀h∈l,h<n)/\vE [IN ns,WD rz,nD n,nD m]=.ok (.tup [OL oz,TN dl,LN l]):=by
 have n1:=R.n1;have n7:=R.n7;have m8:=R.m8;have nm:=R.nm;obtain⟨c,hc⟩:=jH ns 2 (by decide);obtain⟨LT,Id⟩:=jH ns 12 (by decide);obtain⟨S4,ld⟩:=jH ns 13 (by decide);obtain⟨Ti,Td⟩:=jH ns 14 (by decide);obtain⟨o0,w0,l0,Tj⟩:=OM LT n m (by omega) (by omega);obtain⟨ac,BT,Te⟩:=lJ LT m (by omega);obtain⟨KK,Th,Tf⟩:=lJ S4 m (by omega);obtain⟨Cl,S9,Tb⟩:=lJ S4 n (by omega);obtain⟨Z,IO,Tc⟩:=lJ Ti n (by omega);have U:∀(k:Nat)(v:D)(r:ao),r[0]? = some (some (IN ns))->du [IN ns,nD k]=.ok v->aF (ag (gv 0) (ag (fun _=>Res.ok (DL.D.int (k:Int))) ae)) [] du r=.ok v:=fun k v r h e=>aT (ai (d:=IN ns) (mi h) (ai rfl al)) e
 suffices key:xQ rz n m (pd (a9 9 [IN ns,WD rz,nD n,nD m]))by obtain⟨oz,dl,l,k1,k2,k3,k4,k5,k6⟩:=key;exact⟨oz,dl,l,k1,k2,k3,k4,k5,bz (B:=pd) (n:=9) k6⟩
 obtain⟨oz,w,ol,ho⟩:∃oz:List (Option Nat),Own oz m/\oz.length=n/\oz=(if 0<c%4 then(ac.take n).map some else o0):=by
  by_cases q:0<c%4
  .exact⟨(ac.take n).map some,Ld ((BT.nodup_iff.mpr VJ).sublist (YV _ _)) fun x hx=>r_.mp (BT.mem_iff.mp (Yu hx)),by rw[g_,Vz,BT.length_eq];simp;omega,by rw[if_pos q]⟩
  .exact⟨o0,w0,l0,by rw[if_neg q]⟩
 obtain⟨dl,D,hd⟩:∃dl:List Nat,Dl rz dl n m/\dl=(if c/4%3=1 then pO rz n m Cl else KK.take n):=by
  by_cases q:c/4%3=1
  .exact⟨_,Of R S9,by rw[if_pos q]⟩
  .exact⟨_,Nb R Th,by rw[if_neg q]⟩
 have Ta:Z.take (1+c/12%n)≠[]:=by intro z;have:=congrArg WM z;rw[Vz,IO.length_eq]at this;simp at this;omega
 have ST:(Z.take (1+c/12%n)).length<=7:=by rw[Vz,IO.length_eq];simp;omega
 have LE:∀h∈Z.take (1+c/12%n),h<n:=fun h hh=>r_.mp (IO.mem_iff.mp (Yu hh));unfold pd;refine pE (au (aZ (U 2 _ _ rfl hc))) ?_;refine pE (au (aZ (aW (ai (aT (ai (U 12 _ _ rfl Id) (ai rfl (ai rfl al))) Tj) al) rfl))) ?_;have tg:∀(r:ao),r[4]? = some (some (nD c))->aK (f2 (f2 (gv 4) (fun _=>Res.ok (DL.D.int 4)) az) (fun _=>Res.ok (DL.D.int 0)) jX) r=.ok (decide (0<c%4)):=fun r h=>bR (am (a:=nD (c%4)) (b:=nD 0) (am (a:=nD c) (b:=nD 4) (by show cg r 4=_;unfold cg;rw[h]) rfl (e8 (by omega))) rfl (nW _ _));refine pE (fT (r':=s9 ns rz n m c [some (OL oz),none,none,none]) (tg _ rfl) (fun q=>?_) (fun q=>?_)) ?_
 .rw[ho,if_pos (of_decide_eq_true q)];have e:OL ((ac.take n).map some)=LN (ac.take n):=FD _;rw[e];exact au (aZ (iM (aW (ai (d:=TN ac) (aT (ai (U 12 _ _ rfl Id) (ai rfl al)) Te) al) rfl) rfl (fN (i:=(n:Int)) rfl) (EZ ac n)))
 .rw[ho,if_neg (of_decide_eq_false q)];rfl
 refine pE (au (aZ (iM (aT (ai (U 13 _ _ rfl ld) (ai rfl al)) Tf) rfl (fN (i:=(n:Int)) rfl) (GF KK n)))) ?_;refine pE (fT (r':=s9 ns rz n m c [some (OL oz),some (TN dl),none,none]) (fu (a:=3) (k:=1) (fK (a:=4) (c:=c) rfl (by omega) (by omega)) (by omega)) (fun q=>?_) (fun q=>?_)) ?_
 .rw[hd,if_pos (of_decide_eq_true q)];exact au (aZ (aT (ai rfl (ai (d:=TN Cl) (aT (ai (U 13 _ _ rfl ld) (ai rfl al)) Tb) al)) (IZ R true S9)))
 .rw[hd,if_neg (of_decide_eq_false q)];rfl
 have Tg:=mh (fa:=fC (ag (aF (ag (aF (ag (gv 0) (ag (fun _=>Res.ok (DL.D.int 14)) ae)) [] du) (ag (gv 2) ae)) [] gL) ae) gI) (fl:=fun _=>Res.ok none) (fh:=dw (f2 (fun _=>Res.ok (DL.D.int 1)) (f2 (f2 (gv 4) (fun _=>Res.ok (DL.D.int 12)) ck) (gv 2) az) addA)) (r:=s9 ns rz n m c [some (OL oz),some (TN dl),none,none]) (d:=LN Z) (aW (ai (d:=TN Z) (aT (ai (U 14 _ _ rfl Td) (ai rfl al)) Tc) al) rfl) rfl (fN (i:=((1+c/12%n:Nat):Int)) (am rfl (am (fK (a:=12) (c:=c) rfl (by omega) (by omega)) rfl (e8 (by omega))) (iK 1 _))) (sZ Z _);refine pE (au (aZ (show Res.bind _ _=_ by rw[Tg];rfl))) ?_;generalize Z.take (1+c/12%n)=l at Ta ST LE;have t0:=bR (am (f:=gv 3) (f':=gv 2) (r:=s9 ns rz n m c [some (OL oz),some (TN dl),some (LN l),none]) (a:=nD m) (b:=nD n) rfl rfl (jz m n));have t1:=bR (am (f:=fun _=>Res.ok DL.D.non) (f':=gv 5) (r:=s9 ns rz n m c [some (OL oz),some (TN dl),some (LN l),none]) (a:=.non) (b:=OL oz) rfl rfl (C2 oz));have t2:=bR (am (f:=f2 (f2 (gv 4) (fun _=>Res.ok (DL.D.int 84)) ck) (fun _=>Res.ok (DL.D.int 3)) az) (f':=fun _=>Res.ok (DL.D.int 0)) (r:=s9 ns rz n m c [some (OL oz),some (TN dl),some (LN l),none]) (a:=nD (c/84%3)) (b:=nD 0) (am (a:=nD (c/84)) (b:=nD 3) (fK (a:=84) (c:=c) rfl (by omega) (by omega)) rfl (e8 (by omega))) rfl (nW _ _));have fin:∀(dl l:List Nat)(y:Option DL.D),(af (aw eR (d5 (ag (gv 5) (ag (gv 6) (ag (gv 7) ae))))) aq) (s9 ns rz n m c [some (OL oz),some (TN dl),some (LN l),y])=.rt (.tup [OL oz,TN dl,LN l]):=fun dl l y=>aS (bj (gA (ds:=[OL oz,TN dl,LN l]) rfl (by simp)));by_cases q:m=n/\none∉oz/\0<c/84%3
 rotate_left
 .refine⟨oz,dl,l,ol,D,Ta,ST,LE,?_⟩;refine(au ((bc ?_).trans (e_skip _))).trans (fin _ _ _);by_cases q0:m=n
  rotate_left
  .rw[decide_eq_false q0]at t0;exact l8 t0
  rw[decide_eq_true q0]at t0;refine(jc t0).trans ?_;by_cases q1:none∈oz
  .rw[decide_eq_true q1]at t1;exact l8 t1
  rw[decide_eq_false q1]at t1;refine(jc t1).trans ?_;rw[decide_eq_false (fun z=>q ⟨q0,q1,z⟩)]at t2;exact t2
 obtain⟨q0,q1,q2⟩:=q;subst q0;rw[decide_eq_true rfl]at t0;rw[decide_eq_false q1]at t1;rw[decide_eq_true q2]at t2;obtain⟨ks,e,kp⟩:=O4 w ol q1;obtain⟨a,ha,Da,hg⟩:=Kt R kp;have eO:OL oz=LN ks:=by rw[e,FD]
 have hf:c/252%m<m:=Wm _ (by omega);obtain⟨l',i1,i2,i3,i4⟩:=Fk (mm:=dH) kp n7 ha (some (IN ns)) (some (WD rz)) (some (nD m)) (some (nD m)) (some (nD c)) (some (TN dl)) 64 [] (c/252%m) (by simp) (fun h hh=>by
  have:h=c/252%m:=by simpa using hh
  rw[this];exact hf) (by simp;omega)
 have run:∀Y:List Nat,Y=(if c/84%3=2/\c/4%3=0 then(e_ m).map a else dl)->pd=pd->∃y,(af (ap dH 8 (aF (ag (gv 1) (ag (gv 5) (ag (fC (ag (gv 2) ae) iw) ae))) [] rn)) (af (ap dH 7 (dP (ag (f2 (f2 (gv 4) (fun _=>Res.ok (DL.D.int 252)) ck) (gv 2) az) ae))) (af (fg dH wB BB 64) (af (bI dH (c7 (aK (f2 (f2 (f2 (gv 4) (fun _=>Res.ok (DL.D.int 84)) ck) (fun _=>Res.ok (DL.D.int 3)) az) (fun _=>Res.ok (DL.D.int 2)) eqD)) (aK (f2 (f2 (f2 (gv 4) (fun _=>Res.ok (DL.D.int 4)) ck) (fun _=>Res.ok (DL.D.int 3)) az) (fun _=>Res.ok (DL.D.int 0)) eqD))) (af (ap dH 6 (gv 8)) aq) aq) aq)))) (s9 ns rz m m c [some (OL oz),some (TN dl),some (LN l),none])=.nx (s9 ns rz m m c [some (OL oz),some (TN Y),some (LN l'),y]):=by
  intro Y ad _;rw[eO];refine⟨some (TN ((e_ m).map a)),?_⟩;refine(au (aZ (aT (ai rfl (ai rfl (ai (d:=LN (e_ m)) (aW (ai rfl al) (oS (by omega))) al))) hg))).trans ?_;refine(au (aZ (fU (ai (d:=nD (c/252%m)) (am (fK (a:=252) (c:=c) rfl (by omega) (by omega)) rfl (e8 (by omega))) al) (by simp)))).trans ?_;refine(au i4).trans ?_;have u1:=fu (f:=f2 (gv 4) (fun _=>Res.ok (DL.D.int 84)) ck) (r:=s9 ns rz m m c [some (LN ks),some (TN dl),some (LN l'),some (TN ((e_ m).map a))]) (a:=3) (k:=2) (fK (a:=84) (c:=c) rfl (by omega) (by omega)) (by omega);have u2:=fu (f:=f2 (gv 4) (fun _=>Res.ok (DL.D.int 4)) ck) (r:=s9 ns rz m m c [some (LN ks),some (TN dl),some (LN l'),some (TN ((e_ m).map a))]) (a:=3) (k:=0) (fK (a:=4) (c:=c) rfl (by omega) (by omega)) (by omega);have u:(c7 (aK (f2 (f2 (f2 (gv 4) (fun _=>Res.ok (DL.D.int 84)) ck) (fun _=>Res.ok (DL.D.int 3)) az) (fun _=>Res.ok (DL.D.int 2)) eqD)) (aK (f2 (f2 (f2 (gv 4) (fun _=>Res.ok (DL.D.int 4)) ck) (fun _=>Res.ok (DL.D.int 3)) az) (fun _=>Res.ok (DL.D.int 0)) eqD))) (s9 ns rz m m c [some (LN ks),some (TN dl),some (LN l'),some (TN ((e_ m).map a))])=.ok (decide (c/84%3=2/\c/4%3=0)):=by
   by_cases v1:c/84%3=2
   .rw[decide_eq_true v1]at u1;refine(jc u1).trans (u2.trans (congrArg Res.ok ?_));exact decide_eq_decide.mpr ⟨fun z=>⟨v1,z⟩,fun z=>z.2⟩
   .rw[decide_eq_false v1]at u1;rw[decide_eq_false (fun z=>v1 z.1)];exact l8 u1
  refine(fT (r':=s9 ns rz m m c [some (LN ks),some (TN Y),some (LN l'),some (TN ((e_ m).map a))]) u (fun v=>?_) (fun v=>?_)).trans rfl
  .rw[ad,if_pos (of_decide_eq_true v)];exact au (aZ (d:=TN ((e_ m).map a)) rfl)
  .rw[ad,if_neg (of_decide_eq_false v)]
 obtain⟨Y,D',ad⟩:∃Y:List Nat,Dl rz Y m m/\Y=(if c/84%3=2/\c/4%3=0 then(e_ m).map a else dl):=by
  by_cases v:c/84%3=2/\c/4%3=0
  .exact⟨_,Da,by rw[if_pos v]⟩
  .exact⟨_,D,by rw[if_neg v]⟩
 obtain⟨y,hy⟩:=run Y ad rfl;refine⟨oz,Y,l',ol,D',i1,by omega,i3,?_⟩;exact(au ((bW ((jc t0).trans ((jc t1).trans t2))).trans hy)).trans (fin _ _ _)
abbrev pQ(q:Nat×Option Nat):D:=.tup [nD q.1,oD q.2]
abbrev LQ(qs:List (Nat×Option Nat)):D:=.lst (qs.map pQ)
abbrev LP(ps:List (Int×Int)):D:=.lst (ps.map pI)
def nG(oz:List (Option Nat))(r:List Nat)(i:Nat):Nat×Option Nat:=(aN r i,own oz (aN r ((i+1)%r.length)))
theorem Gx(ol:oz.length=n){r:List Nat}(lt:∀h∈r,h<n)(hr:0<r.length)(z:r.length<=60)(x1 x2:Option D):∀(j i:Nat)(y:Option D),i+j=r.length ->∃y',aI (aG 5) IY ((Ww i j).map nD) [some (OL oz),x1,x2,some (LN r),some (LQ ((e_ i).map (nG oz r))),y]=.nx [some (OL oz),x1,x2,some (LN r),some (LQ ((e_ r.length).map (nG oz r))),y']
|0,i,y,h=>⟨y,by rw[show i=r.length by omega];exact gB⟩
|j+1,i,y,h=>by
  obtain⟨y',ih⟩:=Gx ol lt hr z x1 x2 j (i+1) (some (nD i)) (by omega);refine⟨y',?_⟩;rw[<-ih];have hi:i<r.length:=by omega
  have hm:(i+1)%r.length<r.length:=Wm _ hr;refine fq (r1:=[some (OL oz),x1,x2,some (LN r),some (LQ ((e_ i).map (nG oz r))),some (nD i)]) rfl ?_;refine au (jj (d:=LQ ((e_ i).map (nG oz r))) (ds:=[pQ (nG oz r i)]) (d':=LQ ((e_ (i+1)).map (nG oz r))) rfl rfl (ai (gA (ai (am rfl rfl (jW hi)) (ai (am rfl (am rfl (am (am rfl rfl (iK i 1)) (aW (ai rfl al) (iN _ _)) (e8 hr)) (jW hm)) (iu (Lc (by rw[ol];exact lt _ (tV hm))))) al)) (by simp)) al) ?_);rw[oO (by rw[g_,g_,WC];omega),Zy,H_];show some (D.lst _)=some (D.lst _);rw[H_];rfl
theorem Ry(ol:oz.length=n){l:List Nat}(ne:l≠[])(l7:l.length<=7)(lt:∀h∈l,h<n):∃qs:List (Nat×Option Nat),1<=qs.length/\qs.length<=7/\vP [OL oz,LN l]=.ok (.tup (qs.map pQ)):=by
 obtain⟨k,k1,k2,k3⟩:=NR ne;have U:=VN k1;have hp:(l.drop (l.idxOf k)++l.take (l.idxOf k)).Perm l:=by
  have:=(ZD (l₁:=l.drop (l.idxOf k)) (l₂:=l.take (l.idxOf k)))
  rw[Yj]at this;exact this
 generalize hr:l.drop (l.idxOf k)++l.take (l.idxOf k)=r at hp;have rl:=hp.length_eq;have z:0<r.length:=by rw[rl];exact WH.mpr ne
 obtain⟨y,h⟩:=Gx ol (r:=r) (fun h hh=>lt h (hp.mem_iff.mp hh)) z (by omega) (some (LN l)) (some (nD (l.idxOf k))) r.length 0 none (by omega);rw[<-V9]at h;refine⟨(e_ r.length).map (nG oz r),by rw[g_,WC];exact z,by simp;omega,bz (B:=B0) (n:=6) ?_⟩;unfold B0;refine(au (aZ (ly rfl rfl (ai (aW (ai rfl al) k3) al) (uH k1)))).trans ?_;refine(au (aZ (am (mh rfl (fN (i:=((l.idxOf k:Nat):Int)) rfl) rfl (Gv (by omega))) (mh rfl rfl (fN (i:=((l.idxOf k:Nat):Int)) rfl) (sZ l _)) (by rw[EE (by rw[VI,Vz];omega),hr])))).trans ?_;refine(au (aZ (fU al (by simp)))).trans ?_;refine(au ((fj (ds:=(e_ r.length).map nD) (kG (ai (d:=nD r.length) (aW (ai rfl al) (iN _ _)) al) (kF (by omega)))).trans h)).trans ?_;exact aS (bj (aW (ai rfl al) (e_tupL _)))
theorem SY{ds:List D}{i:Nat}(h:i<=ds.length):nv (.lst ds) (some (i:Int)) none=some (.lst (ds.drop i)):=by show some (D.lst (bf ds (some (i:Int)) none))=_;unfold bf;rw[HT.ce,HT.bO,Xo h,Wc (by simp)]
theorem SX{ds:List D}{i:Nat}(h:i<=ds.length):nv (.lst ds) none (some (i:Int))=some (.lst (ds.take i)):=by show some (D.lst (bf ds none (some (i:Int))))=_;unfold bf;rw[HT.ce,HT.bO,YR,Zu,Xo h]
theorem sy{a b:List D}(h:a.length+b.length<=1000):catL (.lst a) (.lst b)=some (.lst (a++b)):=by show(if a.length+b.length<=sizeLine then some (D.lst (a++b))else none)=_;rw[if_pos (by rw[Vw];omega)]
theorem yL{a b:List (Int×Int)}(h:a.length+b.length<=1000):catL (LP a) (LP b)=some (LP (a++b)):=by rw[sy (by simpa using h)];show some (D.lst _)=some (D.lst ((a++b).map pI));rw[H_]
theorem rR{ps:List (Int×Int)}{i:Nat}{q:Int×Int}(h:i<ps.length):eM (LP ps) (nD i) (pI q)=some (LP (ps.set i q)):=by rw[tu (by rw[g_];exact h),<-Zv]
theorem Jw{ps:List (Int×Int)}{i:Nat}(h:i<ps.length):ax (LP ps) (nD i)=some (pI ps[i]):=by refine iu ?_;rw[n_,d_ h];rfl
abbrev q6(oz:List (Option Nat))(l:List Nat)(c n:Nat)(l_:ao):ao:=some (OL oz)::some (LN l)::some (nD c)::some (nD n)::l_
def Dx(x:Out):Prop:=∃ps:List (Int×Int),ps.length<=16/\x=.rt (LP ps)
theorem fZ{a b:Out}(h:a=b)(k:Dx b):Dx a:=h▸k
theorem iJ{α:Type}{P:α->Prop}{c:Prop}[Decidable c]{a b:α}(h1:c->P a)(h2:¬ c->P b):∃x,P x/\x=(if c then a else b):=by
 by_cases h:c
 .exact⟨a,h1 h,by rw[if_pos h]⟩
 .exact⟨b,h2 h,by rw[if_neg h]⟩
theorem RJ(ol:oz.length=n){l:List Nat}(ne:l≠[])(l7:l.length<=7)(lt:∀h∈l,h<n)(c:Nat):∃ps:List (Int×Int),ps.length<=16/\wG [OL oz,LN l,nD c,nD n]=.ok (LP ps):=by
 obtain⟨qs,q1,q7,hq⟩:=Ry ol ne l7 lt
 suffices key:Dx (wF (a9 6 [OL oz,LN l,nD c,nD n]))by obtain⟨ps,k1,k2⟩:=key;exact⟨ps,k1,bz (B:=wF) (n:=6) k2⟩
 unfold wF;refine fZ (au (aZ (aW (ai (aT (ai rfl (ai rfl al)) hq) al) rfl))) ?_;obtain⟨ps,pl,KK⟩:=iJ (P:=fun ps:List (Int×Int)=>ps.length=qs.length) (c:=none∈qs.map (·.2)) (a:=qs.map fun q=>((q.1:Int),(0:Int))) (b:=qs.map fun q=>((q.1:Int),((q.2.getD 0:Nat):Int))) (fun _=>by simp) (fun _=>by simp);have ST:=bR (am (f:=fun _=>Res.ok D.non) (f':=cy 2 [] (aU bN (gv 4)) (c6 (bq (aG 0) (bq (aG 1) cW))) (fun _=>Res.ok true) (gv 1)) (r:=q6 oz l c n [some (LQ qs),none]) (a:=.non) (b:=OL (qs.map (·.2))) rfl ((iA (l:=qs) pQ (fun q=>oD q.2) rfl (by omega) fun q _=>⟨[some (nD q.1),some (oD q.2)],rfl,rfl⟩).trans (by show Res.ok (D.lst _)=Res.ok (D.lst ((qs.map (·.2)).map oD));rw[A_];rfl)) (S0 _));refine fZ (fT (r':=q6 oz l c n [some (LP ps),none]) ST (fun q=>?_) (fun q=>?_)) ?_
 .rw[KK,if_pos (of_decide_eq_true q)];refine au (aZ ((iA (l:=qs) pQ (fun q=>pI ((q.1:Int),(0:Int))) rfl (by omega) fun q _=>⟨[some (nD q.1),some (oD q.2)],rfl,gA (ds:=[nD q.1,.int 0]) rfl (by simp)⟩).trans ?_));show Res.ok (D.lst _)=Res.ok (D.lst (VE pI _));rw[A_];rfl
 .rw[KK,if_neg (of_decide_eq_false q)];have LE:=of_decide_eq_false q;have e:(qs.map fun q=>((q.1:Int),((q.2.getD 0:Nat):Int))).map pI=qs.map pQ:=by rw[A_];refine Vx fun x hx=>?_;obtain⟨h,o⟩:=x;cases o with
  |none=>exact absurd (C_.mpr ⟨(h,none),hx,rfl⟩) LE
  |some k=>rfl
  show[_,_,_,_,some (D.lst (VE pI _)),_]=_;rw[e];rfl
 have pos:0<ps.length:=by omega
 refine fZ (au (aZ (am (fK (a:=8) (c:=c) rfl (by omega) (by omega)) (aW (ai rfl al) (iN _ _)) (e8 pos)))) ?_;have LT:c/8%ps.length<ps.length:=Wm _ pos;have p7:ps.length<=7:=by omega
 generalize c/8%ps.length=k at LT;have T8:∀(j:Nat)(ps:List (Int×Int)),aK (f2 (f2 (gv 2) (fun _=>Res.ok (D.int ((8:Nat):Int))) az) (fun _=>Res.ok (D.int (j:Int))) eqD) (q6 oz l c n [some (LP ps),some (nD k)])=.ok (decide (c%8=j)):=fun j ps=>fu (a:=8) rfl (by omega);have Id:∀(j:Nat)(ps:List (Int×Int)),aK (f2 (f2 (gv 2) (fun _=>Res.ok (D.int ((16:Nat):Int))) az) (fun _=>Res.ok (D.int (j:Int))) eqD) (q6 oz l c n [some (LP ps),some (nD k)])=.ok (decide (c%16=j)):=fun j ps=>fu (a:=16) rfl (by omega);have IO:∀(ps:List (Int×Int)),f2 (f2 (f2 (gv 2) (ci 56) ck) (ci 9) az) (ci 1) dG (q6 oz l c n [some (LP ps),some (nD k)])=.ok (.int (((c/56%9:Nat):Int)-1)):=fun ps=>am (a:=nD (c/56%9)) (b:=.int 1) (am (a:=nD (c/56)) (b:=nD 9) (fK (a:=56) (c:=c) rfl (by omega) (by omega)) rfl (e8 (by omega))) rfl rfl;obtain⟨Y,l1,h1⟩:=iJ (P:=fun x:List (Int×Int)=>x.length=ps.length) (c:=c%8=1) (a:=ps.drop k++ps.take k) (b:=ps) (fun _=>by simp;omega) (fun _=>rfl);refine fZ (fT (r':=q6 oz l c n [some (LP Y),some (nD k)]) (T8 1 ps) (fun q=>?_) (fun q=>?_)) ?_
 .rw[h1,if_pos (of_decide_eq_true q)];refine au (aZ (am (mh rfl (fN (i:=((k:Nat):Int)) rfl) rfl ?_) (mh rfl rfl (fN (i:=((k:Nat):Int)) rfl) ?_) (yL (by simp;omega))))
  .rw[SY (by simp;omega)];show some (D.lst _)=some (D.lst ((ps.drop k).map pI));rw[XZ]
  .rw[SX (by simp;omega)];show some (D.lst _)=some (D.lst ((ps.take k).map pI));rw[Yp]
 .rw[h1,if_neg (of_decide_eq_false q)];rfl
 clear h1;have Cl:k<Y.length:=by omega
 obtain⟨Z,l2,h2⟩:=iJ (P:=fun x:List (Int×Int)=>x.length=ps.length) (c:=c%8=3) (a:=Y.set k (Y[k].1,((c/56%9:Nat):Int)-1)) (b:=Y) (fun _=>by simp;omega) (fun _=>l1);refine fZ (fT (r':=q6 oz l c n [some (LP Z),some (nD k)]) (T8 3 Y) (fun q=>?_) (fun q=>?_)) ?_
 .rw[h2,if_pos (of_decide_eq_true q)];exact au (iL (d:=LP Y) (k:=nD k) (v:=pI (Y[k].1,((c/56%9:Nat):Int)-1)) rfl (gA (ai (am (am rfl rfl (Jw Cl)) rfl (ixA_T0 _ _)) (ai (IO Y) al)) (by simp)) rfl (rR Cl))
 .rw[h2,if_neg (of_decide_eq_false q)]
 clear h2;obtain⟨BT,l3,h3⟩:=iJ (P:=fun x:List (Int×Int)=>x.length<=8/\0<x.length) (c:=c%8=5) (a:=Z++[(((c/56%9:Nat):Int)-1,(0:Int))]) (b:=Z) (fun _=>by simp;omega) (fun _=>by omega);refine fZ (fT (r':=q6 oz l c n [some (LP BT),some (nD k)]) (T8 5 Z) (fun q=>?_) (fun q=>?_)) ?_
 .rw[h3,if_pos (of_decide_eq_true q)];exact au (aZ (am (a:=LP Z) (b:=LP [(((c/56%9:Nat):Int)-1,(0:Int))]) rfl (fU (ai (gA (ai (IO Z) (ai rfl al)) (by simp)) al) (by simp)) (yL (by simp;omega))))
 .rw[h3,if_neg (of_decide_eq_false q)]
 clear h3;obtain⟨ac,l4,h4⟩:=iJ (P:=fun x:List (Int×Int)=>x.length<=8/\(c%8≠7->0<x.length)) (c:=c%8=7) (a:=[]) (b:=BT) (fun h=>⟨by simp,fun z=>absurd h z⟩) (fun _=>⟨l3.1,fun _=>l3.2⟩);refine fZ (fT (r':=q6 oz l c n [some (LP ac),some (nD k)]) (T8 7 BT) (fun q=>?_) (fun q=>?_)) ?_
 .rw[h4,if_pos (of_decide_eq_true q)];exact au (aZ (fU al (by simp)))
 .rw[h4,if_neg (of_decide_eq_false q)]
 clear h4;obtain⟨U,l5,h5⟩:=iJ (P:=fun x:List (Int×Int)=>x.length<=16/\(c%8≠7->0<x.length)) (c:=c%16=2) (a:=ac++ac) (b:=ac) (fun h=>⟨by simp;omega,fun z=>by have:=l4.2 z;rw[U_];omega⟩) (fun _=>⟨by omega,l4.2⟩);refine fZ (fT (r':=q6 oz l c n [some (LP U),some (nD k)]) (Id 2 ac) (fun q=>?_) (fun q=>?_)) ?_
 .rw[h5,if_pos (of_decide_eq_true q)];exact au (aZ (am rfl rfl (yL (by omega))))
 .rw[h5,if_neg (of_decide_eq_false q)]
 clear h5;obtain⟨ld,l6,h6⟩:=iJ (P:=fun x:List (Int×Int)=>x.length<=16) (c:=c%16=6) (a:=U.set 0 ((U.headD (0,0)).1-(n:Int),(U.headD (0,0)).2)) (b:=U) (fun h=>by simp;exact l5.1) (fun _=>l5.1);refine fZ (fT (r':=q6 oz l c n [some (LP ld),some (nD k)]) (Id 6 U) (fun q=>?_) (fun q=>?_)) ?_
 .rw[h6,if_pos (of_decide_eq_true q)];have ad:=l5.2 (by have:=of_decide_eq_true q;omega);have e0:U.headD (0,0)=U[0]:=by cases U with
  |nil=>simp at ad
  |cons a t=>rfl
  rw[e0];have a0:ax (LP U) (.int 0)=some (pI U[0]):=Jw ad;exact au (iL (d:=LP U) (k:=nD 0) (v:=pI (U[0].1-(n:Int),U[0].2)) rfl (gA (ai (am (am (am rfl rfl a0) rfl (ixA_T0 _ _)) rfl rfl) (ai (am (am rfl rfl a0) rfl (fL (i:=1) rfl)) al)) (by simp)) rfl (rR ad))
 .rw[h6,if_neg (of_decide_eq_false q)]
 exact⟨ld,l6,aS (bj (d:=LP ld) rfl)⟩
abbrev r6(ns:List Int)(wd dd:D)(n c:Nat)(l_:ao):ao:=some (IN ns)::some (wd)::some (dd)::some (nD n)::some (nD c)::l_
theorem Dq{hs:List Int}{i:Nat}(h:i<hs.length):ax (IN hs) (nD i)=some (.int hs[i]):=by refine iu ?_;rw[n_,d_ h];rfl
theorem yQ{hs:List Int}{i:Nat}{q:Int}(h:i<hs.length):eM (IN hs) (nD i) (.int q)=some (IN (hs.set i q)):=by rw[tu (by rw[g_];exact h),<-Zv]
theorem Do{a b:List Int}(h:a.length+b.length<=1000):catL (IN a) (IN b)=some (IN (a++b)):=by rw[sy (by simpa using h)];show some (D.lst _)=some (D.lst ((a++b).map D.int));rw[H_]
theorem KL(l:List Nat):LN l=IN (aL l):=(ki l).symm
def Dz(x:Out):Prop:=∃hs:List Int,hs.length<=8/\x=.rt (IN hs)
theorem hW{a b:Out}(h:a=b)(k:Dz b):Dz a:=h▸k
theorem R8(ns:List Int){n:Nat}(n1:1<=n)(n7:n<=7)(wd dd:D):∃hs:List Int,hs.length<=8/\wI [IN ns,wd,dd,nD n]=.ok (IN hs):=by
 obtain⟨c,hc⟩:=jH ns 3 (by decide);obtain⟨ac,Z⟩:=jH ns 13 (by decide);obtain⟨r0,p0,hr0⟩:=lJ ac n (by omega);obtain⟨r1,p1,hr1⟩:=lJ (c/3) n (by omega);have U:∀(k:Nat)(v:D)(r:ao),r[0]? = some (some (IN ns))->du [IN ns,nD k]=.ok v->aF (ag (gv 0) (ag (fun _=>Res.ok (D.int (k:Int))) ae)) [] du r=.ok v:=fun k v r h e=>aT (ai (d:=IN ns) (mi h) (ai rfl al)) e
 suffices key:Dz (wH (a9 6 [IN ns,wd,dd,nD n]))by obtain⟨ps,k1,k2⟩:=key;exact⟨ps,k1,bz (B:=wH) (n:=6) k2⟩
 unfold wH;refine hW (au (aZ (U 3 _ _ rfl hc))) ?_;refine hW (au (aZ (aW (ai (d:=TN r0) (aT (ai (U 13 _ _ rfl Z) (ai rfl al)) hr0) al) rfl))) ?_;have T:∀(a j:Nat)(o:D),0<a->aK (f2 (f2 (gv 4) (fun _=>Res.ok (D.int (a:Int))) az) (fun _=>Res.ok (D.int (j:Int))) eqD) (r6 ns wd dd n c [some o])=.ok (decide (c%a=j)):=fun a j o ha=>fu (a:=a) rfl ha;obtain⟨h0,l0,e0⟩:=iJ (P:=fun x:List Int=>x.length=n) (c:=c%3=1) (a:=aL r1) (b:=aL r0) (fun _=>by simp[aL,p1.length_eq]) (fun _=>by simp[aL,p0.length_eq]);refine hW (fT (r':=r6 ns wd dd n c [some (IN h0)]) (T 3 1 _ (by omega)) (fun q=>?_) (fun q=>?_)) ?_
 .rw[e0,if_pos (of_decide_eq_true q),ki];exact au (aZ (aW (ai (d:=TN r1) (aT (ai (d:=nD (c/3)) (fK (a:=3) (c:=c) rfl (by omega) (by omega)) (ai rfl al)) hr1) al) rfl))
 .rw[e0,if_neg (of_decide_eq_false q),ki];rfl
 clear e0;obtain⟨h1,l1,e1⟩:=iJ (P:=fun x:List Int=>n<=x.length/\x.length<=8) (c:=c%4=1) (a:=h0++[((c/12%3:Nat):Int)-1]) (b:=h0) (fun _=>by simp;omega) (fun _=>by omega);refine hW (fT (r':=r6 ns wd dd n c [some (IN h1)]) (T 4 1 _ (by omega)) (fun q=>?_) (fun q=>?_)) ?_
 .rw[e1,if_pos (of_decide_eq_true q)];exact au (aZ (am (a:=IN h0) (b:=IN [((c/12%3:Nat):Int)-1]) rfl (fU (ai (am (a:=nD (c/12%3)) (b:=.int 1) (am (a:=nD (c/12)) (b:=nD 3) (fK (a:=12) (c:=c) rfl (by omega) (by omega)) rfl (e8 (by omega))) rfl rfl) al) (by simp)) (Do (by simp;omega))))
 .rw[e1,if_neg (of_decide_eq_false q)]
 clear e1;have hk:c/24%n<n:=Wm _ (by omega);have at':∀o:D,f2 (f2 (gv 4) (ci 24) ck) (gv 3) az (r6 ns wd dd n c [some o])=.ok (nD (c/24%n)):=fun o=>am (fK (a:=24) (c:=c) rfl (by omega) (by omega)) rfl (e8 (by omega));obtain⟨h2,l2,e2⟩:=iJ (P:=fun x:List Int=>n<=x.length/\x.length<=8) (c:=c%8=3) (a:=h1.set (c/24%n) (((c/168%(n+2):Nat):Int)-1)) (b:=h1) (fun _=>by simp;omega) (fun _=>by omega);refine hW (fT (r':=r6 ns wd dd n c [some (IN h2)]) (T 8 3 _ (by omega)) (fun q=>?_) (fun q=>?_)) ?_
 .rw[e2,if_pos (of_decide_eq_true q)];exact au (iL (d:=IN h1) (v:=.int (((c/168%(n+2):Nat):Int)-1)) rfl (am (am (fK (a:=168) (c:=c) rfl (by omega) (by omega)) (am rfl rfl (iK n 2)) (e8 (by omega))) rfl rfl) (at' _) (yQ (by omega)))
 .rw[e2,if_neg (of_decide_eq_false q)]
 clear e2;obtain⟨h3,l3,e3⟩:=iJ (P:=fun x:List Int=>(c%8≠7->n<=x.length)/\x.length<=8) (c:=c%8=7) (a:=h2.dropLast) (b:=h2) (fun h=>⟨fun z=>absurd h z,by simp;omega⟩) (fun _=>⟨fun _=>l2.1,l2.2⟩);refine hW (fT (r':=r6 ns wd dd n c [some (IN h3)]) (T 8 7 _ (by omega)) (fun q=>?_) (fun q=>?_)) ?_
 .rw[e3,if_pos (of_decide_eq_true q)];refine au (jj (d:=IN h2) (ds:=[]) (d':=IN h2.dropLast) rfl rfl al ?_);show(if (h2.map D.int).isEmpty=true then none else some (D.lst (h2.map D.int).dropLast))=_;rw[if_neg (by intro z;have:h2.map D.int=[]:=List.isEmpty_iff.mp z;have:=congrArg WM this;simp at this;rw[this]at l2;simp at l2;omega),<-List.map_dropLast]
 .rw[e3,if_neg (of_decide_eq_false q)]
 clear e3;obtain⟨h4,l4,e4⟩:=iJ (P:=fun x:List Int=>x.length<=8) (c:=c%8=6) (a:=h3.set (c/24%n) (h3.getD (c/24%n) 0-(n:Int))) (b:=h3) (fun _=>by simp;exact l3.2) (fun _=>l3.2);refine hW (fT (r':=r6 ns wd dd n c [some (IN h4)]) (T 8 6 _ (by omega)) (fun q=>?_) (fun q=>?_)) ?_
 .rw[e4,if_pos (of_decide_eq_true q)];have Y:c/24%n<h3.length:=by have:=l3.1 (by have:=of_decide_eq_true q;omega);omega
  have eg:h3.getD (c/24%n) 0=h3[c/24%n]:=by rw[s_,d_ Y];rfl
  rw[eg];exact au (iL (d:=IN h3) (v:=.int (h3[c/24%n]-(n:Int))) rfl (am (am rfl (at' _) (Dq Y)) rfl rfl) (at' _) (yQ Y))
 .rw[e4,if_neg (of_decide_eq_false q)]
 exact⟨h4,l4,aS (bj (d:=IN h4) rfl)⟩
abbrev s8(ns:List Int)(rz:List (List Nat))(dl:List Nat)(n m c:Nat)(l_:ao):ao:=some (IN ns)::some (WD rz)::some (TN dl)::some (nD n)::some (nD m)::some (nD c)::l_
theorem ls{x:D}{a b:List D}(h:a.length+1+b.length<=1000):addA (.tup (x::a)) (.tup b)=some (.tup (x::a++b)):=by show(if (x::a).length+b.length<=sizeLine then some (D.tup (x::a++b))else none)=_;rw[if_pos (by rw[Vw];simp;omega)]
theorem DY{x:D}{a b:List D}(h:a.length+1+b.length<=1000):addE (.tup (x::a)) (.tup b)=some (.tup (x::a++b)):=ls h
theorem Ex{ds:List D}{i:Nat}(h:i<=ds.length):kU (.tup ds) (some (i:Int)) none=some (.tup (ds.drop i)):=by show some (D.tup (bf ds (some (i:Int)) none))=_;unfold bf;rw[HT.ce,HT.bO,Xo h,Wc (by simp)]
theorem MG{x:D}{ds:List D}:kU (.tup (x::ds)) none (some ((1:Nat):Int))=some (.tup [x]):=by show some (D.tup (bf (x::ds) none (some ((1:Nat):Int))))=_;unfold bf;rw[HT.ce,HT.bO,YR,Zu];simp
def Dt(x:Out):Prop:=∃(hs:List Int)(o:Option Int),hs.length<=14/\x=.rt (wz true hs o)
theorem iR{a b:Out}(h:a=b)(k:Dt b):Dt a:=h▸k
theorem Kg{f:FE}{r:ao}{c a:Nat}(h:f r=.ok (nD c))(ha:0<a)(h2:a<1000000):f2 f (fun _=>Res.ok (D.int (a:Int))) ck r=.ok (nD (c/a)):=by refine am h rfl ?_;rw[GP (show ip (c:Int) (a:Int)from⟨by omega,by omega⟩),<-QaB]
def bD:Option Wy->D
|some w=>eJ w
|none=>.non
theorem RS(D:Dl rz dl n m)(ns:List Int):∃(hs:List Int)(o:Option Int),hs.length<=14/\wM [IN ns,WD rz,TN dl,nD n,nD m]=.ok (wz true hs o):=by
 have n1:=D.R.n1;have n7:=D.R.n7;have m8:=D.R.m8;obtain⟨c,hc⟩:=jH ns 15 (by decide);obtain⟨bo,g1,ld⟩:=R6 D;have hb:qL [WD rz,TN dl]=.ok (bD bo):=by rw[ld];cases bo <;> rfl
 clear ld;obtain⟨r0,p0,hr0⟩:=lJ (c/3) n (by omega)
 suffices key:Dt (vY (a9 8 [IN ns,WD rz,TN dl,nD n,nD m]))by obtain⟨hs,o,k1,k2⟩:=key;exact⟨hs,o,k1,bz (B:=vY) (n:=8) k2⟩
 unfold vY;refine iR (au (aZ (aT (ai rfl (ai rfl al)) hc))) ?_;refine iR (au (aZ (aT (ai rfl (ai rfl al)) hb))) ?_;have t3:∀wv:DL.D,aK (f2 (f2 (gv 5) (fun _=>Res.ok (DL.D.int ((3:Nat):Int))) az) (fun _=>Res.ok (DL.D.int ((0:Nat):Int))) eqD) (s8 ns rz dl n m c [some wv,none])=.ok (decide (c%3=0)):=fun wv=>fu (a:=3) rfl (by omega);by_cases q:(∃w,bo=some w)/\c%3=0
 .obtain⟨⟨w,rfl⟩,q3⟩:=q;have gw:=g1 w rfl;obtain⟨ks,o,ne,kl,ew⟩:∃(ks:List Nat)(o:Option Nat),ks≠[]/\ks.length<=7/\eJ w=wz true (aL ks) (o.map fun x:Nat=>(x:Int)):=by cases w with
  |ring r=>exact⟨r,none,gw.1,gw.2,(kQ true r none).symm⟩
  |line r x=>obtain⟨h,rfl⟩:=gw;exact⟨[h],some x,by simp,by simp,(kQ true [h] (some x)).symm⟩
  have t0:=bR (am (f:=gv 6) (f':=fun _=>Res.ok DL.D.non) (r:=s8 ns rz dl n m c [some (wz true (aL ks) (o.map fun x:Nat=>(x:Int))),none]) (k:=gp) (a:=wz true (aL ks) (o.map fun x:Nat=>(x:Int))) (b:=.non) (d:=.bl true) rfl rfl rfl);have ad:=t3 (wz true (aL ks) (o.map fun x:Nat=>(x:Int)));rw[decide_eq_true q3]at ad;obtain⟨a,t,rfl⟩:∃a t,ks=a::t:=by cases ks with
  |nil=>exact absurd rfl ne
  |cons a t=>exact⟨a,t,rfl⟩
  simp only[Q_]at kl;have e:∀s:FS,(s ((s8 ns rz dl n m c [some (eJ w),none])))=s (s8 ns rz dl n m c [some (wz true (aL (a::t)) (o.map fun x:Nat=>(x:Int))),none]):=fun s=>by rw[ew]
  refine iR (e _) ?_;generalize hO:(o.map fun x:Nat=>(x:Int))=oo at *;have W1:f2 (gv 6) (fun _=>Res.ok (DL.D.int 1)) ax (s8 ns rz dl n m c [some (wz true (aL (a::t)) oo),none])=.ok (TN (a::t)):=by have:=am (f:=gv 6) (f':=fun _=>Res.ok (DL.D.int 1)) (r:=s8 ns rz dl n m c [some (wz true (aL (a::t)) oo),none]) (b:=.int 1) rfl rfl (rK true (aL (a::t)) oo);rw[this];exact congrArg Res.ok (p5 true (a::t))
  let hss:List (List Int):=[aL (a::t),aL (a::t),aL (a::t++a::t),((a:Int)-(n:Int))::aL t]
  have Y:∀hs∈hss,hs.length<=14:=by intro hs hh;simp only[hss,m_,G_,or_false]at hh;rcases hh with rfl|rfl|rfl|rfl <;> (simp[aL];omega)
  have ac:dP (ag (f2 (gv 6) (fun _=>Res.ok (DL.D.int 1)) ax) (ag (f2 (gv 6) (fun _=>Res.ok (DL.D.int 1)) ax) (ag (f2 (f2 (gv 6) (fun _=>Res.ok (DL.D.int 1)) ax) (f2 (gv 6) (fun _=>Res.ok (DL.D.int 1)) ax) addA) (ag (f2 (d5 (ag (f2 (f2 (f2 (gv 6) (fun _=>Res.ok (DL.D.int 1)) ax) (fun _=>Res.ok (DL.D.int 0)) ax) (gv 3) dG) ae)) (cO (f2 (gv 6) (fun _=>Res.ok (DL.D.int 1)) ax) (dw (fun _=>Res.ok (DL.D.int 1))) (fun _=>Res.ok none)) addA) ae)))) (s8 ns rz dl n m c [some (wz true (aL (a::t)) oo),none])=.ok (.lst (hss.map fun hs=>WI true hs)):=by
   have w1:TN (a::t)=WI true (aL (a::t)):=(p5 true (a::t)).symm;refine fU (ai (d:=WI true (aL (a::t))) (by rw[<-w1];exact W1) (ai (d:=WI true (aL (a::t))) (by rw[<-w1];exact W1) (ai (d:=WI true (aL (a::t++a::t))) ?_ (ai (d:=WI true (((a:Int)-(n:Int))::aL t)) ?_ al)))) (show(4:Nat)<=1000 by decide)
   .refine am W1 W1 ?_;refine(ls (x:=nD a) (a:=t.map nD) (b:=(a::t).map nD) (by simp;omega)).trans ?_;rw[p5];show some (DL.D.tup _)=some (DL.D.tup (VE nD (a::t++a::t)));rw[H_];rfl
   .refine am (gA (ai (am (a:=nD a) (b:=nD n) (am (a:=TN (a::t)) (b:=.int 0) W1 rfl (ixA_T0 _ _)) rfl rfl) al) (by simp)) (iM W1 (fN (i:=((1:Nat):Int)) rfl) rfl (AH (by simp))) ?_;refine(ls (a:=[]) (b:=t.map nD) (by simp;omega)).trans ?_;show some (DL.D.tup (_::VE nD t))=some (DL.D.tup (_::VE _ (VE _ t)));rw[A_];rfl
  have hj:c/3%4<hss.length:=Wm _ (by decide);refine⟨hss[c/3%4],oo,Y _ (VR _),?_⟩;refine aS ((bW ((jc t0).trans ad)).trans ?_);refine(au (aZ (am (b:=nD (c/3%4)) ac (am (a:=nD (c/3)) (b:=nD 4) (fK (a:=3) (c:=c) rfl (by omega) (by omega)) rfl (e8 (by omega))) (iu (by rw[n_,d_ hj];rfl))))).trans ?_;refine aS (bj (am (a:=.tup [.str (kd oo),WI true hss[c/3%4]]) (b:=.tup (rs oo)) (am (a:=.tup [.str (kd oo)]) (b:=.tup [WI true hss[c/3%4]]) (iM (d:=wz true (aL (a::t)) oo) rfl rfl (fN (i:=((1:Nat):Int)) rfl) MG) (gA (ds:=[WI true hss[c/3%4]]) rfl (by simp)) (DY (by simp))) (iM (d:=wz true (aL (a::t)) oo) rfl (fN (i:=((2:Nat):Int)) rfl) rfl (Ex (by simp))) ?_));rw[DY (by cases oo <;> simp[rs])];rfl
 .have Z:∀(wv:DL.D),bD bo=wv->(c7 (aK (f2 (gv 6) (fun _=>Res.ok DL.D.non) gp)) (aK (f2 (f2 (gv 5) (fun _=>Res.ok (DL.D.int 3)) az) (fun _=>Res.ok (DL.D.int 0)) eqD))) (s8 ns rz dl n m c [some wv,none])=.ok false:=by intro wv BT;cases bo with
  |none=>have:wv=.non:=BT.symm;subst this;exact l8 (bR (am rfl rfl rfl))
  |some w=>have:wv=eJ w:=BT.symm;subst this;refine(jc (bR (am rfl rfl (by cases w <;> rfl)))).trans ?_;have:=t3 (eJ w);rw[decide_eq_false (fun z=>q ⟨⟨w,rfl⟩,z⟩)]at this;exact this
  refine iR (au ((bc (Z _ rfl)).trans (e_skip _))) ?_;generalize bD bo=wv;have Y:=mh (fa:=fC (ag (aF (ag (f2 (gv 5) (fun _=>Res.ok (DL.D.int 3)) ck) (ag (gv 3) ae)) [] gL) ae) gI) (fl:=fun _=>Res.ok none) (fh:=dw (f2 (fun _=>Res.ok (DL.D.int 1)) (f2 (f2 (gv 5) (fun _=>Res.ok (DL.D.int 15120)) ck) (gv 3) az) addA)) (r:=s8 ns rz dl n m c [some wv,none]) (d:=LN r0) (aW (ai (d:=TN r0) (aT (ai (d:=nD (c/3)) (fK (a:=3) (c:=c) rfl (by omega) (by omega)) (ai rfl al)) hr0) al) rfl) rfl (fN (i:=((1+c/15120%n:Nat):Int)) (am (a:=nD 1) (b:=nD (c/15120%n)) rfl (am (a:=nD (c/15120)) (b:=nD n) (Kg (a:=15120) (c:=c) rfl (by omega) (by omega)) rfl (e8 (by omega))) (iK 1 _))) (sZ r0 _);have U:1<=(r0.take (1+c/15120%n)).length/\(r0.take (1+c/15120%n)).length<=7:=by rw[Vz,p0.length_eq];simp;omega
  refine iR (au (aZ (show Res.bind _ _=_ by rw[Y];rfl))) ?_;generalize r0.take (1+c/15120%n)=l at U;obtain⟨lz,z,rfl⟩:∃lz z,l=lz++[z]:=⟨l.dropLast,l.getLast (by rintro rfl;simp at U),(List.dropLast_concat_getLast _).symm⟩
  let vs:List Int:=[(z:Int),-1,(n:Int)]
  have hv:c/15%3<vs.length:=Wm _ (by decide);obtain⟨h1,l1,e1⟩:=iJ (P:=fun x:List Int=>x.length<=14) (c:=c%5=1) (a:=(aL (lz++[z])).set 0 vs[c/15%3]) (b:=aL (lz++[z])) (fun _=>by simp[aL]at U ⊢;omega) (fun _=>by simp[aL]at U ⊢;omega);refine iR (fT (r':=s8 ns rz dl n m c [some wv,some (IN h1)]) (fu (a:=5) (k:=1) (c:=c) rfl (by omega)) (fun q=>?_) (fun q=>?_)) ?_
  .rw[e1,if_pos (of_decide_eq_true q)];refine au (iL (d:=LN (lz++[z])) (k:=nD 0) (v:=.int vs[c/15%3]) rfl (am (a:=.lst (vs.map DL.D.int)) (b:=nD (c/15%3)) (fU (ai (am (a:=LN (lz++[z])) (b:=.int (-1)) rfl (fQ (a:=.int 1) rfl rfl) (Gk lz z)) (ai (fQ (a:=.int 1) rfl rfl) (ai rfl al))) (by simp[vs])) (am (a:=nD (c/15)) (b:=nD 3) (fK (a:=15) (c:=c) rfl (by omega) (by omega)) rfl (e8 (by omega))) (iu (by rw[n_,d_ hv];rfl))) rfl ?_);rw[KL];exact yQ (by simp[aL])
  .rw[e1,if_neg (of_decide_eq_false q),ki];rfl
  have t2:=fu (f:=f2 (gv 5) (fun _=>Res.ok (DL.D.int 15)) ck) (r:=s8 ns rz dl n m c [some wv,some (IN h1)]) (a:=2) (k:=0) (fK (a:=15) (c:=c) rfl (by omega) (by omega)) (by omega);by_cases q2:c/15%2=0
  .rw[decide_eq_true q2]at t2;refine⟨h1,some (((c/30%(m+2):Nat):Int)-1),l1,?_⟩;refine aS ((bW t2).trans (aS (bj (gA (ds:=[.str "line",WI true h1,.int (((c/30%(m+2):Nat):Int)-1)]) (ai rfl (ai (d:=WI true h1) (aW (ai rfl al) rfl) (ai (am (a:=nD (c/30%(m+2))) (b:=.int 1) (am (a:=nD (c/30)) (b:=nD (m+2)) (fK (a:=30) (c:=c) rfl (by omega) (by omega)) (am rfl rfl (iK m 2)) (e8 (by omega))) rfl rfl) al))) (by simp)))))
  .rw[decide_eq_false q2]at t2;refine⟨h1,none,l1,?_⟩;refine(au ((bc t2).trans (e_skip _))).trans ?_;exact aS (bj (gA (ds:=[.str "ring",WI true h1]) (ai rfl (ai (d:=WI true h1) (aW (ai rfl al) rfl) al)) (by simp)))
abbrev xF(ns:List Int)(c1 n m:Nat)(rz:List (List Nat))(ow:List (Option Nat))(dl l:List Nat)(l_:ao):ao:=some (IN ns)::some (nD c1)::some (nD n)::some (nD m)::some (WD rz)::some (OL ow)::some (TN dl)::some (LN l)::l_
theorem M8{α β:Type}(f:α->β)(l:List α)(lo hi:Option Int):bf (l.map f) lo hi=(bf l lo hi).map f:=by unfold bf;rw[g_,Yp,XZ]
theorem M7{α:Type}(l:List α)(lo hi:Option Int):(bf l lo hi).length<=l.length:=by unfold bf;rw[Vz,VI];omega
theorem OY(hs:List Int)(o:Option Int)(r:ao)(h:r[10]? = some (some (wz true hs o))):f2 (d5 (ag (f2 (gv 10) (ci 0) ax) (ag (fC (ag (f2 (gv 10) (ci 1) ax) ae) gI) ae))) (cO (gv 10) (dw (ci 2)) (fun _=>Res.ok none)) addA r=.ok (wz false hs o):=by have g:cg r 10=.ok (wz true hs o):=mi h;refine am (gA (ai (am g rfl (ixA_T0 _ _)) (ai (aW (ai (am g rfl (rK true hs o)) al) rfl) al)) (by simp)) (iM g (fN (i:=((2:Nat):Int)) rfl) rfl (Ex (by simp))) ?_;refine(ls (by cases o <;> simp[rs])).trans ?_;rfl
theorem zR(ds:List D):tupD [wr false ds]=some (wr true ds):=e_tupL ds
theorem JH(ns:List Int):sL [IN ns]=.ok (.bl true):=by
 obtain⟨c1,h1⟩:=jH ns 1 (by decide);obtain⟨c2,h2⟩:=jH ns 2 (by decide);obtain⟨KK,Cl⟩:=jH ns 11 (by decide);have hn:c1%7<7:=Wm _ (by decide);have hm:c1/7%(9-(1+c1%7))<9-(1+c1%7):=Wm _ (by omega);have ST:c1/56%2<2:=Wm _ (by decide);have Y:dG (.int 9) (nD (1+c1%7))=some (nD (9-(1+c1%7))):=by
  have e:(9:Int)-((1+c1%7:Nat):Int)=((9-(1+c1%7):Nat):Int):=by omega
  show some (D.int ((9:Int)-((1+c1%7:Nat):Int)))=some (D.int _);rw[e]
 generalize en:1+c1%7=n at hm Y;have LE:c1/7%(9-n)*(c1/56%2)<=8-n:=by
  rcases(show c1/56%2=0\/c1/56%2=1 by omega)with z|z
  .rw[z];simp
  .rw[z];omega
 have ld:dm (nD (c1/7%(9-n))) (nD (c1/56%2))=some (nD (c1/7%(9-n)*(c1/56%2))):=by rw[F9 (.inr ⟨by omega,by omega⟩)];show some (D.int _)=some (D.int _);rw[Int.natCast_mul]
 generalize em:n+c1/7%(9-n)*(c1/56%2)=m;obtain⟨rz,r1,r2,r3⟩:=QM ns 4 n m (by omega) (by omega) (by omega);have R:Rws rz n m:=⟨by omega,by omega,by omega,by omega,r1,r2⟩
 obtain⟨oz,dl,l,ol,D,l0,l7,IO,ad⟩:=OJ R ns;obtain⟨ps,pl,ac⟩:=RJ ol l0 l7 IO KK;obtain⟨hs,LT,Z⟩:=R8 ns R.n1 R.n7 (WD rz) (TN dl);obtain⟨ws,wo,wl,BT⟩:=RS D ns;obtain⟨ow2,S4,e2⟩:∃ow2:List (Option Nat),ow2.length<=8/\(c2%8=7->∀r:ao,r[0]? = some (some (IN ns))->r[5]? = some (some (OL oz))->r[3]? = some (some (nD m))->f2 (dP (ag (cO (gv 5) (fun _=>Res.ok none) (dw (f1 (fun _=>Res.ok (DL.D.int 1)) gj))) (ag (f2 (gv 5) (dP (ag (gv 3) ae)) addA) ae))) (f2 (f2 (aF (ag (gv 0) (ag (fun _=>Res.ok (DL.D.int 2)) ae)) [] du) (fun _=>Res.ok (DL.D.int 8)) ck) (fun _=>Res.ok (DL.D.int 2)) az) ax r=.ok (OL ow2))/\(¬ c2%8=7->ow2=oz):=by
  by_cases q:c2%8=7
  .let os:List (List (Option Nat)):=[bf oz none (some (-1)),oz++[some m]]
   have hj:c2/8%2<os.length:=Wm _ (by decide);refine⟨os[c2/8%2],?_,fun _ r g0 g5 g3=>?_,fun z=>absurd q z⟩
   .have:∀o∈os,o.length<=8:=by
     intro o ho;simp only[os,m_,G_,or_false]at ho;rcases ho with rfl|rfl
     .have:=M7 oz none (some (-1));omega
     .simp;omega
    exact this _ (VR _)
   .have G0:cg r 0=.ok (IN ns):=mi g0;have G5:cg r 5=.ok (OL oz):=mi g5;have G3:cg r 3=.ok (nD m):=mi g3;refine am (a:=.lst (os.map OL)) (b:=nD (c2/8%2)) (fU (ai (d:=OL (bf oz none (some (-1)))) (iM (d:=OL oz) G5 rfl (fN (i:=-1) (fQ (a:=.int 1) rfl rfl)) ?_) (ai (d:=OL (oz++[some m])) (am (a:=OL oz) (b:=.lst [nD m]) G5 (fU (ai G3 al) (by simp)) ?_) al)) (show(2:Nat)<=1000 by decide)) (am (a:=nD (c2/8)) (b:=nD 2) (fK (a:=8) (c:=c2) (aT (ai G0 (ai rfl al)) h2) (by omega) (by omega)) rfl (e8 (by omega))) (iu (by rw[n_,d_ hj];rfl))
    .show some (DL.D.lst (bf (oz.map oD) none (some (-1))))=_;rw[M8]
    .show(if (oz.map oD).length+1<=sizeLine then some (DL.D.lst (oz.map oD++[nD m]))else none)=_;rw[if_pos (by rw[Vw,g_];omega)];show some (DL.D.lst _)=some (DL.D.lst (VE oD _));rw[H_];rfl
  .exact⟨oz,by omega,fun z=>absurd z q,fun _=>rfl⟩
 obtain⟨b1,g1,g2⟩:=Ng (oz:=ow2) (ps:=ps) D (by omega) (by omega);obtain⟨b3,k1,k2⟩:=Np D (hs:=ws) (by omega) wo;obtain⟨b2,s1,s2⟩:∃b2:Bool,(∀tb,m6 [OO tb hs,WD rz,TN dl]=.ok (.bl b2))/\((Og n hs/\(kt [WD rz,IN hs]).bind (fun x=>cQ (eqD x (TN dl)))=.ok (.bl b2))\/(¬ Og n hs/\b2=false)):=by
  by_cases q:Og n hs
  .obtain⟨o,rfl,hp⟩:=q;refine⟨decide (pO rz n m o=dl),fun tb=>Qp D tb hp,.inl ⟨⟨o,rfl,hp⟩,?_⟩⟩;rw[ki,show kt [WD rz,LN o]=_ from IZ R false hp,bind_ok,EJ];rfl
  .exact⟨false,fun tb=>Qq D tb (by omega) q,.inr ⟨q,rfl⟩⟩
 have U:∀(k:Nat)(v:DL.D)(r:ao),r[0]? = some (some (IN ns))->du [IN ns,nD k]=.ok v->aF (ag (gv 0) (ag (fun _=>Res.ok (DL.D.int (k:Int))) ae)) [] du r=.ok v:=fun k v r h e=>aT (ai (d:=IN ns) (mi h) (ai rfl al)) e;refine bz (B:=sT) (n:=13) ?_;unfold sT;refine(au (aZ (U 1 _ _ rfl h1))).trans ?_;refine(au (aZ (am (a:=nD 1) (b:=nD (c1%7)) rfl (am rfl rfl (e8 (by decide))) (by rw[iK,en])))).trans ?_;refine(au (aZ (am rfl (am (am (fK (a:=7) (c:=c1) rfl (by omega) (by omega)) (am rfl rfl Y) (e8 (by omega))) (am (fK (a:=56) (c:=c1) rfl (by omega) (by omega)) rfl (e8 (by omega))) ld) (by rw[iK,em])))).trans ?_;refine(au (aZ (aT (ai rfl (ai rfl (ai rfl (ai rfl al)))) r3))).trans ?_;refine(au (KP (d:=.tup [OL oz,TN dl,LN l]) (r':=xF ns c1 n m rz oz dl l [none,none,none,none,none]) (aT (ai rfl (ai rfl (ai rfl (ai rfl al)))) ad) rfl)).trans ?_;refine(au (aZ (aT (ai rfl (ai rfl (ai (U 11 _ _ rfl Cl) (ai rfl al)))) ac))).trans ?_;refine(fT (r':=xF ns c1 n m rz ow2 dl l [some (LP ps),none,none,none,none]) (fu (a:=8) (k:=7) (c:=c2) (U 2 _ _ rfl h2) (by omega)) (fun q=>?_) (fun q=>?_)).trans ?_
 .exact au (aZ (e2.1 (of_decide_eq_true q) _ rfl rfl rfl))
 .rw[e2.2 (of_decide_eq_false q)];rfl
 refine(au (aZ (aT (ai rfl (ai rfl (ai rfl (ai rfl al)))) Z))).trans ?_;refine(au (aZ (aT (ai rfl (ai rfl (ai rfl (ai rfl (ai rfl al))))) BT))).trans ?_;refine(au (aZ (fU (ai (aT (ai rfl (ai rfl (ai rfl (ai rfl al)))) g2) (ai rfl (ai (aT (ai rfl (ai rfl (ai rfl al))) k2) al))) (by simp)))).trans ?_;have Id:=bR (am (f:=fC (ag (gv 9) ae) oq) (f':=fC (ag (gv 2) ae) iw) (r:=xF ns c1 n m rz ow2 dl l [some (LP ps),some (IN hs),some (wz true ws wo),some (.lst [.bl b1,.bl false,.bl b3]),none]) (aW (ai rfl al) (yR (by omega))) (aW (ai rfl al) (xV (by have:=R.n7;omega))) (EI _ _));refine(fT (r':=xF ns c1 n m rz ow2 dl l [some (LP ps),some (IN hs),some (wz true ws wo),some (.lst [.bl b1,.bl b2,.bl b3]),none]) Id (fun q=>?_) (fun q=>?_)).trans ?_
 .rcases s2 with⟨_,h⟩|⟨h,_⟩
  .refine au (iL (d:=.lst [.bl b1,.bl false,.bl b3]) (k:=nD 1) (v:=.bl b2) (d':=.lst [.bl b1,.bl b2,.bl b3]) rfl ?_ rfl rfl);unfold f2 aF;rw[ai rfl (ai rfl al),bind_ok];cases e:kt [WD rz,IN hs]with
  |ok x=>rw[e]at h;show(lU (kt [WD rz,IN hs])).bind _=_;rw[e];exact h
  |exc x=>rw[e]at h;cases h
  |stuck=>rw[e]at h;cases h
  .exact absurd (uF.mp (of_decide_eq_true q)) h
 .rcases s2 with⟨h,_⟩|⟨_,h⟩
  .exact absurd (uF.mpr h) (of_decide_eq_false q)
  .rw[h]
 have P:∀tb,pr [.lst [GO tb ow2 ps,OO tb hs,BO tb ws wo],WD rz,TN dl,.lst [.bl b1,.bl b2,.bl b3]]=.ok (.bl true):=fun tb=>J7 (NF (g1 tb)) (QF (s1 tb)) (QE (QY D (k1 tb)));have mk:∀tb,mS [WO tb ow2,rg tb ps]=.ok [("owns",WO tb ow2),("ring",rg tb ps)]/\nc [WI tb hs]=.ok [("order",WI tb hs)]/\nb [wz tb ws wo]=.ok [("way",wz tb ws wo)]:=fun tb=>⟨MT (J9 4 tb (by omega)) (Ka 3 tb (by omega)),QB (D3 4 tb (by omega)),QA (Kb 3 tb (by omega))⟩
 refine(au (aZ (fU (ai (oU (ai (d:=WO true ow2) (aW (ai rfl al) (zR _)) (ai (d:=rg true ps) (aW (ai rfl al) (zR _)) al)) (mk true).1) (ai (oU (ai (d:=WI true hs) (aW (ai rfl al) (zR _)) al) (mk true).2.1) (ai (oU (ai rfl al) (mk true).2.2) al))) (by simp)))).trans ?_;refine(au ((bc ((bF (dE (b:=true) (c9 (d:=.bl true) (fQ (a:=GO true ow2 ps) (am rfl rfl (iu rfl)) rfl) rfl))).trans (dE (b:=true) (c9 (aT (ai rfl (ai rfl (ai rfl (ai rfl al)))) (P true)) rfl)))).trans (e_skip _))).trans ?_;refine(au (aZ (fU (ai (oU (ai rfl (ai rfl al)) (mk false).1) (ai (oU (ai rfl al) (mk false).2.1) (ai (oU (ai (OY ws wo _ rfl) al) (mk false).2.2) al))) (by simp)))).trans ?_;exact aS (bj (aT (ai rfl (ai rfl (ai rfl (ai rfl al)))) (P false)))
theorem main(ns:List Int)(_:ns.length<=63):sL [.lst (ns.map .int)]=.ok (.bl true):=JH ns
end Law
open PySem PySem.W PyProof.Rows
namespace Law
abbrev Sv:List PySem.Str:=["TradeError","NotOwned","NoOrder"]
open PySem PySem.Spec PyProof.Rows L2 DL
theorem C0{P:E_}{w:T_}{K:W.Frag}{h:Heap}{mg:Str->Option a_}(KX:K.In h)(G:h.Ns Vv mg){cA cB cC:Addr}{bA bB bC:List a_}{nC:Addr}{fC:Addr}{To Tv LE Ta ac Td:a_}{Tm Tu:Option Addr}{KK:Array (Option a_)}{L:DL.QL}(aA:W.nsIn K Vv "TradeError" = some (some (.ref cA)))(aB:W.nsIn K Vv "NotOwned" = some (some (.ref cB)))(aC:W.nsIn K Vv "NoOrder" = some (some (.ref cC)))(oA:DL.fY K cA=some (bA,(K_ "TradeError")))(Tb:bA.contains (Value.type "BaseException")=true)(Tt:bA.contains (Value.type "object")=true)(Tn:W.findIn K (.ref cA) "__getattribute__" = some (some (.builtin "BaseException.__getattribute__")))(Tp:W.findIn K (.ref cA) "__getattr__" = some (none))(Tz:W.findIn K (.ref cA) "__class__" = some (some (.builtin "object.__class__")))(Th:DL.f8 K "TradeError" cA=true)(oB:DL.fY K cB=some (bB,(K_ "NotOwned")))(ST:bB.contains (Value.type "BaseException")=true)(S9:bB.contains (Value.type "object")=true)(Tx:W.findIn K (.ref cB) "__getattribute__" = some (some (.builtin "BaseException.__getattribute__")))(Ti:W.findIn K (.ref cB) "__getattr__" = some (none))(Tr:W.findIn K (.ref cB) "__class__" = some (some (.builtin "object.__class__")))(Tl:DL.f8 K "NotOwned" cB=true)(oC:DL.fY K cC=some (bC,(K_ "NoOrder")))(Tg:bC.contains (Value.type "BaseException")=true)(LT:bC.contains (Value.type "object")=true)(Tf:W.findIn K (.ref cC) "__getattribute__" = some (some (.builtin "BaseException.__getattribute__")))(Te:W.findIn K (.ref cC) "__getattr__" = some (none))(Tq:W.findIn K (.ref cC) "__class__" = some (some (.builtin "object.__class__")))(Tj:DL.f8 K "NoOrder" cC=true)(gg:W.specialIn K (.builtin "object.__class__") "__get__" = some (some (.builtin "getset_descriptor.__get__")))(gt:W.takesIn K (.builtin "object.__class__")=some true)(hL:L=[((K_ "TradeError"),cA,bA),((K_ "NotOwned"),cB,bB),((K_ "NoOrder"),cC,bC)])(TB:DL.C1 K cC=some nC)(zC:DL.iI K cC nC=true)(BT:W.findIn K (.ref cC) "__setattr__" = some (some (.builtin "object.__setattr__")))(IO:W.findIn K (.ref cC) "at" = some none)(Ts:W.specialIn K (.ref cA) "__getattribute__" = some (some (.builtin "type.__getattribute__")))(Tw:W.readsIn K cA (.type "type")=true)(Tk:W.findCls K (.ref cA) (.type "type") "__init__" = some (.val (.builtin "ValueError.__init__")))(iC:W.nsIn K nC "__init__" = some (some (.ref fC)))(S4:W.keepIn K (.ref cC)=true)(lC:K.lookup fC=some ⟨To,Tm,.func (W.fnOf "__init__" "NoOrder.__init__" (L2.aJ Law.lM) (L2.ay Law.lM) (L2.aa Law.lM) .none Tv LE Ta Tu ac Td),KK⟩)(Cl:W.codeIn K ac "NoOrder.__init__" = true)(Id:W.keepIn K (.ref fC)=true)(Ty:W.typeIn K (.ref fC)=some (.type "function"))(Tc:(Value.ref cC::bC).contains (.ref cC)=true):∃(Z:Addr)(ld:Addr)(z:Addr)(Y:List a_)(ad:List a_)(U:List a_),(∀base,XCI P w K mg base "NoOrder" z "at")/\(XN K "NoOrder" z)/\(XA K z U)/\(mg "NoOrder" = some (.ref z))/\(pH K z vA):=by
 have qA:=(DL.xN oA Tb Tt Tn Tp Tz gg gt Th)
 have qB:=(DL.xN oB ST S9 Tx Ti Tr gg gt Tl)
 have qC:=(DL.xN oC Tg LT Tf Te Tq gg gt Tj)
 subst hL;have hN:VE (·.1) [((K_ "TradeError"),cA,bA),((K_ "NotOwned"),cB,bB),((K_ "NoOrder"),cC,bC)]=Law.Sv:=rfl;have hf:DL.sI (fun q:Str×Addr×List a_=>DL.CF K q.1 q.2.1 q.2.2) [((K_ "TradeError"),cA,bA),((K_ "NotOwned"),cB,bB),((K_ "NoOrder"),cC,bC)]:=⟨qA,qB,qC,trivial⟩
 exact⟨cA,cB,cC,bA,bB,bC,DL.J4 KX G aC S4 zC oC (DL.DF zC oC BT IO) iC (L2.cN lC Cl Id) Ty Law.Mn (Law.Ni (L2.cN lC Cl Id) (DL.DF zC oC BT IO) (W.mg_of KX G aA) ⟨Ts,Tw,Tk⟩),qC.xn,qC.xa,W.mg_of KX G aC,DL.J0 [((K_ "NoOrder"),cC,bC)] (by intro q hq;simp only[m_,G_,or_false]at hq;rcases hq with rfl <;> first|exact⟨qC,Tc⟩) (fun nm h=>by have h2:=V2.mp h;simp only[m_,G_,or_false]at h2;rcases h2 with rfl <;> simp)⟩
end Law
namespace Law
open PySem PySem.Spec PyProof.Rows L2 DL
theorem Km{K:W.Frag}{h:Heap}{mg:Str->Option a_}(KX:K.In h)(G:h.Ns Vv mg){Z Y U Ta:Addr}{Tx:Addr}{UC UH Ux UE TB UD:a_}{UI UB:Option Addr}{Uy:Array (Option a_)}{KK:Addr}{Ua Ud T3 Uo ST T9:a_}{Um Up:Option Addr}{T5:Array (Option a_)}{IO:Addr}{Ug Ui T6 Ue S4 Uk:a_}{Uf Ub:Option Addr}{T4:Array (Option a_)}{ld:Addr}{TK TL Ty TF Id TH:a_}{TC TJ:Option Addr}{Tz:Array (Option a_)}{ac:Addr}{Tq Tl Tc Tm Cl Tn:a_}{Tg Tp:Option Addr}{Tb:Array (Option a_)}{ad:Addr}{To Th Td Tt BT Ts:a_}{Tr Tf:Option Addr}{Te:Array (Option a_)}(UL:W.nsIn K Vv "Goes" = some (some (.ref Z)))(UT:W.nsIn K Vv "Ordered" = some (some (.ref Y)))(Va:W.nsIn K Vv "Betters" = some (some (.ref U)))(Ve:W.nsIn K Vv "Paper" = some (some (.ref Ta)))(Vn:DL.iQ K Z (K_ "Goes")=true)(Vg:DL.f8 K "Goes" Z=true)(Vj:W.plainGet K Z Y9=true)(Vi:W.hasDictIn K Z=true)(Vl:W.plainOver K Z=true)(Vk:W.findIn K (.ref Z) "__setattr__" = some (some (.builtin "object.__setattr__")))(UO:DL.iQ K Y (K_ "Ordered")=true)(UK:DL.f8 K "Ordered" Y=true)(UZ:W.plainGet K Y Y9=true)(U0:W.hasDictIn K Y=true)(UP:W.plainOver K Y=true)(Vc:W.findIn K (.ref Y) "__setattr__" = some (some (.builtin "object.__setattr__")))(UR:DL.iQ K U (K_ "Betters")=true)(U9:DL.f8 K "Betters" U=true)(U2:W.plainGet K U Y9=true)(UV:W.hasDictIn K U=true)(UM:W.plainOver K U=true)(Vd:W.findIn K (.ref U) "__setattr__" = some (some (.builtin "object.__setattr__")))(TX:W.findIn K (.ref Y) "order" = some none)(Uz:W.findIn K (.ref Z) "owns" = some none)(Uw:W.findIn K (.ref Z) "ring" = some none)(T7:W.findIn K (.ref U) "way" = some none)(Vf:W.makesIn K Z=true)(Vh:W.findIn K (.ref Z) "__init__" = some (some (.ref Tx)))(Vm:W.isFn K (.ref Tx)=true)(Vo:W.keepIn K (.ref Z)=true)(UX:K.lookup Tx=some ⟨UC,UI,.func (W.fnOf "__init__" "Goes.__init__" (L2.aJ Law.mw) (L2.ay Law.mw) (L2.aa Law.mw) .none UH Ux UE UB TB UD),Uy⟩)(UF:W.codeIn K TB "Goes.__init__" = true)(UG:W.keepIn K (.ref Tx)=true)(Vb:W.makesIn K Y=true)(U4:W.findIn K (.ref Y) "__init__" = some (some (.ref KK)))(U3:W.isFn K (.ref KK)=true)(UY:W.keepIn K (.ref Y)=true)(Us:K.lookup KK=some ⟨Ua,Um,.func (W.fnOf "__init__" "Ordered.__init__" (L2.aJ Law.mG) (L2.ay Law.mG) (L2.aa Law.mG) .none Ud T3 Uo Up ST T9),T5⟩)(Uj:W.codeIn K ST "Ordered.__init__" = true)(Ul:W.keepIn K (.ref KK)=true)(U6:W.makesIn K U=true)(U5:W.findIn K (.ref U) "__init__" = some (some (.ref IO)))(US:W.isFn K (.ref IO)=true)(UW:W.keepIn K (.ref U)=true)(Ut:K.lookup IO=some ⟨Ug,Uf,.func (W.fnOf "__init__" "Betters.__init__" (L2.aJ Law.mE) (L2.ay Law.mE) (L2.aa Law.mE) .none Ui T6 Ue Ub S4 Uk),T4⟩)(Uc:W.codeIn K S4 "Betters.__init__" = true)(Uh:W.keepIn K (.ref IO)=true)(Uq:W.findIn K (.ref Z) "shows" = some (some (.ref ld)))(Uu:W.isFn K (.ref ld)=true)(TV:K.lookup ld=some ⟨TK,TC,.func (W.fnOf "shows" "Goes.shows" (L2.aJ Law.mD) (L2.ay Law.mD) (L2.aa Law.mD) .none TL Ty TF TJ Id TH),Tz⟩)(TM:W.codeIn K Id "Goes.shows" = true)(TQ:W.keepIn K (.ref ld)=true)(T0:W.findIn K (.ref Y) "shows" = some (some (.ref ac)))(TZ:W.isFn K (.ref ac)=true)(Tw:K.lookup ac=some ⟨Tq,Tg,.func (W.fnOf "shows" "Ordered.shows" (L2.aJ Law.mM) (L2.ay Law.mM) (L2.aa Law.mM) .none Tl Tc Tm Tp Cl Tn),Tb⟩)(Ti:W.codeIn K Cl "Ordered.shows" = true)(Tj:W.keepIn K (.ref ac)=true)(TR:W.findIn K (.ref U) "shows" = some (some (.ref ad)))(TW:W.isFn K (.ref ad)=true)(Tv:K.lookup ad=some ⟨To,Tr,.func (W.fnOf "shows" "Betters.shows" (L2.aJ Law.mK) (L2.ay Law.mK) (L2.aa Law.mK) .none Th Td Tt Tf BT Ts),Te⟩)(Tu:W.codeIn K BT "Betters.shows" = true)(Tk:W.keepIn K (.ref ad)=true)(gg:W.specialIn K (.builtin "object.__class__") "__get__" = some (some (.builtin "getset_descriptor.__get__")))(gt:W.takesIn K (.builtin "object.__class__")=some true)(UQ:W.findIn K (.ref Z) "__class__" = some (some (.builtin "object.__class__")))(UU:W.mroIn K Z (.type "object")=some true)(U7:W.findIn K (.ref Y) "__class__" = some (some (.builtin "object.__class__")))(UJ:W.mroIn K Y (.type "object")=some true)(U8:W.findIn K (.ref U) "__class__" = some (some (.builtin "object.__class__")))(U1:W.mroIn K U (.type "object")=some true)(Uv:W.kitOne K (.ref Z) (.ref Z)=some true)(Ur:W.kitOne K (.ref Z) (.ref Ta)=some true)(TY:W.kitOne K (.ref Y) (.ref Ta)=some true)(TU:W.kitOne K (.ref U) (.ref Ta)=some true):∃(UN:Addr)(UA:Addr),(DL.gu K "order" Law.kj)/\(DL.gu K "owns" Law.lE)/\(DL.gu K "ring" Law.on)/\(DL.gu K "way" Law.oh)/\(DL.MakeAt K mg "Goes" "Goes" "Goes.__init__" Law.mw)/\(DL.MakeAt K mg "Ordered" "Ordered" "Ordered.__init__" Law.mG)/\(DL.MakeAt K mg "Betters" "Betters" "Betters.__init__" Law.mE)/\(DL.MethAt K "Goes" "shows" "Goes.shows" Law.mD)/\(DL.MethAt K "Ordered" "shows" "Ordered.shows" Law.mM)/\(DL.MethAt K "Betters" "shows" "Betters.shows" Law.mK)/\(mg "Goes" = some (.ref UN))/\(DL.lw K (.ref UN) Law.pU)/\(mg "Paper" = some (.ref UA))/\(DL.lw K (.ref UA) Law.my):=by
 have S9:=DL.xO Vn Vg Vj Vi Vl Vk;have LE:=DL.xO UO UK UZ U0 UP Vc;have LT:=DL.xO UR U9 U2 UV UM Vd;exact⟨Z,Ta,DL.sJ [((K_ "Ordered"),Y)] (by intro q hq;simp only[m_,G_,or_false]at hq;rcases hq with rfl <;> first|exact⟨LE,TX⟩) (fun nm h=>by
   have h2:=V2.mp h;simp only[m_,G_,or_false]at h2;rcases h2 with rfl <;> simp),DL.sJ [((K_ "Goes"),Z)] (by intro q hq;simp only[m_,G_,or_false]at hq;rcases hq with rfl <;> first|exact⟨S9,Uz⟩) (fun nm h=>by
   have h2:=V2.mp h;simp only[m_,G_,or_false]at h2;rcases h2 with rfl <;> simp),DL.sJ [((K_ "Goes"),Z)] (by intro q hq;simp only[m_,G_,or_false]at hq;rcases hq with rfl <;> first|exact⟨S9,Uw⟩) (fun nm h=>by
   have h2:=V2.mp h;simp only[m_,G_,or_false]at h2;rcases h2 with rfl <;> simp),DL.sJ [((K_ "Betters"),U)] (by intro q hq;simp only[m_,G_,or_false]at hq;rcases hq with rfl <;> first|exact⟨LT,T7⟩) (fun nm h=>by
   have h2:=V2.mp h;simp only[m_,G_,or_false]at h2;rcases h2 with rfl <;> simp),DL.xL S9 (W.mg_of KX G UL) Vf Vh Vm Vo (L2.cN UX UF UG),DL.xL LE (W.mg_of KX G UT) Vb U4 U3 UY (L2.cN Us Uj Ul),DL.xL LT (W.mg_of KX G Va) U6 U5 US UW (L2.cN Ut Uc Uh),DL.xM S9 Uq Uu (L2.cN TV TM TQ),DL.xM LE T0 TZ (L2.cN Tw Ti Tj),DL.xM LT TR TW (L2.cN Tv Tu Tk),W.mg_of KX G UL,DL.DG gg gt [((K_ "Goes"),Z,true)] (by intro q hq;simp only[m_,G_,or_false]at hq;rcases hq with rfl <;> first|exact⟨S9,UQ,UU,Uv⟩) (fun nm b h=>by
   unfold Law.pU at h;split at h
   .cases h;rename_i z;have z:=V2.mp z;simp only[m_,G_,or_false]at z;rcases z with rfl <;> simp
   .split at h
    .cases h;rename_i z;simp at z
    .cases h),W.mg_of KX G Ve,DL.DG gg gt [((K_ "Goes"),Z,true),((K_ "Ordered"),Y,true),((K_ "Betters"),U,true)] (by intro q hq;simp only[m_,G_,or_false]at hq;rcases hq with rfl|rfl|rfl <;> first|exact⟨S9,UQ,UU,Ur⟩|exact⟨LE,U7,UJ,TY⟩|exact⟨LT,U8,U1,TU⟩) (fun nm b h=>by
   unfold Law.my at h;split at h
   .cases h;rename_i z;have z:=V2.mp z;simp only[m_,G_,or_false]at z;rcases z with rfl|rfl|rfl <;> simp
   .split at h
    .cases h;rename_i z;simp at z
    .cases h)⟩
end Law
abbrev P0:=YF.prog
namespace PySem.W.Fast
def tw5314377679866686434:=0
def tw11190498834183242612:=0
def tw9025984591306467570:=0
def tw6491361275963325868:=0
def tw9260093499406794742:=0
def tw7161814786708712293:=0
def tw8111970073345675664:=0
def tw14499108024650232027:=0
def tw10248208620317063077:=0
def tw5286038139324109196:=0
def tw3149236647053136181:=0
def tw7528110893734877339:=0
def tw15516795423604801152:=0
def tw4273261758602400297:=0
def tw14054967523221368786:=0
def tw12783705140291030584:=0
def tw17339968146731852969:=0
def tw12312121043750187188:=0
def tw6656488969929387648:=0
def tw10345493848849145241:=0
def tw10782376008327246766:=0
def tw9861299484895136254:=0
def tw2499827822612902094:=0
def tw4573240161308380244:=0
def tw1457960695212532443:=0
def tw4802775370374125276:=0
def tw11480921819107003095:=0
def tw692529764221126981:=0
def tw2920011894953514814:=0
def tw14076550475651045983:=0
def tw4848538783781427526:=0
def tw9689297870943419549:=0
def tw16416651125534002027:=0
def tw9510083712351870612:=0
def tw8780270493044576631:=0
def tw17862625911300456381:=0
def tw5253310116233758152:=0
def tw11103775143461468953:=0
def tw4397360155110501053:=0
def tw2106948868424649572:=0
def tw4093678059006863331:=0
def tw7117075231917177706:=0
def tw8476769061129919880:=0
def tw9459165298137023392:=0
def tw13762405993555015725:=0
def tw3468180901582832614:=0
def tw12785133438297936987:=0
def tw5376622745222043295:=0
def tw10701616358955038586:=0
def tw5574879304802152005:=0
def tw7642835939902772021:=0
def tw17346353636513784142:=0
def tw9135900384735421019:=0
def tw8351566903625027307:=0
def tw1064672840881361037:=0
def tw15665843340133962385:=0
def tw11814096081943803883:=0
def tw11678506126742530521:=0
def tw16072897966444298904:=0
def tw18022354000469295108:=0
def tw5831707947342903308:=0
def tw13051507820647773291:=0
def tw6488484536996057422:=0
def tw2141667894785053519:=0
def tw14909122209554897781:=0
def tw1062641635121679466:=0
def tw7773029202043346217:=0
def tw12427690551795094327:=0
def tw7765576685145739238:=0
def tw7484587291505446928:=0
def tw4269899461687659878:=0
def tw2955944359513135188:=0
def tw8604867391632995302:=0
def tw13483943039507941566:=0
def tw3635190312125513881:=0
def tw2976858866870506079:=0
def tw8414352703399809942:=0
def tw18060774355967288156:=0
def tw13714599381084514810:=0
def tw2692850616122258229:=0
def tw8071036740442075013:=0
def tw7828660806864241301:=0
def tw7234126306555725916:=0
def tw10358682292017168505:=0
def tw3220280898224275799:=0
def tw15684396712031820390:=0
def tw13041646377820277252:=0
def tw5012816337943010813:=0
def tw2975654905374322703:=0
def tw10084621825167633697:=0
def tw9614605221536125993:=0
def tw7256001536359109014:=0
def tw13326990974460978461:=0
def tw12659867714919422092:=0
def tw3194946304032848527:=0
def tw14920725327998740542:=0
def tw2135328872943588526:=0
def tw16145465956599592723:=0
def tw13040367667905329677:=0
def tw5428855191408863986:=0
def tw17885871689967094959:=0
def tw16637796119347496360:=0
def tw8448125204172573444:=0
def tw6024098123794642554:=0
def tw952903694415803116:=0
def tw12681053888610371675:=0
def tw3589827378549891015:=0
def tw10175976077858858130:=0
def tw16237389483286743509:=0
def tw2993865789104577503:=0
def tw8028864224962693634:=0
def tw16410760652672005556:=0
def tw16889602011495075270:=0
def tw13070452114243373162:=0
def tw6893480241287708767:=0
def tw15693456956921827823:=0
def tw6819225477196566153:=0
def tw5105914556762092406:=0
def tw11966233766900129333:=0
def tw6895847053325417588:=0
def tw11171356424831312461:=0
def tw234040397929846441:=0
def tw3670703802219261444:=0
def tw5831445824024203613:=0
def tw13715500493380007262:=0
def tw16118541384253804957:=0
def tw9089762775061500301:=0
def tw5152015783562052863:=0
def tw11366259041275868490:=0
def tw13275921850803004497:=0
def tw13156979417809500989:=0
def tw11135999475920877023:=0
def tw995986379654207228:=0
def tw11043181804714135200:=0
def tw13970341698545148629:=0
def tw8264309184483789408:=0
def tw13513283209595350311:=0
def tw16605269679626718076:=0
def tw16101227170319554411:=0
def tw9379644710678507844:=0
def tw12615030789974159612:=0
def tw18376887766328019378:=0
def tw898867451519552686:=0
def tw3043928416726774736:=0
def tw14303780797943240429:=0
def tw371522408782466621:=0
def tw13173843692490192266:=0
def tw6993910869378757995:=0
def tw5863304649426316698:=0
def tw12921267512500868991:=0
def tw9658566301469402316:=0
def tw8092658878799374277:=0
def tw9337281160983878009:=0
def tw4814850304398359594:=0
def tw12719521083594772606:=0
def tw11453248267768463127:=0
def tw11375581155551859671:=0
def tw6977380266931726138:=0
def tw15917953770949340709:=0
def tw17763865259015962954:=0
def tw2038734895835153762:=0
def tw1145399530714782880:=0
end PySem.W.Fast
set_option maxRecDepth 100000 in
set_option maxHeartbeats 0 in
theorem PySem.Challenge.cw_ringtrade_k41_papers_of_dealings_holds : PySem.Challenge.rw_ringtrade_k41_papers_of_dealings.Holds := by
 w_on; o_law; k_head; (case hw=>w_witness2)
 k_fill
 refine DL.Kn (l:=PySem.Challenge.rw_ringtrade_k41_papers_of_dealings) (k:=10) (x := "_law_script") (F:=Law.sL) rfl rfl ⟨rfl,by decide,by decide,rfl⟩ (fun w h Y=>PySem.W.kIn_of Y) Law.main ?C
 intro w mg fa h KX G hmg
 have T:Law.Txt (L2.bp KX) mg:=by
  dsimp only [L2.bp]
  refine ⟨?uz,?u0,?u1,?u2,?u3,?u4,?u5,?u6,?u7,?u8,?u9,?va,?vb,?vc,?vd⟩
  case uz|u0|u1|u2|u3|u4|u5|u6|u7|u8|u9|va|vb|vc|vd=>(refine' PySem.W.mg_none_of KX G ?_; k_is)
 obtain ⟨ve,vf,ua,vg,vh,ul,vi,vj,vk,vl,vm⟩:∃ (ve:Addr) (vf:Addr) (ua:Addr) (vg:List Value) (vh:List Value) (ul:List Value),(∀ base,DL.XCI PySem.Challenge.rw_ringtrade_k41_papers_of_dealings.prog w (L2.bp KX) mg base "NoOrder" ua "at")∧(DL.XN (L2.bp KX) "NoOrder" ua)∧(DL.XA (L2.bp KX) ua ul)∧(mg "NoOrder" = some (.ref ua))∧(DL.pH (L2.bp KX) ua Law.vA):=by
  dsimp only [L2.bp]
  refine' Law.C0 KX G ?vn ?vo ?vp ?vq ?vr ?vs ?vt ?vu ?vv ?vw ?vx ?vy ?vz ?v0 ?v1 ?v2 ?v3 ?v4 ?v5 ?v6 ?v7 ?v8 ?v9 ?wa ?gg ?gt ?hL ?wb ?wc ?wd ?we ?wf ?wg ?wh ?wi ?wj ?wk ?wl ?wm ?wn ?wo
  case vn|vo|vp=>k_is
  case vq=>exact rfl
  case vr|vs=>decide +kernel
  case vt|vu|vv=>k_is
  case vw=>kernel_rfl
  case vx=>exact rfl
  case vy|vz=>decide +kernel
  case v0|v1|v2=>k_is
  case v3=>kernel_rfl
  case v4=>exact rfl
  case v5|v6=>decide +kernel
  case v7|v8|v9=>k_is
  case wa=>kernel_rfl
  case gg|gt=>k_is
  case hL|wb=>exact rfl
  case wc=>kernel_rfl
  case wd|we|wf=>k_is
  case wg|wh=>kernel_rfl
  case wi|wj|wk|wl|wm|wn=>k_is
  case wo=>decide +kernel
 obtain ⟨ug,uh,um,un,uo,up,wp,wq,wr,ws,wt,wu,wv,ww,wx,wy⟩:∃ (ug:Addr) (uh:Addr),(DL.gu (L2.bp KX) "order" Law.kj)∧(DL.gu (L2.bp KX) "owns" Law.lE)∧(DL.gu (L2.bp KX) "ring" Law.on)∧(DL.gu (L2.bp KX) "way" Law.oh)∧(DL.MakeAt (L2.bp KX) mg "Goes" "Goes" "Goes.__init__" Law.mw)∧(DL.MakeAt (L2.bp KX) mg "Ordered" "Ordered" "Ordered.__init__" Law.mG)∧(DL.MakeAt (L2.bp KX) mg "Betters" "Betters" "Betters.__init__" Law.mE)∧(DL.MethAt (L2.bp KX) "Goes" "shows" "Goes.shows" Law.mD)∧(DL.MethAt (L2.bp KX) "Ordered" "shows" "Ordered.shows" Law.mM)∧(DL.MethAt (L2.bp KX) "Betters" "shows" "Betters.shows" Law.mK)∧(mg "Goes" = some (.ref ug))∧(DL.lw (L2.bp KX) (.ref ug) Law.pU)∧(mg "Paper" = some (.ref uh))∧(DL.lw (L2.bp KX) (.ref uh) Law.my):=by
  dsimp only [L2.bp]
  refine' Law.Km KX G ?wz ?w0 ?w1 ?w2 ?w3 ?w4 ?w5 ?w6 ?w7 ?w8 ?w9 ?xa ?xb ?xc ?xd ?xe ?xf ?xg ?xh ?xi ?xj ?xk ?xl ?xm ?xn ?xo ?xp ?xq ?xr ?xs ?xt ?xu ?xv ?xw ?xx ?xy ?xz ?x0 ?x1 ?x2 ?x3 ?x4 ?x5 ?x6 ?x7 ?x8 ?x9 ?ya ?yb ?yc ?yd ?ye ?yf ?yg ?yh ?yi ?yj ?yk ?yl ?ym ?yn ?yo ?gg ?gt ?yp ?yq ?yr ?ys ?yt ?yu ?yv ?yw ?yx ?yy
  case wz|w0|w1|w2=>k_is
  case w3|w4|w5|w6|w7=>kernel_rfl
  case w8=>k_is
  case w9|xa|xb|xc|xd=>kernel_rfl
  case xe=>k_is
  case xf|xg|xh|xi|xj=>kernel_rfl
  case xk|xl|xm|xn|xo=>k_is
  case xp=>kernel_rfl
  case xq=>k_is
  case xr=>kernel_rfl
  case xs|xt|xu|xv=>k_is
  case xw=>kernel_rfl
  case xx=>k_is
  case xy=>kernel_rfl
  case xz|x0|x1|x2=>k_is
  case x3=>kernel_rfl
  case x4=>k_is
  case x5=>kernel_rfl
  case x6|x7|x8|x9|ya=>k_is
  case yb=>kernel_rfl
  case yc|yd|ye|yf=>k_is
  case yg=>kernel_rfl
  case yh|yi|yj|yk=>k_is
  case yl=>kernel_rfl
  case ym|yn|yo|gg|gt|yp=>k_is
  case yq=>kernel_rfl
  case yr=>k_is
  case ys=>kernel_rfl
  case yt=>k_is
  case yu|yv|yw|yx|yy=>kernel_rfl
 obtain ⟨ub,ud,yz,y0,uq,y1,y2,y3,y4,y5,y6,ue,uc,y7,ur,y8,y9,za,zb,zc,zd,ze,zf,zg,zh,zi,zj,zk,zl,ut,zm,zn,zo,zp,zq,zr,zs,zt,zu,uu,zv,zw,zx,zy,ui,zz⟩:DL.DefAt (L2.bp KX) mg "_law_cell" Law.AS∧DL.DefAt (L2.bp KX) mg "_law_row" Law.AI∧DL.DefAt (L2.bp KX) mg "_law_wishes" Law.qH∧DL.DefAt (L2.bp KX) mg "_law_owns" Law.AU∧DL.DefAt (L2.bp KX) mg "_law_best" Law.AR∧DL.DefAt (L2.bp KX) mg "_law_order_dealt" Law.rF∧DL.DefAt (L2.bp KX) mg "_law_rings_dealt" Law.rG∧DL.DefAt (L2.bp KX) mg "_law_made" Law.AT∧DL.DefAt (L2.bp KX) mg "_law_ring_of" Law.BG∧DL.DefAt (L2.bp KX) mg "_law_ring_made" Law.nh∧DL.DefAt (L2.bp KX) mg "_law_order_made" Law.BQ∧DL.DefAt (L2.bp KX) mg "likes" Law.zV∧DL.DefAt (L2.bp KX) mg "things_in" Law.AW∧DL.DefAt (L2.bp KX) mg "line_for" Law.qx∧DL.DefAt (L2.bp KX) mg "steps_within" Law.qZ∧DL.DefAt (L2.bp KX) mg "places_that_go_on" Law.rm∧DL.DefAt (L2.bp KX) mg "ring_of_steps" Law.Bz∧DL.DefAt (L2.bp KX) mg "hands_envied" Law.qY∧DL.DefAt (L2.bp KX) mg "ring_for" Law.AL∧DL.DefAt (L2.bp KX) mg "betterment" Law.Bt∧DL.DefAt (L2.bp KX) mg "_law_way_made" Law.Bx∧DL.DefAt (L2.bp KX) mg "is_square" Law.AV∧DL.DefAt (L2.bp KX) mg "is_whole" Law.AK∧DL.DefAt (L2.bp KX) mg "is_below" Law.AJ∧DL.DefAt (L2.bp KX) mg "first_wrong" Law.A6∧DL.DefAt (L2.bp KX) mg "are_unlike" Law.Bs∧DL.DefAt (L2.bp KX) mg "has_each_once" Law.By∧DL.DefAt (L2.bp KX) mg "is_dealing" Law.Bv∧DL.DefAt (L2.bp KX) mg "refuse_unless_all_owned" Law.Cr∧DL.DefAt (L2.bp KX) mg "ones_behind" Law.A7∧DL.DefAt (L2.bp KX) mg "is_ring_of_owns" Law.kO∧DL.DefAt (L2.bp KX) mg "goes" Law.mC∧DL.DefAt (L2.bp KX) mg "dealing_of" Law.qI∧DL.DefAt (L2.bp KX) mg "best_left" Law.qr∧DL.DefAt (L2.bp KX) mg "has_form_of_way" Law.BR∧DL.DefAt (L2.bp KX) mg "is_left_over" Law.BH∧DL.DefAt (L2.bp KX) mg "things_along" Law.q8∧DL.DefAt (L2.bp KX) mg "is_betterment" Law.qR∧DL.DefAt (L2.bp KX) mg "_law_asked" Law.Bq∧DL.DefAt (L2.bp KX) mg "_law_likes" Law.Br∧DL.DefAt (L2.bp KX) mg "_law_goes" Law.kL∧DL.DefAt (L2.bp KX) mg "_law_goes_any" Law.qQ∧DL.DefAt (L2.bp KX) mg "_law_things_got" Law.rB∧DL.DefAt (L2.bp KX) mg "_law_betters" Law.BF∧DL.DefAt (L2.bp KX) mg "copied" Law.lL∧DL.DefAt (L2.bp KX) mg "law" Law.yV:=by
  dsimp only [L2.bp]
  refine ⟨?_,?_,?_,?_,?_,?_,?_,?_,?_,?_,?_,?_,?_,?_,?_,?_,?_,?_,?_,?_,?_,?_,?_,?_,?_,?_,?_,?_,?_,?_,?_,?_,?_,?_,?_,?_,?_,?_,?_,?_,?_,?_,?_,?_,?_,?_⟩ <;> (refine' DL.JZ KX G ?a ?l ?c ?k; (case a | l | c | k=>k_is))
 have z0:DL.DefAtD (L2.bp KX) mg "order_of" Law.Bf [Value.none]:=by
  dsimp only [L2.bp]
  refine' DL.DH KX G ?a ?l ?t ?c ?k
  case a|l|t|c|k=>k_is
 have z1:DL.DefAtD (L2.bp KX) mg "by_order" Law.Bu [Value.none]:=by
  dsimp only [L2.bp]
  refine' DL.DH KX G ?a ?l ?t ?c ?k
  case a|l|t|c|k=>k_is
 refine DL.J2 hmg zz (fun _ _ _ _ _ _ us hl=>match us,hl with | [_],_=>rfl) fun f fd Fn base=>?_
 have uv:=Law.Rr (P:=P0) (w:=w) (base:=base) T y1 (Law.ES T uq)
 have uw:=Law.OE (P:=P0) (w:=w) (base:=base) T ze (Law.pJ T uc)
 have uj:=Law.MX (P:=P0) (w:=w) (base:=base) T zg (Law.MY T zf)
 have ux:=Law.O2 (P:=P0) (w:=w) (base:=base) T zh uj
 have uf:=Law.Pt (P:=P0) (w:=w) (base:=base) T zi ux
 have uy:=Law.QT (P:=P0) (w:=w) (base:=base) T zj uf
 have uk:=Law.Px (P:=P0) (w:=w) (base:=base) T zk (Law.pJ T uc) uf
 exact Law.J3 T Fn (Law.pG T ub) (Law.O1 T yz (Law.pG T ub) (Law.sM T ud)) (Law.NB T y3 (Law.pG T ub) (Law.NC T y0) (Law.sM T ud) uv (Law.Rs T y2 (Law.ES T uq))) (Law.QC T y5 (Law.Qj T y4)) (Law.Q4 T y6 (Law.pG T ub) (Law.sM T ud)) (Law.QS T zd (Law.pG T ub) (Law.Pu T zc (Law.MZ T y7 (Law.pJ T uc) (Law.sK T ue)) (Law.M0 T zb (Law.Qk T za (Law.sK T ue)) (Law.QV T y9 (Law.Rh T y8 (Law.Ge T ur)) (Law.Ge T ur)))) (Law.sM T ud)) (Law.Qi T zy (Law.Q5 T zx) (Law.Fi T uu)) (Law.QR T zw (Law.NA T zv (Law.Fi T uu))) uv (Law.Py T wr (Law.xP T ui) up) (Law.Pz T wq (Law.xP T ui) um) (Law.Mp T wp (Law.xP T ui) uo un) (Law.Ps T zu (Law.Mo (Law.Pr T ws uy uw (Law.JL T zn (Law.Sb T zl uw uj) (Law.Q7 T zm uf (Law.Fh T ut)) (Law.sK T ue)) uk un uo) (Law.QQ T wt (Law.Pv T z1 (Law.pJ T uc) (Law.O3 T z0 uy ux (vi base) vj) (Law.ND T zp) (Law.Pw T zo)) uk vk vl vm um) (Law.QP T wu (Law.QU T zt uf (Law.Q6 T zq) (Law.Ql T zr (Law.pJ T uc) uj) (Law.Qm T zs (Law.Fh T ut)) (Law.sK T ue)) uk up)) wx wy) wv ww
end
