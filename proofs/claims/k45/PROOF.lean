import PyProof.Rows.All
import Wide.All
import OpenK.AllK
import Wide.FinOn
import Lean
import PyProof.EqAt
import PyProof.EqKinds
import PyProof.TupleCall
import PyProof.Rows.SetFrom
import KE.KSortTup
import PyProof.Draws
import PyProof.EnumMake
import PyProof.ListRange
import PyProof.Rows.EnumRows
import PyProof.SetRoads
import PyProof.Rows.MinMaxN
import PyProof.Rows.MaxTwoN
import PyProof.ZipIter
import PySem.Challenge.RW_ringtrade_k45_answers_of_the_desk
noncomputable section
open PySem renaming Value->a_,wpAny_bind->d_,Shared->e_,starEach->i_,wpAny_pure->C_,Program->E_,strLen_append->F_,model->G_,sizeLine_eq->H_,wpAny->K_,World->P_,mainGlobals->U_,Around->V_,foldedSetIterable->W9,attributeBase->Xb,compareOp->Xm,wpAny_field->Xn,swapsWith->Xq,wpAny_callSpecial?_slot->Xs,FuncData->Xv,assignEach->XA,wpAny_pyIter_tuple->XC,behindInMarks->XM,wpAny_call_entry->XO,wpAny_seqItems->XT,wpAny_setField_rec->XU,wpAny_passesOwn->X4,keywordEach->X7,wpAny_mono->X_,wpAny_holding->Ya,call_meets->Yb,IsPair->Yc,scanBound->Ye,wpAny_getItem_str_slice->Yg,sysModules->Yj,wpAny_Call_Name_kw->Yk,cLine->Yp,wpAny_loadPart'->Yq,wpAny_truthy_bool->Yw,bootBuiltins->YE,holding->YF,Scope->YH,NameKind->YO,tupleKind_room_in1->YW,sliceBounds->Y0,binaryOp->Y1,codeAny_mono->Y3,backToKw->Y4,PassesOwn->Y_,bindArgs->Zi,wpAny_updateSeq_pair->Zj,post_val_or_str->Zo,standAt->Zu,getMethod->ZB,wpAny_newObj_type->ZQ,wpAny_pyIter_enum->ZT,wpAny_standAt->Z0,wpAny_comprehension_free->Z2,wpAny_onRaise->Z3,noFill_tuple_add->Z9,DictEntry->Z_,evalEach->ð,codeAny->ä,Builtin->å,concat_meets->ú,IsPart->â,getItem->æ,Keyword->ç,callerA->è,notedBy->é,argBest->ê,wpAny_execs_nil->Æ,letOwnedTupleGo->Ç,callWith->ó,compEnvC->ô,IsZip->à,seq_tuple_add->È,Draws->á,assign->ë,pyIter->ì,typeIs_str->û,PlainAttrs->ü,wpAny_rule->ý,JoinOk->í,wpAny_assign_Name->ĉ,BindsTo->õ,wpAny_sequenceKey->Ċ,wpAny_typeOf->É,slot_list_getitem->ċ,valueAt->ö,wpAny_pyIter_list->Č,tupleKind->þ,rawInt->ñ,strValues->ÿ,seqIndex_of->Ê,wpAny_letGo->Ë,relabel->ù,builtinsNs->Ì,wpAny_Name->Í,wpAny_call->Î,typeIs_int->Ï,atKey->î,closureFor->Ð
open PySem.Heap renaming get?_push_of_some->b_,get?_push_size->q_,lt_size->x_,size_push->Xi,SameBut->Zt,get?_update_other->č,get?_update_self->Ď,get?_none_of_le->ď
open List renaming getElem?_eq_some_iff->c_,getElem?_set_ne->f_,range->g_,length_map->h_,mem_cons_self->j_,getElem?_eq_getElem->k_,mem_cons_of_mem->l_,mem_map->m_,mem_filter->n_,mem_range->p_,replicate->r_,map_cons->s_,map_map->t_,getElem?_set_self->u_,mem_singleton->w_,getElem?_map->A_,size_toArray->D_,mem_cons->I_,getElem?_append_left->J_,length_append->M_,getD_eq_getElem?_getD->R_,length_cons->S_,append_nil->T_,find?_cons->WW,map_append->WX,length_take->WY,all_eq_true->WZ,getElem?_append_right->W0,map_congr_left->W3,length_pos_iff->W4,mem_append->W5,sum_cons->W6,mem_append_right->W7,map_nil->W8,append_assoc->W_,drop_eq_getElem_cons->Xa,getElem_mem->Xc,nodup_range->Xd,getElem?_range->Xf,mem_filterMap->Xh,mem_of_getElem?->Xj,getElem?_of_mem->Xl,ne_nil_of_mem->Xp,getElem?_replicate->Xr,length_drop->Xt,length_singleton->Xy,length_filter_le->Xz,getElem?_drop->XD,getElem?_take->XE,nodup_cons->XH,of_mem_zip->XI,not_mem_nil->XQ,lookup_cons->XR,mem_flatten->XS,length_replicate->XV,take_append_drop->XY,getElem?_eq_none->XZ,singleton_append->X0,contains_iff_mem->X1,exists_mem_of_ne_nil->X3,foldl_cons->X5,zipWith->X8,length_erase_of_mem->Yd,drop_length->Yf,filter_cons->Yi,length_pos_of_mem->Yn,find?_eq_none->Yo,all_cons->Ys,any_cons->Yt,mem_of_mem_erase->Yv,lookup->Yy,mem_of_mem_drop->Yz,count_le_length->YC,range_eq_range'->YD,countP_cons->YG,range_succ->YT,length->YZ,drop_zero->Y5,length_range->Y6,any_eq_true->Zc,mem_append_left->Zh,mem_of_mem_take->Zk,range'->Zl,map_const'->Zm,forIn_cons->Zn,find?_some->Zp,filterMap_cons->Zq,length_zipWith->Zs,any_map->Zv,idxOf_lt_length_of_mem->Zz,filter_filter->ZJ,perm_append_singleton->ZL,take_sublist->ZP,nodup_append->ZV,ext_getElem?->ZW,flatMap_cons->ZX,getElem?_take_of_lt->Z1,length_filterMap_le->Z5,map_take->Z6,ext_getElem->Ñ,filter_eq_nil_iff->Đ,length_nil->Ò,nil_append->Ó,length_zip->Ô,getElem?_zipWith->đ,dropLast_eq_take->Ē,replicate_succ->ē,getElem_of_mem->Ĕ,filter_sublist->ĕ,filter_eq_self->Ė,map_drop->Õ,zip_cons_cons->ė,count_pos_iff->Ę,map_snd_zip->ę,getElem_map->Ě,zipIdx_cons->ě,perm_middle->Ĝ,map_fst_zip->ĝ,range'_succ->Ğ,length_set->ğ,zipIdx_nil->Ġ,countP_map->ġ,foldl->Ö,forIn_nil->Ģ,nodup_nil->ģ,drop_drop->Ĥ,drop_left->ĥ
open Nat renaming le_refl->o_,lt_of_lt_of_le->B_,ne_of_lt->L_,le_trans->O_,zero_le->Xe,lt_irrefl->Xo,ne_of_gt->Xu,lt_succ_of_lt->Xw,lt_succ_self->XB,mul_pos->YA,le_of_eq->Y2,dvd_mul_left->Zb,dvd_trans->Zg,succ_mul->Zw,zero_add->Zx,lt_of_le_of_lt->ZG,mod_lt->ZM,log2_lt->ZU,mul_div_cancel_left->Ħ,mod_eq_of_lt->Ø,add_sub_cancel_left->ħ,lt_of_succ_lt_succ->Ĩ,div_le_self->Ù,pow_dvd_pow->Ú,min_eq_left->Û,le_succ->À,pow_le_pow_right->ĩ,mul_le_mul_right->Ī,mul_le_mul_left->ī,pos_of_ne_zero->Ĭ,le_of_lt->Ü,mul_comm->Ý,lt_trans->Þ,pow_succ->Ā,dvd_antisymm->ĭ,add_mul->ā,le_of_dvd->Į
open Bool renaming false_ne_true->y_,and_eq_true->Q_,eq_iff_iff->WV,false_eq_true->į
open PySem.PassesOwn renaming never->z_
open PySem.Str renaming join->N_,append_assoc->Yh,ofString->Yl,empty->Yr,append_empty->Ze,length->Á
open Option.some renaming inj->WU
open PyProof.Rows renaming slot_tuple_getitem->W1,callWith_type1->XJ,IntsAre->Yx,envOfC->YK,AllBare->Zf,subscriptTail_builtinR->İ,boot_min->ı,firstMet->ø,seqObj->ï,step_dedup->Â,IsTup->ã,tail_any->Ã
open PySem.Builtin.Str renaming occurrences->W2,strKind->YN
open Int renaming toNat_natCast->Xg,gcd_dvd_right->X9,eq_of_mul_eq_mul_right->YB,toNat_of_nonneg->YM,natCast_mul->YS,gcd->YU,natAbs_natCast->YX,natCast_nonneg->YY,gcd_dvd_left->Za,mul_lt_mul_of_pos_right->Zy,fdiv_eq_ediv_of_nonneg->ZI,lt_of_mul_lt_mul_right->ZK,mul_ediv_cancel_left->Z4,natCast_dvd_natCast->Ĳ,emod_nonneg->Ă,dvd_mul_right->ĳ,natAbs_mul->Ĵ,dvd_trans->ĵ,ofNat_inj->Ķ
open PySem.PyData renaming canLay0->Xk,depth->Xx,canLayAll0->ZS,depthAll->ă,eqv->ķ
open False renaming elim->XG
open Classical renaming byContradiction->X2
open Ne renaming symm->X6
open Option renaming map_eq_some_iff->Ym,isSome_map->ZR,map_some->Ą,getD_none->ĸ,map_none->Ĺ,isSome->ĺ
open LawfulBEq renaming eq_of_beq->Yu
open PySem.Builtin.Slice renaming slicePlaces->YI,sliceAdjust->ZO,slicePartIndex->ŋ,sliceApplied->Ō
open PySem.Builtin.SmallTypes renaming nextOf->YJ,ownedTupleIsFree->YR,ownedTupleHandOut->ō
open PySem.Builtin.Int renaming intBits->YL,intTooBig->Ļ
open PySem.Builtin.List renaming listTooLong->YQ,listFitsIndex->ZF
open PySem.Obj renaming mapSeq->YV,data_mapFields->ļ
open PySem.StrLaws renaming join_length_le->Y7,glued_eq_join->Y9,At->Zd,join_split->ZN,sumLen_le->ZY,partsBetween_eq->Ľ,subAt_eq->ľ
open Array renaming getElem?_toList->Y8,perm_iff_toList_perm->ZH,toList_append->Ŀ,toList_inj->ŀ
open PySem.Heap.SameBut renaming update->Zr
open PySem.Calls renaming Name_function_global->ZC,callWith_builtin->Ł
open PySem.SeqAt.EqAt renaming int_int->ZD,int_str->ł,str_int->Ń,same->ń
open PySem.Builtin.Tuple renaming tupleItemsOf->ZE,tupleCompareSizes->Ŏ,tupleExact->ŏ
open Function renaming comp_def->ZZ
open List.cons renaming inj->Z7
open PySem.Builtin.Range renaming rangeSize->Z8
open Eq renaming trans->ò
open PyProof.Rows.IntsAre renaming int_at->ą,nums->Ņ
open PySem.SeqAt renaming EqAt->Ä,shaped->ņ
open PySem.MeetsSeq renaming EqGives->Ň
open PySem.Shared renaming heap->Ć
open PySem.Builtin.Frozenset renaming updateFrom->Ő
open ToString renaming toString->Å
open PyProof.Rows.SortSt renaming mk'->ć
open PySem.Value renaming isStrOf->ň,isInt->ŉ
open List.Pairwise renaming imp_of_mem->ő
open PyProof.Rows.IsTup renaming new->Ĉ
open PySem.Walks renaming tuple->Ŋ
set_option Elab.async false
set_option linter.all false
set_option exponentiation.threshold 3000
set_option maxRecDepth 100000
set_option maxHeartbeats 4000000
def Q_a:=@PySem.wpAny_loadPart'
def Q_b:=@decide_eq_false
def Q_c:=@decide_eq_true
def Q_d:=@if_pos
def Q_e:=@if_neg
def Q_f:=@absurd
def Q_g:=@congrArg
def Q_h:=@decide_eq_true_iff
def Q_i:=@decide_eq_true_eq
def Q_j:=@or_false
def Q_k:=@if_true
section
namespace L2
open PySem PySem.Spec PyProof.Rows
abbrev bG:=Sum Int Str
def jF:bG->a_->Bool
|.inl k,v=>ŉ k v
|.inr x,v=>ň x v
def C1(w:P_):bG->Int
|.inl k=>hashInt k
|.inr x=>hashStr w x
theorem keyIs_shape:∀{k:bG}{v:a_},jF k v=true->(∃i t,k=Sum.inl i/\v=Value.int i t)\/(∃x t,k=Sum.inr x/\v=Value.str x t)
|.inl i,v,h=>by obtain⟨t,e⟩:=Value.isInt_shape (k:=i) (v:=v) h;exact .inl ⟨i,t,rfl,e⟩
|.inr x,v,h=>by obtain⟨t,e⟩:=Value.isStrOf_shape (x:=x) (v:=v) h;exact .inr ⟨x,t,rfl,e⟩
theorem QC(i:Int)(t:Tok):jF (.inl i) (.int i t)=true:=by simp[jF,ŉ]
theorem wn(x:Str)(t:Tok):jF (.inr x) (.str x t)=true:=by simp[jF,ň]
theorem Mh(a b:Int):decide ((Sum.inl a:bG)=Sum.inl b)=(a==b):=by grind
theorem Ml(a b:Str):decide ((Sum.inr a:bG)=Sum.inr b)=decide (a=b):=by grind
theorem Mi(a:Int)(b:Str):decide ((Sum.inl a:bG)=Sum.inr b)=false:=Q_b (by simp_all)
theorem Mj(a:Str)(b:Int):decide ((Sum.inr a:bG)=Sum.inl b)=false:=Q_b (by simp_all)
def jk(prog:E_)(w:P_):PySem.KeyKind prog w bG where
 is:=jF
 hash:=C1 w
 inj:=fun v a b ha hb=>by
  rcases keyIs_shape ha with⟨i,t,rfl,rfl⟩|⟨x,t,rfl,rfl⟩
  .rcases keyIs_shape hb with⟨j,u,rfl,e⟩|⟨y,u,rfl,e⟩
   .injection e with e1 _;rw[e1]
   .exact nomatch e
  .rcases keyIs_shape hb with⟨j,u,rfl,e⟩|⟨y,u,rfl,e⟩
   .exact nomatch e
   .injection e with e1 _;rw[e1]
 byValue:=fun k v h=>by rcases keyIs_shape h with⟨i,t,rfl,rfl⟩|⟨x,t,rfl,rfl⟩ <;> rfl
 pyHash:=fun hv h=>by
  rcases keyIs_shape hv with⟨i,t,rfl,rfl⟩|⟨x,t,rfl,rfl⟩
  .exact wpAny_pyHash_int h
  .exact wpAny_pyHash_str h
 eqBool:=fun hu hv h=>by
  rcases keyIs_shape hu with⟨i,t,rfl,rfl⟩|⟨x,t,rfl,rfl⟩
  .rcases keyIs_shape hv with⟨j,u,rfl,rfl⟩|⟨y,u,rfl,rfl⟩
   .rw[Mh]at h;exact wpAny_eqBool_int h
   .rw[Mi]at h;exact ł i t y u _ _ _ _ h
  .rcases keyIs_shape hv with⟨j,u,rfl,rfl⟩|⟨y,u,rfl,rfl⟩
   .rw[Mj]at h;exact Ń x t j u _ _ _ _ h
   .rw[Ml]at h;exact wpAny_eqBool_str h
 «strs»:=fun k x t v h=>by
  rcases keyIs_shape h with⟨i,u,rfl,e⟩|⟨y,u,rfl,e⟩
  .exact nomatch e
  .injection e with e1 _
   subst e1;cases v <;> rfl
inductive V where
 |non|bl (b:Bool)|int (i:Int)|str (x:Str)|byt (b:Array UInt8)|flt (b:UInt64)|ref (a:Addr)|ty (n:String)
 deriving DecidableEq
def aT:V->a_->Prop
|.non,u=>u=Value.none
|.bl b,u=>u=Value.bool b
|.int i,u=>∃t,u=Value.int i t
|.str x,u=>∃t,u=Value.str x t
|.byt b,u=>∃t,u=Value.bytes b t
|.flt b,u=>∃t,u=Value.float b t
|.ref a,u=>u=Value.ref a
|.ty n,u=>u=Value.type n
abbrev aK:List V->List a_->Prop:=Paired aT
theorem aK.length{xs:List V}{us:List a_}(r:aK xs us):xs.length=us.length:=Paired.length r
theorem aK.get:∀{xs:List V}{us:List a_}{i:Nat}{x:V},aK xs us->xs[i]? = some x->∃u,us[i]? = some u/\aT x u
|_,_,_,_,.nil,e=>by simp at e
|_,_,0,_,.cons r _,e=>by simp at e;subst e;exact⟨_,rfl,r⟩
|_,_,i+1,x,.cons _ t,e=>by obtain⟨u,L,B⟩:=aK.get (i:=i) (x:=x) t (by simpa using e);exact⟨u,by simpa using L,B⟩
theorem aK.set{x:V}{u:a_}(r:aT x u):∀{xs:List V}{us:List a_}(i:Nat),aK xs us->aK (xs.set i x) (us.set i u)
|_,_,_,.nil=>.nil
|_,_,0,.cons _ t=>.cons r t
|_,_,i+1,.cons q t=>.cons q (aK.set r i t)
theorem aK.append{xs B:List V}{us ws:List a_}(h:aK xs us)(h':aK B ws):aK (xs++B) (us++ws):=by induction h with
|nil=>exact h'
|cons r _ L=>exact .cons r L
theorem aK.take:∀{xs:List V}{us:List a_}(n:Nat),aK xs us->aK (xs.take n) (us.take n)
|_,_,0,_=>.nil
|_,_,_+1,.nil=>.nil
|_,_,n+1,.cons r t=>.cons r (aK.take n t)
theorem aK.drop:∀{xs:List V}{us:List a_}(n:Nat),aK xs us->aK (xs.drop n) (us.drop n)
|_,_,0,r=>r
|_,_,_+1,.nil=>.nil
|_,_,n+1,.cons _ t=>aK.drop n t
def d5:Option V->Option a_->Prop
|some v,some u=>aT v u
|none,none=>True
|_,_=>False
def KV{κ:Type}:List (κ×V)->List (κ×a_)->Prop:=Paired fun(p:κ×V)(q:κ×a_)=>p.1=q.1/\aT p.2 q.2
def kV:bG->V
|.inl i=>.int i
|.inr x=>.str x
inductive HO where
 |lst (xs:List V)
 |tup (xs:List V)
 |dK (kvs:List (bG×V))|dT (kvs:List (List bG×V))
 |set (S:Int->Bool) (n:Nat)
 |ins (C dx:Addr) (fs:List (Str×V))
 |own (x:Addr)
 |xd (fs:List (Str×V))
 |met (f x:Addr)
 |rng (lo hi:Int)
 |frz (o:Obj) (u:HO)
 |tbl (ps:Array a_)
 |ext (φ:Heap->Prop)
abbrev Hp:=Addr->Option HO
def aV(H:Hp)(a:Addr)(o:HO):Hp:=fun b=>if b=a then some o else H b
theorem cP{H:Hp}{a:Addr}{o:HO}:aV H a o a=some o:=by unfold aV;rw[Q_d rfl]
theorem bZ{H:Hp}{a b:Addr}{o:HO}(h:b≠a):aV H a o b=H b:=by unfold aV;rw[Q_e h]
theorem U1{H:Hp}{a b:Addr}{o u:HO}(h:H a=some o)(h':H b=some u)(d:o≠u):a≠b:=by grind
theorem nA{H:Hp}{a b:Addr}{o:HO}(h:H a=some o)(h':H b=none):a≠b:=by grind
section
variable(P:E_)(w:P_)
def dS(H:Hp)(h:Heap)(a:Addr):HO->Prop
|.lst xs=>xs.length<=sizeLine/\∃(its:List a_)(n:Nat),aK xs its/\h.get? a=some { cls:=.type "list",data:=.seq its.toArray n }
|.tup xs=>xs.length<=sizeLine/\∃its:List a_,aK xs its/\ã h a its.toArray/\∃o,h.get? a=some o/\o.dict=none
|.dK kvs=>kvs.length<=sizeLine/\(a==Yj)=false/\∃vs,KV kvs vs/\h.DictOf (jk P w) a vs
| .dT kvs=>kvs.length<=sizeLine/\(a == Yj)=false/\∃xs:List (List bG × Addr × a_),
   Paired (fun(p:List bG×V)(q:List bG×Addr×a_)=>p.1=q.1/\H q.2.1=some (.tup (p.1.map kV))/\aT p.2 q.2.2) kvs xs /\∃o es ep,h.get? a=some o/\o.ExactDict/\o.data=.dict es ep/\es.toList=xs.map (entryOfKey (þ (jk P w)))/\(xs.map (·.1)).Nodup
|.set S n=>h.SetOf (intKind P w) a S n
| .ins C dx fs=>H dx=some (.own a)/\fs.length<=1000/\dx≠a/\h.get? a=some (W.instObj C dx) /\
   ∃mA,h.Ns1 dx mA/\(∀f,d5 (fs.lookup f) (mA f))/\PySem.Within mA (fs.map (·.1))
|.own _=>∃o,h.get? a=some o
|.xd fs=>∃mA,h.Ns1 a mA/\∀f,d5 (fs.lookup f) (mA f)
|.rng lo hi=>∃t u v,h.get? a=some { cls:=.type "range",data:=.fields #[.int lo t,.int hi u,.int 1 v] }
|.frz o u=>h.get? a=some o/\dS H h a u
|.tbl ps=>h.get? a=some { cls:=.none,data:=.fields ps }
|.met f x=>h.get? a=some (W.methodObj (.ref f) (.ref x))
|.ext φ=>φ h/\(∃o,h.get? a=some o)/\∀h1 h2:Heap,φ h1->(∀o,h1.get? a=some o->h2.get? a=some o)->φ h2
def d7(H:Hp)(h:Heap):Prop:=∀a o,H a=some o->dS P w H h a o
end
variable{P:E_}{w:P_}{H H':Hp}{h h':Heap}{a:Addr}{o:HO}
theorem dS.lt(x:dS P w H h a o):a<h.objs.size:=by cases o with
|lst L=>obtain⟨_,_,_,_,e⟩:=x;exact x_ e
|tup L=>obtain⟨_,_,_,p,_⟩:=x;exact p.lt
|dK B=>obtain⟨_,_,_,_,o,_,_,e,_⟩:=x;exact x_ e
|dT B=>obtain⟨_,_,_,_,o,_,_,e,_⟩:=x;exact x_ e
|set S n=>obtain⟨o,_,_,_,e,_⟩:=x;exact x_ e
|ins C c M=>obtain⟨_,_,_,e,_⟩:=x;exact x_ e
|own y=>obtain⟨_,e⟩:=x;exact x_ e
|xd M=>obtain⟨_,⟨_,_,_,e,_⟩,_⟩:=x;exact x_ e
|rng Z b=>obtain⟨_,_,_,e⟩:=x;exact x_ e
|frz Y u=>obtain⟨e,_⟩:=x;exact x_ e
|tbl U=>exact x_ (x)
|met f y=>exact x_ (x)
|ext N=>obtain⟨_,⟨_,e⟩,_⟩:=x;exact x_ e
theorem Paired.mapP{L B:Type}{F G:L->B->Prop}{l₁:List L}{l₂:List B}(h:Paired F l₁ l₂)(f:∀a b,F a b->G a b):Paired G l₁ l₂:=by induction h with
|nil=>exact .nil
|cons r _ M=>exact .cons (f _ _ r) M
theorem dS.stay(x:dS P w H h a o)(k:∀b u,(b=a\/H b=some (.own a))->h.get? b=some u->h'.get? b=some u)(E:∀b,H b=some (.own a)->H' b=some (.own a))(A:∀b xs,H b=some (.tup xs)->H' b=some (.tup xs)):dS P w H' h' a o:=by induction o with
|lst xs=>obtain⟨z,U,n,r,e⟩:=x;exact⟨z,U,n,r,k _ _ (.inl rfl) e⟩
|tup xs=>obtain⟨z,U,r,⟨L,e,c⟩,B,g,G⟩:=x;exact⟨z,U,r,⟨L,k _ _ (.inl rfl) e,c⟩,B,k _ _ (.inl rfl) g,G⟩
|dK Z=>obtain⟨z,y,l,r,L,M,N,e,c⟩:=x;exact⟨z,y,l,r,L,M,N,k _ _ (.inl rfl) e,c⟩
|dT Z=>obtain⟨z,y,xs,r,L,M,N,e,c⟩:=x;exact⟨z,y,xs,Paired.mapP r fun p q z=>⟨z.1,A _ _ z.2.1,z.2.2⟩,L,M,N,k _ _ (.inl rfl) e,c⟩
|set S n=>obtain⟨L,M,N,t,e,c⟩:=x;exact⟨L,M,N,t,k _ _ (.inl rfl) e,c⟩
|ins C O F=>obtain⟨d,z,m,e,mA,⟨Y,M,N,g,c⟩,r⟩:=x;exact⟨E _ d,z,m,k _ _ (.inl rfl) e,mA,⟨Y,M,N,k _ _ (.inr d) g,c⟩,r⟩
|own y=>obtain⟨L,e⟩:=x;exact⟨L,k _ _ (.inl rfl) e⟩
|xd F=>obtain⟨mA,⟨Y,M,N,e,c⟩,r⟩:=x;exact⟨mA,⟨Y,M,N,k _ _ (.inl rfl) e,c⟩,r⟩
|rng J K=>obtain⟨t,u,v,e⟩:=x;exact⟨t,u,v,k _ _ (.inl rfl) e⟩
|frz L u s=>obtain⟨e,q⟩:=x;exact⟨k _ _ (.inl rfl) e,s q⟩
|tbl j=>have e:h.get? a=some { cls:=.none,data:=.fields j }:=x;show h'.get? a=some { cls:=.none,data:=.fields j };exact k a _ (.inl rfl) e
|met f y=>have e:h.get? a=some (W.methodObj (.ref f) (.ref y)):=x;show h'.get? a=some (W.methodObj (.ref f) (.ref y));exact k a _ (.inl rfl) e
|ext I=>obtain⟨p,⟨o,e⟩,i⟩:=x;exact⟨i _ _ p fun o q=>k _ _ (.inl rfl) q,⟨o,k _ _ (.inl rfl) e⟩,i⟩
theorem d7.lt(x:d7 P w H h)(e:H a=some o):a<h.objs.size:=(x a o e).lt
theorem d7.fresh(x:d7 P w H h)(e:h.objs.size<=a):H a=none:=by cases q:H a with
|none=>rfl
|some u=>exact Q_f (B_ (x.lt q) e) (Xo _)
theorem d7.kept(x:d7 P w H h)(k:∀b u,h.get? b=some u->h'.get? b=some u):d7 P w H h':=fun a o e=>(x a o e).stay (fun b u _ q=>k b u q) (fun _ q=>q) fun _ _ q=>q
theorem d7.laid(x:d7 P w H h)(k:∀b u,h.get? b=some u->h'.get? b=some u)(N:h.objs.size<=a)(B:dS P w (aV H a o) h' a o):d7 P w (aV H a o) h':=fun b u e=>by
 have L:=x.fresh N;by_cases M:b=a
 .subst M;rw[cP]at e;cases e;exact B
 .rw[bZ M]at e;exact(x b u e).stay (by grind) (fun c q=>by rw[bZ (nA q L)];exact q) fun c U q=>by rw[bZ (nA q L)];exact q
def Rd(H:Hp)(a:Addr)(u:HO):Prop:=H a=some u\/∃o,H a=some (.frz o u)
theorem Rd.ok{P:E_}{w:P_}{H:Hp}{h:Heap}{a:Addr}{u:HO}(r:Rd H a u)(x:d7 P w H h):dS P w H h a u:=by
 rcases r with r|⟨o,r⟩
 .exact x a u r
 .obtain⟨_,q⟩:=x a _ r;exact q
def tV:Option HO->Prop
|some (.lst _)=>True
|some (.dK _)=>True
|some (.dT _)=>True
|some (.set _ _)=>True
|some (.ins _ _ _)=>True
|some (.ext _)=>True
|_=>False
section
variable{x e:Addr}{o':HO}
theorem d7.write(d:d7 P w H h)(U:tV (H x))(g:e=x\/H e=some (.own x))(k:∀b u,b≠e->h.get? b=some u->h'.get? b=some u)(M:∃u,h'.get? e=some u)(Y:dS P w (aV H x o') h' x o'):d7 P w (aV H x o') h':=fun b u q=>by
 have B:∀c y,H c=some (.own y)->c≠x:=fun c y r z=>by subst z;rw[r]at U;exact U
 have L:∀c N,H c=some (.tup N)->c≠x:=fun c N r z=>by subst z;rw[r]at U;exact U
 by_cases a:b=x
 .subst a;rw[cP]at q;cases q;exact Y
 .rw[bZ a]at q;by_cases Z:b=e
  .have q':H b=some (.own x):=by simp_all
   rw[q]at q';cases q';obtain⟨v,f⟩:=M;exact⟨v,by rw[Z];exact f⟩
  .refine(d b u q).stay (fun c v i r=>k c v ?_ r) (fun c r=>by rw[bZ (B c b r)];exact r) fun c N r=>by rw[bZ (L c N r)];exact r
   grind
end
structure Un(fs ex:List Addr)(H H':Hp)(h h':Heap):Prop where
 keep:∀b o,h.get? b=some o->H b=none->b∉fs->b∉ex->h'.get? b=some o
 slot:∀b o,h.get? b=some o->H b=none->b∈fs->b∉ex->∃sl,h'.get? b=some { o with slots:=sl }
 free:∀b o,h.get? b=some o->H b=none->b∉ex->H' b=none
 there:∀b o,h.get? b=some o->b∉ex->∃o',h'.get? b=some o'
 tups:∀b xs,H b=some (.tup xs)->H' b=some (.tup xs)
 frzs:∀b o u,H b=some (.frz o u)->H' b=some (.frz o u)
 tbls:∀b ps,H b=some (.tbl ps)->∃more,H' b=some (.tbl (ps++more))
section
variable{fs fs' ex ex':List Addr}{H1 H2:Hp}{h1 h2:Heap}{x e:Addr}
theorem Un.any(u:Un fs ex H H1 h h1){b:Addr}{B:Obj}(q:h.get? b=some B)(n:H b=none)(L:b∉ex):∃N,h1.get? b=some { B with slots:=N }:=by
 by_cases M:b∈fs
 .exact u.slot b B q n M L
 .exact⟨B.slots,u.keep b B q n M L⟩
theorem Un.kept(k:∀b u,h.get? b=some u->h'.get? b=some u):Un fs ex H H h h':=⟨fun b B q _ _ _=>k b B q,fun b B q _ _ _=>⟨B.slots,k b B q⟩,fun _ _ _ n _=>n,fun b B q _=>⟨B,k b B q⟩,fun _ _ q=>q,fun _ _ _ q=>q,fun _ L q=>⟨#[],by rw[q];simp⟩⟩
theorem Un.refl:Un fs ex H H h h:=Un.kept fun _ _ q=>q
theorem Un.laid(k:∀b u,h.get? b=some u->h'.get? b=some u)(M:h.objs.size<=a)(B:H a=none):Un fs ex H (aV H a o) h h' where
 keep:=fun b u q _ _ _=>k b u q
 slot:=fun b u q _ _ _=>⟨u.slots,k b u q⟩
 free:=fun b u q n _=>by rw[bZ (L_ (B_ (x_ q) M))];exact n
 there:=fun b u q _=>⟨u,k b u q⟩
 tups:=fun b L q=>by rw[bZ (nA q B)];exact q
 frzs:=fun b u L q=>by rw[bZ (nA q B)];exact q
 tbls:=fun b N q=>⟨#[],by rw[bZ (nA q B),q];simp⟩
theorem Un.write(M:tV (H x))(c:e=x\/H e=some (.own x))(k:∀b u,b≠e->h.get? b=some u->h'.get? b=some u)(B:∃u,h'.get? e=some u):Un fs ex H (aV H x o) h h':=by
 have Y:∀b,H b=none->b≠x:=fun b n z=>by subst z;rw[n]at M;exact M
 have N:∀b,H b=none->b≠e:=fun b n z=>by simp_all
 have L:∀b u,H b=some u->¬ tV (some u)->b≠x:=fun b u q a z=>by simp_all
 refine⟨fun b u q n _ _=>k b u (N b n) q,fun b u q n _ _=>⟨u.slots,k b u (N b n) q⟩,fun b u q n _=>by rw[bZ (Y b n)];exact n,fun b u q _=>?_,fun b U q=>by rw[bZ (L b _ q fun z=>z)];exact q,fun b u U q=>by rw[bZ (L b _ q fun z=>z)];exact q,fun b Z q=>⟨#[],by rw[bZ (L b _ q fun z=>z),q];simp⟩⟩
 grind
end
def trk(h:Heap)(H:Hp):List Addr:=(g_ h.objs.size).filter fun a=>(H a).isSome
def mE(h:Heap)(H:Hp):Heap:=W.hideAll h (trk h H)
theorem Ox{h:Heap}{H:Hp}{b:Addr}{o:Obj}(e:(mE h H).get? b=some o):h.get? b=some o/\H b=none:=by have B:=W.of_hideAll _ e;refine⟨B,?_⟩;cases q:H b with
|none=>rfl
|some x=>have L:b∈trk h H:=n_.mpr ⟨p_.mpr (x_ B),by simp[q]⟩;have z:(mE h H).get? b=none:=W.hideAll_none _ L;rw[z]at e;cases e
def rh(g h:Heap)(L:Addr):List (Addr×Obj):=(g_ h.objs.size).filterMap fun a=>if a=L\/(g.get? a).isSome=true then none else(h.get? a).map fun o=>(a,o)
theorem Bn{g h:Heap}{L a:Addr}{o:Obj}(N:a≠L)(M:g.get? a=none)(B:h.get? a=some o):(a,o)∈rh g h L:=Xh.mpr ⟨a,p_.mpr (x_ B),by simp[N,M,B]⟩
theorem T5{g h:Heap}{L:Addr}{p:Addr×Obj}(B:p∈rh g h L):p.1≠L/\g.get? p.1=none/\h.get? p.1=some p.2:=by
 obtain⟨b,_,e⟩:=Xh.mp B;split at e
 .cases e
 .rename_i hn;cases q:h.get? b with
 |none=>simp_all
 |some u=>rw[q]at e;simp  at e;subst e;refine⟨fun z=>hn (.inl z),?_,q⟩;cases r:g.get? b with
  |none=>rfl
  |some v=>simp_all
def rest(g h:Heap)(L d:Addr):List (Addr×Obj):=(rh g h L).filter fun p=>decide (p.1≠d)
theorem Hv{g h:Heap}{L:Addr}:News g L h (rh g h L):=fun p B=>let⟨a,b,c⟩:=T5 B;⟨c,a,b⟩
structure Mod(K:W.Frag)(mg:Str->Option a_)(base:Heap):Prop where
 kin:K.In base
 glob:base.Ns U_ mg
 blt:∃mb,base.Ns Ì mb/\∀x:Str,x≠"__name__"->mb x=YE x
 nolimit:base.NoLimit
structure Cx where
 prog:E_
 w:P_
 K:W.Frag
 mg:Str->Option a_
 base:Heap
 A:V_
 N:List Str
 s₀:e_
 H₀:Hp
 env:Env
 outer:List Env
 stack:List Env
 ex:List Addr
 fn:Str->Bool
 calm:Bool
 pn:List (Addr×Obj)
 xe:a_->e_->Prop
def i8(l:List Env):List Addr:=l.filterMap (·.frame)
abbrev Cx.fs(X:Cx):List Addr:=i8 X.outer
def gz(sc:YH)(x:Str):Prop:=sc.names.lookup x=some .local\/sc.names.lookup x=some .cell\/sc.names.lookup x=some .free
def jY(sc:YH)(x:Str):Prop:=sc.names.lookup x=some .local\/sc.names.lookup x=some .cell
def Dg(env:Env)(h:Heap)(m:Str->Option a_)(x:Str)(u:a_):Prop:=(env.kindOf x=some .local/\m x=some u)\/((env.kindOf x=some .cell\/env.kindOf x=some .free)/\∃c,env.cells.lookup x=some c/\h.IsCell c (some u))
structure Cx.Ok(X:Cx):Prop where
 mod:Mod X.K X.mg X.base
 kind:X.env.scope.kind=.function
 glob:X.env.globals=U_
 blt:X.env.builtins=Ì
 above:X.s₀.heap.objs.size<=X.env.locals
 inj:∀x y c,X.env.cells.lookup x=some c->X.env.cells.lookup y=some c->x=y
 has:∀x,(X.env.kindOf x=some .cell\/X.env.kindOf x=some .free)->∃c,X.env.cells.lookup x=some c
 cab:∀x c,X.fn x=true->X.env.cells.lookup x=some c->X.s₀.heap.objs.size<=c
 hd:X.calm=true->X.A.handled=none
 frames:X.A.frames=some X.stack
 stk:X.stack=X.outer\/(X.stack=X.env::X.outer/\X.env.frame=some X.env.locals)
 exf:∀b∈X.ex,b≠X.env.locals/\∀x c,X.env.cells.lookup x=some c->c≠b
 bs:∀b o,X.base.get? b=some o->X.s₀.heap.get? b=some o/\X.H₀ b=none
 bsz:X.base.objs.size<=X.s₀.heap.objs.size
 noex:∀b o,X.base.get? b=some o->b∉X.ex
 exfs:∀b∈X.ex,b∉X.fs
 funs:X.s₀.heap.FunFrames X.base X.outer
 frf:∀b∈X.fs,X.H₀ b=none
structure Inv(X:Cx)(pz:List (Addr×Obj))(σ:List (Option V))(H:Hp)(s:e_):Prop where
 ok:X.Ok
 os:s.os=X.s₀.os
 bare:Zf s.gens
 base:Un X.fs X.ex X.H₀ H X.s₀.heap s.heap
 loc:∃m,s.heap.Ns X.env.locals m/\∀(i:Nat)(x:Str)(v:V),X.N[i]? = some x->σ[i]? = some (some v)->gz X.env.scope x->∃u,aT v u/\Dg X.env s.heap m x u
 cell:∀x c,X.env.cells.lookup x=some c->∃v,s.heap.IsCell c v
 free:H X.env.locals=none
 freeC:∀x c,X.env.cells.lookup x=some c->H c=none
 pin:∀p∈X.pn++pz,s.heap.get? p.1=some p.2/\H p.1=none/\p.1≠X.env.locals/\p.1∉X.fs/\∀v,p.2.data≠.cell v
 hok:d7 X.prog X.w H s.heap
 len:σ.length=X.N.length
variable{X:Cx}{pz:List (Addr×Obj)}{s:e_}
section
variable{σ:List (Option V)}
theorem Inv.bs(I:Inv X pz σ H s):∀b o,X.base.get? b=some o->s.heap.get? b=some o/\H b=none:=fun b o e=>⟨I.base.keep b o (I.ok.bs b o e).1 (I.ok.bs b o e).2 ((fun e=>fun B=>by have:=(I.ok.funs.mem B).1;simp_all) e) (I.ok.noex b o e),I.base.free b o (I.ok.bs b o e).1 (I.ok.bs b o e).2 (I.ok.noex b o e)⟩
theorem Inv.bk(I:Inv X pz σ H s):∀b o,X.base.get? b=some o->s.heap.get? b=some o:=fun b o e=>(I.bs b o e).1
theorem Inv.mod(I:Inv X pz σ H s):Mod X.K X.mg X.base:=I.ok.mod
theorem Inv.kIn(I:Inv X pz σ H s):X.K.In s.heap:=I.ok.mod.kin.keeps I.bk
theorem Inv.fr(I:Inv X pz σ H s):∃m,Fr X.base X.env.locals s.heap m:=let⟨m,B,_⟩:=I.loc
 ⟨m,B,I.bk,O_ I.ok.bsz I.ok.above⟩
theorem Inv.lt(I:Inv X pz σ H s):X.env.locals<s.heap.objs.size:=let⟨_,B,_⟩:=I.loc;B.lt
theorem Inv.sz(I:Inv X pz σ H s):X.s₀.heap.objs.size<=s.heap.objs.size:=O_ I.ok.above (Ü I.lt)
theorem Inv.nofs(I:Inv X pz σ H s){a:Addr}(h:s.heap.objs.size<=a):a∉X.fs:=fun L=>by obtain⟨_,o,B,_⟩:=I.ok.funs.mem L;exact Q_f (B_ (x_ B) (O_ I.sz h)) (Xo _)
theorem Inv.cne(I:Inv X pz σ H s):∀x c,X.env.cells.lookup x=some c->c≠X.env.locals:=fun x c e z=>by obtain⟨v,o,N,U⟩:=I.cell x c e;obtain⟨m,⟨M,Y,Z,B,L,_⟩,_⟩:=I.loc;simp_all
theorem Inv.funs(I:Inv X pz σ H s):s.heap.FunFrames X.base X.outer:=by
 have M:∀(l:List Env),(∀b∈i8 l,b∈X.fs)->X.s₀.heap.FunFrames X.base l->s.heap.FunFrames X.base l:=by
  intro l
  induction l with
 |nil=>intro _ _;trivial
 |cons g r U=>intro N a;obtain⟨c,⟨L,o,d,i,Z,j⟩,Y⟩:=a;have B:=N L (by unfold i8;simp_all);obtain⟨h,e⟩:=I.base.slot L o Z (I.ok.frf L B) B fun z=>I.ok.exfs L z B;exact⟨c,by simp_all,U (fun b f=>N b (by unfold i8;rw[Zq,d];exact l_ _ f)) Y⟩
 exact M X.outer (by simp_all) I.ok.funs
theorem Inv.stack(I:Inv X pz σ H s):s.heap.FunFrames X.base X.stack:=by
 rcases I.ok.stk with e|⟨e,L⟩
 .rw[e];exact I.funs
 .rw[e];obtain⟨m,B,_⟩:=I.loc;refine .cons (by rw[I.ok.kind];decide) L B ?_ I.funs;exact ď (O_ I.ok.bsz I.ok.above)
theorem Inv.stkSub(I:Inv X pz σ H s):∀b∈i8 X.stack,b∈X.env.locals::X.fs:=fun b B=>by
 rcases I.ok.stk with e|⟨e,L⟩
 .simp_all
 .rw[e]at B;unfold i8 at B;rw[Zq,L]at B;exact B
theorem Inv.stkFree(I:Inv X pz σ H s):∀b∈i8 X.stack,H b=none:=fun b B=>by
 rcases I_.mp (I.stkSub b B)with e|B
 .rw[e];exact I.free
 .obtain⟨_,o,ho,_⟩:=I.ok.funs.mem B;exact I.base.free b o ho (I.ok.frf b B) fun z=>I.ok.exfs b z B
theorem Inv.step{g':Array GenState}{t':Nat}{d':Drawn}{ch:List Addr}(I:Inv X pz σ H s)(L:∀b∈ch,(b∈X.ex\/X.s₀.heap.objs.size<=b)/\b≠X.env.locals/\(∀x c,X.env.cells.lookup x=some c->c≠b)/\∀p∈X.pn++pz,p.1≠b)(f:∀b o,b≠X.env.locals->b∉X.fs->b∉ch->s.heap.get? b=some o->H b=none->h'.get? b=some o)(g:∀b o,b≠X.env.locals->b∈X.fs->b∉ch->s.heap.get? b=some o->H b=none->∃K,h'.get? b=some { o with slots:=K })(a:∀b o,b∉ch->s.heap.get? b=some o->H b=none->H' b=none)(h:∀b o,b∉ch->s.heap.get? b=some o->∃C,h'.get? b=some C)(y:∀b xs,H b=some (.tup xs)->H' b=some (.tup xs))(F:∀b o u,H b=some (.frz o u)->H' b=some (.frz o u))(A:∀b J,H b=some (.tbl J)->∃E,H' b=some (.tbl (J++E)))(ns:∀m,s.heap.Ns X.env.locals m->h'.Ns X.env.locals m)(O:d7 X.prog X.w H' h')(hg:Zf g'):Inv X pz σ H' { s with heap:=h',gens:=g',drawn:=d',toks:=t' }:=by
 have Y:∀b o,X.s₀.heap.get? b=some o->b≠X.env.locals:=fun b o e=>L_ (B_ (x_ e) I.ok.above);have M:∀b o,X.s₀.heap.get? b=some o->b∉X.ex->b∉ch:=fun b o e N j=>by
  rcases(L b j).1 with z|z
  .exact N z
  .exact Q_f (B_ (x_ e) z) (Xo _)
 have U:∀x c,X.env.cells.lookup x=some c->∀v,s.heap.IsCell c v->h'.IsCell c v:=fun x c e v w=>by
  obtain⟨o,t,P⟩:=w
  have B:c∉ch:=fun z=>(L c z).2.2.1 x c e rfl;by_cases R:c∈X.fs
  .obtain⟨K,q⟩:=g c o (I.cne x c e) R B t (I.freeC x c e);exact⟨_,q,P⟩
  .exact⟨o,f c o (I.cne x c e) R B t (I.freeC x c e),P⟩
 refine⟨I.ok,I.os,hg,⟨fun b o e n j N=>?_,fun b o e n j N=>?_,fun b o e n N=>?_,fun b o e N=>?_,fun b xs e=>y b xs (I.base.tups b xs e),fun b o xs e=>F b o xs (I.base.frzs b o xs e),fun b J e=>?_⟩,?_,fun x c e=>?_,?_,fun x c e=>?_,fun p Q=>?_,O,I.len⟩
 .exact f b o (Y b o e) j (M b o e N) (I.base.keep b o e n j N) (I.base.free b o e n N)
 .obtain⟨K,e1⟩:=I.base.slot b o e n j N;obtain⟨Z,G⟩:=g b _ (Y b o e) j (M b o e N) e1 (I.base.free b o e n N);exact⟨Z,G⟩
 .obtain⟨C,e1⟩:=I.base.there b o e N;exact a b C (M b o e N) e1 (I.base.free b o e n N)
 .obtain⟨C,e1⟩:=I.base.there b o e N;exact h b C (M b o e N) e1
 .obtain⟨m1,e1⟩:=I.base.tbls b J e;obtain⟨T,G⟩:=A b _ e1;exact⟨m1++T,by rw[G,Array.append_assoc]⟩
 .obtain⟨m,hn,hl⟩:=I.loc;refine⟨m,ns m hn,fun i x v e1 G e3=>?_⟩;obtain⟨u,r,l⟩:=hl i x v e1 G e3;refine⟨u,r,?_⟩;rcases l with l|⟨k,c,e,z⟩
  .exact .inl l
  .exact .inr ⟨k,c,e,U x c e _ z⟩
 .obtain⟨v,z⟩:=I.cell x c e;exact⟨v,U x c e v z⟩
 .obtain⟨m,⟨o,_,_,t,_⟩,_⟩:=I.loc;exact a _ o (fun z=>(L _ z).2.1 rfl) t I.free
 .obtain⟨v,o,t,P⟩:=I.cell x c e;exact a c o (fun z=>(L c z).2.2.1 x c e rfl) t (I.freeC x c e)
 .obtain⟨e,n,ne,nf,d⟩:=I.pin p Q;have B:p.1∉ch:=fun z=>(L p.1 z).2.2.2 p Q rfl;exact⟨f p.1 p.2 ne nf B e n,a p.1 p.2 B e n,ne,nf,d⟩
theorem Inv.un{t':Nat}(I:Inv X pz σ H s)(u:Un X.fs [] H H' s.heap h')(N:d7 X.prog X.w H' h'):Inv X pz σ H' { s with heap:=h',toks:=t' }:=by obtain⟨m,⟨o,h,i,Y,r⟩,_⟩:=id I.loc;obtain⟨d,c⟩:=u.any Y I.free (by simp);exact I.step (ch:=[]) (by simp_all) (fun b o _ U _ e n=>u.keep b o e n U (by simp)) (fun b o _ U _ e n=>u.slot b o e n U (by simp)) (fun b o _ e n=>u.free b o e n (by simp)) (fun b o _ e=>u.there b o e (by simp)) u.tups u.frzs u.tbls (fun g a=>by obtain⟨f,L,M,B,Z⟩:=a;rw[Y]at B;cases B;exact⟨_,L,M,c,Z⟩) N I.bare
theorem Inv.call{g':Array GenState}{t':Nat}{d':Drawn}{ch:List Addr}(I:Inv X pz σ H s)(u:Un (i8 X.stack) ch H H' s.heap h')(Y:d7 X.prog X.w H' h')(g:Zf g')(L:∀b∈ch,(b∈X.ex\/X.s₀.heap.objs.size<=b)/\b≠X.env.locals/\(∀x c,X.env.cells.lookup x=some c->c≠b)/\∀p∈X.pn++pz,p.1≠b):Inv X pz σ H' { s with heap:=h',gens:=g',drawn:=d',toks:=t' }:=by obtain⟨m,⟨o,l,q,a,r⟩,_⟩:=id I.loc;obtain⟨i,Z⟩:=u.any a I.free fun z=>(L _ z).2.1 rfl;exact I.step L (fun b o Z h N e n=>u.keep b o e n (fun z=>(I_.mp (I.stkSub b z)).elim Z h) N) (fun b o _ _ N e n=>u.any e n N) (fun b o N e n=>u.free b o e n N) (fun b o N e=>u.there b o e N) u.tups u.frzs u.tbls (fun k f=>by obtain⟨j,M,U,B,d⟩:=f;rw[a]at B;cases B;exact⟨_,M,U,Z,d⟩) Y g
theorem Inv.turned{t':Nat}{it:Addr}(I:Inv X pz σ H s)(k:∀b o,b≠it->s.heap.get? b=some o->h'.get? b=some o)(N:H it=none)(M:it≠X.env.locals)(d:it∈X.ex\/X.s₀.heap.objs.size<=it)(a:∀x c,X.env.cells.lookup x=some c->c≠it)(Z:∀p∈X.pn++pz,p.1≠it):Inv X pz σ H { s with heap:=h',toks:=t' }:=by
 have B:∀b u,H b=some u->b≠it:=fun b u e z=>by rw[z,N]at e;cases e
 refine I.step (g':=s.gens) (d':=s.drawn) (ch:=[it]) (fun b Y=>?_) (fun b o _ _ L e _=>k b o (fun z=>L (by simp[z])) e) (fun b o _ _ L e _=>⟨o.slots,k b o (fun z=>L (by simp[z])) e⟩) (fun _ _ _ _ n=>n)
  (fun b o L e=>⟨o,k b o (fun z=>L (by simp[z])) e⟩) (fun _ _ e=>e) (fun _ _ _ e=>e) (fun b f e=>⟨#[],by rw[e];simp⟩) (fun m U=>?_) (fun b u e=>?_) I.bare
 .have e:b=it:=by simpa using Y
  subst e;exact⟨d,M,a,Z⟩
 .obtain⟨o,es,ep,ho,r⟩:=U;exact⟨o,es,ep,k _ o (X6 M) ho,r⟩
 .refine(I.hok b u e).stay (fun c v L q=>k c v ?_ q) (fun _ q=>q) fun _ _ q=>q;rcases L with z|z
  .rw[z];exact B b u e
  .exact B c _ z
theorem Inv.tok(I:Inv X pz σ H s)(t:Nat):Inv X pz σ H { s with toks:=t }:=I.un Un.refl I.hok
theorem Inv.kept{t':Nat}(I:Inv X pz σ H s)(k:∀b u,s.heap.get? b=some u->h'.get? b=some u):Inv X pz σ H { s with heap:=h',toks:=t' }:=I.un (Un.kept k) (I.hok.kept k)
theorem Inv.laid{a:Addr}{o:HO}{t':Nat}(I:Inv X pz σ H s)(k:∀b u,s.heap.get? b=some u->h'.get? b=some u)(L:s.heap.objs.size<=a)(B:dS X.prog X.w (aV H a o) h' a o):Inv X pz σ (aV H a o) { s with heap:=h',toks:=t' }:=I.un (Un.laid k L (I.hok.fresh L)) (I.hok.laid k L B)
theorem Inv.write{x e:Addr}{o:HO}{t':Nat}(I:Inv X pz σ H s)(M:tV (H x))(N:e=x\/H e=some (.own x))(k:∀b u,b≠e->s.heap.get? b=some u->h'.get? b=some u)(B:∃u,h'.get? e=some u)(L:dS X.prog X.w (aV H x o) h' x o):Inv X pz σ (aV H x o) { s with heap:=h',toks:=t' }:=I.un (Un.write M N k B) (I.hok.write M N k B L)
theorem Inv.pins_of{B:List (Addr×Obj)}(I:Inv X pz σ H s)(h:∀p∈B,s.heap.get? p.1=some p.2/\H p.1=none/\p.1≠X.env.locals/\p.1∉X.fs/\∀v,p.2.data≠.cell v):Inv X B σ H s:=⟨I.ok,I.os,I.bare,I.base,I.loc,I.cell,I.free,I.freeC,fun p L=>(W5.mp L).elim (fun z=>I.pin p (Zh _ z)) (h p),I.hok,I.len⟩
theorem Hw{N:List Str}(B:N.Nodup){i j:Nat}{x:Str}(a:N[i]? = some x)(b:N[j]? = some x):i=j:=by obtain⟨Y,M⟩:=c_.mp a;obtain⟨U,L⟩:=c_.mp b;exact(List.getElem_inj B).mp (M.trans L.symm)
theorem IP{M:Model}{A:V_}{E:a_->e_->Prop}{i:Nat}{x:Str}{v:V}{u:a_}{Q:Unit->e_->Prop}(I:Inv X pz σ H s)(hN:X.N.Nodup)(hi:X.N[i]? = some x)(g:jY X.env.scope x)(r:aT v u)(h:∀T,Inv X pz (σ.set i (some v)) H T->(∃a,Zt a s.heap T.heap/\(a=X.env.locals\/X.env.cells.lookup x=some a))->Q () T)(hf:X.fn x=true\/X.env.scope.names.lookup x=some .local:=by first|exact .inl rfl|exact .inr rfl|assumption):K_ M A (storeName X.env x u) Q E s:=by
 obtain⟨m,hn,hl⟩:=id I.loc;have U:(X.env.scope.kind==.class || (X.env.scope.kind==.module&&X.env.locals != X.env.globals))=false:=by rw[I.ok.kind];rfl
 have L:i<σ.length:=by rw[I.len];grind
 have F:=I.cne;have B:∀{a:Addr}{J:Heap},(∃o,s.heap.get? a=some o/\H a=none)->Zt a s.heap J->d7 X.prog X.w H J:=fun{a J} ha hs b ob e=>by
  refine(I.hok b ob e).stay (fun c O l q=>(hs.2 c ?_).trans q) (fun _ q=>q) fun _ _ q=>q
  grind
 rcases g with G|G
 .refine wpAny_storeName_local G hn (fun J BT hs=>?_) U;obtain⟨oL,_,_,Z,_⟩:=id hn;refine h _ ⟨I.ok,I.os,I.bare,⟨fun b o e n C g=>?_,fun b o e n C g=>?_,I.base.free,fun b o e g=>?_,I.base.tups,I.base.frzs,I.base.tbls⟩,⟨_,BT,fun j y P f t e3=>?_⟩,fun y c e=>?_,I.free,I.freeC,fun p hp=>?_,B ⟨oL,Z,I.free⟩ hs,by simpa using I.len⟩ ⟨_,hs,.inl rfl⟩
  .exact(hs.2 b (L_ (B_ (x_ e) I.ok.above))).trans (I.base.keep b o e n C g)
  .obtain⟨sl,f⟩:=I.base.slot b o e n C g;exact⟨sl,(hs.2 b (L_ (B_ (x_ e) I.ok.above))).trans f⟩
  .obtain⟨o',f⟩:=I.base.there b o e g;exact⟨o',(hs.2 b (L_ (B_ (x_ e) I.ok.above))).trans f⟩
  .by_cases hj:j=i
   .subst hj;rw[hi]at f;cases f;rw[u_ L]at t;cases t;exact⟨u,r,.inl ⟨G,by simp⟩⟩
   .rw[f_ (X6 hj)]at t;obtain⟨R,r',q⟩:=hl j y P f t e3;refine⟨R,r',?_⟩;rcases q with⟨k,e⟩|⟨k,c,e,z⟩
    .refine .inl ⟨k,?_⟩;have:y≠x:=fun e=>hj (Hw hN f (e▸hi));simp[this,e]
    .exact .inr ⟨k,c,e,z.sameBut hs (F y c e)⟩
  .obtain⟨O,z⟩:=I.cell y c e;exact⟨O,z.sameBut hs (F y c e)⟩
  .obtain⟨e,n,ne,nf,d⟩:=I.pin p hp;exact⟨(hs.2 p.1 ne).trans e,n,ne,nf,d⟩
 .have hfn:X.fn x=true:=by simp_all
  obtain⟨c,l⟩:=I.ok.has x (.inl G);obtain⟨O,z⟩:=I.cell x c l;refine wpAny_storeName_cell I.ok.kind G l z (fun J Y hs=>?_);obtain⟨oc,Cl,Id⟩:=id z;refine h { s with heap:=J } ⟨I.ok,I.os,I.bare,⟨fun b o e n C g=>?_,fun b o e n C g=>?_,I.base.free,fun b o e g=>?_,I.base.tups,I.base.frzs,I.base.tbls⟩,⟨m,hn.sameBut hs (X6 (F x c l)),fun j y P f t e3=>?_⟩,fun y K e=>?_,I.free,I.freeC,fun p hp=>?_,B ⟨oc,Cl,I.freeC x c l⟩ hs,by simpa using I.len⟩ ⟨c,hs,.inr l⟩
  .exact(hs.2 b (L_ (B_ (x_ e) (I.ok.cab x c hfn l)))).trans (I.base.keep b o e n C g)
  .obtain⟨sl,f⟩:=I.base.slot b o e n C g;exact⟨sl,(hs.2 b (L_ (B_ (x_ e) (I.ok.cab x c hfn l)))).trans f⟩
  .obtain⟨o',f⟩:=I.base.there b o e g;exact⟨o',(hs.2 b (L_ (B_ (x_ e) (I.ok.cab x c hfn l)))).trans f⟩
  .by_cases hj:j=i
   .subst hj;rw[hi]at f;cases f;rw[u_ L]at t;cases t;exact⟨u,r,.inr ⟨.inl G,c,l,Y⟩⟩
   .rw[f_ (X6 hj)]at t;obtain⟨R,r',q⟩:=hl j y P f t e3;refine⟨R,r',?_⟩;rcases q with q|⟨k,K,e,z'⟩
    .exact .inl q
    .refine .inr ⟨k,K,e,z'.sameBut hs ?_⟩
     rintro rfl
     exact hj (Hw hN f (I.ok.inj _ _ _ e l▸hi))
  .by_cases hcc:K=c
   .grind
   .obtain⟨w2,z2⟩:=I.cell y K e;exact⟨w2,z2.sameBut hs hcc⟩
  .obtain⟨e,n,ne,nf,d⟩:=I.pin p hp;refine⟨(hs.2 p.1 ?_).trans e,n,ne,nf,d⟩
   grind
theorem Hm{M:Model}{A:V_}{E:a_->e_->Prop}{i:Nat}{x:Str}{v:V}{u:a_}{Q:Unit->e_->Prop}(I:Inv X pz σ H s)(Y:X.N.Nodup)(hi:X.N[i]? = some x)(L:jY X.env.scope x)(r:aT v u)(h:∀B,Inv X pz (σ.set i (some v)) H B->Q () B)(U:X.fn x=true\/X.env.scope.names.lookup x=some .local:=by first|exact .inl rfl|exact .inr rfl|assumption):K_ M A (storeName X.env x u) Q E s:=IP I Y hi L r (fun B Z _=>h B Z) U
theorem Inv.call'{L:e_}{ch:List Addr}(I:Inv X pz σ H s)(N:L.os=s.os)(u:Un (i8 X.stack) ch H H' s.heap L.heap)(M:d7 X.prog X.w H' L.heap)(U:Zf L.gens)(B:∀b∈ch,(b∈X.ex\/X.s₀.heap.objs.size<=b)/\b≠X.env.locals/\(∀x c,X.env.cells.lookup x=some c->c≠b)/\∀p∈X.pn++pz,p.1≠b):Inv X pz σ H' L:=by obtain⟨a,d,f,Y,Z⟩:=L;have e:=N;subst e;exact I.call u M U B
end
abbrev XK:=a_->Option Addr->Hp->Prop
abbrev St:=List (Option V)
abbrev VK:=V->Hp->Prop
abbrev TE:=St->Hp->VK->Prop
abbrev TT:=St->Hp->(Bool->Hp->Prop)->Prop
abbrev TA:=St->Hp->(List V->Hp->Prop)->Prop
structure Ends where
 nx:St->Hp->Prop
 rt:VK
 bk:St->Hp->Prop:=fun _ _=>False
 ct:St->Hp->Prop:=fun _ _=>False
abbrev TS:=Ends->St->Hp->Prop
def EP(X:Cx)(pz:List (Addr×Obj))(σ:St)(Q:VK)(u:a_)(s':e_):Prop:=∃v H',Inv X pz σ H' s'/\aT v u/\Q v H'
def TP(X:Cx)(pz:List (Addr×Obj))(σ:St)(Q:Bool->Hp->Prop)(b:Bool)(s':e_):Prop:=∃H',Inv X pz σ H' s'/\Q b H'
def AP(X:Cx)(pz:List (Addr×Obj))(σ:St)(Q:List V->Hp->Prop)(us:List a_)(s':e_):Prop:=∃vs H',Inv X pz σ H' s'/\aK vs us/\Q vs H'
def SP(X:Cx)(pz:List (Addr×Obj))(D:Ends)(f:Flow)(s':e_):Prop:=match f with
|.next=>∃σ' H',Inv X pz σ' H' s'/\D.nx σ' H'
|.brk=>∃σ' H',Inv X pz σ' H' s'/\D.bk σ' H'
|.cont=>∃σ' H',Inv X pz σ' H' s'/\D.ct σ' H'
|.ret u=>∃v σ' H',Inv X pz σ' H' s'/\aT v u/\D.rt v H'
def PE(X:Cx)(e:Expr)(t:TE):Prop:=∀(pz:List (Addr×Obj))(s:e_)(σ:St)(H:Hp)(Q:VK),Inv X pz σ H s->t σ H Q->K_ (G_ X.prog X.w) X.A (eval e X.env) (EP X pz σ Q) X.xe s
def PT(X:Cx)(e:Expr)(t:TT):Prop:=∀(pz:List (Addr×Obj))(s:e_)(σ:St)(H:Hp)(Q:Bool->Hp->Prop),Inv X pz σ H s->t σ H Q->K_ (G_ X.prog X.w) X.A (isTrue e X.env (eval e X.env)) (TP X pz σ Q) X.xe s
def PW(X:Cx)(e:Expr)(t:TT):Prop:=∀(whole:Sem a_)(pz:List (Addr×Obj))(s:e_)(σ:St)(H:Hp)(Q:Bool->Hp->Prop),Inv X pz σ H s->t σ H Q->K_ (G_ X.prog X.w) X.A (isTrue e X.env whole) (TP X pz σ Q) X.xe s
theorem PW.pt{X:Cx}{e:Expr}{t:TT}(h:PW X e t):PT X e t:=h _
def PA(X:Cx)(es:List Expr)(t:TA):Prop:=∀(pos:Pos)(pz:List (Addr×Obj))(s:e_)(σ:St)(H:Hp)(Q:List V->Hp->Prop),Inv X pz σ H s->t σ H Q->K_ (G_ X.prog X.w) X.A (spliced (backTo pos (i_ es X.env))) (AP X pz σ Q) X.xe s
def PS(X:Cx)(st:Stmt)(t:TS):Prop:=∀(pz:List (Addr×Obj))(s:e_)(σ:St)(H:Hp)(D:Ends),Inv X pz σ H s->t D σ H->K_ (G_ X.prog X.w) X.A (exec st X.env) (SP X pz D) X.xe s
def d6(X:Cx)(st:List Stmt)(t:TS):Prop:=∀(pz:List (Addr×Obj))(s:e_)(σ:St)(H:Hp)(D:Ends),Inv X pz σ H s->t D σ H->K_ (G_ X.prog X.w) X.A (execs st X.env) (SP X pz D) X.xe s
theorem bQ{B:Type}{t:Sem B}{Q L:B->e_->Prop}{M:Model}{A:V_}{E:a_->e_->Prop}{s:e_}(h:K_ M A t Q E s)(N:∀a s,Q a s->L a s):K_ M A t L E s:=X_ h N fun _ _ x=>x
variable{b:Expr}{ta tb:TE}{pos:Pos}
section
def Cv(i:Nat):TE:=fun σ H Q=>∃v,σ[i]? = some (some v)/\Q v H
def tC(v:V):TE:=fun _ H Q=>Q v H
theorem gD{i:Nat}{x:Str}{U:Pos}(k:X.N[i]? = some x)(d:gz X.env.scope x)(Y:(x==("__debug__" : Str))=false:=by decide)(B:(x==("__classdict__" : Str))=false:=by decide):PE X (.Name x U) (Cv i):=by
 intro b s a H Q I h;obtain⟨v,e,h⟩:=h;obtain⟨m,f,j⟩:=I.loc;obtain⟨u,r,l⟩:=j i x v k e d;have fin:EP X b a Q u s:=⟨v,H,I,r,h⟩
 rcases l with⟨M,g⟩|⟨M,c,Z,L⟩
 .exact Í (wpAny_loadName_local I.ok.kind M f g fin) Y
 .rcases M with M|M
  .exact Í (wpAny_loadName_cell I.ok.kind M Z L fin) Y
  .exact Í (wpAny_loadName_free I.ok.kind M Z L fin B) Y
theorem U7{b j pos}:PE X (.Constant (.bool b) j pos) (tC (.bl b)):=fun _ _ _ H _ I h=>Constant_bool ⟨.bl b,H,I,rfl,h⟩
theorem Ex{x j pos}:PE X (.Constant (.str x) j pos) (tC (.str x)):=fun _ _ _ H _ I h=>Calls.Constant_str ⟨.str x,H,I.tok _,⟨_,rfl⟩,h⟩
def Gl(X:Cx)(x:Str):Prop:=X.env.kindOf x=some .globalImplicit
theorem vT{E:a_->e_->Prop}{pz:List (Addr×Obj)}{s:e_}{σ:St}{H:Hp}{x:Str}{u:a_}{B:Pos}{Q:a_->e_->Prop}(I:Inv X pz σ H s)(M:Gl X x)(L:X.mg x=some u)(h:Q u s)(N:(x==("__debug__" : Str))=false:=by decide):K_ (G_ X.prog X.w) X.A (eval (.Name x B) X.env) Q E s:=ZC I.ok.kind M (Calls.loadGlobal_global (by rw[I.ok.glob];exact I.mod.glob.keeps I.bk) L h) N
theorem pB{E:a_->e_->Prop}{pz:List (Addr×Obj)}{s:e_}{σ:St}{H:Hp}{x:Str}{u:a_}{B:Pos}{Q:a_->e_->Prop}(I:Inv X pz σ H s)(U:Gl X x)(N:X.mg x=none)(L:YE x=some u)(h:Q u s)(M:x≠"__name__" := by decide)(Y:(x==("__debug__" : Str))=false:=by decide):K_ (G_ X.prog X.w) X.A (eval (.Name x B) X.env) Q E s:=by obtain⟨b,a,Z⟩:=I.mod.blt;exact ZC I.ok.kind U (Calls.loadGlobal_builtin (by rw[I.ok.glob];exact I.mod.glob.keeps I.bk) N (by rw[I.ok.blt];exact a.keeps I.bk) ((Z x M).trans L) h) Y
theorem vN{x:Str}{v:V}{u:a_}{B:Pos}(M:Gl X x)(L:X.mg x=some u)(r:aT v u)(N:(x==("__debug__" : Str))=false:=by decide):PE X (.Name x B) (tC v):=fun _ _ _ H _ I h=>vT I M L ⟨v,H,I,r,h⟩ N
theorem OJ{x:Str}{v:V}{u:a_}{B:Pos}(U:Gl X x)(N:X.mg x=none)(L:YE x=some u)(r:aT v u)(M:x≠"__name__" := by decide)(Y:(x==("__debug__" : Str))=false:=by decide):PE X (.Name x B) (tC v):=fun _ _ _ H _ I h=>pB I U N L ⟨v,H,I,r,h⟩ M Y
variable{a:Expr}
def tB(t:TE):TT:=fun σ H Q=>t σ H fun x H1=>∃c,x=.bl c/\Q c H1
variable{tA tB':TT}{rest:List Expr}
def CK(t u:TT):TT:=fun σ H Q=>t σ H fun c H1=>if c=true then u σ H1 Q else Q false H1
def Vs(t u:TT):TT:=fun σ H Q=>t σ H fun c H1=>if c=true then Q true H1 else u σ H1 Q
def CA(t:TT):TT:=fun σ H Q=>t σ H fun c H1=>Q (! c) H1
theorem Ni(e:PT X a tA)(d:PW X (.BoolOp .And (b::rest) pos) tB'):PW X (.BoolOp .And (a::b::rest) pos) (CK tA tB'):=by intro Y M s B H Q I h;refine isTrue_and (bQ (e M s B H _ I h) fun c Z k=>?_);obtain⟨U,N,L⟩:=k;cases c with
|true=>exact d Y M Z B U Q N L
|false=>exact⟨U,N,L⟩
theorem U9(e:PT X a tA)(d:PW X (.BoolOp .Or (b::rest) pos) tB'):PW X (.BoolOp .Or (a::b::rest) pos) (Vs tA tB'):=by intro Y M s B H Q I h;refine isTrue_or (bQ (e M s B H _ I h) fun c Z k=>?_);obtain⟨U,N,L⟩:=k;cases c with
|true=>exact⟨U,N,L⟩
|false=>exact d Y M Z B U Q N L
theorem EA(M:PT X a tA):PT X (.UnaryOp .Not a pos) (CA tA):=by intro L s B H Q I h;exact isTrue_not (M L s B H _ I h)
def UD(ta tb:TE):TE:=fun σ H Q=>ta σ H fun x H1=>∃c,x=.bl c/\if c=true then tb σ H1 Q else Q (.bl false) H1
def UI(ta:TE):TE:=fun σ H Q=>ta σ H fun x H1=>∃c,x=.bl c/\Q (.bl (! c)) H1
theorem M6(e:PE X a ta)(d:PE X (.BoolOp .And (b::rest) pos) tb):PE X (.BoolOp .And (a::b::rest) pos) (UD ta tb):=by intro M s L H Q I h;refine BoolOp_and (bQ (e M s L H _ I h) fun v Y k=>?_);obtain⟨x,U,N,Z,B⟩:=k;obtain⟨c,rfl,B⟩:=B;cases Z;refine Yw ?_;cases c with
|true=>exact d M Y L U Q N B
|false=>exact⟨.bl false,U,N,rfl,B⟩
theorem M8(U:PE X a ta):PE X (.UnaryOp .Not a pos) (UI ta):=by intro N s L H Q I h;refine UnaryOp_ (bQ (U N s L H _ I h) fun v b k=>?_);obtain⟨x,Z,Y,M,B⟩:=k;obtain⟨c,rfl,B⟩:=B;cases M;exact not_of (Yw ⟨.bl (! c),Z,Y,rfl,B⟩)
def Vt(t:TT)(ta tb:TE):TE:=fun σ H Q=>t σ H fun c H1=>if c=true then ta σ H1 Q else tb σ H1 Q
theorem Qq{c:Expr}(Z:PT X c tA)(f:PE X a ta)(e:PE X b tb):PE X (.IfExp c a b pos) (Vt tA ta tb):=by intro L s B H Q I h;refine wpAny_IfExp (bQ (Z L s B H _ I h) fun d M k=>?_);obtain⟨Y,U,N⟩:=k;cases d with
|true=>exact f L M B Y Q U N
|false=>exact e L M B Y Q U N
end
def cL(K:W.Frag)(H:Hp)(a:Addr)(xs:List V):Prop:=Rd H a (.lst xs) \/∃(o:Obj)(its:Array a_)(n:Nat),K.lookup a=some o/\o.cls=.type "list"/\o.dict=none/\o.data=.seq its n/\its.size<=sizeLine/\aK xs its.toList
def dw(K:W.Frag)(H:Hp)(a:Addr)(xs:List V):Prop:=Rd H a (.tup xs) \/∃(o:Obj)(its:Array a_)(n:Nat),K.lookup a=some o/\o.cls=.type "tuple"/\o.data=.seq its n/\its.size<=sizeLine/\aK xs its.toList
def Db:a_->Option V
|.none=>some .non
|.bool b=>some (.bl b)
|.int i _=>some (.int i)
|.str x _=>some (.str x)
|.bytes b _=>some (.byt b)
|.float b _=>some (.flt b)
|.ref a=>some (.ref a)
|.type n=>some (.ty n)
|_=>none
theorem aT.abs{x:V}{u:a_}(r:aT x u):Db u=some x:=by cases x with
|non=>cases r;rfl
|bl _=>cases r;rfl
|int _=>obtain⟨t,rfl⟩:=r;rfl
|str _=>obtain⟨t,rfl⟩:=r;rfl
|byt _=>obtain⟨t,rfl⟩:=r;rfl
|flt _=>obtain⟨t,rfl⟩:=r;rfl
|ref _=>cases r;rfl
|ty _=>cases r;rfl
theorem aT.inj{x y:V}{u:a_}(r:aT x u)(q:aT y u):x=y:=WU (r.abs.symm.trans q.abs)
theorem aK.inj{xs B:List V}{us:List a_}(h:aK xs us)(h':aK B us):xs=B:=by induction h generalizing B with
|nil=>cases h';rfl
|cons r t N=>cases h' with
 |cons M L=>rw[r.inj M,N L]
variable{σ:St}
section
variable{xs ys:List V}
theorem cL.of{K:W.Frag}(h:H a=some (.lst xs)):cL K H a xs:=.inl (.inl h)
theorem Inv.list(I:Inv X pz σ H s)(h:cL X.K H a xs):∃B:List a_,aK xs B/\PlainL s.heap a B.toArray/\xs.length<=sizeLine:=by
 rcases h with h|⟨o,B,n,M,U,N,L,Y,r⟩
 .obtain⟨z,B,n,r,e⟩:=h.ok I.hok;exact⟨B,r,⟨_,n,e,rfl,rfl,rfl⟩,z⟩
 .refine⟨B.toList,r,⟨o,n,I.kIn a o M,U,N,by simpa using L⟩,?_⟩;have e:=r.length
  grind
theorem Inv.tuple(I:Inv X pz σ H s)(h:dw X.K H a xs):∃B:List a_,aK xs B/\ã s.heap a B.toArray/\xs.length<=sizeLine:=by
 rcases h with h|⟨o,B,n,M,N,L,U,r⟩
 .obtain⟨z,B,r,p,_⟩:=h.ok I.hok
  grind
 .refine⟨B.toList,r,⟨o,I.kIn a o M,N,n,by simpa using L⟩,?_⟩;have e:=r.length
  grind
theorem Inv.list_inj(I:Inv X pz σ H s)(h:cL X.K H a xs)(h':cL X.K H a ys):xs=ys:=by
 obtain⟨L,r,⟨o,n,e,_,_,d⟩,_⟩:=I.list h;obtain⟨B,M,⟨U,Y,N,_,_,Z⟩,_⟩:=I.list h';rw[e]at N;have:L=B:=by simp_all
 subst this;exact r.inj M
theorem Inv.tuple_inj(I:Inv X pz σ H s)(h:dw X.K H a xs)(h':dw X.K H a ys):xs=ys:=by
 obtain⟨L,r,⟨o,e,_,n,d⟩,_⟩:=I.tuple h;obtain⟨B,M,⟨U,N,_,Y,Z⟩,_⟩:=I.tuple h';rw[e]at N;have:L=B:=by simp_all
 subst this;exact r.inj M
end
abbrev Cx.wish(X:Cx)(E:a_->e_->Prop):Cx:={ X with xe:=E }
abbrev Cx.nox(X:Cx):Cx:=X.wish fun _ _=>False
theorem Cx.Ok.wish{X:Cx}(B:X.Ok)(E:a_->e_->Prop):(X.wish E).Ok:=⟨B.mod,B.kind,B.glob,B.blt,B.above,B.inj,B.has,B.cab,B.hd,B.frames,B.stk,B.exf,B.bs,B.bsz,B.noex,B.exfs,B.funs,B.frf⟩
theorem Cx.Ok.unwish{X:Cx}{E:a_->e_->Prop}(B:(X.wish E).Ok):X.Ok:=⟨B.mod,B.kind,B.glob,B.blt,B.above,B.inj,B.has,B.cab,B.hd,B.frames,B.stk,B.exf,B.bs,B.bsz,B.noex,B.exfs,B.funs,B.frf⟩
variable{E:a_->e_->Prop}
theorem Inv.wish(I:Inv X pz σ H s)(E:a_->e_->Prop):Inv (X.wish E) pz σ H s:=⟨I.ok.wish E,I.os,I.bare,I.base,I.loc,I.cell,I.free,I.freeC,I.pin,I.hok,I.len⟩
theorem Inv.unwish(I:Inv (X.wish E) pz σ H s):Inv X pz σ H s:=⟨I.ok.unwish,I.os,I.bare,I.base,I.loc,I.cell,I.free,I.freeC,I.pin,I.hok,I.len⟩
theorem SP.unwish{D:Ends}{f:Flow}{M:e_}(h:SP (X.wish E) pz D f M):SP X pz D f M:=by cases f with
|next=>obtain⟨B,L,I,q⟩:=h;exact⟨B,L,I.unwish,q⟩
|brk=>obtain⟨B,L,I,q⟩:=h;exact⟨B,L,I.unwish,q⟩
|cont=>obtain⟨B,L,I,q⟩:=h;exact⟨B,L,I.unwish,q⟩
|ret u=>obtain⟨v,B,L,I,r,q⟩:=h;exact⟨v,B,L,I.unwish,r,q⟩
theorem d6.nox{st:List Stmt}{t:TS}(h:d6 X.nox st t):d6 X st t:=fun L s B H D I M=>X_ (h L s B H D (I.wish _) M) (fun _ _ q=>q.unwish) fun _ _ z=>XG z
variable{e:Expr}{te:TE}
section
variable{st:Stmt}{rest:List Stmt}{t u:TS}
def UH:TS:=fun D σ H=>D.nx σ H
def Cy(t u:TS):TS:=fun D σ H=>t { D with nx:=u D } σ H
theorem rD:d6 X [] UH:=fun _ _ B H _ I h=>Æ ⟨B,H,I,h⟩
theorem pT(Y:PS X st t)(U:d6 X rest u):d6 X (st::rest) (Cy t u):=by intro L s M H D I h;refine wpAny_execs_cons (bQ (Y L s M H { D with nx:=u D } I h) fun f N q=>?_);cases f with
|next=>obtain⟨B,a,Z,q⟩:=q;exact U L N B a D Z q
|ret v=>exact q
|brk=>exact q
|cont=>exact q
theorem Inv.quiet{pz:List (Addr×Obj)}{σ:St}{H:Hp}{s:e_}(I:Inv X pz σ H s):interactive X.env=false:=by simp[interactive,I.ok.kind]
def UG(te:TE):TS:=fun D σ H=>te σ H fun _ H1=>D.nx σ H1
theorem rC(N:PE X e te)(hs:Xq e none pos.line X.env=pure false:=by rfl):PS X (.Expr e pos) (UG te):=by intro M s B H D I h;exact wpAny_Expr_any (bQ (N M s B H _ I h) fun v Z k=>by obtain⟨x,Y,U,a,L⟩:=k;exact ⟨B,Y,U,L⟩) I.quiet hs
def Cz(te:TE):TS:=fun D σ H=>te σ H D.rt
theorem Ez(U:PE X e te):PS X (.Return (some e) pos) (Cz te):=by intro N s B H D I h;exact wpAny_Return_some (bQ (U N s B H _ I h) fun v a k=>by obtain⟨x,Z,Y,L,M⟩:=k;exact ⟨x,B,Z,Y,L,M⟩)
def CF(c:TT)(t u:TS):TS:=fun D σ H=>c σ H fun b H1=>if b=true then t D σ H1 else u D σ H1
theorem yf{c:Expr}{a b:List Stmt}{M:TT}(e:PT X c M)(g:d6 X a t)(f:d6 X b u):PS X (.If c a b pos) (CF M t u):=by intro L s B H D I h;refine wpAny_If (bQ (e L s B H _ I h) fun d N k=>?_);obtain⟨Z,Y,U⟩:=k;cases d with
|true=>exact g L N B Z D Y U
|false=>exact f L N B Z D Y U
end
abbrev TG:=V->St->Hp->(St->Hp->Prop)->Prop
abbrev lq:=List V->St->Hp->(St->Hp->Prop)->Prop
def PG(X:Cx)(target:Expr)(t:TG):Prop:=∀(pz:List (Addr×Obj))(s:e_)(σ:St)(H:Hp)(v:V)(u:a_)(Q:St->Hp->Prop),Inv X pz σ H s->aT v u->t v σ H Q ->K_ (G_ X.prog X.w) X.A (ë target X.env u) (fun _ s'=>∃σ' H',Inv X pz σ' H' s'/\Q σ' H') X.xe s
def kH(X:Cx)(ts:List Expr)(t:lq):Prop:=∀(pz:List (Addr×Obj))(s:e_)(σ:St)(H:Hp)(vs:List V)(us:List a_)(Q:St->Hp->Prop),Inv X pz σ H s->aK vs us->t vs σ H Q ->K_ (G_ X.prog X.w) X.A (assignInOrder ((XA ts X.env).map (·.2)) us) (fun _ s'=>∃σ' H',Inv X pz σ' H' s'/\Q σ' H') X.xe s
abbrev mL:=V->V->V->Hp->(Hp->Prop)->Prop
def im(X:Cx)(t:mL):Prop:=∀(pz:List (Addr×Obj))(s:e_)(σ:St)(H:Hp)(o i v:V)(ov iv u:a_)(Q:Hp->Prop),Inv X pz σ H s->aT o ov->aT i iv->aT v u->t o i v H Q ->K_ (G_ X.prog X.w) X.A (setItem ov iv u) (fun _ s'=>∃H',Inv X pz σ H' s'/\Q H') X.xe s
def DA(i:Nat):TG:=fun v σ H Q=>Q (σ.set i (some v)) H
theorem N1{i:Nat}{x:Str}(M:X.N.Nodup)(hi:X.N[i]? = some x)(B:jY X.env.scope x)(L:X.fn x=true\/X.env.scope.names.lookup x=some .local:=by first|exact .inl rfl|exact .inr rfl|assumption):PG X (.Name x pos) (DA i):=by intro a s Y H v u Q I r h;exact ĉ (Hm I M hi B r (fun Z U=>⟨_,H,U,h⟩) L)
def C5:lq:=fun vs σ H Q=>vs=[]/\Q σ H
def Vk(t:TG)(u:lq):lq:=fun vs σ H Q=>∃v r,vs=v::r/\t v σ H fun σ' H'=>u r σ' H' Q
theorem N4:kH X [] C5:=by intro N s B H L M Q I r h;obtain⟨e,h⟩:=h;subst e;exact assignInOrder_nil ⟨B,H,I,h⟩
theorem Qt{e:Expr}{B:List Expr}{t:TG}{u:lq}(b:PG X e t)(a:kH X B u)(hs:(XA (e::B) X.env).map (·.2)=ë e X.env::(XA B X.env).map (·.2):=by rfl):kH X (e::B) (Vk t u):=by intro M s N H g j Q I r h;obtain⟨v,i,c,h⟩:=h;subst c;cases r with
|cons r Y=>rw[hs];refine assignInOrder_cons (bQ (b M s N H _ _ _ I r h) fun _ U k=>?_);obtain⟨L,f,d,Z⟩:=k;exact a M U L f _ _ Q d Y Z
def C3(K:W.Frag)(n:Nat)(t:lq):TG:=fun v σ H Q=>∃a xs,v=.ref a/\dw K H a xs/\xs.length=n/\t xs σ H Q
theorem Nc{L:List Expr}{k:Nat}{t:lq}{n:Nat}(l:X.calm=true)(h:kH X L t)(i:(XA L X.env).length=n:=by rfl)(B:(XA L X.env).findIdx? (·.1)=none:=by rfl):PG X (.Tuple L k pos) (C3 X.K n t):=by intro Z s U H v u Q I r M;obtain⟨a,Y,m,g,j,M⟩:=M;subst m;cases r;obtain⟨c,N,f,q⟩:=I.tuple g;refine assign_Tuple_tuple (I.ok.hd l) f (by simp[i,<-j,N.length]) B fun w d=>?_;have p:=I.kept (t':=s.toks) fun b o e=>d b o (L_ (x_ e)) e;exact h Z _ U H Y _ Q p (by simpa using N) M
def C4(to ti:TE)(t:mL):TG:=fun v σ H Q=>to σ H fun o H1=>ti σ H1 fun i H2=>t o i v H2 fun H3=>Q σ H3
theorem Na{o i:Expr}{M N:TE}{t:mL}(e:PE X o M)(hi:PE X i N)(hs:im X t)(f:∀v,ë (.Subscript o i pos) X.env v=(do
   let ov <-YF [v] (eval o X.env);let iv <-YF [v,ov] (eval i X.env)
   Zu pos
   YF [v,ov,iv] (setItem ov iv v)
   release [v,ov,iv] []):=by intro _;rfl):PG X (.Subscript o i pos) (C4 M N t):=by intro L s B H v u Q I r h;rw[f];refine d_ (Ya (bQ (e L s B H _ I h) fun ov Y z=>?_));obtain⟨x,n,k,a,d⟩:=z;refine d_ (Ya (bQ (hi L Y B n _ k d) fun iv U w=>?_));obtain⟨y,m,j,Z,c⟩:=w;refine d_ (Z0 (d_ (Ya (bQ (hs L U B m x y v ov iv u _ j a Z r c) fun _ p q=>?_))));obtain⟨l,g,b⟩:=q;exact wpAny_release ⟨B,l,g,b⟩
def sG(te:TE)(g:TG):TS:=fun D σ H=>te σ H fun x H1=>g x σ H1 D.nx
theorem Ng{B e:Expr}{M:TE}{g:TG}(c:PE X e M)(b:PG X B g)(hs:swapsWithSole [B] e pos.line X.env=pure false:=by rfl)(a:swappedStores [B] e X.env=pure none:=by rfl)(d:(XA [B] X.env).map (·.2)=[ë B X.env]:=by rfl):PS X (.Assign [B] e pos) (sG M g):=by intro N s L H D I h;refine wpAny_Assign_stores (bQ (c N s L H _ I h) fun v U k=>?_) hs a;obtain⟨x,i,f,Y,Z⟩:=k;rw[d];exact bQ (b N U L i x v _ f Y Z) fun _ j q=>q
theorem uX{i:Nat}{x:Str}{e:Expr}{L:TE}{B:Pos}(d:X.N.Nodup)(hi:X.N[i]? = some x)(a:jY X.env.scope x)(c:PE X e L)(hs:Xq e (some (.Name x B)) pos.line X.env=pure false:=by rfl)(b:X.fn x=true\/X.env.scope.names.lookup x=some .local:=by first|exact .inl rfl|exact .inr rfl|assumption):PS X (.Assign [.Name x B] e pos) (sG L (DA i)):=by intro Z s M H D I h;refine wpAny_Assign_Name (bQ (c Z s M H _ I h) fun v l z=>?_) hs;obtain⟨y,j,g,U,Y⟩:=z;exact Hm g d hi a U (fun k f=>⟨_,j,f,Y⟩) b
def NY(c:TT)(tb:TS):TS:=fun D σ H=>∃W:Nat->St->Hp->Prop,(∃m,W m σ H)/\∀m σ H,W m σ H ->c σ H fun b H1=>if b=true then ∃N:St->Hp->Prop,(∀σ' H',N σ' H'->∃m',m'<m/\W m' σ' H')/\tb { D with nx:=N,ct:=N,bk:=D.nx } σ H1 else D.nx σ H1
theorem Qv{c:Expr}{M:List Stmt}{m:TT}{o:TS}(p:Y_ (G_ X.prog X.w) X.A X.env X.xe)(K:PT X c m)(O:d6 X M o):PS X (.While c M [] pos) (NY m o):=by
 intro g s y H D I h;obtain⟨W,⟨J,C⟩,Y⟩:=h;refine wpAny_While (codeAny_whileLoop (fun n G=>∃U x,Inv X g U x G/\W n U x) ?_ J ⟨y,H,I,C⟩)
 rintro n F ⟨L,u,P,z⟩
 refine X4 p (bQ (K g F L u _ P (Y n L u z)) fun b E w=>?_);obtain⟨t,r,d⟩:=w;cases b with
|true=>obtain⟨N,q,d⟩:=d;rw[Q_d rfl];refine X4 p (bQ (O g E L t _ r d) fun f Q a=>?_);cases f with
 |next=>obtain⟨B,Z,l,i⟩:=a;obtain⟨j,k,e⟩:=q B Z i;exact⟨j,k,B,Z,l,e⟩
 |cont=>obtain⟨B,Z,l,i⟩:=a;obtain⟨j,k,e⟩:=q B Z i;exact⟨j,k,B,Z,l,e⟩
 |brk=>exact a
 |ret v=>exact a
|false=>rw[Q_e y_];exact Æ ⟨L,t,r,d⟩
structure It where
 go:Nat->Hp->Prop
 yld:Nat->Hp->V->Hp->Prop
 stop:Nat->Hp->Prop
def eT(X:Cx)(pz:List (Addr×Obj))(H:Hp)(b:Addr):Prop:=H b=none/\b≠X.env.locals/\b∉X.fs/\(b∈X.ex\/X.s₀.heap.objs.size<=b)/\(∀x c,X.env.cells.lookup x=some c->c≠b)/\∀p∈X.pn++pz,p.1≠b
theorem Inv.fpOk{X:Cx}{pz:List (Addr×Obj)}{σ:St}{H L:Hp}{s:e_}{b:Addr}(I:Inv X pz σ H s)(B:s.heap.objs.size<=b)(N:L b=none):eT X pz L b:=by
 refine⟨N,Xu (B_ I.lt B),I.nofs B,.inr (O_ I.sz B),fun x c e z=>?_,fun p M z=>?_⟩
 .obtain⟨v,q⟩:=I.cell x c e;exact Q_f (B_ q.lt (by rw[z];exact B)) (Xo _)
 .exact Q_f (B_ (x_ (I.pin p M).1) (by rw[z];exact B)) (Xo _)
structure Turn(P:E_)(w:P_)(K:W.Frag)(tg:Expr)(J:It)(fp:List Addr)(it:Addr)(tn:Nat->Heap->Prop):Prop where
 mem:it∈fp
 obj:∀i h,tn i h->∀b∈fp,∃o,h.get? b=some o/\∀v,o.data≠.cell v
 keep:∀i h h',tn i h->(∀b∈fp,∀o,h.get? b=some o->h'.get? b=some o)->tn i h'
 item:∀(X:Cx),X.prog=P->X.w=w->X.K=K->X.calm=true->∀(i:Nat)(pz:List (Addr×Obj))(s:e_)(σ:St)(H:Hp)(E:a_->e_->Prop),Inv X pz σ H s->(∀b∈fp,eT X pz H b)->tn i s.heap->J.go i H ->K_ (G_ P w) X.A (pyNext (.ref it)) (fun r s1=>∃u,r=some u /\K_ (G_ P w) X.A (Ç tg (.ref it) u) (fun _ s2=>∃x H',Inv X pz σ H' s2/\aT x u/\J.yld i H x H'/\tn (i+1) s2.heap/\∀b∈fp,H' b=none) E s1) E s
 done:∀(X:Cx),X.prog=P->X.w=w->X.K=K->X.calm=true->∀(i:Nat)(pz:List (Addr×Obj))(s:e_)(σ:St)(H:Hp)(E:a_->e_->Prop),Inv X pz σ H s->(∀b∈fp,eT X pz H b)->tn i s.heap->J.stop i H ->K_ (G_ P w) X.A (pyNext (.ref it)) (fun r s1=>r=none/\Inv X pz σ H s1) E s
 self:∀(A:V_)(i:Nat)(s:e_)(Q:a_->e_->Prop)(E:a_->e_->Prop),tn i s.heap->Q (.ref it) s->K_ (G_ P w) A (ì (.ref it)) Q E s
abbrev TI:=St->Hp->(It->Hp->Prop)->Prop
def L5(X:Cx)(pz:List (Addr×Obj))(σ:St)(tg:Expr)(R:It->Hp->Prop)(itv:a_)(s2:e_):Prop:=∃(it:Addr)(fp:List Addr)(tn:Nat->Heap->Prop)(J:It)(H':Hp),itv=.ref it/\Inv X pz σ H' s2/\Turn X.prog X.w X.K tg J fp it tn/\tn 0 s2.heap/\(∀b∈fp,eT X pz H' b)/\R J H'
def PI(X:Cx)(tg iter:Expr)(wi:TI):Prop:=∀(pz:List (Addr×Obj))(s:e_)(σ:St)(H:Hp)(R:It->Hp->Prop),Inv X pz σ H s->wi σ H R ->K_ (G_ X.prog X.w) X.A (eval iter X.env) (fun v s1=>K_ (G_ X.prog X.w) X.A (ì v) (L5 X pz σ tg R) X.xe s1) X.xe s
theorem tZ{M:Model}{A:V_}{E:a_->e_->Prop}{s:e_}{L:Expr}{it:Addr}{u:a_}{o:Obj}{n:String}{vs:Array a_}{Q:Unit->e_->Prop}(N:s.heap.get? it=some o)(Y:o.cls=.type n)(U:o.data=.fields vs)(Z : ["enumerate","zip","dict_itemiterator","dict_reverseitemiterator","odict_iterator","itertools.zip_longest","itertools.pairwise"].contains n=false)(B:Q () s):K_ M A (Ç L (.ref it) u) Q E s:=by
  cases L <;> first
    |exact C_ B
    |(cases u <;> first
        |exact C_ B
        | (refine d_ (wpAny_load N ?_)
           rw[Y,U];show K_ M A (if (["enumerate","zip","dict_itemiterator","dict_reverseitemiterator","odict_iterator","itertools.zip_longest","itertools.pairwise"].contains n&&vs[0]? == some _)=true then _ else _) Q E s;rw[Q_e (by grind)];exact C_ B))
def xL(K:W.Frag)(a:Addr):It:=⟨fun i H=>∃xs x,cL K H a xs/\xs[i]? = some x,fun i H x H'=>H'=H/\∀xs,cL K H a xs->xs[i]? = some x,fun i H=>∃xs,cL K H a xs/\xs.length<=i⟩
def Di(K:W.Frag)(a:Addr):It:=⟨fun i H=>∃xs x,dw K H a xs/\xs[i]? = some x,fun i H x H'=>H'=H/\∀xs,dw K H a xs->xs[i]? = some x,fun i H=>∃xs,dw K H a xs/\xs.length<=i⟩
def xK(lo:Int)(n:Nat):It:=⟨fun i _=>i<n,fun i H x H'=>H'=H/\x=.int (lo+i),fun i _=>n<=i⟩
theorem Ri{P:E_}{w:P_}{K:W.Frag}{C:Expr}(a it:Addr):Turn P w K C (xL K a) [it] it (fun i h=>h.IsListIter it a i) where
 mem:=by simp
 obj:=fun i h B b L=>by
  have e:=by simpa using L
  obtain⟨o,e,c,d⟩:=B
  grind
 keep:=fun i h y B k=>B.at fun o e=>k it (by simp) o e
 item:=by intro X l g m v i J s z H E I U B j;subst l g m;obtain⟨A,x,N,f⟩:=j;obtain⟨Z,Y,p,O⟩:=I.list N;obtain⟨u,R,G⟩:=Y.get f;obtain⟨t,f1,f2,r,q,n⟩:=U it (by simp);refine wpAny_pyNext_list_item B p.isList (by simpa using R) fun y M F=>?_;have I1:=I.turned (t':=s.toks) (fun b o L e=>(F.2 b L).trans e) t f1 r q n;obtain⟨o,e,c,d⟩:=id M;exact⟨u,rfl,tZ e c d (rfl) ⟨x,H,I1,G,⟨rfl,fun ys Q=>by rw[I.list_inj Q N];exact f⟩,M,fun b L=>(U b L).1⟩⟩
 done:=by intro X l g m v i J s z H E I U B j;subst l g m;obtain⟨A,N,f⟩:=j;obtain⟨Z,Y,p,O⟩:=I.list N;obtain⟨t,f1,f2,r,q,n⟩:=U it (by simp);have hl:=Y.length;exact wpAny_pyNext_list_end (I.ok.hd v) B p.isList (by simp;omega) fun y T=>⟨rfl,I.turned (fun b o L e=>T b o L e) t f1 r q n⟩
 self:=fun _ _ _ _ _ B h=>wpAny_pyIter_listiter B h
theorem RX{P:E_}{w:P_}{K:W.Frag}{C:Expr}(a it:Addr):Turn P w K C (Di K a) [it] it (fun i h=>h.IsTupleIter it a i) where
 mem:=by simp
 obj:=fun i h B b L=>by
  have e:=by simpa using L
  obtain⟨o,e,c,d⟩:=B;simp_all
 keep:=fun i h y B k=>B.at fun o e=>k it (by simp) o e
 item:=by intro X l g m v i J s z H E I U B j;subst l g m;obtain⟨A,x,N,f⟩:=j;obtain⟨Z,Y,p,O⟩:=I.tuple N;obtain⟨u,R,G⟩:=Y.get f;obtain⟨t,f1,f2,r,q,n⟩:=U it (by simp);refine wpAny_pyNext_tuple_item B (p) (by simpa using R) fun y M F=>?_;have I1:=I.turned (t':=s.toks) (fun b o L e=>(F.2 b L).trans e) t f1 r q n;obtain⟨o,e,c,d⟩:=id M;exact⟨u,rfl,tZ e c d (rfl) ⟨x,H,I1,G,⟨rfl,fun ys Q=>by rw[I.tuple_inj Q N];exact f⟩,M,fun b L=>(U b L).1⟩⟩
 done:=by intro X l g m v i J s z H E I U B j;subst l g m;obtain⟨A,N,f⟩:=j;obtain⟨Z,Y,p,O⟩:=I.tuple N;obtain⟨t,f1,f2,r,q,n⟩:=U it (by simp);have hl:=Y.length;exact wpAny_pyNext_tuple_end (I.ok.hd v) B (p) (by simp;omega) fun y T=>⟨rfl,I.turned (fun b o L e=>T b o L e) t f1 r q n⟩
 self:=fun _ _ _ _ _ B h=>wpAny_pyIter_tupleiter B h
theorem RU{P:E_}{w:P_}{K:W.Frag}{r:Expr}(it:Addr)(lo:Int)(n:Nat):Turn P w K r (xK lo n) [it] it (fun i h=>IsRangeIter h it (lo+(i:Nat)*1) ((n:Int)-(i:Nat)) 1) where
 mem:=by simp
 obj:=fun i h B b N=>by simp_all
 keep:=fun i h Z B k=>k it (by simp) _ B
 item:=by intro X m l p Y i j s g H E I M B U;subst m l p;obtain⟨f,f1,f2,d,c,a⟩:=M it (by simp);have W:=Walks.range (prog:=X.prog) (w:=X.w) (I.ok.hd Y) it lo 1 n;refine W.item i s _ _ U B fun v Z q u L z=>?_;obtain⟨t,rfl⟩:=u;have y:Inv X j g H { s with heap:=Z,toks:=q }:=I.turned (by simp_all) f f1 d c a;refine⟨_,rfl,tZ L rfl rfl (rfl) ⟨.int _,H,y,⟨t,?_⟩,⟨rfl,rfl⟩,L,fun b N=>(M b N).1⟩⟩;rw[Int.mul_one]
 done:=by intro X m l p Y i j s g H E I M B U;obtain⟨f,f1,f2,d,c,a⟩:=M it (by simp);exact wpAny_pyNext_range_end (I.ok.hd Y) B (by have:n<=i:=U;omega) fun Z x=>⟨rfl,I.turned (fun b o N e=>x b o N e) f f1 d c a⟩
 self:=fun _ _ _ _ _ B h=>wpAny_pyIter_rangeiter B h
section
variable{tg:Expr}
theorem PY{pz:List (Addr×Obj)}{σ:St}{H:Hp}{s:e_}{R:It->Hp->Prop}{E:a_->e_->Prop}{lo hi:Int}{t u v:Tok}{L:Nat}(I:Inv X pz σ H s)(Z : -(2^62)<=lo)(Y:lo<2^62)(U : -(2^62)<=hi)(N:hi<2^62)(q:R (xK lo (hi-lo).toNat) H):K_ (G_ X.prog X.w) X.A (ì (.ref s.heap.objs.size)) (L5 X pz σ tg R) E { s with heap:=s.heap.push { cls:=.type "range",data:=.fields #[.int lo t,.int hi u,.int 1 v] },toks:=L }:=by
 refine wpAny_pyIter_range (IsRange.new ..) (small_one Z Y U N) ?_;have B:Inv X pz σ H { s with heap:=s.heap.push { cls:=.type "range",data:=.fields #[.int lo t,.int hi u,.int 1 v] },toks:=L }:=I.kept fun b o e=>b_ _ e;refine⟨_,_,_,_,H,rfl,B.kept fun b o e=>b_ _ e,RU _ lo (hi-lo).toNat,?_,fun b M=>?_,q⟩
 .have e1:lo+((0:Nat))*1=lo:=by simp
  have a:(((hi-lo).toNat))-((0:Nat))=Z8 lo hi 1:=by rw[rangeSize_one];split <;> omega
  rw[e1,a];exact q_ _ rfl
 .have e:b=(s.heap.push { cls:=.type "range",data:=.fields #[.int lo t,.int hi u,.int 1 v] }).objs.size:=by simpa using M
  subst e;exact B.fpOk (o_ _) (B.hok.fresh (o_ _))
def Vl(ta:TA):TI:=fun σ H R=>ta σ H fun vs H1=>∃j:Int,vs=[.int j]/\-(2^62)<=j/\j<2^62/\R (xK 0 j.toNat) H1
theorem Q8{a:Expr}{M:TA}{p B:Pos}(d:Gl X "range")(c:X.mg "range" = none)(f:PA X [a] M)(hs:i_ [a] X.env=[(false,eval a X.env)]:=by rfl):PI X tg (.Call (.Name "range" p) [a] [] B) (Vl M):=by intro b s N H R I h;refine Call_ (pB I d c boot_range (XJ (bQ (f B b s N H _ I h) fun k l z=>?_) hs rfl));obtain⟨i,m,g,Y,L⟩:=z;obtain⟨j,e,L,Z,q⟩:=L;subst e;cases Y with
|cons r U=>cases U;obtain⟨t,rfl⟩:=r;exact call_range_1 (PY g (by decide) (by decide) L Z (by simpa using q))
def CG(wi:TI)(g:TG)(tb:TS):TS:=fun D σ H=>wi σ H fun J H1=>∃W:Nat->Nat->St->Hp->Prop,(∃m,W 0 m σ H1)/\∀i m σ H,W i m σ H ->(J.stop i H/\D.nx σ H)\/(J.go i H/\∃N:St->Hp->Prop,(∀σ' H',N σ' H'->∃m',m'<m/\W (i+1) m' σ' H')/\∀x H',J.yld i H x H'->g x σ H' fun σ2 H2=>tb { D with nx:=N,ct:=N,bk:=D.nx } σ2 H2)
def uW(fp:List Addr)(h:Heap):List (Addr×Obj):=fp.filterMap fun b=>(h.get? b).map fun o=>(b,o)
theorem wN{fp:List Addr}{h:Heap}{b:Addr}{o:Obj}(B:b∈fp)(e:h.get? b=some o):(b,o)∈uW fp h:=Xh.mpr ⟨b,B,by rw[e];rfl⟩
theorem Q4{fp:List Addr}{h:Heap}{p:Addr×Obj}(B:p∈uW fp h):p.1∈fp/\h.get? p.1=some p.2:=by obtain⟨b,L,e⟩:=Xh.mp B;cases q:h.get? b with
|none=>rw[q]at e;cases e
|some o=>grind
theorem Inv.pinned{pz:List (Addr×Obj)}{σ:St}{H:Hp}{s:e_}{fp:List Addr}(I:Inv X pz σ H s)(U:∀b∈fp,eT X pz H b)(N:∀b∈fp,∃o,s.heap.get? b=some o/\∀v,o.data≠.cell v):Inv X (pz++uW fp s.heap) σ H s:=I.pins_of fun p M=>(W5.mp M).elim (fun z=>I.pin p (W7 _ z)) fun z=>by obtain⟨B,e⟩:=Q4 z;obtain⟨Y,f1,f2,_⟩:=U p.1 B;obtain⟨o,L,d⟩:=N p.1 B;rw[e]at L;cases L;exact⟨e,Y,f1,f2,d⟩
theorem Inv.unpinned{pz B:List (Addr×Obj)}{σ:St}{H:Hp}{s:e_}(I:Inv X (pz++B) σ H s):Inv X pz σ H s:=I.pins_of fun p L=>I.pin p (by simp_all)
theorem qR{a:Expr}{q:List Stmt}{wi:TI}{g:TG}{tb:TS}{pos:Pos}(G:Y_ (G_ X.prog X.w) X.A X.env X.xe)(hc:X.calm=true)(hi:PI X tg a wi)(hg:PG X tg g)(c:d6 X q tb)(hs:∀x,W9 a X.env x=pure x:=by intro _;rfl):PS X (.For tg a q [] pos) (CG wi g tb):=by
 intro y s σ H D I h;refine wpAny_For (bQ (hi y s σ H _ I h) fun v s1 h1=>bQ h1 fun itv s2 h2=>?_) hs;obtain⟨it,O,tn,J,H2,e,I2,T,U,f2,W,⟨m0,w0⟩,z⟩:=h2;subst e;have L:∀{l:Hp},(∀b∈O,l b=none)->∀b∈O,eT X y l b:=fun hn b c=>⟨hn b c,(f2 b c).2⟩
 refine codeAny_forLoop_any (fun n s'=>∃i Z l,Inv X y Z l s'/\tn i s'.heap/\(∀b∈O,l b=none)/\W i n Z l) ?_ m0 ⟨0,σ,H2,I2,U,fun b c=>(f2 b c).1,w0⟩
 rintro n s3 ⟨i,Y,P,I3,F,K,w3⟩
 rcases z i n Y P w3 with⟨C,qn⟩|⟨go,N,hN,E⟩
 .refine X4 G (bQ (T.done X rfl rfl rfl hc i y s3 Y P X.xe I3 (L K) F C) fun r s4 w=>?_);obtain⟨hr,I4⟩:=w;subst hr;exact Æ ⟨Y,P,I4,qn⟩
 .refine X4 G (bQ (T.item X rfl rfl rfl hc i y s3 Y P X.xe I3 (L K) F go) fun r s4 q=>?_);obtain⟨u,hr,h4⟩:=q;subst hr;refine X4 G (bQ h4 fun _ s5 a=>?_);obtain⟨x,H5,I5,r5,y5,t,fr5⟩:=a;have M:=I5.pinned (L fr5) (T.obj _ _ t);refine X4 G (bQ (hg _ s5 Y H5 x u _ M r5 (E x H5 y5)) fun _ s6 g=>?_);obtain⟨Q,H6,I6,q6⟩:=g;refine X4 G (bQ (c _ s6 Q H6 _ I6 q6) fun f R p=>?_);have j:∀{B:St}{k:Hp},Inv X _ B k R->N B k->∃m,m<n/\∃i Z l,Inv X y Z l R/\tn i R.heap/\(∀b∈O,l b=none)/\W i m Z l:=fun{B k} I7 n7=>by obtain⟨m',hm,w7⟩:=hN B k n7;refine⟨m',hm,i+1,B,k,I7.unpinned,T.keep _ _ _ t fun b c o e=>(I7.pin _ (W7 _ (W7 _ (wN c e)))).1,fun b c=>?_,w7⟩;obtain⟨o,e,d⟩:=T.obj _ _ t b c;exact(I7.pin _ (W7 _ (W7 _ (wN c e)))).2.1
  cases f with
 |next=>obtain⟨B,k,I7,n7⟩:=p;exact j I7 n7
 |cont=>obtain⟨B,k,I7,n7⟩:=p;exact j I7 n7
 |brk=>obtain⟨B,k,I7,p⟩:=p;exact⟨B,k,I7.unpinned,p⟩
 |ret v=>obtain⟨x7,B,k,I7,r7,p⟩:=p;exact⟨x7,B,k,I7.unpinned,r7,p⟩
end
abbrev R2:=V->V->Hp->VK->Prop
def cX(X:Cx)(f:a_->a_->Sem a_)(r:R2):Prop:=∀(pz:List (Addr×Obj))(s:e_)(σ:St)(H:Hp)(x y:V)(v u:a_)(Q:VK),Inv X pz σ H s->aT x v->aT y u->r x y H Q ->K_ (G_ X.prog X.w) X.A (f v u) (EP X pz σ Q) X.xe s
def L4(X:Cx)(f:a_->Sem a_)(r:V->Hp->VK->Prop):Prop:=∀(pz:List (Addr×Obj))(s:e_)(σ:St)(H:Hp)(x:V)(v:a_)(Q:VK),Inv X pz σ H s->aT x v->r x H Q ->K_ (G_ X.prog X.w) X.A (f v) (EP X pz σ Q) X.xe s
def fT(X:Cx)(f:a_)(r:List V->Hp->VK->Prop):Prop:=∀(pz:List (Addr×Obj))(s:e_)(σ:St)(H:Hp)(xs:List V)(us:List a_)(Q:VK),Inv X pz σ H s->aK xs us->r xs H Q ->K_ (G_ X.prog X.w) X.A (call f us) (EP X pz σ Q) X.xe s
def Dc(X:Cx)(r:V->Hp->(Bool->Hp->Prop)->Prop):Prop:=∀(pz:List (Addr×Obj))(s:e_)(σ:St)(H:Hp)(x:V)(v:a_)(Q:Bool->Hp->Prop),Inv X pz σ H s->aT x v->r x H Q ->K_ (G_ X.prog X.w) X.A (truthy v) (TP X pz σ Q) X.xe s
def xy(r:R2)(ta tb:TE):TE:=fun σ H Q=>ta σ H fun x H1=>tb σ H1 fun y H2=>r x y H2 Q
def Vq(r:V->Hp->VK->Prop)(ta:TE):TE:=fun σ H Q=>ta σ H fun x H1=>r x H1 Q
def rI(C:Int->Int->Prop)(g:Int->Int->V):R2:=fun x y H Q=>∃i j,x=.int i/\y=.int j/\C i j/\Q (g i j) H
def lZ(g:Int->Int->V):R2:=fun x y H Q=>∃i j,x=.int i/\y=.int j/\Q (g i j) H
def rU(g:Int->V):V->Hp->VK->Prop:=fun x H Q=>∃i,x=.int i/\Q (g i) H
variable{c:Expr}{tc:TE}
section
variable{a:Expr}
theorem oQ(j:PE X a ta)(i:PE X b tb){pz:List (Addr×Obj)}{s:e_}{σ:St}{H:Hp}{R:V->V->Hp->Prop}(I:Inv X pz σ H s)(h:ta σ H fun x U=>tb σ U fun y B=>R x y B){Q:a_->e_->Prop}{f:a_->a_->Sem a_}(g:∀v u N x y B,Inv X pz σ B N->aT x v->aT y u->R x y B->K_ (G_ X.prog X.w) X.A (f v u) Q X.xe N):K_ (G_ X.prog X.w) X.A (eval a X.env) (fun v M=>K_ (G_ X.prog X.w) X.A (eval b X.env) (fun u L=>K_ (G_ X.prog X.w) X.A (f v u) Q X.xe L) X.xe M) X.xe s:=by refine bQ (j pz s σ H _ I h) fun v Y z=>?_;obtain⟨x,U,l,c,e⟩:=z;refine bQ (i pz Y σ U _ l e) fun u N w=>?_;obtain⟨y,B,k,Z,d⟩:=w;exact g v u N x y B k c Z d
theorem DR{op:Operator}{r:R2}(Y:cX X (Y1 op) r)(c:PE X a ta)(Z:PE X b tb):PE X (.BinOp a op b pos) (xy r ta tb):=by intro U s B H Q I h;exact wpAny_BinOp (oQ c Z I h fun v u L x y e d N M q=>Y U L B e x y v u Q d N M q)
theorem U8{op:UnaryOp}{r:V->Hp->VK->Prop}(Y:L4 X (unaryOp op) r)(Z:PE X a ta):PE X (.UnaryOp op a pos) (Vq r ta):=by intro L s B H Q I h;exact UnaryOp_ (bQ (Z L s B H _ I h) fun v M k=>by obtain⟨x,c,b,N,U⟩:=k;exact Y L M B c x v Q b N U)
theorem qm{f:a_->a_->Sem a_}{C:Int->Int->Prop}{g:Int->Int->Int}(B:∀(i j:Int)(t u:Tok)(s:e_)(Q:a_->e_->Prop)(E:a_->e_->Prop),C i j->Q (.int (g i j) s.toks) { s with toks:=s.toks+1 }->K_ (G_ X.prog X.w) X.A (f (.int i t) (.int j u)) Q E s):cX X f (rI C fun i j=>.int (g i j)):=by intro Z s Y H x y v u Q I N M h;obtain⟨i,j,rfl,rfl,U,q⟩:=h;obtain⟨t,rfl⟩:=N;obtain⟨L,rfl⟩:=M;exact B i j t L s _ _ U ⟨.int _,H,I.tok _,⟨_,rfl⟩,q⟩
theorem sU{f:a_->a_->Sem a_}{g:Int->Int->Int}(B:∀(i j:Int)(t u:Tok)(s:e_)(Q:a_->e_->Prop)(E:a_->e_->Prop),Q (.int (g i j) s.toks) { s with toks:=s.toks+1 }->K_ (G_ X.prog X.w) X.A (f (.int i t) (.int j u)) Q E s):cX X f (lZ fun i j=>.int (g i j)):=by intro Y s U H x y v u Q I N M h;obtain⟨i,j,rfl,rfl,q⟩:=h;obtain⟨t,rfl⟩:=N;obtain⟨L,rfl⟩:=M;exact B i j t L s _ _ ⟨.int _,H,I.tok _,⟨_,rfl⟩,q⟩
theorem oF{f:a_->a_->Sem a_}{g:Int->Int->Bool}(B:∀(i j:Int)(t u:Tok)(s:e_)(Q:a_->e_->Prop)(E:a_->e_->Prop),Q (.bool (g i j)) s->K_ (G_ X.prog X.w) X.A (f (.int i t) (.int j u)) Q E s):cX X f (lZ fun i j=>.bl (g i j)):=by intro Y s U H x y v u Q I N M h;obtain⟨i,j,rfl,rfl,q⟩:=h;obtain⟨t,rfl⟩:=N;obtain⟨L,rfl⟩:=M;exact B i j t L s _ _ ⟨.bl _,H,I,rfl,q⟩
def mN(i j:Int):Prop:=0<j/\j<1073741824
def oZ(i j:Int):Prop:=0<=j/\j<=1000000/\i.natAbs<2^64
def jC(i j:Int):Prop:=(-(2^64)<i/\i<2^64)\/(-(2^64)<j/\j<2^64)
theorem jC.ok{i j:Int}(h:jC i j):IntMulOk i j:=by
 rcases h with⟨L,B⟩|⟨L,B⟩
 .exact .of_left (intBits_le_64 L B)
 .exact .of_right (intBits_le_64 L B)
theorem Es:cX X (Y1 .Add) (lZ fun i j=>.int (i+j)):=sU fun _ _ _ _ _ _ _ q=>add_int q
theorem Vp{f:a_->Sem a_}{g:Int->Int}(B:∀(i:Int)(t:Tok)(s:e_)(Q:a_->e_->Prop)(E:a_->e_->Prop),Q (.int (g i) s.toks) { s with toks:=s.toks+1 }->K_ (G_ X.prog X.w) X.A (f (.int i t)) Q E s):L4 X f (rU fun i=>.int (g i)):=by intro N s M H x v Q I L h;obtain⟨i,rfl,q⟩:=h;obtain⟨t,rfl⟩:=L;exact B i t s _ _ ⟨.int _,H,I.tok _,⟨_,rfl⟩,q⟩
end
def lW:V->V->Bool
|.non,.non=>true|.non,.int _=>true|.int _,.non=>true|.non,.bl _=>true|.bl _,.non=>true|.non,.str _=>true|.str _,.non=>true
|.int _,.int _=>true|.bl _,.bl _=>true|.str _,.str _=>true|.byt _,.byt _=>true
|.int _,.str _=>true|.str _,.int _=>true|.bl _,.str _=>true|.str _,.bl _=>true
|_,_=>false
def LY:R2:=fun x y H Q=>lW x y=true/\Q (.bl (decide (x=y))) H
def LW:R2:=fun x y H Q=>lW x y=true/\Q (.bl (! decide (x=y))) H
theorem zV{i j:Int}:decide (V.int i=V.int j)=(i==j):=by rw[WV];simp
theorem yI{i j:Bool}:decide (V.bl i=V.bl j)=(i==j):=by rw[WV];simp
theorem zW{i j:Str}:decide (V.str i=V.str j)=(i==j):=by rw[WV];simp
theorem FM{i j:Array UInt8}:decide (V.byt i=V.byt j)=(i.toList==j.toList):=by rw[WV];cases i;cases j;simp
section
variable{a:Expr}
theorem dP{pz:List (Addr×Obj)}{σ:St}{H:Hp}{s:e_}{Q:VK}{k B:Bool}(I:Inv X pz σ H s)(q:Q (.bl k) H)(e:k=B):EP X pz σ Q (.bool B) s:=by subst e;exact⟨.bl k,H,I,rfl,q⟩
theorem Ea:cX X (Xm .Eq) LY:=by intro Y s U H x y v u Q I N B h;obtain⟨M,q⟩:=h;cases x with
|non=>cases N;cases y with
 |non=>cases B;exact PySem.EqNone.eq_none_none (dP I q (rfl))
 |bl j=>cases B;exact PySem.EqNone.eq_none_bool (dP I q (rfl))
 |int j=>obtain⟨L,rfl⟩:=B;exact PySem.EqNone.eq_none_int (dP I q (rfl))
 |str j=>obtain⟨L,rfl⟩:=B;exact PySem.EqNone.eq_none_str (dP I q (rfl))
 |_=>exact Q_f (show false=true from M) y_
|bl i=>cases N;cases y with
 |non=>cases B;exact PySem.EqNone.eq_bool_none (dP I q (rfl))
 |bl j=>cases B;exact eq_bool (dP I q yI)
 |str j=>obtain⟨L,rfl⟩:=B;exact PySem.EqMixed.eq_bool_str (dP I q (by simp))
 |_=>exact Q_f (show false=true from M) y_
|int i=>obtain⟨t,rfl⟩:=N;cases y with
 |non=>cases B;exact PySem.EqNone.eq_int_none (dP I q (by simp))
 |int j=>obtain⟨L,rfl⟩:=B;exact eq_int (dP I q zV)
 |str j=>obtain⟨L,rfl⟩:=B;exact PySem.EqMixed.eq_int_str (dP I q (rfl))
 |_=>exact Q_f (show false=true from M) y_
|str i=>obtain⟨t,rfl⟩:=N;cases y with
 |non=>cases B;exact PySem.EqNone.eq_str_none (dP I q (rfl))
 |bl j=>cases B;exact PySem.EqMixed.eq_str_bool (dP I q (rfl))
 |int j=>obtain⟨L,rfl⟩:=B;exact PySem.EqMixed.eq_str_int (dP I q (rfl))
 |str j=>obtain⟨L,rfl⟩:=B;exact eq_str (dP I q zW)
 |_=>exact Q_f (show false=true from M) y_
|byt i=>obtain⟨t,rfl⟩:=N;cases y with
 |byt j=>obtain⟨L,rfl⟩:=B;exact W.eq_bytes (dP I q FM)
 |_=>exact Q_f (show false=true from M) y_
|_=>cases y <;> exact Q_f (show false=true from M) y_
theorem U6:cX X (Xm .NotEq) LW:=by intro Y s U H x y v u Q I N B h;obtain⟨M,q⟩:=h;cases x with
|non=>cases N;cases y with
 |non=>cases B;exact PySem.EqNone.ne_none_none (dP I q (rfl))
 |bl j=>cases B;exact PySem.EqNone.ne_none_bool (dP I q (rfl))
 |int j=>obtain⟨L,rfl⟩:=B;exact PySem.EqNone.ne_none_int (dP I q (rfl))
 |str j=>obtain⟨L,rfl⟩:=B;exact PySem.EqNone.ne_none_str (dP I q (rfl))
 |_=>exact Q_f (show false=true from M) y_
|bl i=>cases N;cases y with
 |non=>cases B;exact PySem.EqNone.ne_bool_none (dP I q (rfl))
 |bl j=>cases B;exact ne_bool (dP I q (Q_g not yI))
 |str j=>obtain⟨L,rfl⟩:=B;exact PySem.EqMixed.ne_bool_str (dP I q (rfl))
 |_=>exact Q_f (show false=true from M) y_
|int i=>obtain⟨t,rfl⟩:=N;cases y with
 |non=>cases B;exact PySem.EqNone.ne_int_none (dP I q (rfl))
 |int j=>obtain⟨L,rfl⟩:=B;exact ne_int (dP I q (Q_g not zV))
 |str j=>obtain⟨L,rfl⟩:=B;exact PySem.EqMixed.ne_int_str (dP I q (rfl))
 |_=>exact Q_f (show false=true from M) y_
|str i=>obtain⟨t,rfl⟩:=N;cases y with
 |non=>cases B;exact PySem.EqNone.ne_str_none (dP I q (rfl))
 |bl j=>cases B;exact PySem.EqMixed.ne_str_bool (dP I q (rfl))
 |int j=>obtain⟨L,rfl⟩:=B;exact PySem.EqMixed.ne_str_int (dP I q (rfl))
 |str j=>obtain⟨L,rfl⟩:=B;exact ne_str (dP I q (Q_g not zW))
 |_=>exact Q_f (show false=true from M) y_
|byt i=>obtain⟨t,rfl⟩:=N;cases y with
 |byt j=>obtain⟨L,rfl⟩:=B;exact W.ne_bytes (dP I q (Q_g not FM))
 |_=>exact Q_f (show false=true from M) y_
|_=>cases y <;> exact Q_f (show false=true from M) y_
theorem yn:cX X (Xm .Lt) (lZ fun i j=>.bl (decide (i<j))):=oF fun _ _ _ _ _ _ _ q=>lt_int q
theorem U5:cX X (Xm .LtE) (lZ fun i j=>.bl (decide (i<=j))):=oF fun _ _ _ _ _ _ _ q=>le_int q
theorem Eb:cX X (Xm .Gt) (lZ fun i j=>.bl (decide (j<i))):=oF fun _ _ _ _ _ _ _ q=>gt_int q
theorem cX.or{f:a_->a_->Sem a_}{r r':R2}(h:cX X f r)(h':cX X f r'):cX X f (fun x y H Q=>r x y H Q\/r' x y H Q):=by
 intro N s B H x y v u Q I M L q;rcases q with q|q
 .exact h N s B H x y v u Q I M L q
 .exact h' N s B H x y v u Q I M L q
theorem lI(b:Expr){op:CmpOp}(h:op≠.In:=by decide)(M:op≠.NotIn:=by decide):XM op b=false:=by
 have L:(op==CmpOp.In)=false:=by simp_all
 have B:(op==CmpOp.NotIn)=false:=by simp_all
 cases b <;> simp[XM,L,B]
def UK(t:TE):TT:=fun σ H Q=>t σ H fun x H'=>∃k,x=.bl k/\Q k H'
theorem Gx{op:CmpOp}{r:R2}(i:cX X (Xm op) r)(m:PE X a ta)(l:PE X b tb)(j:XM op b=false):PT X (.Compare a [op] [b] pos) (UK (xy r ta tb)):=by intro L s B H Q I h;refine wpAny_isTrue_Compare1 (bQ (m L s B H _ I h) fun v N ⟨x,w,p,Z,g⟩=>bQ (l L N B w _ p g) fun u M ⟨y,t,o,Y,f⟩=>bQ (i L M B t x y v u _ o Z Y f) fun c A a=>?_) j;obtain⟨z,q,n,U,k,e,d⟩:=a;subst e;cases U;exact Yw ⟨q,n,d⟩
def NW(r r':R2)(ta tb tc:TE):TE:=fun σ H Q=>ta σ H fun x H1=>tb σ H1 fun y H2=>r x y H2 fun z H3=>∃k,z=.bl k /\(if k=true then tc σ H3 fun w' H4=>r' y w' H4 Q else Q (.bl false) H3)
theorem Qo{op B:CmpOp}{r r':R2}(C:cX X (Xm op) r)(L:cX X (Xm B) r')(J:PE X a ta)(G:PE X b tb)(F:PE X c tc)(E:lastMarks [op,B] [b,c]=false:=by with_unfolding_all rfl):PE X (.Compare a [op,B] [b,c] pos) (NW r r' ta tb tc):=by intro N s M H Q I h;refine Compare_chain (bQ (J N s M H _ I h) fun v n ⟨x,H1,P,q,A⟩=>chain_link (bQ (G N n M H1 _ P A) fun u m ⟨y,T,O,U,w⟩=>bQ (C N m M T x y v u _ O q U w) fun d l a=>?_)) E;obtain⟨z,f,Z,p,k,e,Y⟩:=a;subst e;cases p;refine Yw ?_;cases k with
|false=>exact ite_ff ⟨.bl false,f,Z,rfl,Y⟩
|true=>exact ite_tt (chain_last (bQ (F N l M f _ Z Y) fun i j b=>by obtain⟨g,R,K,o,t⟩:=b;exact L N j M R y g u i Q K U o t))
def oU(K:W.Frag)(x:V)(H:Hp)(k:Bool):Prop:=match x with
|.non=>k=false
|.bl b=>k=b
|.int i=>k=(i != 0)
|.str y=>y.length<=sizeLine/\k=((y.length:Int) != 0)
|.byt y=>y.size<=sizeLine/\k=((y.size:Int) != 0)
|.ref p=>(∃xs,cL K H p xs/\k = ! xs.isEmpty)\/(∃xs,dw K H p xs/\k = ! xs.isEmpty)\/∃kvs,Rd H p (.dK kvs)/\k = ! kvs.isEmpty
|_=>False
theorem Su{L:Type}{B:List (L×V)}{vs:List (L×a_)}(r:KV B vs):(! vs.isEmpty) = ! B.isEmpty:=by cases r <;> rfl
theorem Jf{xs:List V}{B:List a_}(r:aK xs B):(! B.toArray.isEmpty) = ! xs.isEmpty:=by cases r <;> simp
theorem qP:(sizeLine:Nat)<2^63:=by decide
theorem Fg:Dc X (fun x H Q=>∃k,oU X.K x H k/\Q k H):=by intro l s j H x v Q I N h;obtain⟨k,e,q⟩:=h;have o:=qP;have n:sizeLine=16777216:=H_;cases x with
|non=>cases N;have B:k=false:=e;subst B;exact truthy_none ⟨H,I,q⟩
|bl b=>cases N;have B:k=b:=e;subst B;exact Yw ⟨H,I,q⟩
|int i=>obtain⟨t,rfl⟩:=N;have B:k=(i != 0):=e;subst B;exact PySem.P.truthy_int ⟨H,I,q⟩
|str y=>obtain⟨t,rfl⟩:=N;obtain⟨f,B⟩:y.length<=sizeLine/\k=((y.length:Int) != 0):=e;subst B;exact PySem.P.truthy_str (by omega) ⟨H,I.tok _,q⟩
|byt y=>obtain⟨t,rfl⟩:=N;obtain⟨f,B⟩:y.size<=sizeLine/\k=((y.size:Int) != 0):=e;subst B;exact W.truthy_bytes (by omega) ⟨H,I.tok _,q⟩
|ref p=>
  cases N;have B:=e;rcases B with⟨d,U,B⟩|⟨d,U,B⟩|⟨M,U,B⟩
  .subst B;obtain⟨a,r,Z,c⟩:=I.list U;have L:=r.length;exact wpAny_truthy_list Z.isList (by simp only[D_];omega) ⟨H,I.tok _,by rw[Jf r];exact q⟩
  .subst B;obtain⟨a,r,Z,c⟩:=I.tuple U;have L:=r.length;exact truthy_tuple Z (by simp only[D_];omega) ⟨H,I.tok _,by rw[Jf r];exact q⟩
  .subst B;obtain⟨c,g,Y,r,m⟩:M.length<=sizeLine/\(p==Yj)=false/\∃Y,KV M Y/\s.heap.DictOf (jk X.prog X.w) p Y:=U.ok I.hok;have L:M.length=Y.length:=Paired.length r;exact wpAny_truthy_dict g m (by omega) ⟨H,I.tok _,by rw[Su r];exact q⟩
|_=>exact(show False from e).elim
theorem Hy(b:PE X a ta)(Z:∀B,isTrue a X.env B=(do let v <-B;Zu a.pos;YF [v] (truthy v))):PT X a (fun σ H Q=>ta σ H fun x M=>∃k,oU X.K x M k/\Q k M):=by intro L s σ H Q I h;exact isTrue_plain (bQ (b L s σ H _ I h) fun v N k=>by obtain⟨x,d,c,U,Y⟩:=k;exact Fg L N σ d x v Q c U Y) (Z _)
theorem Jj:cX X (Y1 .Add) (fun x y H Q=>∃i j,x=.str i/\y=.str j/\i.length+j.length<=sizeLine/\Q (.str (i++j)) H):=by intro Z s U H x y v u Q I M L h;obtain⟨i,j,rfl,rfl,N,q⟩:=h;obtain⟨t,rfl⟩:=M;obtain⟨B,rfl⟩:=L;exact add_str (fun B Y=>⟨.str (i++j),H,I.tok _,⟨_,rfl⟩,q⟩) N
theorem fF{x:V}{us:List a_}(r:aK [x] us):∃u,us=[u]/\aT x u:=by cases r with
|cons L B=>cases B;exact⟨_,rfl,L⟩
theorem Ee{x y:V}{us:List a_}(r:aK [x,y] us):∃u w',us=[u,w']/\aT x u/\aT y w':=by cases r with
|cons N M=>cases M with
 |cons L B=>cases B;exact⟨_,_,rfl,N,L⟩
theorem Pr:fT X (.builtin "abs") (fun xs H Q=>∃i,xs=[.int i]/\Q (.int (if i<0 then-i else i)) H):=by intro N s B H xs L Q I r h;obtain⟨i,rfl,q⟩:=h;obtain⟨u,rfl,t,rfl⟩:=fF r;exact call_abs_int fun u M=>⟨.int _,H,I.tok _,⟨_,rfl⟩,q⟩
theorem Tk:fT X (.type "str") (fun xs H Q=>∃i,xs=[.int i]/\i.natAbs.log2<1920/\Q (.str (Å i)) H):=by intro N s L H xs M Q I r h;obtain⟨i,rfl,B,q⟩:=h;obtain⟨u,rfl,t,rfl⟩:=fF r;exact PySem.P.str_of_int B ⟨.str _,H,I.tok _,⟨_,rfl⟩,q⟩
def tX(K:W.Frag)(x:V)(H:Hp)(n:Nat):Prop:=match x with
|.str y=>y.length<=sizeLine/\n=y.length
|.byt y=>y.size<=sizeLine/\n=y.size
|.ref p=>(∃xs,cL K H p xs/\n=xs.length)\/∃xs,dw K H p xs/\n=xs.length
|_=>False
theorem Pu:fT X (.builtin "len") (fun xs H Q=>∃x n,xs=[x]/\tX X.K x H n/\Q (.int n) H):=by intro f s c H xs d Q I r h;obtain⟨x,n,rfl,e,q⟩:=h;obtain⟨u,rfl,M⟩:=fF r;have g:=H_;cases x with
|str y=>obtain⟨t,rfl⟩:=M;obtain⟨b,L⟩:y.length<=sizeLine/\n=y.length:=e;subst L;exact len_str (by omega) ⟨.int _,H,I.tok _,⟨_,rfl⟩,q⟩
|byt y=>obtain⟨t,rfl⟩:=M;obtain⟨b,L⟩:y.size<=sizeLine/\n=y.size:=e;subst L;exact W.len_bytes (by omega) ⟨.int _,H,I.tok _,⟨_,rfl⟩,q⟩
|ref p=>
  cases M;have L:=e;rcases L with⟨xs,Z,L⟩|⟨xs,Z,L⟩
  .subst L;obtain⟨Y,N,U,a⟩:=I.list Z;have B:=N.length;exact Calls.call_len_list U.isList (by grind) ⟨.int xs.length,H,I.tok _,⟨_,by simp only[D_];rw[B]⟩,q⟩
  .subst L;obtain⟨Y,N,U,a⟩:=I.tuple Z;have B:=N.length;exact len_tuple U (by grind) ⟨.int xs.length,H,I.tok _,⟨_,by simp only[D_];rw[B]⟩,q⟩
|_=>exact(e).elim
end
structure ObjM(h:Heap)(x dx C:Addr)(mA:Str->Option a_):Prop where
 obj:h.get? x=some (W.instObj C dx)
 ns:h.Ns1 dx mA
 ne:dx≠x
theorem QG{h:Heap}{M:Addr}{mA:Str->Option a_}(n:h.Ns1 M mA):∃L,h.get? M=some L/\∀name,W.lookIn name L=some (mA name):=by
 obtain⟨o,c,d,U,b,Z,_,Y⟩:=n;refine⟨o,U,fun name=>?_⟩;have e:=Y name;unfold nsFind findBy at e;rw[<-Array.find?_toList]at e;unfold W.lookIn;rw[b]
 dsimp only
 split
 .simp_all
 .have a:c.toList.any (·.refKey)=false:=by rw[List.any_eq_false];intro y N;obtain⟨z,t,B⟩:=Z y (Array.mem_toList_iff.mp N);simp[DictEntry.refKey,B]
  simp_all
theorem ObjM.look{h:Heap}{x L C:Addr}{mA:Str->Option a_}(I:ObjM h x L C mA):∃B,W.InstAt h x (W.instObj C L) C (some B)/\∀name,W.lookIn name B=some (mA name):=let⟨B,M,N⟩:=QG I.ns
 ⟨B,⟨I.obj,rfl,rfl,M⟩,N⟩
variable{A:V_}{dx C f:Addr}
section
variable{prog:E_}{K:W.Frag}{x:Addr}{mA:Str->Option a_}{name:Str}{v:a_}
theorem O3{L:Sem Bool}{Q:a_×List a_->e_->Prop}(X:K.In s.heap)(I:ObjM s.heap x dx C mA)(B:W.plainGet K C name=true)(Z:W.findIn K (.ref C) name=some (some (.ref f)))(U:W.isFn K (.ref f)=true)(N:mA name=none)(h:Q (.ref f,[.ref x]) s):K_ (G_ prog w) A (ZB (.ref x) name L) Q E s:=by obtain⟨M,J,Y⟩:=I.look;exact W.method_fn X J (W.plainGet_of B).1 (W.plainGet_of B).2 Z (beq_iff_eq.mp U) (by show(W.lookIn name M).map (·.isSome)=some false;rw[Y,N];rfl) h
theorem On{ns:List Str}{Q:Unit->e_->Prop}(X:K.In s.heap)(I:ObjM s.heap x dx C mA)(hs:W.findIn K (.ref C) "__setattr__" = some (some (.builtin "object.__setattr__")))(e:W.plainOver K C=true)(d:W.takerIn K C name=some none)(f:W.hasDictIn K C=true)(c:PySem.Within mA ns)(hsz:ns.length<=sizeLine)(h:∀h',ObjM h' x dx C (fun y=>if y=name then some v else mA y)->Zt dx s.heap h'->Q () { s with heap:=h',toks:=s.toks+2 }):K_ (G_ prog w) A (setAttr (.ref x) name v) Q E s:=by obtain⟨i,J,j⟩:=I.look;refine W.set_plain X J hs (W.osa_open X J e d fun b=>?_);obtain⟨k,g,N⟩:=W.any_some f;have a:=I.obj;refine d_ (C_ (d_ (d_ (wpAny_loadPart a (d_ (W.Looks.here (W.looks_clsIn X g) ?_))))));rw[N];refine C_ (d_ (C_ (d_ ?_)));refine wpAny_nsSet1 I.ns fun h' B L=>?_;obtain⟨oD,Z,Y,U,M,l⟩:=B.count (PySem.Within.cons name v c);refine d_ (wpAny_lookBehind U (by rw[M];exact pastItsLine_dict (by grind)) ?_);exact C_ (h _ ⟨(L.2 _ (X6 I.ne)).trans I.obj,B,I.ne⟩ L)
end
def putF(f:Str)(v:V):List (Str×V)->List (Str×V)
|[]=>[(f,v)]
|(g,x)::r=>if g=f then(g,v)::r else(g,x)::putF f v r
theorem Kf(f g:Str)(v:V):∀fs:List (Str×V),(putF f v fs).lookup g=if g=f then some v else fs.lookup g
|[]=>by
  show Yy g [(f,v)]=_
  grind
|(k,x)::r=>by
  have B:=Kf f g v r;rw[show putF f v _=(if k=f then(k,v)::r else(k,x)::putF f v r)from rfl]
  grind
theorem AG(f:Str)(v:V):∀fs:List (Str×V),f∈(putF f v fs).map (·.1)/\∀g,g∈fs.map (·.1)->g∈(putF f v fs).map (·.1)
|[]=>⟨by simp[putF],fun g h=>by simp at h⟩
|(k,x)::r=>by
  obtain⟨L,B⟩:=AG f v r;rw[show putF f v _=(if k=f then(k,v)::r else(k,x)::putF f v r)from rfl]
  grind
theorem Ke(f:Str)(v:V):∀fs:List (Str×V),(putF f v fs).length<=fs.length+1
|[]=>by simp[putF]
|(k,x)::r=>by
  have B:=Ke f v r;rw[show putF f v _=(if k=f then(k,v)::r else(k,x)::putF f v r)from rfl]
  grind
theorem d5.some_of{v:V}{o:Option a_}(r:d5 (some v) o):∃u,o=some u/\aT v u:=by cases o with
|none=>exact(r).elim
|some u=>exact⟨u,rfl,r⟩
theorem d5.none_of{o:Option a_}(r:d5 none o):o=none:=by cases o with
|none=>rfl
|some u=>exact(r).elim
section
variable{fs fs':List (Str×V)}
theorem zE(B:d7 P w H h)(e:H a=some (.ins C dx fs)):∃mA,ObjM h a dx C mA/\(∀f,d5 (fs.lookup f) (mA f))/\PySem.Within mA (fs.map (·.1))/\fs.length<=1000/\H dx=some (.own a):=by
 obtain⟨d,z,M,L,mA,n,r,q⟩:=(B a _ e)
 exact⟨mA,⟨L,n,M⟩,r,q,z,d⟩
end
structure Cls(K:W.Frag)(C:Addr):Prop where
 pg:W.plainGet K C Yr=true
 hd:W.hasDictIn K C=true
 po:W.plainOver K C=true
 sa:W.findIn K (.ref C) "__setattr__" = some (some (.builtin "object.__setattr__"))
theorem Cls.get{K:W.Frag}{C:Addr}(c:Cls K C)(f:Str):W.plainGet K C f=true:=c.pg
def iu(K:W.Frag)(C:Addr)(f:Str):Prop:=W.findIn K (.ref C) f=some none
structure Meth(K:W.Frag)(C:Addr)(m:Str)(f:Addr):Prop where
 at_:W.findIn K (.ref C) m=some (some (.ref f))
 fn:W.isFn K (.ref f)=true
 kp:W.keepIn K (.ref f)=true
section
variable{fs:List (Str×V)}{f:Str}{v:V}
theorem Sr{b:Bool}{Q:a_->e_->Prop}(I:Inv X pz σ H s)(e:H a=some (.ins C dx fs))(c:Cls X.K C)(n:iu X.K C f)(l:fs.lookup f=some v)(h:∀u B,Inv X pz σ H B->aT v u->Q u B):K_ (G_ X.prog X.w) A (getAttr (.ref a) f b) Q E s:=by
 obtain⟨mA,O,r,_,_,_⟩:=zE I.hok e;obtain⟨u,M,L⟩:=d5.some_of (by rw[<-l];exact r f);obtain⟨U,J,N⟩:=O.look;exact W.get_value I.kIn J (W.plainGet_of (c.get f)).1 (W.findObj_own c.hd n rfl (by rw[N,M])) ((fun r=>by cases v with
   |non=>cases(r);rfl
   |bl b=>cases(r);rfl
   |int i=>obtain⟨t,e⟩:=(r);cases e;rfl
   |str x=>obtain⟨t,e⟩:=(r);cases e;rfl
   |byt b=>obtain⟨t,e⟩:=(r);cases e;rfl
   |flt b=>obtain⟨t,e⟩:=(r);cases e;rfl
   |ref a=>cases(r);rfl
   |ty n=>cases(r);rfl) L) (h u _ (I.tok _) L)
theorem Je{m:Str}{g:Addr}{B:Sem Bool}{Q:a_×List a_->e_->Prop}(I:Inv X pz σ H s)(e:H a=some (.ins C dx fs))(c:Cls X.K C)(k:Meth X.K C m g)(l:fs.lookup m=none)(h:Q (.ref g,[.ref a]) s):K_ (G_ X.prog X.w) A (ZB (.ref a) m B) Q E s:=by obtain⟨mA,O,r,_,_,_⟩:=zE I.hok e;have L:=d5.none_of (by rw[<-l];exact r m);exact O3 I.kIn O (c.get m) k.at_ k.fn L h
theorem Sm{y:V}{u:a_}{Q:Unit->e_->Prop}(I:Inv X pz σ H s)(e:H a=some (.ins C dx fs))(c:Cls X.K C)(n:iu X.K C f)(m:fs.length<1000)(Y:aT y u)(h:∀M,Inv X pz σ (aV H a (.ins C dx (putF f y fs))) M->Q () M):K_ (G_ X.prog X.w) A (setAttr (.ref a) f u) Q E s:=by
 obtain⟨mA,O,r,L,_,N⟩:=zE I.hok e;have Z:(fs.map (·.1)).length<=sizeLine:=by rw[h_,H_];omega
 refine On I.kIn O c.sa c.po (by unfold W.takerIn;rw[n];rfl) c.hd L Z fun k B U=>h _ ?_;have i:∃o,k.get? dx=some o:=let⟨o,_,_,l,_⟩:=B.ns;⟨o,l⟩;refine I.write (by rw[e];exact True.intro) (.inr N) (fun b q j z=>(U.2 b j).trans z) i ?_;refine⟨by rw[bZ O.ne];exact N,?_,O.ne,B.obj,_,B.ns,fun g=>?_,fun g d=>?_⟩
 .have:=Ke f y fs;omega
 .rw[Kf];by_cases q:g=f
  .rw[Q_d q,Q_d q];exact Y
  simp_all
 .by_cases q:g=f
  .rw[q];exact(AG f y fs).1
  .refine(AG f y fs).2 g (L g fun z=>d ?_);simp_all
theorem Inv.made(I:Inv X pz σ H s):Inv X pz σ (aV (aV H s.heap.objs.size (.own (s.heap.objs.size+1))) (s.heap.objs.size+1) (.ins C s.heap.objs.size []))
  { s with heap:=(s.heap.push W.emptyDict).push (W.instObj C s.heap.objs.size) }:=by
 have L:(s.heap.push W.emptyDict).get? s.heap.objs.size=some W.emptyDict:=q_ s.heap rfl;have Y:=by have:=q_ (s.heap.push W.emptyDict) (o:=W.instObj C s.heap.objs.size) rfl;rwa[Xi]at this
 have U:(s.heap.push W.emptyDict).Ns s.heap.objs.size _:=⟨W.emptyDict,#[],_,L,rfl,(fun e N=>Q_f N (by simp)),fun _=>rfl⟩
 have Z:=I.laid (o:=.own (s.heap.objs.size+1)) (t':=s.toks) (fun b u q=>b_ _ q) (o_ _) ⟨_,L⟩;refine Z.laid (fun b u q=>b_ _ q) (Y2 (Xi _ _)) ?_;have B:s.heap.objs.size≠s.heap.objs.size+1:=L_ (XB _);refine⟨by rw[bZ B,cP],Xe _,B,Y,fun _=>none,(Heap.Ns1.of_empty U).at fun o q=>b_ _ q,fun _=>True.intro,fun y M=>Q_f rfl M⟩
end
def CH(K:W.Frag)(ta:TE)(f:Str):TE:=fun σ H Q=>ta σ H fun x H1=>∃a C dx fs v,x=.ref a/\H1 a=some (.ins C dx fs)/\Cls K C/\iu K C f/\fs.lookup f=some v/\Q v H1
def CO(K:W.Frag)(ta tv:TE)(f:Str):TS:=fun D σ H=>tv σ H fun y H1=>ta σ H1 fun x H2=>∃a C dx fs,x=.ref a/\H2 a=some (.ins C dx fs)/\Cls K C/\iu K C f/\fs.length<1000 /\D.nx σ (aV H2 a (.ins C dx (putF f y fs)))
section
variable{o value:Expr}{f:Str}{pos' tpos:Pos}{tv:TE}
theorem pD(U:PE X e ta)(Y:Xb e f X.env (eval e X.env)=eval e X.env):PE X (.Attribute e f pos) (CH X.K ta f):=by intro N s B H Q I h;refine Attribute_any_ (bQ (U N s B H _ I h) fun u m z=>?_) (by rw[arm_eval_Attribute,Y]);obtain⟨x,i,g,L,a,C,p,o,v,Z,b,c,n,l,q⟩:=z;subst Z;obtain rfl:u=Value.ref a:=L;exact Sr g b c n l fun j k d M=>⟨v,i,d,M,q⟩
theorem qQ(d:PE X o ta)(b:PE X value tv)(hs:Xq value (some (.Attribute o f pos')) pos.line X.env=pure false):PS X (.Assign [.Attribute o f pos'] value pos) (CO X.K ta tv f):=by intro L s B H D I h;refine plainObj_wpAny_Assign_Attribute (bQ (b L s B H _ I h) fun u M ⟨y,m,k,N,q⟩=>bQ (d L M B m _ k q) fun Z r z=>?_) hs;obtain⟨x,w,j,U,a,C,v,t,e,g,c,n,l,Y⟩:=z;subst e;obtain rfl:Z=Value.ref a:=U;exact Sm j g c n l N fun p i=>⟨B,_,i,Y⟩
end
structure Room(k:Nat)(A:V_):Prop where
 hd:A.handled=none
 dp:A.depth+3*k+5<recursionLimit
 un:A.units+16*k+200<Yp
 gd:A.guards=some []
theorem Room.mono{j k:Nat}{A:V_}(r:Room k A)(h:j<=k):Room j A:=⟨r.hd,by have:=r.dp;omega,by have:=r.un;omega,r.gd⟩
theorem Room.deeper{k:Nat}{A:V_}(r:Room (k+1) A)(B:Env):Room k (A.deeper B):=⟨r.hd,by have:=r.dp;show A.depth+1+3*k+5<_;omega,by have:=r.un;show A.units+3+16*k+200<_;omega,r.gd⟩
theorem R1{A:V_}{C:Addr}{us:List a_}{B:List (Str×a_)}:(A.under (.builtin "type.__call__" ⟨.ref C::us,B⟩)).depth=A.depth+1:=by first|rfl|grind
theorem R3{A:V_}{C:Addr}{us:List a_}{B:List (Str×a_)}:(A.under (.builtin "type.__call__" ⟨.ref C::us,B⟩)).units=A.units+1:=by first|rfl|grind
theorem Room.make{k:Nat}{A:V_}(r:Room (k+1) A)(C:Addr)(us:List a_)(B:List (Str×a_)):Room k (A.under (.builtin "type.__call__" ⟨.ref C::us,B⟩)):=⟨r.hd,by have:=r.dp;rw[R1];omega,by have:=r.un;rw[R3];omega,(by have:=r.gd;first|exact this|(simp[Around.under,Code.isGuard,guardIds];exact this))⟩
theorem Room.depth{k:Nat}{A:V_}(r:Room k A):A.depth<recursionLimit:=by have:=r.dp;omega
theorem Room.units{k:Nat}{A:V_}(r:Room k A):A.units+64<Yp:=by have:=r.un;omega
def ot:TA:=fun _ H Q=>Q [] H
def UF(ta:TE)(tr:TA):TA:=fun σ H Q=>ta σ H fun x H1=>tr σ H1 fun xs H2=>Q (x::xs) H2
variable{t:TA}{es:List Expr}
theorem ka:PA X [] ot:=fun _ _ _ _ H Q I h=>Calls.spliced_nil ⟨[],H,I,.nil,h⟩
theorem i6(d:PE X e te)(c:PA X es t)(hs:i_ (e::es) X.env=(false,eval e X.env)::i_ es X.env:=by rfl):PA X (e::es) (UF te t):=by intro B M s L H Q I h;rw[hs];refine Calls.spliced_cons (bQ (d M s L H _ I h) fun u U z=>?_);obtain⟨x,j,g,Z,b⟩:=z;exact bQ (c B M U L j _ g b) fun k l y=>by obtain⟨N,i,f,Y,a⟩:=y;exact ⟨x::N,i,f,.cons Z Y,a⟩
def Cw(t:TA):TE:=fun σ H Q=>t σ H fun xs H1=>xs.length<=sizeLine/\∀p,H1 p=none->Q (.ref p) (aV H1 p (.tup xs))
def CB(t:TA):TE:=fun σ H Q=>t σ H fun xs H1=>xs.length<=sizeLine/\∀p,H1 p=none->Q (.ref p) (aV H1 p (.lst xs))
theorem M9{x1}(h:PA X es t):PE X (.Tuple es x1 pos) (Cw t):=by intro U s L H Q I Y;refine wpAny_Tuple_spliced (bQ (h pos U s L H _ I Y) fun M N ⟨a,c,B,r,z,q⟩=>⟨by rw[<-r.length];exact z,?_⟩);have Z:=B.hok.fresh (o_ _);refine⟨.ref N.heap.objs.size,_,B.laid (fun b u e=>b_ _ e) (o_ _) ?_,rfl,q _ Z⟩;exact⟨z,M,r,⟨_,q_ _ rfl,rfl,_,rfl⟩,_,q_ _ rfl,rfl⟩
theorem M7(h:PA X es t):PE X (.List es pos) (CB t):=by intro U s L H Q I Y;refine wpAny_List_spliced (bQ (h pos U s L H _ I Y) fun M N ⟨a,c,B,r,z,q⟩=>⟨by rw[<-r.length];exact z,?_⟩);have Z:=B.hok.fresh (o_ _);refine⟨.ref N.heap.objs.size,_,B.laid (fun b u e=>b_ _ e) (o_ _) ?_,rfl,q _ Z⟩;exact⟨z,M,0,r,q_ _ rfl⟩
abbrev Sp:=List V->Hp->VK->XK->Prop
abbrev jZ:=List Env->Hp->e_->XK->a_->e_->Prop
structure Env0(P:E_)(w:P_)(K:W.Frag)(mg:Str->Option a_)(base:Heap)(A:V_)(outer:List Env)(s:e_)(H:Hp):Prop where
 frames:A.frames=some outer
 mod:Mod K mg base
 bs:∀b o,base.get? b=some o->s.heap.get? b=some o/\H b=none
 bsz:base.objs.size<=s.heap.objs.size
 funs:s.heap.FunFrames base outer
 frf:∀b∈i8 outer,H b=none
 hok:d7 P w H s.heap
 bare:Zf s.gens
def CE(outer:List Env)(P:E_)(w:P_)(H:Hp)(s:e_)(Q:VK)(u:a_)(s':e_):Prop:=∃v H',s'.os=s.os/\Zf s'.gens/\Un (i8 outer) [] H H' s.heap s'.heap/\d7 P w H' s'.heap/\aT v u/\Q v H'
def CR(CX:jZ)(outer:List Env)(P:E_)(w:P_)(H:Hp)(s:e_)(Q:VK)(E:XK)(r:Result)(s':e_):Prop:=match r with
|.ok (.ret u)=>CE outer P w H s Q u s'
|.ok _=>False
|.error e=>CX outer H s E e s'
structure FnOk(P:E_)(w:P_)(K:W.Frag)(mg:Str->Option a_)(base:Heap)(CX:jZ)(k:Nat)(f:Addr)(fd:Xv)(ps:List Str)(sp:Sp):Prop where
 len:∀vs H Q E,sp vs H Q E->vs.length=ps.length
 run:∀(A:V_)(outer:List Env)(s:e_)(H:Hp)(args:Args)(us:List a_)(vs:List V)(Q:VK)(E:XK),Room k A->Env0 P w K mg base A outer s H->õ s fd args (ps.zip us)->aK vs us->sp vs H Q E ->ä (G_ P w) A (.call (.ref f) args) (CR CX outer P w H s Q E) s
theorem FnOk.mono{P:E_}{w:P_}{K:W.Frag}{Y:Str->Option a_}{B:Heap}{a:jZ}{j k:Nat}{f:Addr}{Z:Xv}{U:List Str}{N:Sp}(F:FnOk P w K Y B a j f Z U N)(h:j<=k):FnOk P w K Y B a k f Z U N:=⟨F.len,fun A L s H M c b Q E d=>F.run A L s H M c b Q E (d.mono h)⟩
theorem FnOk.imp{P:E_}{w:P_}{K:W.Frag}{Z:Str->Option a_}{L:Heap}{b:jZ}{k:Nat}{f:Addr}{a:Xv}{Y:List Str}{U B:Sp}(F:FnOk P w K Z L b k f a Y U)(h:∀vs H Q E,B vs H Q E->U vs H Q E):FnOk P w K Z L b k f a Y B:=⟨fun vs H Q E q=>F.len vs H Q E (h _ _ _ _ q),fun A M s H N c vs Q E g i j d e=>F.run A M s H N c vs Q E g i j d (h _ _ _ _ e)⟩
theorem Env0.make{P:E_}{w:P_}{K:W.Frag}{M:Str->Option a_}{L:Heap}{A:V_}{B:List Env}{s:e_}{H:Hp}(e:Env0 P w K M L A B s H)(C:Addr)(us:List a_)(N:List (Str×a_)):Env0 P w K M L (A.under (.builtin "type.__call__" ⟨.ref C::us,N⟩)) B s H:=⟨by first|exact e.frames|grind,e.mod,e.bs,e.bsz,e.funs,e.frf,e.hok,e.bare⟩
section
variable{s':e_}
theorem Inv.env0(I:Inv X pz σ H s):Env0 X.prog X.w X.K X.mg X.base X.A X.stack s H:=⟨I.ok.frames,I.ok.mod,I.bs,O_ I.ok.bsz I.sz,I.stack,I.stkFree,I.hok,I.bare⟩
theorem Inv.after{Q:VK}{u:a_}(I:Inv X pz σ H s)(h:CE X.stack X.prog X.w H s Q u s'):EP X pz σ Q u s':=by obtain⟨v,Y,U,B,N,M,r,q⟩:=h;obtain⟨Z,g,d,t,L⟩:=s';obtain rfl:L=s.os:=U;exact⟨v,Y,I.call N M B (by simp_all),r,q⟩
end
def UE(sp:Sp)(dvs:List V)(E:XK)(t:TA):TE:=fun σ H Q=>t σ H fun vs H1=>sp (vs++dvs) H1 Q E
def Ej(C:Addr)(m:Str)(sp:Sp)(dvs:List V)(E:XK)(ta:TE)(t:TA):TE:=fun σ H Q=>ta σ H fun x H1=>∃a dx fs,x=.ref a/\H1 a=some (.ins C dx fs)/\fs.lookup m=none /\t σ H1 fun vs H2=>sp (x::(vs++dvs)) H2 Q E
def Ei(C:Addr)(sp:Sp)(dvs:List V)(E:XK)(t:TA):TE:=fun σ H Q=>t σ H fun vs H1=>∀x dx,H1 x=none->H1 dx=none->dx≠x ->sp (.ref x::(vs++dvs)) (aV (aV H1 dx (.own x)) x (.ins C dx [])) (fun v H2=>v=.non/\Q (.ref x) H2) E
def iZ(K:W.Frag)(fd:Xv)(ps:List Str)(ds:List a_):Prop:=∀(s:e_)(us:List a_),K.In s.heap->(us++ds).length=ps.length->õ s fd ⟨us,[]⟩ (ps.zip (us++ds))
theorem iZ.all{K:W.Frag}{M:Xv}{B:List Str}(h:∀us:List a_,us.length=B.length->Zi M ⟨us,[]⟩=pure (B.zip us)):iZ K M B []:=fun s us _ L=>by rw[T_]at L ⊢;exact .of_eq (h us L)
def m9(CX:jZ)(X:Cx)(E:XK):Prop:=∀(pz:List (Addr×Obj))(σ:St)(H:Hp)(s:e_)(e:a_)(s':e_),Inv X pz σ H s->CX X.stack H s E e s'->X.xe e s'
variable{p:Pos}
section
variable{CX:jZ}{k:Nat}{fd:Xv}{ps:List Str}{sp:Sp}{dvs:List V}{ds:List a_}{E:XK}{x m:Str}{apos:Pos}{o:Expr}
theorem vB{pz:List (Addr×Obj)}{σ:St}{H:Hp}{s:e_}{Q:VK}{us:List a_}{vs:List V}(F:FnOk X.prog X.w X.K X.mg X.base CX k f fd ps sp)(U:Room k X.A)(a:iZ X.K fd ps ds)(Z:aK dvs ds)(N:m9 CX X E)(I:Inv X pz σ H s)(r:aK vs us)(h:sp (vs++dvs) H Q E):K_ (G_ X.prog X.w) X.A (call (.ref f) us) (EP X pz σ Q) X.xe s:=by
 have L:=r.append Z;have Y:(us++ds).length=ps.length:=by rw[<-L.length];exact F.len _ _ _ _ h
 refine Î (Y3 (F.run X.A X.stack s H _ _ _ Q E U I.env0 (a s us I.kIn Y) L h) fun r M B=>?_);cases r with
|error e=>exact N pz σ H s e M I B
|ok b=>cases b with
 |ret u=>exact I.after B
 |next=>exact XG B
 |brk=>exact XG B
 |cont=>exact XG B
theorem Gs(F:FnOk X.prog X.w X.K X.mg X.base CX k f fd ps sp)(Z:Room k X.A)(c:Gl X x)(a:X.mg x=some (.ref f))(b:W.keepIn X.K (.ref f)=true)(i:iZ X.K fd ps ds)(g:aK dvs ds)(Y:m9 CX X E)(j:PA X (e::es) t)(B:(x==("__debug__" : Str))=false:=by decide)(d:i_ (e::es) X.env=(false,eval e X.env)::i_ es X.env:=by rfl)(L:(backTo pos (i_ es X.env)).any (·.1)=false:=by rfl):PE X (.Call (.Name x p) (e::es) [] pos) (UE sp dvs E t):=by intro U s N H Q I h;refine Yk (vT I c a ?_ B);refine W.callWith_K I.ok.mod.kin b (bQ (j pos U s N H _ I h) fun m n ⟨l,o,M,r,q⟩=>⟨M.kIn,?_⟩) d L;exact vB F Z i g Y M r q
theorem Gu{i:Sem Bool}(v:PE X o ta)(c:Cls X.K C)(U:Meth X.K C m f)(F:FnOk X.prog X.w X.K X.mg X.base CX k f fd ps sp)(p:Room k X.A)(z:iZ X.K fd ps ds)(y:aK dvs ds)(j:m9 CX X E)(G:PA X (e::es) t)(B:i_ (e::es) X.env=(false,eval e X.env)::i_ es X.env:=by rfl)(L:(backTo pos (i_ es X.env)).any (·.1)=false:=by rfl)(n:eval (.Call (.Attribute o m apos) (e::es) [] pos) X.env=(do
   let ov <-eval o X.env
   Zu apos.atName
   let(f,first) <-YF [ov] (ZB ov m i)
   ó pos f first (backTo pos (i_ (e::es) X.env)) (Y4 pos (X7 [] X.env))):=by rfl):PE X (.Call (.Attribute o m apos) (e::es) [] pos) (Ej C m sp dvs E ta t):=by intro N s M H Q I h;refine W.methodCall_KW (bQ (v N s M H _ I h) fun u b k=>?_) n;obtain⟨x,P,Z,d,a,dx,fs,J,O,l,q⟩:=k;subst J;obtain rfl:u=Value.ref a:=d;refine Je Z O c U l ?_;refine W.callWith_K I.ok.mod.kin U.kp (bQ (G pos N b M P _ Z q) fun R T ⟨vs,H2,Y,r,g⟩=>⟨Y.kIn,?_⟩) B L;exact vB (vs:=.ref a::vs) F p z y j Y (.cons rfl r) g
theorem Qs{Y:Sem Bool}(e:PE X o ta)(c:Cls X.K C)(L:Meth X.K C m f)(F:FnOk X.prog X.w X.K X.mg X.base CX k f fd ps sp)(d:Room k X.A)(i:iZ X.K fd ps ds)(g:aK dvs ds)(Z:m9 CX X E)(b:eval (.Call (.Attribute o m apos) [] [] pos) X.env=(do
   let ov <-eval o X.env
   Zu apos.atName
   let(f,first) <-YF [ov] (ZB ov m Y)
   ó pos f first (backTo pos (i_ [] X.env)) (Y4 pos (X7 [] X.env))):=by rfl):PE X (.Call (.Attribute o m apos) [] [] pos) (Ej C m sp dvs E ta ot):=by intro U s M H Q I h;refine W.methodCall_KW (bQ (e U s M H _ I h) fun u p k=>?_) b;obtain⟨x,v,B,N,a,t,r,j,n,l,q⟩:=k;subst j;obtain rfl:u=Value.ref a:=N;refine Je B n c L l ?_;exact W.callWith_K0 B.kIn L.kp (vB (vs:=[.ref a]) F d i g Z B (.cons rfl .nil) q)
structure Mk(K:W.Frag)(C f:Addr):Prop where
 makes:W.makesIn K C=true
 init:W.findIn K (.ref C) "__init__" = some (some (.ref f))
 fn:W.isFn K (.ref f)=true
 kp:W.keepIn K (.ref C)=true
theorem HK{pz:List (Addr×Obj)}{σ:St}{H:Hp}{s:e_}{Q:VK}{us:List a_}{vs:List V}(M:Mk X.K C f)(F:FnOk X.prog X.w X.K X.mg X.base CX k f fd ps sp)(g:Room (k+1) X.A)(o:iZ X.K fd ps ds)(n:aK dvs ds)(d:m9 CX X E)(I:Inv X pz σ H s)(r:aK vs us)(h:∀x N,H x=none->H N=none->N≠x->sp (.ref x::(vs++dvs)) (aV (aV H N (.own x)) x (.ins C N [])) (fun v y=>v=.non/\Q (.ref x) y) E):K_ (G_ X.prog X.w) X.A (call (.ref C) us) (EP X pz σ Q) X.xe s:=by
 have Z:=h _ s.heap.objs.size (I.hok.fresh (À _)) (I.hok.fresh (o_ _)) (L_ (XB _));have U:=Inv.made (C:=C) I;have Y:aK (V.ref (s.heap.objs.size+1)::(vs++dvs)) _:=.cons rfl (r.append n);have j:=by have e:=Y.length;rw[F.len _ _ _ _ Z]at e;exact e.symm
 refine Î ((fun X i l m h=>by exact W.make_core (W.makes_of X i) (W.looks_findIn X l) (fun L=>W.bind_fn X L m) (.inl rfl) h) I.kIn M.makes M.init (beq_iff_eq.mp M.fn) (Y3 (F.run _ X.stack _ _ _ _ _ _ E (g.make C us [])
  (U.env0.make C us []) (o _ _ U.kIn j) Y Z) fun r a B=>?_))
 cases r with
|error e=>exact d pz σ _ _ e a U B
|ok p=>cases p with
 |ret u=>obtain⟨v,z,t,b,q,c⟩:=U.after B;subst q;exact⟨b,⟨V.ref _,z,t,rfl,c⟩⟩
 |next=>exact XG B
 |brk=>exact XG B
 |cont=>exact XG B
theorem OK(M:Mk X.K C f)(F:FnOk X.prog X.w X.K X.mg X.base CX k f fd ps sp)(a:Room (k+1) X.A)(c:Gl X x)(b:X.mg x=some (.ref C))(i:iZ X.K fd ps ds)(g:aK dvs ds)(Z:m9 CX X E)(j:PA X (e::es) t)(B:(x==("__debug__" : Str))=false:=by decide)(d:i_ (e::es) X.env=(false,eval e X.env)::i_ es X.env:=by rfl)(L:(backTo pos (i_ es X.env)).any (·.1)=false:=by rfl):PE X (.Call (.Name x p) (e::es) [] pos) (Ei C sp dvs E t):=by intro Y s U H Q I h;refine Yk (vT I c b ?_ B);refine W.callWith_K I.ok.mod.kin M.kp (bQ (j pos Y s U H _ I h) fun m n ⟨l,o,N,r,q⟩=>⟨N.kIn,?_⟩) d L;exact HK M F a i g Z N r q
theorem Qr(M:Mk X.K C f)(F:FnOk X.prog X.w X.K X.mg X.base CX k f fd ps sp)(N:Room (k+1) X.A)(Y:Gl X x)(U:X.mg x=some (.ref C))(a:iZ X.K fd ps ds)(Z:aK dvs ds)(L:m9 CX X E)(B:(x==("__debug__" : Str))=false:=by decide):PE X (.Call (.Name x p) [] [] pos) (Ei C sp dvs E ot):=by intro c s b H Q I h;refine Yk (vT I Y U ?_ B);exact W.callWith_K0 I.kIn M.kp (HK M F N a Z L I .nil h)
end
structure FnScope(N P:List Str)(sc:YH):Prop where
 kind:sc.kind=.function
 co:sc.isCoroutine=false
 gen:sc.isGenerator=false
 nd:N.Nodup
 pre:N.take P.length=P
 par:∀x∈P,sc.names.lookup x=some .local\/sc.names.lookup x=some .cell
 nofree:∀y∈sc.names,y.2≠.free
theorem Iz{L:Str->Option YO}{x:Str}:∀{B:List (Str×a_)}{m:Str->Option a_},(∀v,(x,v)∉B)->bindL L B m x=m x
|[],_,_=>rfl
|(n,v)::r,m,h=>by
  unfold bindL;rw[Iz fun w M=>h w (l_ _ M)];split
  .grind
  .rfl
theorem Ix{L:Str->Option YO}{x:Str}:∀{B:List (Str×a_)}{m:Str->Option a_},(∀v,(x,v)∉B)->bindC L B m x=m x
|[],_,_=>rfl
|(n,v)::r,m,h=>by
  unfold bindC;rw[Ix fun w M=>h w (l_ _ M)];split
  .rfl
  grind
theorem Iy{B:Str->Option YO}{x:Str}{v:a_}:∀{P:List Str}{vs:List a_}{i:Nat}{m:Str->Option a_},P.Nodup->P[i]? = some x->vs[i]? = some v->B x=some .local ->bindL B (P.zip vs) m x=some v
|[],_,_,_,_,h,_,_=>by simp at h
|_::_,[],_,_,_,_,h,_=>by simp at h
|p::P,w::vs,0,m,N,M,L,U=>by simp at M L;subst M;subst L;show bindL B ((p,w)::P.zip vs) m p=_;unfold bindL;rw[Iz fun v Y=>(XH.mp N).1 (XI Y).1,Q_d U];simp
|p::P,w::vs,i+1,m,N,M,L,U=>by unfold bindL;exact Iy (XH.mp N).2 (by simpa using M) (by simpa using L) U
theorem Iw{B:Str->Option YO}{x:Str}{v:a_}:∀{P:List Str}{vs:List a_}{i:Nat}{m:Str->Option a_},P.Nodup->P[i]? = some x->vs[i]? = some v->B x≠some .local ->bindC B (P.zip vs) m x=some v
|[],_,_,_,_,h,_,_=>by simp at h
|_::_,[],_,_,_,_,h,_=>by simp at h
|p::P,w::vs,0,m,N,M,L,U=>by simp at M L;subst M;subst L;show bindC B ((p,w)::P.zip vs) m p=_;unfold bindC;rw[Ix fun v Y=>(XH.mp N).1 (XI Y).1,Q_e U];simp
|p::P,w::vs,i+1,m,N,M,L,U=>by unfold bindC;exact Iw (XH.mp N).2 (by simpa using M) (by simpa using L) U
def bO(N:List Str)(vs:List V):St:=vs.map some++r_ (N.length-vs.length) none
def d4(CX:jZ)(P:E_)(w:P_)(K:W.Frag)(mg:Str->Option a_)(base:Heap)(N:List Str)(qual:Str)(scope:YH)(f:Addr)(cd:a_)(A:V_)(outer:List Env)(s:e_)(H:Hp)(E:XK):Cx where
 prog:=P
 w:=w
 K:=K
 mg:=mg
 base:=base
 A:=A.deeper (YK qual scope s.heap.objs.size f cd)
 N:=N
 s₀:=s
 H₀:=H
 env:=YK qual scope s.heap.objs.size f cd
 outer:=outer
 stack:=YK qual scope s.heap.objs.size f cd::outer
 ex:=[]
 calm:=true
 fn:=fun _=>true
 pn:=[]
 xe:=fun e s'=>K_ (G_ P w) (A.deeper (YK qual scope s.heap.objs.size f cd)) (leaving (YK qual scope s.heap.objs.size f cd) e) (fun _ s''=>CX outer H s E e s'') (fun e' s''=>CX outer H s E e' s'') s'
theorem Hd{B:YH}{n:Nat}{x:Str}(h:B.names.lookup x=some .cell):∃c,(cellsFrom n B.names []).lookup x=some c:=by have q:=W.cellsFrom_some B.names n [] (.inl h);exact Option.isSome_iff_exists.mp q
theorem Qy{J:jZ}{P:E_}{w:P_}{K:W.Frag}{C:Str->Option a_}{d:Heap}{N j:List Str}{Y:Str}{M:YH}{f:Addr}{t:a_}{A:V_}{U:List Env}{s F:e_}{H:Hp}{E:XK}{us:List a_}{vs:List V}(S:FnScope N j M)(R:A.handled=none)(g:Env0 P w K C d A U s H)(hl:vs.length=j.length)(r:aK vs us)(x:InCallC s s.heap.objs.size (bindL (YK Y M s.heap.objs.size f t).kindOf (j.zip us) fun _=>none) (cellsFrom (s.heap.objs.size+1) M.names []) (bindC (YK Y M s.heap.objs.size f t).kindOf (j.zip us) fun _=>none) F):Inv (d4 J P w K C d N Y M f t A U s H E) [] (bO N vs) H F:=by
 have Q:j.length<=N.length:=by have:=Q_g YZ S.pre;rw[WY]at this;omega
 obtain⟨o,X,rfl,I⟩:=x.done;have B:∀b:Addr,b∉(d4 J P w K C d N Y M f t A U s H E).ex:=fun b z=>Q_f (show b∈([]:List Addr)from z) (by simp);refine⟨⟨g.mod,S.kind,rfl,rfl,o_ _,fun y z c o Z=>?_,fun y l=>?_,fun y c _ h=>?_,fun _=>R,Around.frames_deeper g.frames,.inr ⟨rfl,rfl⟩,fun b z=>Q_f z (B b),g.bs,g.bsz,fun b _ _=>B b,fun b z=>Q_f z (B b),g.funs,g.frf⟩,rfl,g.bare,Un.kept I,⟨_,x.toInCall.ns,fun i y v o Z h3=>?_⟩,fun y c h=>⟨_,x.cell y c h⟩,g.hok.fresh (o_ _),fun y c h=>?_,fun p m=>Q_f (show p∈([]:List (Addr×Obj))from m) (by simp),g.hok.kept I,?_⟩
 .exact name_of_addr x.apart (PySem.mem_of_lookup o) (PySem.mem_of_lookup Z)
 .have l:M.names.lookup y=some .cell\/M.names.lookup y=some .free:=l;rcases l with l|l
  .exact Hd l
  .exact Q_f rfl (S.nofree _ (PySem.mem_of_lookup l))
 .exact Ü (x.above y c (PySem.mem_of_lookup h))
 .have hi:i<vs.length:=by
   unfold bO at Z;by_cases hi:i<vs.length
   .exact hi
   .rw[W0 (by simpa using hi)]at Z;rw[Xr]at Z;split at Z <;> cases Z
  have T:vs[i]? = some v:=by unfold bO at Z;rw[J_ (by simpa using hi),A_]at Z;cases e:vs[i]? with
  |none=>rw[e]at Z;cases Z
  |some a=>rw[e]at Z;cases Z;rfl
  obtain⟨u,G,O⟩:=r.get T;have m:j[i]? = some y:=by rw[<-S.pre,Z1 (by omega)];exact o
  have L:j.Nodup:=by rw[<-S.pre];exact S.nd.sublist (ZP _ _)
  refine⟨u,O,?_⟩;rcases S.par y (Xj m)with k|k
  .exact .inl ⟨k,Iy L m G k⟩
  .obtain⟨c,e⟩:=Hd (n:=s.heap.objs.size+1) k;refine .inr ⟨.inl k,c,e,?_⟩;have q:=x.cell y c e;rw[Iw L m G (by show M.names.lookup y≠_;rw[k];decide)]at q;exact q
 .exact g.hok.fresh (Ü (x.above y c (PySem.mem_of_lookup h)))
 .unfold bO;show _=N.length;rw[M_,h_,XV];omega
theorem Dy{O:jZ}{P:E_}{w:P_}{K:W.Frag}{G:Str->Option a_}{h:Heap}{k:Nat}{f:Addr}{name c:Str}{g:Arguments}{i:List Stmt}{Z:YH}{dV kV C pm d ct oc:a_}{an od:Option Addr}{X:Array (Option a_)}{N F:List Str}{R:Sp}(lk:K.lookup f=some ⟨oc,od,.func (W.fnOf name c g i Z dV kV C pm an d ct),X⟩)(Y:W.codeIn K d c=true)(S:FnScope N F Z)(p:∀vs H Q E,R vs H Q E->vs.length=F.length)(B:∀(A:V_)(a:List Env)(s:e_)(H:Hp)(vs:List V)(Q:VK)(E:XK),Room k (A.deeper (YK c Z s.heap.objs.size f d))->R vs H Q E ->∃t,d6 (d4 O P w K G h N c Z f d A a s H E) i t/\t { nx:=fun _ l=>Q .non l,rt:=Q } (bO N vs) H):FnOk P w K G h O (k+1) f (W.fnOf name c g i Z dV kV C pm an d ct) F R:=by
 refine⟨p,fun A a s H args us vs Q E hr z hb r M=>?_⟩;have hl:=p _ _ _ _ M;have KX:=z.mod.kin.keeps fun b o e=>(z.bs b o e).1;have U:=z.mod.nolimit.keeps fun b o e=>(z.bs b o e).1;have L:∀y∈F.zip us,Z.names.lookup y.1=some .local\/(Z.names.lookup y.1=some .cell/\((cellsFrom (s.heap.objs.size+1) Z.names []).lookup y.1).isSome=true):=fun⟨n,v⟩ hy=>by
  rcases S.par n (XI hy).1 with q|q
  .exact .inl q
  .exact .inr ⟨q,W.cellsFrom_some _ _ _ (.inl q)⟩
 refine codeAny_call_function hr.depth (KX _ _ lk) rfl S.co S.gen rfl (W.codeRec_of KX Y) (hb _ _ _ _ ?_);refine wpAny_newFunctionEnv_cells S.kind L fun env he s1 x=>?_;subst he;refine⟨U.keeps x.toInCall.keep,codeAny_func ?_⟩;obtain⟨t,ht,hq⟩:=B A a s H vs Q E (hr.deeper _) M;have I:Inv (d4 O P w K G h N c Z f d A a s H E) [] _ H s1:=Qy S hr.hd z hl r x;refine X_ (ht [] s1 _ H _ I hq) (fun fl T m=>?_) fun e T m=>m;have fin:∀{j:St}{l:Hp}{v:V}{u:a_},Inv (d4 O P w K G h N c Z f d A a s H E) [] j l T->aT v u->Q v l->CE a P w H s Q u T:=fun{j l v u} J rv q=>⟨v,l,J.os,J.bare,J.base,J.hok,rv,q⟩
 cases fl with
|ret u=>obtain⟨v,j,l,J,rv,q⟩:=m;exact fin J rv q
|next=>obtain⟨j,l,J,q⟩:=m;exact fin (v:=V.non) J rfl q
|brk=>obtain⟨_,_,_,q⟩:=m;exact XG q
|cont=>obtain⟨_,_,_,q⟩:=m;exact XG q
section
variable{x:Str}{id T:String}{r:List V->Hp->VK->Prop}
def xz(r:List V->Hp->VK->Prop)(t:TA):TE:=fun σ H Q=>t σ H fun vs H1=>r vs H1 Q
theorem nq(j:fT X (.builtin id) r)(g:Gl X x)(f:X.mg x=none)(c:YE x=some (.builtin id))(k:PA X (e::es) t)(d:x≠"__name__" := by decide)(B:(x==("__debug__" : Str))=false:=by decide)(i:i_ (e::es) X.env=(false,eval e X.env)::i_ es X.env:=by rfl)(L:(backTo pos (i_ es X.env)).any (·.1)=false:=by rfl):PE X (.Call (.Name x p) (e::es) [] pos) (xz r t):=by intro N s M H Q I h;refine Yk (pB I g f c ?_ d B);exact PyProof.Rows.callWith_builtin1 (bQ (k pos N s M H _ I h) fun Y Z z=>by obtain⟨U,m,l,a,b⟩:=z;exact j N Z M m U Y Q l a b) i L
theorem nu(j:fT X (.type T) r)(g:Gl X x)(f:X.mg x=none)(c:YE x=some (.type T))(k:PA X (e::es) t)(d:x≠"__name__" := by decide)(B:(x==("__debug__" : Str))=false:=by decide)(i:i_ (e::es) X.env=(false,eval e X.env)::i_ es X.env:=by rfl)(L:(backTo pos (i_ es X.env)).any (·.1)=false:=by rfl):PE X (.Call (.Name x p) (e::es) [] pos) (xz r t):=by intro N s M H Q I h;refine Yk (pB I g f c ?_ d B);exact XJ (bQ (k pos N s M H _ I h) fun Y Z z=>by obtain⟨U,m,l,a,b⟩:=z;exact j N Z M m U Y Q l a b) i L
end
end L2
namespace HT
open PySem PyProof.Rows
def dJ:List Int->List Int->Bool
|[],[]=>false
|[],_::_=>true
|_::_,[]=>false
|x::xs,y::ys=>if x=y then dJ xs ys else decide (x<y)
theorem fK(x y:Int)(xs B:List Int):dJ (x::xs) (y::B)=if x=y then dJ xs B else decide (x<y):=rfl
theorem T1:dJ [] []=false:=rfl
theorem T4(y:Int)(B:List Int):dJ [] (y::B)=true:=rfl
theorem Ue(x:Int)(xs:List Int):dJ (x::xs) []=false:=rfl
theorem PB(A:V_)(s:e_)(a:Int)(t:Tok)(c:Int)(u:Tok):∃e,Ä A s (.int a t) (.int c u) e/\(e=true↔a=c):=⟨_,ZD a t c u,by simp⟩
theorem h9(A:V_)(s:e_)(a:Int)(t:Tok)(c:Int)(u:Tok)(prog:E_)(w:P_)(E:a_->e_->Prop)(Q:a_->e_->Prop)(h:Q (.bool (decide (a<c))) s):K_ (G_ prog w) A (richCompare .Lt (.int a t) (.int c u)) Q E s:=(PyProof.Rows.lt_int h)
section
open PySem.SeqAt
open PySem.AutoSeq1 (wpAny_loadPart')
open PySem.MeetsSeq PySem.MeetsSeq2 PySem.MeetsSeq3
theorem T0(l b:Addr)(N B:Array a_)(n G:Nat)(O P:Option Addr)(F Z:Array (Option a_))(ns ms:List Int)(hi:Yx N.toList ns)(E:Yx B.toList ms) :
  Meets (å.«tuple.__lt__» ⟨[.ref l,.ref b],[]⟩)
   (fun _ R s=>s.heap.get? l=some { cls:=.type "tuple",dict:=O,data:=.seq N n,slots:=F }/\s.heap.get? b=some { cls:=.type "tuple",dict:=P,data:=.seq B G,slots:=Z } /\R (.ok (.ret (.bool (dJ ns ms)))) s):=
 .of_wp fun i w A R s h=>by
  obtain⟨v,g,d,p,r⟩:=s;obtain⟨I,K,h⟩:=h;have f2:=AutoSeq1.sub_tuple_tuple;have X:N.size=ns.length:=by rw[<-hi.length];simp
  have T:B.size=ms.length:=by rw[<-E.length];simp
  wp_walk using Yq I,Yq K,wpAny_forIn_list _ (fun rest b z=>b.1=none/\z=⟨v,g,d,p,r⟩/\∃(o m:List a_)(L f:List Int),rest=o.zip m /\Yx o L/\Yx m f/\L.length+B.size=f.length+N.size/\R (.ok (.ret (.bool (dJ L f)))) ⟨v,g,d,p,r⟩) _
  case turn=>
   rintro⟨y,x⟩ rest b z ⟨hb',rfl,o,m,L,f,hz,U,M,hlen,hR⟩
   cases U with
  |nil=>rw[List.zip_nil_left]at hz;cases hz
  |cons a t k=>cases M with
   |nil=>rw[List.zip_nil_right]at hz;cases hz
   |cons c u j=>
     rw[ė]at hz;injection hz with hyx hrest
     injection hyx with hy hx
     subst hy hx;rw[fK]at hR;simp only[S_]at hlen;obtain⟨e,J,Y⟩:=PB A.in1 ⟨v,g,d,p,r⟩ a t c u;refine d_ (J i w _ _ ?_);cases e with
    |true=>
      rw[Q_d (Y.mp rfl)]at hR
      wp_walk
      exact⟨rfl,rfl,_,_,_,_,hrest,k,j,by omega,hR⟩
    |false=>
      rw[Q_e (fun q=>Q_f (Y.mpr q) y_)]at hR;have Q:=h9 A.in1 ⟨v,g,d,p,r⟩ a t c u i w
      wp_walk using Q
      exact⟨_,rfl,by simpa using hR⟩
  case fin=>
   rintro⟨b1,b2⟩ z ⟨hb',rfl,o,m,L,f,hz,U,M,hlen,hR⟩
   simp only at hb';subst hb';have C:dJ L f=decide (N.size<B.size):=by cases U with
   |nil=>cases M with
    |nil=>simp only[Ò]at hlen;rw[T1];exact(Q_b (by omega)).symm
    |cons c u H=>simp only[Ò,S_]at hlen;rw[T4];exact(Q_c (by omega)).symm
   |cons a t C=>cases M with
    |nil=>simp only[Ò,S_]at hlen;rw[Ue];exact(Q_b (by omega)).symm
    |cons c u H=>rw[ė]at hz;cases hz
   rw[C]at hR
   wp_walk
   exact⟨_,rfl,by simpa[Ŏ]using hR⟩
  case h=>exact⟨rfl,rfl,N.toList,B.toList,ns,ms,rfl,hi,E,by omega,h⟩
end
section
variable{prog:E_}{w:P_}{A:V_}{E:a_->e_->Prop}{s:e_}
theorem iQ{l b:Addr}{N B:Array a_}{ns ms:List Int}{Q:a_->e_->Prop}(j:ã s.heap l N)(p:ã s.heap b B)(hi:Yx N.toList ns)(k:Yx B.toList ms)(i:A.units<Yp)(h:Q (.bool (dJ ns ms)) s):K_ (G_ prog w) A (Xm .Lt (.ref l) (.ref b)) Q E s:=by
 obtain⟨⟨r,q,e,f⟩,d,o,n,m⟩:=id j;obtain⟨⟨Z,M,Y,L⟩,a,U,g,c⟩:=id p;subst o m U c;exact richCompare_meets_room (op:=.Lt) ⟨_,d,rfl⟩ ⟨_,a,rfl⟩ PySem.F.slot_tuple_lt PySem.F.entry_tuple_lt (PySem.F.args_tuple_lt_2 _ _) (T0 l b N B n g q M f L ns ms hi k)
  ⟨d,a,⟨(fun x=>nomatch x),h⟩⟩ i
theorem mK{t b:Addr}{vs ws:List a_}{Q:a_->e_->Prop}(h:ã s.heap t vs.toArray)(k:ã s.heap b ws.toArray)(f:vs≠[])(l:ws=[]->Q (.ref t) s)(m:ws≠[]->Q (.ref s.heap.objs.size) { s with heap:=s.heap.push { cls:=.type "tuple",data:=.seq (vs++ws).toArray } })(hsz:vs.length+ws.length<=sizeLine):K_ (G_ prog w) A (Y1 .Add (.ref t) (.ref b)) Q E s:=by
 obtain⟨⟨cls,g,data,d⟩,Z,j,n,i⟩:=id h;obtain⟨⟨Y,L,U,B⟩,N,M,e,c⟩:=id k;subst j i M c;by_cases a:ws=[]
 .exact ú ⟨_,Z,rfl⟩ ⟨_,N,rfl⟩ Z9 È PySem.F.slot_tuple_add PySem.F.entry_tuple_add (PySem.F.args_tuple_add_2 _ _)
   (tuple_addW1 t b vs.toArray ws.toArray n e g L d B (by simpa using f) (by simp[a])) ⟨Z,N,l a⟩
 .refine ú ⟨_,Z,rfl⟩ ⟨_,N,rfl⟩ Z9 È PySem.F.slot_tuple_add PySem.F.entry_tuple_add (PySem.F.args_tuple_add_2 _ _)
   (tuple_addW2 t b vs.toArray ws.toArray n e g L d B (by simpa using f) (by simpa using a) (by omega)) ⟨Z,N,?_⟩
  simp_all
def sIx(n d:Nat):Option Int->Nat
|none=>d
|some v=>if v<0 then(v+(n:Int)).toNat else min v.toNat n
theorem dF(n d:Nat):sIx n d none=d:=rfl
theorem eF(n d k:Nat):sIx n d (some (k:Int))=min k n:=by show(if (k:Int)<0 then((k:Int)+(n:Int)).toNat else min (k:Int).toNat n)=min k n;rw[Q_e (by omega),Xg]
theorem F4(v:Int)(n d:Nat):(if v<0 then max (v+(n:Int)) 0 else min v (n:Int))=((sIx n d (some v):Nat):Int):=by
 show(if v<0 then max _ 0 else min v _)=(((if v<0 then(v+(n)).toNat else min v.toNat n)))
 grind
theorem Ry(lo hi:Option Int)(n:Nat):ZO lo hi 1 (n:Int)=(((sIx n 0 lo:Nat):Int),((sIx n n hi:Nat):Int)):=by
 have B:¬ ((1)<0):=by decide
 refine Prod.ext ?_ ?_
 .cases lo with
 |none=>rfl
 |some v=>exact F4 v n 0
 .cases hi with
 |none=>rfl
 |some v=>exact F4 v n n
theorem R6(i j:Nat):YI (i:Int) (j:Int) 1=j-i:=by
 unfold YI;have B:(1:Int)>0:=by omega
 simp only[B,Q_k,Int.ediv_one];split <;> omega
theorem Jp{v:a_}{o:Option Int}{Q:Option Int->e_->Prop}(p:â v o)(h:Q o s):K_ (G_ prog w) A (ŋ v) Q E s:=by cases p with
|none=>exact slicePart_none h
|int i t=>exact slicePart_int h
theorem db{Y:Addr}{U N:a_}{lo hi:Option Int}{n:Nat}{Q:Int×Int×Nat->e_->Prop}(hs:s.heap.IsSliceOf Y U N .none)(a:â U lo)(Z:â N hi)(h:Q (((sIx n 0 lo:Nat):Int),1,sIx n n hi-sIx n 0 lo) s):K_ (G_ prog w) A (Ō (.ref Y) (pure (n:Int))) Q E s:=by obtain⟨b,B,M,L⟩:=id hs;refine d_ (d_ (Xn B L rfl (d_ (Xn B L rfl (d_ (Xn B L rfl (C_ ?_)))))));refine d_ (slicePart_none ?_);refine d_ (Jp a (d_ (Jp Z (d_ (C_ ?_)))));show K_ _ _ (match ZO lo hi 1 _ with|(lo,hi)=>pure (lo,(1:Int),YI lo hi 1)) _ _ s;rw[Ry lo hi n];show K_ _ _ (pure _) _ _ s;rw[R6];exact C_ h
theorem Qu(xs:Array a_)(i k:Nat):((g_ k).filterMap fun(m:Nat)=>xs[((i:Int)+(m:Int)*1).toNat]?).toArray=((xs.toList.drop i).take k).toArray:=by
 have e:(fun(m:Nat)=>xs[((i:Int)+(m:Int)*1).toNat]?)=fun m=>xs[i+m]?:=by
  funext m;have:((i:Int)+(m:Int)*1).toNat=i+m:=by omega
  rw[this]
 rw[e];have:=pick_run xs i k;rw[List.filterMap_map]at this;have B:((fun x=>xs[x]?)∘fun x=>i+x)=fun m=>xs[i+m]?:=rfl;rw[B]at this;rw[this]
theorem eJ{t b:Addr}{N:Array a_}{d c:a_}{lo hi:Option Int}{Q:a_->e_->Prop}(a:ã s.heap t N)(hs:s.heap.IsSliceOf b d c .none)(f:â d lo)(e:â c hi)(i:¬ (sIx N.size 0 lo=0/\sIx N.size N.size hi=N.size))(h:Q (.ref s.heap.objs.size) { s with heap:=s.heap.push { cls:=.type "tuple",data:=.seq ((N.toList.drop (sIx N.size 0 lo)).take (sIx N.size N.size hi-sIx N.size 0 lo)).toArray } })(hsz:N.size<=sizeLine):K_ (G_ prog w) A (æ (.ref t) (.ref b)) Q E s:=by
 have B:sizeOk (.seq ((N.toList.drop (sIx N.size 0 lo)).take (sIx N.size N.size hi-sIx N.size 0 lo)).toArray):=by
  show((N.toList.drop (sIx N.size 0 lo)).take (sIx N.size N.size hi-sIx N.size 0 lo)).toArray.size<=sizeLine
  grind
 have j:sIx N.size N.size hi<=N.size:=by cases hi with
   |none=>exact(o_ _)
   |some v=>
     show(if v<0 then(v+(_)).toNat else min v.toNat _)<=_
     grind
 obtain⟨g,M,L,Z⟩:=id hs;have Y:s.TypeIs (.ref b) "slice" := ⟨g,M,L⟩
 unfold æ
 try with_reducible refine Ya ?_
 first|grind|skip
 refine d_ (Ċ a.typeIs (by decide) ?_);refine d_ (Xs (name:=Yl "__getitem__") a.typeIs W1
  (XO W1 a.typeIs entry_tuple_getitem ?_ (args_tuple_getitem _ _)))
 show K_ _ _ (ZE (.ref t) >>= _) _ _ s;refine d_ (tupleItemsOf_ a ?_);refine d_ (É Y ?_);rw[Q_d (by decide)];refine d_ (db hs f e ?_);have U:¬ ((((sIx N.size 0 lo:Nat):Int)==0&&(1:Int)==1&&(sIx N.size N.size hi-sIx N.size 0 lo)==N.size)=true):=by simp_all
 show K_ _ _ (if (((sIx N.size 0 lo:Nat):Int)==0&&(1:Int)==1&&(sIx N.size N.size hi-sIx N.size 0 lo)==N.size)=true then _ else _) _ _ s;rw[Q_e U,Qu]
 first
  |grind
  |exact d_ (m:=ŏ _) (ZQ (d_ (C_ (C_ ⟨_,rfl,C_ h⟩))) B)
  |grind
  |grind
end
end HT
namespace L2
open PySem PySem.Spec PyProof.Rows
abbrev TO:=St->Hp->(Option Int->Hp->Prop)->Prop
def PO(X:Cx)(e:Option Expr)(t:TO):Prop:=∀(pz:List (Addr×Obj))(s:e_)(σ:St)(H:Hp)(Q:Option Int->Hp->Prop),Inv X pz σ H s->t σ H Q ->K_ (G_ X.prog X.w) X.A (evalPart e X.env) (fun u s'=>∃o H',Inv X pz σ H' s'/\â u o/\Q o H') X.xe s
def UJ(t:TE):TO:=fun σ H Q=>t σ H fun x H1=>∃i,x=.int i/\Q (some i) H1
theorem AL{ns:List Int}:∀{us:List a_},aK (ns.map V.int) us->Yx us ns:=by induction ns with
|nil=>intro us r;rw[W8]at r;cases r;exact .nil
|cons n ns M=>intro us r;rw[s_]at r;cases r with
 |cons L B=>obtain⟨t,e⟩:=L;subst e;exact .cons n t (M B)
variable{X:Cx}{e:Expr}{pos:Pos}
section
variable{te:TE}{lo hi:Option Expr}{tl th:TO}{p2:Pos}
theorem N5(h:PE X e te):PO X (some e) (UJ te):=by intro N s B H Q I U;refine bQ (h N s B H _ I U) fun u a k=>?_;obtain⟨x,Z,Y,L,M⟩:=k;obtain⟨i,rfl,q⟩:=M;obtain⟨t,rfl⟩:=L;exact⟨some i,Z,Y,.int i t,q⟩
def jW(X:Cx)(r:V->Option Int->Option Int->Hp->VK->Prop):Prop:=∀(pz:List (Addr×Obj))(s:e_)(σ:St)(H:Hp)(x:V)(v vl vu:a_)(lo hi:Option Int)(sl:Addr)(Q:VK),Inv X pz σ H s->aT x v->s.heap.IsSliceOf sl vl vu .none->â vl lo->â vu hi->r x lo hi H Q ->∃T id,typeLookup (.type T) "__getitem__" = pure (some (.builtin id))/\s.TypeIs v T/\K_ (G_ X.prog X.w) X.A (æ v (.ref sl)) (EP X pz σ Q) X.xe s
theorem jW.or{r r':V->Option Int->Option Int->Hp->VK->Prop}(h:jW X r)(h':jW X r'):jW X (fun x lo hi H Q=>r x lo hi H Q\/r' x lo hi H Q):=by
 intro Y s B H x v M L lo hi N Q I U b a Z q;rcases q with q|q
 .exact h Y s B H x v M L lo hi N Q I U b a Z q
 .exact h' Y s B H x v M L lo hi N Q I U b a Z q
def Vr(r:V->Option Int->Option Int->Hp->VK->Prop)(te:TE)(tl th:TO):TE:=fun σ H Q=>te σ H fun x H1=>tl σ H1 fun l H2=>th σ H2 fun u H3=>r x l u H3 Q
theorem Aj{r:V->Option Int->Option Int->Hp->VK->Prop}(n:jW X r)(t:PE X e te)(o:PO X lo tl)(k:PO X hi th):PE X (.Subscript e (.Slice lo hi none p2) pos) (Vr r te tl th):=by intro M s B H Q I h;refine Subscript_ (bQ (t M s B H _ I h) fun v a e=>?_);obtain⟨x,F,C,c,g⟩:=e;refine wpAny_Slice (bQ (o M a B F _ C g) fun U Z ⟨l,E,A,j,f⟩=>bQ (k M Z B E _ A f) fun N L r=>?_);obtain⟨u,Y,z,i,d⟩:=r;refine C_ ?_;have y:Inv X M B Y { L with heap:=L.heap.push { cls:=.type "slice",data:=.fields #[U,N,.none] } }:=z.kept fun b G q=>b_ _ q;obtain⟨T,J,w,m,p⟩:=n M { L with heap:=L.heap.push { cls:=.type "slice",data:=.fields #[U,N,.none] } } B Y x v U N l u L.heap.objs.size Q y c (Heap.IsSliceOf.new ..) j i d;exact Ã m w p (by with_unfolding_all rfl)
def mJ(xs:List V)(lo hi:Option Int):List V:=(xs.drop (HT.sIx xs.length 0 lo)).take (HT.sIx xs.length xs.length hi-HT.sIx xs.length 0 lo)
theorem JF(xs:List V)(lo hi:Option Int):(mJ xs lo hi).length<=xs.length:=by unfold mJ;rw[WY,Xt];omega
def CQ(K:W.Frag):V->Option Int->Option Int->Hp->VK->Prop:=fun x lo hi H Q=>∃a xs,x=.ref a/\dw K H a xs /\¬ (HT.sIx xs.length 0 lo=0/\HT.sIx xs.length xs.length hi=xs.length)/\∀p,H p=none->Q (.ref p) (aV H p (.tup (mJ xs lo hi)))
theorem EO:jW X (CQ X.K):=by
 intro n s j H x v l k d i m Q I Y g c Z h;obtain⟨a,M,rfl,e,f,q⟩:=h;cases Y;obtain⟨L,r,U,N⟩:=I.tuple e;have B:L.toArray.size=M.length:=by exact r.length.symm
 refine⟨"tuple",_,W1.lookup,U.typeIs,?_⟩;refine HT.eJ U g c Z (by rw[B];exact f) ?_ (by rw[B];exact N);rw[B];refine⟨.ref s.heap.objs.size,_,I.laid (fun b o q=>b_ _ q) (o_ _) ?_,rfl,q _ (I.hok.fresh (o_ _))⟩;exact⟨O_ (JF M d i) N,_,(r.drop _).take _,Ĉ _ _,_,q_ _ rfl,rfl⟩
def DZ(K:W.Frag):R2:=fun x y H Q=>∃a b xs ys,x=.ref a/\y=.ref b/\dw K H a xs/\dw K H b ys/\xs≠[]/\xs.length+ys.length<=sizeLine /\(ys=[]->Q (.ref a) H)/\(ys≠[]->∀p,H p=none->Q (.ref p) (aV H p (.tup (xs++ys))))
theorem aK.nil_iff{xs:List V}{us:List a_}(r:aK xs us):us=[]↔xs=[]:=by cases r with
|nil=>simp
|cons _ _=>simp
theorem Gn:cX X (Y1 .Add) (DZ X.K):=by intro n s m H x y v u Q I c Z h;obtain⟨a,b,Y,U,rfl,rfl,l,k,j,N,e,d⟩:=h;cases c;cases Z;obtain⟨i,M,g,_⟩:=I.tuple l;obtain⟨B,L,f,_⟩:=I.tuple k;refine HT.mK g f (fun z=>j (M.nil_iff.mp z)) (fun z=>⟨.ref a,H,I,rfl,e (L.nil_iff.mp z)⟩) (fun z=>?_) (by rw[<-M.length,<-L.length];exact N);refine⟨.ref s.heap.objs.size,_,I.laid (t':=s.toks) (o:=.tup (Y++U)) (fun b p q=>b_ _ q) (o_ _) ?_,rfl,d (fun w=>z (L.nil_iff.mpr w)) _ (I.hok.fresh (o_ _))⟩;exact⟨by rw[M_];exact N,_,M.append L,Ĉ _ _,_,q_ _ rfl,rfl⟩
end
def i7(n:Nat)(i:Int):Option Nat:=if 0<=i then(if i<n then some i.toNat else none)else if-(n:Int)<=i then some (i+n).toNat else none
def gU{α:Type}(xs:List α)(i:Int):Option α:=(i7 xs.length i).bind fun j=>xs[j]?
theorem Fx{n:Nat}{i:Int}{j:Nat}(h:i7 n i=some j):seqIndex? i n=some j/\j<n/\-(n:Int)<=i/\i<n:=by
 unfold i7 at h;by_cases L:0<=i
 .rw[Q_d L]at h;by_cases B:i<n
  .rw[Q_d B]at h;have e:i.toNat=j:=WU h;exact⟨by rw[Ê L B,e],by omega,by omega,B⟩
  .rw[Q_e B]at h;cases h
 .rw[Q_e L]at h;by_cases B : -(n:Int)<=i
  .rw[Q_d B]at h;have e:(i+n).toNat=j:=WU h;exact⟨by rw[seqIndex_neg (by omega) B,e],by omega,B,by omega⟩
  .rw[Q_e B]at h;cases h
theorem zS{B:Type}{xs:List B}{i:Int}{v:B}(h:gU xs i=some v):∃j,seqIndex? i xs.length=some j/\xs[j]? = some v/\j<xs.length/\-(xs.length:Int)<=i/\i<xs.length:=by unfold gU at h;cases e:i7 xs.length i with
|none=>rw[e]at h;cases h
|some j=>rw[e]at h;obtain⟨U,N,M,L⟩:=Fx e;exact⟨j,U,h,N,M,L⟩
def vF(b:Expr):Prop:=∀o i,subscripted b false o i=operate [o,i] (æ o i)
def kK(X:Cx)(r:R2):Prop:=∀(value slice:Expr)(pz:List (Addr×Obj))(s:e_)(σ:St)(H:Hp)(x y:V)(v u:a_)(Q:VK),Inv X pz σ H s->aT x v->aT y u->r x y H Q ->subscripted slice false v u=operate [v,u] (æ v u)->K_ (G_ X.prog X.w) X.A (subscriptTail value slice v u) (EP X pz σ Q) X.xe s
def jb(X:Cx)(id:String)(r:V->List V->Hp->VK->Prop):Prop:=∀(pz:List (Addr×Obj))(s:e_)(σ:St)(H:Hp)(x:V)(xs:List V)(v:a_)(us:List a_)(Q:VK),Inv X pz σ H s->aT x v->aK xs us->r x xs H Q ->K_ (G_ X.prog X.w) X.A (call (.builtin id) (v::us)) (EP X pz σ Q) X.xe s
section
variable{a b:Expr}{ta tb:TE}
theorem kK.or{r r':R2}(h:kK X r)(h':kK X r'):kK X (fun x y H Q=>r x y H Q\/r' x y H Q):=by
 intro B L Y s M H x y v u Q I U N q Z;rcases q with q|q
 .exact h B L Y s M H x y v u Q I U N q Z
 .exact h' B L Y s M H x y v u Q I U N q Z
theorem DQ{r:R2}(Y:kK X r)(c:PE X a ta)(Z:PE X b tb)(hs:vF b):PE X (.Subscript a b pos) (xy r ta tb):=by intro U s B H Q I h;exact Subscript_ (oQ c Z I h fun v u L x y e d N M q=>Y a b U L B e x y v u Q d N M q (hs _ _))
def sP(K:W.Frag):R2:=fun x y H Q=>∃p xs i v,x=.ref p/\y=.int i/\cL K H p xs/\gU xs i=some v/\Q v H
def sN(K:W.Frag):R2:=fun x y H Q=>∃p xs i v,x=.ref p/\y=.int i/\dw K H p xs/\gU xs i=some v/\Q v H
def sO:R2:=fun x y H Q=>∃z i c,x=.str z/\y=.int i/\z.length<=sizeLine/\gU z.cps.toList i=some c/\Q (.str ⟨#[c]⟩) H
theorem NE:kK X (sP X.K):=by
 intro M N a s Z H x y v u Q I g f h b;obtain⟨p,C,i,z,rfl,rfl,k,m,q⟩:=h;cases g;obtain⟨t,rfl⟩:=f;obtain⟨Y,r,U,E⟩:=I.list k;obtain⟨j,L,A,G,o,n⟩:=zS m;obtain⟨w,d,B⟩:=r.get A;have l:=r.length;have F:=qP;have fin:EP X a Z Q w s:=⟨z,H,I,B,q⟩
 by_cases c:0<=i
 .have hj:i.toNat=j:=by rw[Ê c n]at L;exact WU L
  exact item_listR U.isList c (by omega) (by rw[hj];simpa using d) fin b
 .have hj:(i+(Y.toArray.size:Int)).toNat=j:=by rw[seqIndex_neg (by omega) o]at L;rw[D_,<-l];exact WU L
  exact İ (x:=w) U.isList.typeIs ċ.lookup
   (wpAny_getItem_list_neg (Q:=fun r e=>r=w/\EP X a Z Q r e) U.isList (by omega) (by rw[D_] <;> omega) (by omega) (by rw[hj];simpa using d) ⟨rfl,fin⟩) b
theorem Mf:kK X (sN X.K):=by
 intro L M U s N H x y v u Q I b a h d;obtain⟨p,n,i,z,rfl,rfl,e,g,q⟩:=h;cases b;obtain⟨t,rfl⟩:=a;obtain⟨c,r,Y,o⟩:=I.tuple e;obtain⟨j,l,k,F,E,C⟩:=zS g;obtain⟨w,m,B⟩:=r.get k;have f:=r.length;have A:=qP;have fin:EP X U N Q w s:=⟨z,H,I,B,q⟩
 exact İ (x:=w) Y.typeIs W1.lookup
  (getItem_tuple (j:=j) (Q:=fun r Z=>r=w/\EP X U N Q r Z) Y (by omega) (by omega) (by rw[D_,<-f];exact l) (by simpa using m) ⟨rfl,fin⟩) d
theorem Me:kK X sO:=by
 intro B L g s e H x y v u Q I N M h U;obtain⟨z,i,c,rfl,rfl,k,Z,q⟩:=h;obtain⟨t,rfl⟩:=N;obtain⟨f,rfl⟩:=M;obtain⟨j,d,n,m,b,a⟩:=zS Z;have Y:z.cps.toList.length=z.length:=by simp[Á]
 rw[Y]at d b a;have l:=qP;exact Ã (û s z t) slot_str_getitem.lookup (getItem_str (c:=c) (by grind) (by grind) ⟨.str ⟨#[c]⟩,H,I.tok _,⟨_,rfl⟩,q⟩) U
def VC(K:W.Frag):R2:=fun x y H Q=>sP K x y H Q\/sN K x y H Q\/sO x y H Q
theorem R4(B:List a_)(n j:Nat)(u:a_):YV (·.setIfInBounds j u) { cls:=.type "list",data:=.seq B.toArray n }={ cls:=.type "list",data:=.seq (B.set j u).toArray n }:=by simp[YV]
theorem Inv.lst{pz:List (Addr×Obj)}{σ:St}{H:Hp}{s:e_}{p:Addr}{xs:List V}(I:Inv X pz σ H s)(h:H p=some (.lst xs)):∃(B:List a_)(n:Nat),aK xs B/\s.heap.get? p=some { cls:=.type "list",data:=.seq B.toArray n }/\xs.length<=sizeLine:=by obtain⟨z,B,n,r,e⟩:=I.hok p _ h;exact⟨B,n,r,e,z⟩
theorem Inv.lstUpd{pz:List (Addr×Obj)}{σ:St}{H:Hp}{s:e_}{p:Addr}{xs L:List V}{B its':List a_}{n M:Nat}{f:Obj->Obj}(I:Inv X pz σ H s)(h:H p=some (.lst xs))(Y:s.heap.get? p=some { cls:=.type "list",data:=.seq B.toArray n })(N:f { cls:=.type "list",data:=.seq B.toArray n }={ cls:=.type "list",data:=.seq its'.toArray M })(r:aK L its')(U:L.length<=sizeLine)(t:Nat):Inv X pz σ (aV H p (.lst L)) { s with heap:=s.heap.update p f,toks:=t }:=by
 have e:(s.heap.update p f).get? p=some { cls:=.type "list",data:=.seq its'.toArray M }:=by rw[Ď f Y (by rw[N] <;> rfl),N]
 refine I.write (by rw[h];trivial) (.inl rfl) (fun b u Z q=>(č _ _ (X6 Z)).trans q) ⟨_,e⟩ ?_;exact⟨U,its',M,r,e⟩
def DH:V->V->V->Hp->(Hp->Prop)->Prop:=fun o i v H Q=>∃p xs k j,o=.ref p/\i=.int k/\H p=some (.lst xs)/\i7 xs.length k=some j/\Q (aV H p (.lst (xs.set j v)))
theorem Qg:im X DH:=by
 intro l s c H o i v x y u Q I f g e h;obtain⟨p,d,k,j,rfl,rfl,U,w,q⟩:=h;cases f;obtain⟨t,rfl⟩:=g;obtain⟨B,n,r,M,m⟩:=I.lst U;obtain⟨L,A,Z,Y⟩:=Fx w;have N:=r.length;have z:=qP;have b:Inv X l c (aV H p (.lst (d.set j v))) { s with heap:=s.heap.update p (YV (·.setIfInBounds j u)) }:=I.lstUpd U M (R4 B n j u) (r.set e j) (by rw[ğ];exact m) s.toks;by_cases a:0<=k
 .have hk:k.toNat=j:=by rw[Ê a Y]at L;exact WU L
  exact W.ki_setAt M a (by omega) (by rw[D_,<-N];exact Y) (by rw[hk];exact⟨_,b,q⟩)
 .have hk:(k+(B.toArray.size:Int)).toNat=j:=by rw[seqIndex_neg (by omega) Z]at L;rw[D_,<-N];exact WU L
  exact W.ki_setBack M (by omega) (by rw[D_,<-N];exact Z) (by omega) (by rw[hk];exact⟨_,b,q⟩)
theorem TV(lo hi:Option Int)(n:Nat):(Y0 lo hi none n).1=((HT.sIx n 0 lo:Nat):Int)/\(Y0 lo hi none n).2.1=((HT.sIx n n hi:Nat):Int)/\(Y0 lo hi none n).2.2=1:=by
 refine⟨?_,?_,rfl⟩
 .cases lo with
 |none=>simp[Y0,HT.sIx]
 |some i=>
   simp only[Y0,HT.sIx,ĸ,show(1:Int)>0 by decide,Q_k];by_cases h:i<0
   .simp only[h,Q_k] <;> omega
   .simp only[h,if_false] <;> omega
 .cases hi with
 |none=>simp[Y0,HT.sIx]
 |some i=>
   simp only[Y0,HT.sIx,ĸ,show(1:Int)>0 by decide,Q_k];by_cases h:i<0
   .simp only[h,Q_k] <;> omega
   .simp only[h,if_false] <;> omega
theorem TZ(B:List a_)(lo hi:Option Int):slicePick B.toArray lo hi none=((B.drop (HT.sIx B.length 0 lo)).take (HT.sIx B.length B.length hi-HT.sIx B.length 0 lo)).toArray:=by obtain⟨N,M,L⟩:=TV lo hi B.toArray.size;unfold slicePick;rw[N,M,L];simp only[sliceRange_one,pick_run] <;> rfl
def CS(K:W.Frag):V->Option Int->Option Int->Hp->VK->Prop:=fun x lo hi H Q=>∃a xs,x=.ref a/\cL K H a xs/\∀p,H p=none->Q (.ref p) (aV H p (.lst (mJ xs lo hi)))
theorem GK:jW X (CS X.K):=by intro m s i H x v k j Z g l Q I N f Y U h;obtain⟨a,M,rfl,e,q⟩:=h;cases N;obtain⟨c,r,L,d⟩:=I.list e;have B:=r.length;refine⟨"list",_,ċ.lookup,L.isList.typeIs,?_⟩;refine wpAny_getItem_list_slice L.isList f Y U .none (by simp) ?_ (by simp_all);rw[TZ,<-B];refine⟨.ref s.heap.objs.size,_,I.laid (fun b n q=>b_ _ q) (o_ _) ?_,rfl,q _ (I.hok.fresh (o_ _))⟩;exact⟨O_ (JF M Z g) d,_,0,(r.drop _).take _,q_ _ rfl⟩
def gT:V->Bool
|.non=>true
|.bl _=>true
|.int _=>true
|.str _=>true
|_=>false
def ii:V->V->Bool
|.non,.non=>true
|.bl a,.bl b=>a==b
|.bl a,.int b=>(if a then 1 else 0)==b
|.int a,.bl b=>a==(if b then 1 else 0)
|.int a,.int b=>a==b
|.str a,.str b=>a==b
|_,_=>false
theorem Mx{A:V_}{s:e_}{y x:V}{u v:a_}(M:aT y u)(B:aT x v)(U:gT y=true)(N:gT x=true):Ä A s u v (ii y x):=by cases y with
|non=>cases M;cases x with
 |non=>cases B;exact ń _
 |bl b=>cases B;exact SeqAt.EqAt.none_bool b
 |int b=>obtain⟨t,rfl⟩:=B;exact SeqAt.EqAt.none_int b t
 |str b=>obtain⟨t,rfl⟩:=B;exact SeqAt.EqAt.none_str b t
 |_=>exact Q_f (show false=true from N) y_
|bl a=>cases M;cases x with
 |non=>cases B;exact SeqAt.EqAt.bool_none a
 |bl b=>cases B;exact SeqAt.EqAt.bool_bool a b
 |int b=>obtain⟨t,rfl⟩:=B;exact SeqAt.EqAt.bool_int a b t
 |str b=>obtain⟨t,rfl⟩:=B;exact SeqAt.EqAt.bool_str a b t
 |_=>exact Q_f (show false=true from N) y_
|int a=>obtain⟨L,rfl⟩:=M;cases x with
 |non=>cases B;exact SeqAt.EqAt.int_none a L
 |bl b=>cases B;exact SeqAt.EqAt.int_bool a L b
 |int b=>obtain⟨t,rfl⟩:=B;exact ZD a L b t
 |str b=>obtain⟨t,rfl⟩:=B;exact ł a L b t
 |_=>exact Q_f (show false=true from N) y_
|str a=>obtain⟨L,rfl⟩:=M;cases x with
 |non=>cases B;exact SeqAt.EqAt.str_none a L
 |bl b=>cases B;exact SeqAt.EqAt.str_bool a L b
 |int b=>obtain⟨t,rfl⟩:=B;exact Ń a L b t
 |str b=>obtain⟨t,rfl⟩:=B;exact SeqAt.EqAt.str_str a L b t
 |_=>exact Q_f (show false=true from N) y_
|_=>exact Q_f (show false=true from U) y_
def iE(x:V)(u:a_):Bool:=match u with
|.none=>ii .non x
|.bool b=>ii (.bl b) x
|.int i _=>ii (.int i) x
|.str z _=>ii (.str z) x
|_=>false
theorem qS{x y:V}{u:a_}(r:aT y u)(f:gT y=true):iE x u=ii y x:=by cases y with
|non=>cases r;rfl
|bl b=>cases r;rfl
|int i=>obtain⟨t,rfl⟩:=r;rfl
|str z=>obtain⟨t,rfl⟩:=r;rfl
|_=>exact Q_f (f) y_
theorem rj{x:V}:∀{xs:List V}{us:List a_},aK xs us->xs.all gT=true->us.any (iE x)=xs.any fun y=>ii y x
|_,_,.nil,_=>rfl
|y::xs,u::us,.cons r t,f=>by rw[Ys,Q_]at f;rw[Yt,Yt,qS r f.1,rj t f.2]
theorem nZ{A:V_}{s:e_}{x:V}{v:a_}(L:aT x v)(M:gT x=true):∀{xs:List V}{us:List a_},aK xs us->xs.all gT=true->∀u∈us,Ä A s u v (iE x u)
|_,_,.nil,_=>fun u B=>by cases B
|y::xs,u::us,.cons r t,f=>fun N B=>by
  rw[Ys,Q_]at f;rcases I_.mp B with rfl|B
  .rw[qS r f.1];exact Mx r L f.1 M
  .exact nZ L M t f.2 N B
def xG(x:V)(xs:List V):Bool:=xs.any fun y=>ii y x
def LX(K:W.Frag)(neg:Bool):R2:=fun x y H Q=>∃p xs,y=.ref p/\(cL K H p xs\/dw K H p xs)/\gT x=true/\xs.all gT=true/\Q (.bl (if neg then ! xG x xs else xG x xs)) H
theorem Q7:cX X (Xm .In) (LX X.K false):=by
 intro b s Z H x y v u Q I N Y h;obtain⟨p,a,rfl,B,U,L,q⟩:=h;cases Y;rcases B with B|B
 .obtain⟨its,r,pl,hz⟩:=I.list B;refine SeqAt.in_listAt _ pl.isList (fun w M=>nZ N U r L w (by simpa using M)) ⟨.bl _,H,I,rfl,?_⟩;rw[show its.toArray.any _=its.any (iE x)by simp,rj r L];exact q
 .obtain⟨its,r,pl,hz⟩:=I.tuple B;refine SeqAt.in_tupleAt _ pl (fun w M=>nZ N U r L w (by simpa using M)) ⟨.bl _,H,I,rfl,?_⟩;rw[show its.toArray.any _=its.any (iE x)by simp,rj r L];exact q
theorem fT.or{f:a_}{r r':List V->Hp->VK->Prop}(h:fT X f r)(h':fT X f r'):fT X f (fun xs H Q=>r xs H Q\/r' xs H Q):=by
 intro N s B H xs L Q I M q;rcases q with q|q
 .exact h N s B H xs L Q I M q
 .exact h' N s B H xs L Q I M q
theorem Tu:fT X (.type "tuple") (fun xs H Q=>∃p B,xs=[.ref p]/\((cL X.K H p B/\∀l,H l=none->Q (.ref l) (aV H l (.tup B)))\/(dw X.K H p B/\Q (.ref p) H))):=by
 intro f s c H xs d Q I r h;obtain⟨p,B,rfl,h⟩:=h;obtain⟨u,rfl,U⟩:=fF r;cases U;rcases h with⟨L,q⟩|⟨L,q⟩
 .obtain⟨its,r',pl,hz⟩:=I.list L;have M:=r'.length;refine call_tuple_list pl.isList (fun Z Y=>?_) (by simp_all);have N:=I.kept (t':=s.toks) Y;have a:=N.laid (t':=s.toks) (fun b o e=>b_ _ e) (o_ _) (show dS X.prog X.w _ _ _ (.tup B)from⟨hz,its,r',Ĉ _ _,_,q_ _ rfl,rfl⟩);exact⟨.ref Z.objs.size,_,a,rfl,q _ (N.hok.fresh (o_ _))⟩
 .obtain⟨its,r',pl,hz⟩:=I.tuple L;exact call_tuple_same pl ⟨.ref p,H,I,rfl,q⟩
def xv(K:W.Frag)(T:String)(x:V)(H:Hp):Prop:=match x with
|.str _=>T = "str"
|.int _=>T = "int"
| .ref p=>(T = "list"/\∃xs,cL K H p xs)\/(T = "tuple"/\((∃o,K.lookup p=some o/\o.cls=.type "tuple"/\o.dict=none)\/∃xs,Rd H p (.tup xs))) \/
   (T = "dict"/\((∃kvs,Rd H p (.dK kvs))\/∃kvs,H p=some (.dT kvs)))\/(T = "set"/\∃S n,H p=some (.set S n))
|_=>False
theorem Fh{pz:List (Addr×Obj)}{σ:St}{H:Hp}{s:e_}{T:String}{x:V}{v:a_}(I:Inv X pz σ H s)(r:aT x v)(M:xv X.K T x H):s.TypeIs v T/\∀a,v=.ref a->∃b,s.heap.get? a=some b/\b.dict=none:=by cases x with
|str z=>obtain⟨t,rfl⟩:=r;cases(show T = "str" from M);exact⟨û s z t,fun _ e=>nomatch e⟩
|int i=>obtain⟨t,rfl⟩:=r;cases(show T = "int" from M);exact⟨Ï s i t,fun _ e=>nomatch e⟩
|ref p=>
  cases r;rcases M with⟨rfl,d,N⟩|⟨rfl,⟨o,B,Y,U⟩|⟨d,N⟩⟩|⟨rfl,B⟩|⟨rfl,S,n,B⟩
  .obtain⟨its,_,pl,_⟩:=I.list N;refine⟨pl.isList.typeIs,fun a e=>?_⟩;cases e;obtain⟨o,n,e,c,U,_⟩:=pl;exact⟨o,e,U⟩
  .refine⟨⟨o,I.kIn p o B,Y⟩,fun a e=>?_⟩;cases e;exact⟨o,I.kIn _ o B,U⟩
  .obtain⟨_,its,_,⟨o,ho,Y,_⟩,o2,ho2,hd2⟩:=N.ok I.hok;refine⟨⟨o,ho,Y⟩,fun a e=>?_⟩;cases e;exact⟨o2,ho2,hd2⟩
  .have z:∃o,s.heap.get? p=some o/\o.ExactDict:=by
    rcases B with⟨L,B⟩|⟨L,B⟩
    .obtain⟨_,_,_,_,o,_,_,e,ex,_⟩:=(show dS X.prog X.w H s.heap p (.dK L)from B.ok I.hok)
     exact⟨o,e,ex⟩
    .obtain⟨_,_,_,_,o,_,_,e,ex,_⟩:=I.hok p _ B;exact⟨o,e,ex⟩
   obtain⟨o,e,ex⟩:=z;refine⟨⟨o,e,ex.1⟩,fun a Z=>?_⟩;cases Z;exact⟨o,e,ex.2.1⟩
  .obtain⟨o,_,_,_,e,ex,_⟩:=I.hok p _ B;refine⟨⟨o,e,ex.1⟩,fun a Z=>?_⟩;cases Z;exact⟨o,e,ex.2.1⟩
|_=>exact XG M
def CJ(K:W.Frag)(T:String)(r:V->List V->Hp->VK->Prop)(to:TE):TE:=fun σ H Q=>to σ H fun x H1=>xv K T x H1/\r x [] H1 Q
def Vz(K:W.Frag)(T:String)(r:V->List V->Hp->VK->Prop)(to:TE)(t:TA):TE:=fun σ H Q=>to σ H fun x H1=>xv K T x H1/\t σ H1 fun xs H2=>r x xs H2 Q
variable{o:Expr}{es:List Expr}{to:TE}{t:TA}{name:Str}{apos cpos:Pos}{T id:String}{r:V->List V->Hp->VK->Prop}
theorem Ew(e:ü T)(N:Slot T name id)(M:typeOf (.builtin id)=pure (.type "method_descriptor"))(g:jb X id r)(f:PE X o to)(L:Xb o name X.env (eval o X.env)=eval o X.env:=by rfl)(B:(apos.endLine==cpos.line)=true:=by rfl):PE X (.Call (.Attribute o name apos) [] [] cpos) (CJ X.K T r to):=by intro Z s U H Q I h;refine wpAny_Call_method0_late L B (bQ (f Z s U H _ I h) fun v c z=>?_);obtain⟨x,k,a,Y,b,d⟩:=z;obtain⟨j,i⟩:=Fh a Y b;exact⟨T,id,e,N,M,j,i,Ł rfl (PySem.evalArgs_none (g Z c U k x [] v [] Q a Y .nil d))⟩
theorem yp(p:ü T)(N:Slot T name id)(Y:typeOf (.builtin id)=pure (.type "method_descriptor"))(u:jb X id r)(q:PE X o to)(w:PA X (e::es) t)(M:Xb o name X.env (eval o X.env)=eval o X.env:=by rfl)(U:((backTo cpos (i_ (e::es) X.env)).all (fun x=>! x.1)&&(Y4 cpos (X7 [] X.env)).all (fun x=>x.1.isSome)
   && decide ((e::es).length+([]:List ç).length+(if ([]:List ç).isEmpty then 0 else 1)<30))=true:=by rfl)(L:(apos.endLine==cpos.line)=true:=by rfl)(hs:i_ (e::es) X.env=(false,eval e X.env)::i_ es X.env:=by rfl)(B:(backTo cpos (i_ es X.env)).any (·.1)=false:=by rfl):PE X (.Call (.Attribute o name apos) (e::es) [] cpos) (Vz X.K T r to t):=by intro a s Z H Q I h;refine wpAny_Call_method_late M U L rfl (bQ (q a s Z H _ I h) fun v k e=>?_);obtain⟨x,E,d,b,i,n⟩:=e;obtain⟨z,y⟩:=Fh d b i;refine⟨T,id,p,N,Y,z,y,?_⟩;have c:=w cpos a k Z E _ d n;rw[hs]at c ⊢;refine Ł (by show(false || (backTo cpos (i_ es X.env)).any (·.1))=false;rw[B] <;> rfl) (Calls.evalArgs_plain ?_);exact bQ c fun g j o=>by obtain⟨f,C,A,l,m⟩:=o;exact u a j Z C x f v g Q A b l m
end
def L6(X:Cx)(id:String)(r:V->List V->Hp->VK->Prop):Prop:=∀(pz:List (Addr×Obj))(s:e_)(σ:St)(H:Hp)(x:V)(xs:List V)(v:a_)(us:List a_)(Q:VK),Inv X pz σ H s->aT x v->aK xs us->r x xs H Q ->K_ (G_ X.prog X.w) X.A (call (.builtin id) (v::us)) (EP X pz σ Q) X.xe s
theorem aK.one{x:V}{us:List a_}(h:aK [x] us):∃u,us=[u]/\aT x u:=by cases h with
|cons r t=>cases t;exact⟨_,rfl,r⟩
theorem aK.zero:∀{us:List a_},aK [] us->us=[]
|_,.nil=>rfl
theorem aK.dropLast{xs:List V}{us:List a_}(h:aK xs us):aK xs.dropLast us.dropLast:=by induction h with
|nil=>exact .nil
|cons r t B=>cases t with
 |nil=>exact .nil
 |cons q L=>exact .cons r B
theorem aK.eraseIdx:∀{xs:List V}{us:List a_}(i:Nat),aK xs us->aK (xs.eraseIdx i) (us.eraseIdx i)
|_,_,_,.nil=>.nil
|_,_,0,.cons _ t=>t
|_,_,i+1,.cons r t=>.cons r (aK.eraseIdx i t)
theorem aK.rep{xs:List V}{us:List a_}(h:aK xs us):∀k:Nat,aK (r_ k xs).flatten (r_ k us).flatten
|0=>.nil
|k+1=>by exact aK.append h (aK.rep h k)
theorem Sn{B:Type}(l:List B):l.eraseIdx (l.length-1)=l.dropLast:=by grind
theorem IE(B:List a_):∀(k:Nat)(L:List a_),Ö (fun N M=>N++M) L.toArray (r_ k B.toArray)=(L++(r_ k B).flatten).toArray
|0,L=>by simp
|k+1,L=>by
  have e:L.toArray++B.toArray=(L++B).toArray:=by simp
  have U:(L++B)++(r_ k B).flatten=L++(r_ (k+1) B).flatten:=by grind
  rw[<-U,<-IE B k _,<-e,ē,X5]
variable{pz:List (Addr×Obj)}{σ:St}{H:Hp}{s:e_}
section
variable{l b:Addr}{xs ys zs:List V}
theorem Inv.lset{B its':List a_}{n:Nat}{f:Array a_->Array a_}{t':Nat}(I:Inv X pz σ H s)(Z:H l=some (.lst xs))(e:s.heap.get? l=some { cls:=.type "list",data:=.seq B.toArray n })(U:f B.toArray=its'.toArray)(M:aK ys its')(L:ys.length<=sizeLine):Inv X pz σ (aV H l (.lst ys)) { s with heap:=s.heap.update l (YV f),toks:=t' }:=by have q:=PySem.IsL.update e f;rw[U]at q;refine I.write (by rw[Z];exact trivial) (.inl rfl) (fun a u Y N=>(č s.heap _ (X6 Y)).trans N) ⟨_,q⟩ ?_;exact⟨L,its',_,M,q⟩
theorem Inv.lnew{B:List a_}{t':Nat}(I:Inv X pz σ H s)(M:aK ys B)(L:ys.length<=sizeLine):Inv X pz σ (aV H s.heap.objs.size (.lst ys)) { s with heap:=s.heap.push { cls:=.type "list",data:=.seq B.toArray },toks:=t' }:=I.laid (fun _ _ q=>b_ _ q) (o_ _) ⟨L,B,0,M,q_ _ rfl⟩
theorem Inv.fresh(I:Inv X pz σ H s):H s.heap.objs.size=none:=I.hok.fresh (o_ _)
theorem Inv.lstM(I:Inv X pz σ H s)(L:H l=some (.lst xs)):xs.length<=sizeLine/\∃(B:List a_)(n:Nat),aK xs B/\xs.length=B.length/\s.heap.get? l=some { cls:=.type "list",data:=.seq B.toArray n }:=by obtain⟨z,B,n,r,e⟩:=I.hok l _ L;exact⟨z,B,n,r,r.length,e⟩
theorem Pg{n:Nat}(h:n<=sizeLine):YQ n=false:=by unfold YQ;simp_all
end
def F7:V->List V->Hp->VK->Prop:=fun x vs H Q=>∃l xs y,x=.ref l/\vs=[y]/\H l=some (.lst xs)/\xs.length<sizeLine/\Q .non (aV H l (.lst (xs++[y])))
theorem fw:L6 X "list.append" F7:=by intro c s Y H x a v b Q I M N h;obtain⟨l,Z,y,rfl,rfl,L,d,q⟩:=h;cases M;obtain⟨u,rfl,U⟩:=N.one;obtain⟨z,B,n,r,f,e⟩:=I.lstM L;refine Yb F.slot_list_append ⟨_,e,rfl⟩ F.entry_list_append (F.args_list_append_2 _ _) (PySem.list_append l B.toArray n u (by rw[D_];omega)) ⟨e,?_⟩;refine⟨.non,_,I.lset (its':=B++[u]) L e (by simp) (r.append (.cons U .nil)) ?_,rfl,q⟩;rw[M_,Xy];assumption
def CU:V->List V->Hp->VK->Prop:=fun x vs H Q=>∃l xs y,x=.ref l/\vs=[]/\H l=some (.lst xs)/\xs[xs.length-1]? = some y/\Q y (aV H l (.lst xs.dropLast))
theorem Mr:L6 X "list.pop" CU:=by
 intro j s d H x g v i Q I U Y h;obtain⟨l,f,y,rfl,rfl,N,a,q⟩:=h;cases U;have L:=Y.zero;subst L;obtain⟨z,M,n,r,c,e⟩:=I.lstM N;obtain⟨u,b,Z⟩:=r.get a;have B:M.toArray[M.toArray.size-1]? = some u:=by show M.toArray[M.length-1]? = some u;rw[<-Y8,<-c];exact b
 refine Yb F.slot_list_pop ⟨_,e,rfl⟩ F.entry_list_pop (F.args_list_pop_1 _) (MeetsSeq.list_pop_last l M.toArray n u B (by rw[D_];omega)) ⟨e,?_⟩;refine⟨y,_,I.lset (its':=M.dropLast) N e ?_ r.dropLast ?_,Z,q⟩
 .show M.toArray.eraseIdxIfInBounds (M.toArray.size-1)=M.dropLast.toArray;rw[D_,List.eraseIdxIfInBounds_toArray,Sn]
 .rw[List.length_dropLast];omega
def CT:R2:=fun x y H Q=>∃l k xs,x=.ref l/\y=.int k/\H l=some (.lst xs)/\-(2^63)<=k/\k<2^63/\xs.length*k.toNat<=sizeLine /\∀p,H p=none->Q (.ref p) (aV H p (.lst (r_ k.toNat xs).flatten))
theorem OO{B:Type}(xs:List B)(k:Nat):(r_ k xs).flatten.length=k*xs.length:=by simp_all
theorem No:cX X (Y1 .Mult) CT:=by
 intro E s w H x y v u Q I f d h;obtain⟨l,k,A,rfl,rfl,i,o,j,g,q⟩:=h;cases f;obtain⟨t,rfl⟩:=d;obtain⟨z,N,n,r,G,e⟩:=I.lstM i;have Y:N.toArray.size*k.toNat<=sizeLine:=by grind
 have L:¬ N.toArray.size*k.toNat>(2^63-1)/8:=by
  have:(sizeLine)<=(2^63-1)/8:=by decide
  omega
 have M:¬ (! ZF k)=true:=by
  rw[fitsIndex_both o j]
  grind
 have B:¬ YQ (N.toArray.size*k.toNat)=true:=by
  rw[Pg Y]
  grind
 have U:Ö (fun b Z=>b++Z) #[] (r_ (if N.toArray.isEmpty=true then 0 else k.toNat) N.toArray)=(r_ k.toNat N).flatten.toArray:=by
  have p:∀m,Ö (fun b Z=>b++Z) #[] (r_ m N.toArray)=(r_ m N).flatten.toArray:=fun m=>by
   have:=IE N m []
   grind
  rw[p];cases N with
 |nil=>simp
 |cons a C=>rw[Q_e (by simp)]
 refine wpAny_binaryOp_repeat_ref (rfl) ⟨_,e,rfl⟩ (fun c=>Ï c k t) noFill_list_mul F.fills_int_mul F.slot_int_rmul repeat_list F.slot_int_index.lookup
  (Yb F.slot_int_rmul (Ï s k t) F.entry_int_rmul (F.args_int_rmul_2 _ _) (int___rmul___int_list k t l N.toArray n)
   ⟨e,rfl,⟨_,e,rfl⟩,Yb F.slot_list_mul ⟨_,e,rfl⟩ F.entry_list_mul (F.args_list_mul_2 _ _) (AutoListH.list___mul___list_int_3 l N.toArray n k t M L B) ⟨e,?_⟩⟩)
 rw[U];exact⟨.ref _,_,I.lnew (r.rep k.toNat) (by rw[OO,Ý];exact g),rfl,q _ I.fresh⟩
section
variable{κ:Type}[DecidableEq κ]
def eB(kvs:List (κ×V))(k:κ):Option V:=(kvs.find? fun kv=>decide (kv.1=k)).map (·.2)
def dA(kvs:List (κ×V))(k:κ)(v:V):List (κ×V):=if (kvs.any fun kv=>decide (kv.1=k))=true then kvs.map (fun kv=>if kv.1=k then(kv.1,v)else kv)else kvs++[(k,v)]
theorem wj{p:κ×V}{r:List (κ×V)}{k:κ}(e:p.1=k):eB (p::r) k=some p.2:=by simp[eB,WW,e]
theorem rL{p:κ×V}{r:List (κ×V)}{k:κ}(e:¬ p.1=k):eB (p::r) k=eB r k:=by simp[eB,WW,e]
theorem Hr(k:κ):∀B:List (κ×V),(B.any fun L=>decide (L.1=k))=(eB B k).isSome
|[]=>rfl
|p::r=>by
  rw[Yt];by_cases e:p.1=k
  .simp only[wj e,Q_c e,Bool.true_or,Option.isSome_some]
  .rw[rL e,Q_b e,Bool.false_or];exact Hr k r
theorem Bm(B:List (κ×V))(k:κ)(v:V):(dA B k v).length<=B.length+1:=by
 unfold dA
 grind
theorem d5.isSome_eq{o:Option V}{u:Option a_}(r:d5 o u):o.isSome=u.isSome:=by cases o with
|none=>cases u with
 |none=>rfl
 |some _=>exact(r).elim
|some _=>cases u with
 |none=>exact(r).elim
 |some _=>rfl
theorem KV.val{B:List (κ×V)}{vs:List (κ×a_)}(r:KV B vs)(k:κ):d5 (eB B k) (ö vs k):=by induction r with
|nil=>exact True.intro
|@cons p q Y L h t N=>
  obtain⟨M,U⟩:=h;by_cases e:p.1=k
  .have e':=M.symm.trans e;have b:ö (q::L) k=some q.2:=by simp[ö,WW,e']
   rw[wj e,b];exact U
  .have e':¬ q.1=k:=fun z=>e (M.trans z);have b:ö (q::L) k=ö L k:=by simp[ö,WW,e']
   rw[rL e,b];exact N
theorem KV.any{B:List (κ×V)}{vs:List (κ×a_)}(r:KV B vs)(k:κ):(B.any fun L=>decide (L.1=k))=vs.any fun L=>decide (L.1=k):=by
 unfold KV at r
 induction r with
|nil=>rfl
|cons h t M=>rw[Yt,Yt,M,h.1]
theorem KV.repl{L:List (κ×V)}{vs:List (κ×a_)}(r:KV L vs)(k:κ){y:V}{u:a_}(N:aT y u):KV (L.map fun B=>if B.1=k then(B.1,y)else B) (vs.map fun B=>if B.1=k then(B.1,u)else B):=by induction r with
|nil=>exact .nil
|@cons p q Y U h t M=>
  refine .cons ?_ M
  grind
theorem KV.put{B:List (κ×V)}{vs:List (κ×a_)}(r:KV B vs)(k:κ){y:V}{u:a_}(L:aT y u):KV (dA B k y) (stored vs k u):=by
 unfold dA stored;rw[r.any k];by_cases e:(vs.any fun M=>decide (M.1=k))=true
 .rw[Q_d e,Q_d e];exact r.repl k L
 .rw[Q_e e,Q_e e];exact Paired.snoc r ⟨rfl,L⟩
theorem KV.length{B:List (κ×V)}{vs:List (κ×a_)}(r:KV B vs):B.length=vs.length:=Paired.length r
end
theorem qB{P:E_}{w:P_}{k:bG}{u:a_}(r:aT (kV k) u):(jk P w).is k u=true:=by cases k with
|inl i=>obtain⟨t,e⟩:=(r);subst e;exact QC i t
|inr x=>obtain⟨t,e⟩:=(r);subst e;exact wn x t
theorem Ib{P:E_}{w:P_}:∀{ks:List bG}{us:List a_},aK (ks.map kV) us->ItemsAre (jk P w) ks us
|[],_,r=>by cases r;exact .nil
|k::ks,_,r=>by cases r with
 |cons h t=>exact .cons (qB h) (Ib t)
abbrev KT(H:Hp):List (List bG×V)->List (List bG×Addr×a_)->Prop:=Paired fun p q=>p.1=q.1/\H q.2.1=some (.tup (p.1.map kV))/\aT p.2 q.2.2
theorem KT.val{H:Hp}{B:List (List bG×V)}{xs:List (List bG×Addr×a_)}(r:KT H B xs)(k:List bG):d5 (eB B k) ((î xs k).map (·.2)):=by induction r with
|nil=>exact True.intro
|@cons p q Y L h t N=>
  obtain⟨M,_,U⟩:=h;by_cases e:p.1=k
  .have e':=M.symm.trans e;have b:î (q::L) k=some q.2:=by simp[î,WW,e']
   rw[wj e,b];exact U
  .have e':¬ q.1=k:=fun z=>e (M.trans z);have b:î (q::L) k=î L k:=by simp[î,WW,e']
   rw[rL e,b];exact N
theorem KT.repl{H:Hp}{B:List (List bG×V)}{xs:List (List bG×Addr×a_)}(r:KT H B xs)(k:List bG){y:V}{u:a_}(U:aT y u):KT H (B.map fun M=>if M.1=k then(M.1,y)else M) (xs.map (putAt k u)):=by induction r with
|nil=>exact .nil
|@cons p q b a h t Y=>
  rw[s_,s_];refine .cons ?_ Y;obtain⟨L,N,Z⟩:=h;unfold putAt;by_cases e:p.1=k
  .rw[Q_d e,Q_d (L.symm.trans e)];exact⟨L,N,U⟩
  .rw[Q_e e,Q_e (fun z=>e (L.trans z))];exact⟨L,N,Z⟩
theorem KT.put{H:Hp}{B:List (List bG×V)}{xs:List (List bG×Addr×a_)}(r:KT H B xs)(k:List bG){b:Addr}{y:V}{u:a_}(N:H b=some (.tup (k.map kV)))(L:aT y u):KT H (dA B k y) (storedH xs k b u):=by
 have e:(B.any fun M=>decide (M.1=k))=(î xs k).isSome:=by rw[Hr,(r.val k).isSome_eq,ZR]
 unfold dA storedH;rw[e];by_cases q:(î xs k).isSome=true
 .rw[Q_d q,Q_d q];exact r.repl k L
 .rw[Q_e q,Q_e q];exact Paired.snoc r ⟨rfl,N,L⟩
theorem KT.keeps{H M:Hp}{B:List (List bG×V)}{xs:List (List bG×Addr×a_)}(r:KT H B xs)(N:∀b L,H b=some (.tup L)->M b=some (.tup L)):KT M B xs:=Paired.mapP r fun _ _ z=>⟨z.1,N _ _ z.2.1,z.2.2⟩
variable{a:Addr}
section
variable{P:E_}{w:P_}{h:Heap}
theorem DI{u:HO}(B:d7 P w H h)(e:Rd H a u):dS P w H h a u:=e.ok B
theorem o4{B:List (bG×V)}(L:d7 P w H h)(e:Rd H a (.dK B)):B.length<=sizeLine/\(a==Yj)=false/\∃vs,KV B vs/\h.DictOf (jk P w) a vs:=DI L e
theorem qO{ks:List bG}(L:d7 P w H h)(e:H a=some (.tup (ks.map kV))):(þ (jk P w)).is h ks a:=by
 obtain⟨_,B,r,⟨o,U,N,n,M⟩,_⟩:=(L a _ e)
 exact⟨o,B.toArray,n,U,N,M,by simpa using Ib r⟩
theorem qE{B:List (List bG×V)}(N:d7 P w H h)(e:Rd H a (.dT B)):B.length<=sizeLine/\(a==Yj)=false /\∃xs,KT H B xs/\h.DictOfH (þ (jk P w)) a xs:=by
 obtain⟨z,y,xs,r,o,f,g,d,c,b,Z,Y⟩:=(DI N e)
 refine⟨z,y,xs,r,o,f,g,d,c,b,Z,fun x L=>?_,Y⟩;have M:∀{l:List _}{m:List _},KT H l m->∀x∈m,(þ (jk P w)).is h x.1 x.2.1:=by
  intro l m q
  induction q with
 |nil=>simp_all
 |@cons p q j i k t U=>
   intro x L;rcases I_.mp L with e|L
   .exact qO N (by simp_all)
   .exact U x L
 exact M r x L
end
def kM(H:Hp)(a:Addr)(y:V)(r:Option V):Prop:=(∃kvs k,Rd H a (.dK kvs)/\y=kV k/\r=eB kvs k)\/∃kvs k b,Rd H a (.dT kvs)/\y=.ref b/\H b=some (.tup (k.map kV))/\r=eB kvs k
def kL(H:Hp)(a:Addr)(y v:V)(H':Hp):Prop:=(∃kvs k,H a=some (.dK kvs)/\y=kV k/\kvs.length<sizeLine/\H'=aV H a (.dK (dA kvs k v))) \/∃kvs k b,H a=some (.dT kvs)/\y=.ref b/\H b=some (.tup (k.map kV))/\kvs.length<sizeLine/\H'=aV H a (.dT (dA kvs k v))
theorem kL.k{H:Hp}{a:Addr}{B:List (bG×V)}{k:bG}{v:V}(e:H a=some (.dK B))(L:B.length<sizeLine):kL H a (kV k) v (aV H a (.dK (dA B k v))):=.inl ⟨B,k,e,rfl,L,rfl⟩
variable{u:a_}{A:V_}{E:a_->e_->Prop}
section
variable{y v:V}{r:a_}{o:Option V}
theorem QI{Q:a_->e_->Prop}(f:A.units+1<Yp)(I:Inv X pz σ H s)(g:kM H a y (some v))(d:aT y u)(h:∀w' c,Inv X pz σ H c->aT v w'->Q w' c):K_ (G_ X.prog X.w) A (æ (.ref a) u) Q E s:=by
 rcases g with⟨N,k,e,Y,l⟩|⟨N,k,b,e,Y,m,l⟩
 .subst Y;obtain⟨z,j,o,B,Z⟩:=o4 I.hok e;obtain⟨w',U,L⟩:=d5.some_of (by rw[l];exact B.val k);exact wpAny_getItem_of (qB d) Z.mapOf U (h w' _ (I.tok _) L)
 .subst Y;cases(d);obtain⟨z,j,n,B,Z⟩:=qE I.hok e;obtain⟨w',U,L⟩:=d5.some_of (by rw[l];exact B.val k);obtain⟨p,i,M⟩:=Ym.mp U;refine wpAny_getItem_heap (YW f) (qO I.hok m) Z i ?_;rw[M];exact h w' _ (I.tok _) L
theorem C7{Q:a_->e_->Prop}(c:A.units+1<Yp)(I:Inv X pz σ H s)(g:kM H a y o)(Z:aT y u)(h:∀Y,Inv X pz σ H Y->Q (.bool o.isSome) Y):K_ (G_ X.prog X.w) A (Xm .In u (.ref a)) Q E s:=by
 rcases g with⟨L,k,e,N,l⟩|⟨L,k,b,e,N,d,l⟩
 .subst N;obtain⟨z,M,i,B,U⟩:=o4 I.hok e;refine wpAny_in_of (qB Z) M U.mapOf ?_;rw[<-(B.val k).isSome_eq,<-l];exact h _ (I.tok _)
 .subst N;cases(Z);obtain⟨z,M,f,B,U⟩:=qE I.hok e;refine wpAny_in_heap (YW c) (qO I.hok d) M U ?_;have q:=(B.val k).isSome_eq;rw[ZR]at q;rw[<-q,<-l];exact h _ (I.tok _)
theorem Nx{Q:a_->e_->Prop}(c:A.units+1<Yp)(I:Inv X pz σ H s)(g:kM H a y o)(Z:aT y u)(h:∀Y,Inv X pz σ H Y->Q (.bool (! o.isSome)) Y):K_ (G_ X.prog X.w) A (Xm .NotIn u (.ref a)) Q E s:=by
 rcases g with⟨L,k,e,N,l⟩|⟨L,k,b,e,N,d,l⟩
 .subst N;obtain⟨z,M,i,B,U⟩:=o4 I.hok e;refine wpAny_notIn_of (qB Z) M U.mapOf ?_;rw[<-(B.val k).isSome_eq,<-l];exact h _ (I.tok _)
 .subst N;cases(Z);obtain⟨z,M,f,B,U⟩:=qE I.hok e;refine wpAny_notIn_heap (YW c) (qO I.hok d) M U ?_;have q:=(B.val k).isSome_eq;rw[ZR]at q;rw[<-q,<-l];exact h _ (I.tok _)
theorem FK{h':Heap}{t':Nat}{B:HO}(I:Inv X pz σ H s)(M:tV (H a))(hs:Zt a s.heap h')(N:∃q,h'.get? a=some q)(L:dS X.prog X.w (aV H a B) h' a B):Inv X pz σ (aV H a B) { s with heap:=h',toks:=t' }:=I.write M (.inl rfl) (fun b q U z=>(hs.2 b U).trans z) N L
theorem Mu{P:E_}{w:P_}{U:Hp}{h':Heap}{L:List (bG×V)}{vs:List (bG×a_)}(z:L.length<=sizeLine)(M:(a==Yj)=false)(B:KV L vs)(N:h'.DictOf (jk P w) a vs):dS P w U h' a (.dK L):=⟨z,M,vs,B,N⟩
theorem QJ{C:Hp}{Q:Unit->e_->Prop}(J:A.units+1<Yp)(I:Inv X pz σ H s)(g:kL H a y v C)(n:aT y u)(o:aT v r)(h:∀m,Inv X pz σ C m->Q () m):K_ (G_ X.prog X.w) A (setItem (.ref a) u r) Q E s:=by
 rcases g with⟨M,k,e,f,l,i⟩|⟨M,k,b,e,f,x,l,i⟩
 .subst f i;obtain⟨z,d,G,B,j⟩:=o4 I.hok (.inl e);have U:G.length<=sizeLine:=by rw[<-B.length];exact z
  have Z:(dA M k v).length<=sizeLine:=by have:=Bm M k v;omega
  refine wpAny_setItem_pairs (hsz:=U) (qB n) j fun p L Y=>h _ ?_;have K:∃q,p.get? a=some q:=let⟨q,_,_,N,_⟩:=L;⟨q,N⟩;exact FK I (by rw[e];exact True.intro) Y K (Mu Z d (B.put k o) L)
 .subst f i;cases(show u=Value.ref b from n);obtain⟨z,d,F,B,j⟩:=qE I.hok (.inl e);have U:F.length<=sizeLine:=by rw[<-Paired.length B];exact z
  have Z:(dA M k v).length<=sizeLine:=by have:=Bm M k v;omega
  refine wpAny_setItem_heap (hsz:=U) (YW J) (qO I.hok x) j fun p L Y=>h _ ?_;obtain⟨q,es,ep,N,T,R,P,_,O⟩:=L;refine FK I (by rw[e];exact True.intro) Y ⟨q,N⟩ ⟨Z,d,_,(B.put k x o).keeps fun c ys t=>?_,q,es,ep,N,T,R,P,O⟩;rw[bZ (U1 t e (fun z=>nomatch z))];exact t
end
section
variable{kvs:List (bG×V)}{k:bG}
theorem Uy{Q:a_->e_->Prop}(I:Inv X pz σ H s)(e:Rd H a (.dK kvs))(h:∀t L,Inv X pz σ H L->Q (.int kvs.length t) L):K_ (G_ X.prog X.w) A (call (.builtin "len") [.ref a]) Q E s:=by obtain⟨z,M,U,B,N⟩:=o4 I.hok e;refine call_len_dict M N (by rw[<-B.length];rw[H_]at z;omega) ?_;rw[<-B.length];exact h _ _ (I.tok _)
end
theorem Pz{P:E_}{w:P_}{H:Hp}(h:Heap)(B:Yj<h.objs.size):dS P w H (h.push { cls:=.type "dict",data:=.dict #[] }) h.objs.size (.dK []):=⟨Xe _,beq_eq_false_iff_ne.mpr (X6 (L_ B)),[],.nil,Heap.DictOf.new h⟩
def NX:TE:=fun _ H Q=>∀p,H p=none->Q (.ref p) (aV H p (.dK []))
theorem Qp:PE X (.Dict [] [] pos) NX:=fun L s B H Q I h=>wpAny_Dict_empty ⟨.ref s.heap.objs.size,_,I.laid (fun _ _ q=>b_ _ q) (o_ _) (Pz s.heap (by have h:=(I.mod.glob.keeps I.bk).lt;exact Þ (by decide) h)),rfl,h _ (I.hok.fresh (o_ _))⟩
def pC(kvs more:List (bG×V)):List (bG×V):=more.foldl (fun acc kv=>dA acc kv.1 kv.2) kvs
theorem KV.merge:∀{B:List (bG×V)}{rs:List (bG×a_)}{L:List (bG×V)}{vs:List (bG×a_)},KV B rs->KV L vs->KV (pC L B) (merged vs rs):=by
 intro B rs L vs r
 induction r generalizing L vs with
|nil=>intro q;exact q
|@cons p q Y U h t N=>
  intro M;have e:KV (dA L p.1 p.2) (stored vs q.1 q.2):=by
   have:=M.put p.1 h.2
   grind
  exact N e
theorem Ky:∀(L B:List (bG×V)),(pC B L).length<=B.length+L.length
|[],B=>by show B.length<=B.length+0;omega
|p::r,B=>by have N:=Ky r (dA B p.1 p.2);have M:=Bm B p.1 p.2;show(pC (dA B p.1 p.2) r).length<=_;rw[S_];omega
end L2
namespace Att
open PySem PySem.W PySem.Calls PyProof.Rows
theorem T3{P:Params}{h:Heap}:∀(ns:List Int)(vs:List a_),WellAll P h vs (ns.map WData.int)->Yx vs ns:=by
 intro ns
 induction ns with
|nil=>intro vs w;cases w;exact .nil
|cons n ns B=>intro vs w;cases w with
 |cons a b=>cases a;exact .cons _ _ (B _ b)
theorem RF{l:OpenLaw}{n:Nat}(m:l.most=some n){P:Params}{h:Heap}{args:List WData}{L:List a_}(B:l.row.toRowW.claim.pre args=true)(M:WellAll P h L args):∃a vs ns,L=[Value.ref a]/\args=[WData.list (ns.map WData.int)]/\h.get? a=some { cls:=.type "list",data:=.seq vs.toArray }/\Yx vs ns/\ns.length<=n:=by
 have U:=(pre_splitW B).1;have f:l.pre.holds [] { args:=args }=true:=(pre_splitW B).2;obtain⟨d,r,rfl,j,i⟩:=hasAllW_cons U;obtain rfl:=hasAllW_nil i;obtain⟨k,rfl,g⟩:=hasW_list j;obtain⟨ns,rfl⟩:=items_int g;have N:ns.length<=n:=by
  have Z:(WTm.not (.lt (.lit (.int (n))) (.len (.arg 0)))).holds [] { args:=[.list (ns.map .int)] }=true:=by have Z:=(holds_andW f).1;simp_all
  have o:=condW_of Z (w_not (w_lt w_lit (w_len_list (w_arg rfl))));simp_all
 cases M with
|cons c b=>cases b;cases c with
 |list e Y=>exact⟨_,_,ns,rfl,rfl,e,T3 ns _ Y,N⟩
theorem attach_call{l:OpenLaw}{n:Nat}{q:E_}{B:List Str}{v:(Str->Option a_)->Heap->Prop}{u:P_->Heap->Prop}{d:DefRec}(z:l.most=some n)(K:d.params.defaults=[])(h:∀(w:P_)(b N:e_)(j mb:Str->Option a_)(g:Addr)(o:Obj)(m k c:a_)(a:Addr)(vs:List a_)(ns:List Int),Ground q B [] v w b j mb N.heap->u w N.heap ->N.heap.get? g=some o->o.data=.func (docDef d.name d.params d.body d.scope m k c)->N.heap.CodeRec k d.name->j d.name=some (.ref g) ->N.heap.get? a=some { cls:=.type "list",data:=.seq vs.toArray }->Yx vs ns->ns.length<=n->N.gens = #[] ->ä (G_ l.prog w) è (.call (.ref g) ⟨[.ref a],[]⟩) (fun r i=>r=.ok (.ret (.bool true))/\OldK N.heap i.heap/\i.os=N.os/\Zf i.gens) N):WalkO q B v u l.row.toRowW d [] (fun f vs=>PySem.call f vs):=by
 intro w b N j mb G Y g o m k c J kV y E Z s p C t T P M X Q O R;obtain rfl:J=.none:=Dflts.none s K;obtain rfl:kV=.none:=Dflts.noKw s;obtain⟨a,vs,ns,rfl,rfl,U,L,e⟩:=RF z M O;refine enter_call (Y3 (h w b N j mb g o m k c a vs ns G Y y (fd_plain E) Z p U L e C) fun r i x=>?_);obtain⟨rfl,I,H,F⟩:=x;exact⟨.inl ⟨_,_,[],rfl,fun _=>rfl,.bool true,(postW_of
     (by first|rfl|decide|grind)
     (w_eq_bool (w_res rfl) w_lit) rfl),fun _=>⟨List.Pairwise.nil,fun _ A=>(nomatch A)⟩⟩,I,H,F⟩
end Att
namespace L2
open PySem PySem.Spec PyProof.Rows
theorem IT:∀{vs:List a_}{ns:List Int},Yx vs ns->aK (ns.map V.int) vs
|_,_,.nil=>.nil
|_,_,.cons n t h=>.cons ⟨t,rfl⟩ (IT h)
def oW(H:Hp):Prop:=∀b,H b=none\/∃o xs,H b=some (.frz o (.lst xs))
theorem O9{P:E_}{w:P_}{K:W.Frag}{i mb:Str->Option a_}{R:jZ}{k:Nat}{C a:Addr}{O:Xv}{x:Str}{G:Sp}{N:e_}{vs:List a_}{ns:List Int}(Q:K.In N.heap)(Y:N.heap.Ns U_ i)(g:N.heap.Ns Ì mb)(IO:∀x:Str,x≠"__name__"->mb x=YE x)(BT:N.heap.NoLimit)(hg:N.gens = #[])(A:N.heap.get? a=some { cls:=.type "list",data:=.seq vs.toArray })(hi:Yx vs ns)(hl:ns.length<=sizeLine)(hr:Room k è)(F:∀f:Heap,K.In f->f.Ns U_ i->FnOk P w K i f R k C O [x] G)(U:∀(s:e_)(u:a_),õ s O ⟨[u],[]⟩ [(x,u)])(Id:∀H:Hp,oW H->cL K H a (ns.map V.int)->G [.ref a] H (fun v _=>v=.bl true) fun _ _ _=>False)(LE:∀H e c,R [] H N (fun _ _ _=>False) e c->False):ä (G_ P w) è (.call (.ref C) ⟨[.ref a],[]⟩) (fun r c=>r=.ok (.ret (.bool true))/\OldK N.heap c.heap/\c.os=N.os/\Zf c.gens) N:=by
 have I:=IT hi;have LT:=hi.length;have M:∀H:Hp,oW H->cL K H a (ns.map V.int)->d7 P w H N.heap->(∀b,H b≠none->b=a)->(H a≠none->K.lookup a=none) ->ä (G_ P w) è (.call (.ref C) ⟨[.ref a],[]⟩) (fun r c=>r=.ok (.ret (.bool true))/\OldK N.heap c.heap/\c.os=N.os/\Zf c.gens) N:=by
  intro H J hS j hA hK;have B:∀{b:Addr}{o:Obj},N.heap.get? b=some o->H b=none->(mE N.heap H).get? b=some o:=fun e n=>W.hideAll_get _ e fun hm=>by have q:=(n_.mp hm).2;simp_all
  have KK:∀{b:Addr}{o:Obj}{p:Array Z_}{t:Nat},N.heap.get? b=some o->o.data=.dict p t->H b=none:=fun{b o p t} e d=>by grind
  have L:∀{b:Addr}{m:Str->Option a_},N.heap.Ns b m->(mE N.heap H).Ns b m:=fun{b m} k=>by obtain⟨o,p,t,e,d,r⟩:=k;exact ⟨o,p,t,B e (KK e d),d,r⟩
  have Z:=fun b o e=>B (Q b o e) (by grind);have hM:Mod K i _:=⟨Z,L Y,⟨mb,L g,IO⟩,let⟨mc,h1,h2⟩:=BT;⟨mc,L h1,h2⟩⟩
  have e0:Env0 P w K i _ è [] N H:=⟨rfl,hM,fun b o e=>Ox e,Y2 ((fun h H=>W.hideAll_size _ _) _ _),trivial,fun b g=>Q_f (show b∈([])from g) (by simp),j,.of_eq hg⟩
  refine Y3 ((F _ Z (L Y)).run è [] N H _ [.ref a] [.ref a] _ _ hr e0 (U N (.ref a)) (.cons rfl .nil) (Id H J hS)) fun r c h=>?_;cases r with
 |error e=>exact(LE H e c h).elim
 |ok fl=>cases fl with
  |next=>exact XG h
  |brk=>exact XG h
  |cont=>exact XG h
  |ret u=>obtain⟨v,H',os,l,E,Cl,T,q⟩:=h;have X:=q;subst X;obtain rfl:u=Value.bool true:=T;refine⟨rfl,OldK.of_keep fun b o e=>?_,os,l⟩;cases q:H b with
   |none=>exact E.keep b o e q (by intro z;exact Q_f (show b∈([])from z) (by simp)) (by simp)
   |some u=>
     rcases J b with z|⟨ob,xs,z⟩
     .rw[q]at z;cases z
     .have z2:=E.frzs b ob _ z;obtain⟨e1,_⟩:=j b _ z;obtain⟨e2,_⟩:=Cl b _ z2;simp_all
 cases y:K.lookup a with
|some o=>have e:=Q a o y;rw[A]at e;cases e;refine M _ (fun _=>.inl rfl) (.inr ⟨_,vs.toArray,_,y,rfl,rfl,rfl,by simp_all,by simpa using I⟩) (fun b u z=>by simp_all) (by simp_all) fun z=>Q_f rfl z
|none=>
  refine M (fun b=>if b=a then some _ else none) (fun b=>?_) (.inl (.inr ⟨{ cls:=.type "list",data:=.seq vs.toArray },Q_d rfl⟩)) (fun b u z=>?_) (fun b z=>?_) fun _=>y
  .grind
  .by_cases g:b=a
   .have z':=(Q_d g).symm.trans z;cases z';subst g;exact⟨A,by grind,vs,_,I,A⟩
   simp_all
  simp_all
abbrev gV{K:W.Frag}{h:Heap}(_:K.In h):W.Frag:=K
theorem lT{l:W.OpenLaw}{n k:Nat}{q:E_}{B:List Str}{XP:(Str->Option a_)->Heap->Prop}{A:P_->Heap->Prop}{d:DefRec}{K:Params->W.Frag}{E:P_->jZ}{z:P_->Sp}{x:Str}(J:l.most=some n)(Z:n<=sizeLine)(BT:d.params.defaults=[])(I:Room k è)(Q:∀(w:P_)(h:Heap),A w h->(K w.params).In h)(F:∀(w:P_)(i:Str->Option a_)(m:Addr)(h:Heap),(K w.params).In h->h.Ns U_ i->i d.name=some (.ref m) ->∃t:Xv,(∀(s:e_)(u:a_),õ s t ⟨[u],[]⟩ [(x,u)]) /\∀N:Heap,(K w.params).In N->N.Ns U_ i->FnOk l.prog w (K w.params) i N (E w) k m t [x] (z w))(U:∀(w:P_)(H:Hp)(a:Addr)(ns:List Int),ns.length<=n->oW H->cL (K w.params) H a (ns.map V.int)->z w [.ref a] H (fun v _=>v=.bl true) fun _ _ _=>False)(Cl:∀(w:P_)(H:Hp)(s:e_)(e:a_)(p:e_),E w [] H s (fun _ _ _=>False) e p->False):W.WalkO q B XP A l.row.toRowW d [] (fun f vs=>PySem.call f vs):=by refine Att.attach_call J BT fun w y j i mb m o pm cd doc a vs ns G Y ho hd Id r M L c O=>?_;have C:=Q w _ Y;obtain⟨t,P,hF⟩:=F w i m _ C G.T.g r;exact O9 C G.T.g G.T.b G.T.builtins G.T.nolimit O M L (O_ c Z) I hF P (fun H X R=>U w H a ns c X R) fun H e p=>Cl w H j e p
def bH(s:Stmt):Arguments:=match s with
|.FunctionDef _ a _ _ _ _ _ _ _ _=>a
|_=>{ posonlyargs:=[],args:=[],vararg:=none,kwonlyargs:=[],kw_defaults:=[],kwarg:=none,defaults:=[] }
def aS(s:Stmt):List Stmt:=match s with
|.FunctionDef _ _ b _ _ _ _ _ _ _=>b
|_=>[]
def aA(s:Stmt):YH:=match s with
|.FunctionDef _ _ _ _ _ _ sc _ _ _=>sc
|_=>{ kind:=.function,names:=[],isGenerator:=false,isCoroutine:=false }
abbrev f8:jZ:=fun _ _ _ _ _ _=>False
abbrev E0:XK:=fun _ _ _=>False
theorem mR{X:Cx}:m9 f8 X E0:=fun _ _ _ _ _ _ _ h=>h.elim
structure Fun(K:W.Frag)(x qual:Str)(st:Stmt)(f:Addr)(fd:Xv):Prop where
 ex:∃(oc:a_)(od:Option Addr)(kV doc pm:a_)(an:Option Addr)(cdv ct:a_)(osl:Array (Option a_)),fd=W.fnOf x qual (bH st) (aS st) (aA st) .none kV doc pm an cdv ct/\K.lookup f=some ⟨oc,od,.func fd,osl⟩/\W.codeIn K cdv qual=true
 kp:W.keepIn K (.ref f)=true
section
variable{P:E_}{w:P_}{K:W.Frag}{mg:Str->Option a_}{base:Heap}
theorem Fun.ok{x Y:Str}{st:Stmt}{f:Addr}{d:Xv}{N b:List Str}{k:Nat}{a:Sp}(F:Fun K x Y st f d)(S:FnScope N b (aA st))(c:∀vs H Q E,a vs H Q E->vs.length=b.length)(B:∀(Z:a_)(A:V_)(U:List Env)(s:e_)(H:Hp)(vs:List V)(Q:VK)(E:XK),Room k (A.deeper (YK Y (aA st) s.heap.objs.size f Z))->a vs H Q E ->∃t,d6 (d4 f8 P w K mg base N Y (aA st) f Z A U s H E).nox (aS st) t/\t { nx:=fun _ l=>Q .non l,rt:=Q } (bO N vs) H):FnOk P w K mg base f8 (k+1) f d b a:=by obtain⟨o,n,kV,j,m,r,Z,p,e,rfl,g,L⟩:=F.ex;refine Dy g L S c fun A U s H vs Q E i M=>?_;obtain⟨t,h,q⟩:=B Z A U s H vs Q E i M;exact⟨t,h.nox,q⟩
theorem Fun.binds{x L:Str}{st:Stmt}{f:Addr}{b:Xv}{U:List Str}(F:Fun K x L st f b)(h:∀(kV M Y:a_)(a:Option Addr)(N Z:a_)(us:List a_),us.length=U.length->Zi (W.fnOf x L (bH st) (aS st) (aA st) .none kV M Y a N Z) ⟨us,[]⟩=pure (U.zip us)):iZ K b U []:=by obtain⟨e,d,kV,M,Y,a,N,Z,c,rfl,g,B⟩:=F.ex;exact .all (h kV M Y a N Z)
theorem fO{x B:Str}{st:Stmt}{f:Addr}{b:a_}{a Z:Option Addr}{N:Array (Option a_)}{kV M U L Y:a_}(l:K.lookup f=some ⟨b,a,.func (W.fnOf x B (bH st) (aS st) (aA st) .none kV M U Z L Y),N⟩)(c:W.codeIn K L B=true)(k:W.keepIn K (.ref f)=true):Fun K x B st f (W.fnOf x B (bH st) (aS st) (aA st) .none kV M U Z L Y):=⟨⟨b,a,kV,M,U,Z,L,Y,N,rfl,l,c⟩,k⟩
end
theorem lB{A:V_}{k:Nat}(B:Room k A):A.units+1<Yp:=ZG (by simp_all) B.units
def Same(H H':Hp):Prop:=∀b o,H b=some o->H' b=some o
end L2
end
namespace DL
open PySem
section
open PySem.SeqAt
open PySem.AutoSeq1 (wpAny_loadPart')
open PySem.MeetsSeq PySem.MeetsSeq2 PySem.MeetsSeq3
end
end DL
namespace DL
open PySem PyProof.Rows
theorem SU:isSubtype (.type "tuple") (.type "set")=pure false:=by rw[isSubtype_type];kernel_rfl
theorem Tw:isSubtype (.type "tuple") (.type "frozenset")=pure false:=by rw[isSubtype_type];kernel_rfl
section
variable{prog:E_}{w:P_}{A:V_}{E:a_->e_->Prop}{s:e_}
abbrev gp(led:Bool):Obj:={ cls:=.type "set",dict:=none,data:=.set #[] 0 (.fresh 0 0 led) }
def yC(prog:E_)(w:P_)(s:e_)(ns:List Int)(n:Nat)(h':Heap):Prop:=h'.SetOf (intKind prog w) s.heap.objs.size (fun k=>(ø (fun i=>ns.getD i 0) n).any (· == k)) (ø (fun i=>ns.getD i 0) n).length/\∀b o,b<s.heap.objs.size->s.heap.get? b=some o->h'.get? b=some o
set_option maxHeartbeats 3200000 in
theorem Te{t:Addr}{B:Array a_}{ns:List Int}{led:Bool}{R:Result->e_->Prop}(E:A.handled=none)(C:s.heap.IsTuple t B)(hi:Yx B.toList ns)(F:B.size+1<Ye)(H:∀h' l,yC prog w s ns B.size h'->R (.ok (.ret .none)) { s with heap:=h',toks:=l }):K_ (G_ prog w) A.in1 (å.«set.__init__» ⟨[.ref s.heap.objs.size,.ref t],[]⟩) (fun fin L=>match fin with|.done f=>R (.ok f) L|.again x=>x.quiet=true/\ä (G_ prog w) A x R L) (fun e L=>R (.error e) L) { s with heap:=s.heap.push (gp led) }:=by
 obtain⟨⟨u,m,n,h⟩,Z,c,y,a⟩:=C;simp only at c a;subst c;subst a;have Y:=b_ (gp led) Z;have K:=SU;have J:=Tw;have I:(Value.type "tuple" == Value.type "dict")=false:=by decide
 have g:(s.heap.push (gp led)).IsTuple t B:=⟨_,Y,rfl,y,rfl⟩
 have G:(s.heap.push (gp led)).get? s.heap.objs.size=some (gp led):=q_ _ rfl;unfold å.«set.__init__» noKeywords Ő;generalize r:ì=PI
 wp_walk
 subst r;refine XC g (d_ (wpAny_runValue ?_));have M:t<s.heap.objs.size:=x_ Z;have k:(s.heap.push (gp led)).objs.size=s.heap.objs.size+1:=Xi ..;have p:t≠(s.heap.push (gp led)).objs.size:=by rw[k];exact L_ (Xw M)
 have U:s.heap.objs.size∉[(s.heap.push (gp led)).objs.size,t]:=by rw[k];simp only[I_,XQ,Q_j,not_or];exact⟨L_ (XB _),Xu M⟩
 have N:∀(i:Nat)(v:a_),B[i]? = some v->∃l,v=.int ((fun i=>ns.getD i 0) i) l:=fun i v z=>ą hi i v (by rw[Y8];exact z);refine codeAny_set_update_loopS ((Ŋ (A:=A.in1.in1) E _ t p B).toS) s.heap.objs.size U (fun i=>ns.getD i 0) N F (B.size-0) 0 _ (by omega) (Xe _) ⟨⟨_,q_ _ rfl,rfl,rfl⟩,g.push _⟩ ?_ fun L j q=>?_
 .exact SetOf_congr ((setObjOf_fresh (knd:=intKind prog w) led).setOf (b_ _ G) (by unfold Ye;omega)) (fun _=>rfl) rfl
 .obtain⟨h',g',d',tk',os'⟩:=L;obtain rfl:g'=s.gens:=j.gens;obtain rfl:d'=s.drawn:=j.drawn;obtain rfl:os'=s.os:=j.os;show K_ _ _ _ _ _ _;refine C_ ?_;show K_ _ _ (ret Value.none) _ _ _;refine C_ (H h' tk' ⟨q,fun b o d e=>?_⟩);refine j.heap b o ?_ (b_ _ (b_ _ e));rw[k];simp only[I_,XQ,Q_j,not_or];exact⟨L_ d,L_ (Xw d)⟩
set_option maxHeartbeats 3200000 in
theorem Tj{t:Addr}{B:Array a_}{ns:List Int}{Q:a_->e_->Prop}(i:A.handled=none)(g:s.heap.IsTuple t B)(hi:Yx B.toList ns)(j:B.size+1<Ye)(h:∀h' Y,yC prog w s ns B.size h'->Q (.ref s.heap.objs.size) { s with heap:=h',toks:=Y }):K_ (G_ prog w) A (call (.type "set") [.ref t]) Q E s:=by
 obtain⟨c,n,f⟩:=F.called_set.mro;have y:=F.called_set.made;have x:=F.called_set.sub;refine Î (codeAny_of_tree ?_);show K_ _ _ (callAny (.type "set") _) _ _ _;refine C_ ⟨Code.quiet_builtin _ (by decide+kernel),codeAny_builtin F.entry_type_call ?_⟩;rw[Around.under_plain (weight_type_call_type "set" [.ref t] []) rfl];have v:=F.called_set.notType;have u:=F.called_set.canCreate;have q:=F.typeCall_set_1 (.ref t)
 repeat (any_goals (first|assumption|wp_step))
 refine Y3 (code_set_new_1 (.ref t) (E:=E) (Q₁:=fun a N=>∃led:Bool,a=.ref s.heap.objs.size/\N={ s with heap:=s.heap.push (gp led) }) fun led=>⟨led,rfl,rfl⟩) fun r N b=>?_;cases r with
|error e=>exact b
|ok m=>cases m with
 |ret a=>
   obtain⟨led,rfl,rfl⟩:=b;have k:Shared.TypeIs { s with heap:=s.heap.push (gp led) } (.ref s.heap.objs.size) "set" := ⟨_,q_ _ rfl,rfl⟩
   have p:=F.called_set.init.lookup;have o:=F.called_set.init.bind (.ref s.heap.objs.size)
   repeat (any_goals (first|assumption|wp_step))
   refine Y3 (codeAny_call_builtin (R:=wants (fun r M=>r=.none/\∃h' Y,M={ s with heap:=h',toks:=Y }/\yC prog w s ns B.size h') E) F.called_set.init.plain F.entry_set_init (check_set_init_1 k ?_)) fun Z M L=>?_
   .refine Te (A:=A.in1) (led:=led) i g hi j fun l Y d=>?_;exact⟨rfl,l,Y,rfl,d⟩
   .cases Z with
   |error e=>exact L
   |ok U=>cases U with
    |ret r=>
      obtain⟨rfl,h',Y,rfl,d⟩:=L
      repeat (any_goals (first|assumption|wp_step))
      exact h _ _ d
    |_=>exact L.elim
 |_=>exact b.elim
end
end DL
namespace DL
open PySem PyProof.Rows PySem.W
def qN{α:Type}(c:Nat->Nat->Bool):KasT α->α
|.ret a=>a
|.ask i j k=>qN c (k (c i j))
inductive Asks(n:Nat){α:Type}(P:α->Prop):KasT α->Prop where
 |ret {a:α}:P a->Asks n P (.ret a)
 |ask {i j:Nat} {k:Bool->KasT α}:i<n->j<n->(∀b,Asks n P (k b))->Asks n P (.ask i j k)
theorem Asks.bind{n:Nat}{B L:Type}{P:B->Prop}{M:L->Prop}{t:KasT B}{f:B->KasT L}(h:Asks n P t)(U:∀a,P a->Asks n M (f a)):Asks n M (t.bind f):=by induction h with
|ret h=>exact U _ h
|ask Z Y _ N=>exact .ask Z Y N
theorem Asks.run{n:Nat}{B:Type}{P:B->Prop}{t:KasT B}(h:Asks n P t)(c:Nat->Nat->Bool):P (qN c t):=by induction h with
|ret h=>exact h
|ask _ _ _ L=>exact L _
theorem QB{n:Nat}{L:Type}{P:L->Prop}{B:Nat->Nat->(Bool->e_->Prop)->e_->Prop}{c:Nat->Nat->Bool}{s:e_}(N:∀i j C,i<n->j<n->C (c i j) s->B i j C s){Q:L->e_->Prop}{t:KasT L}(h:Asks n P t):Q (qN c t) s->t.kasWp B Q s:=by induction h with
|ret _=>exact fun q=>q
|ask Y U _ M=>exact fun q=>N _ _ _ Y U (M _ q)
def fU(n:Nat)(p:Array Nat):Prop:=p.toList.Perm (g_ n)
theorem fU.bd{n:Nat}{p:Array Nat}(h:fU n p)(L:0<n)(k:Nat):p.getD k 0<n:=by
 by_cases B:k<p.size
 .have e:p.getD k 0=p[k]:=by simp[Array.getD,B]
  rw[e];exact p_.mp (h.mem_iff.mp (by simp))
 simp_all
theorem fU.rev{n:Nat}{p:Array Nat}(h:fU n p)(i j:Nat):fU n (kas_rev p i j):=(ZH.mp (mirror_perm p i j _)).trans h
theorem fU.bub{n:Nat}{p:Array Nat}(h:fU n p)(i j:Nat):fU n (bubble p i j):=(ZH.mp (bubble_perm p i j)).trans h
section
variable{n:Nat}(hn:0<n)
include hn
theorem Ab{p:Array Nat}(h:fU n p):∀f k,Asks n (fun _=>True) (kas_asc p f k)
|0,k=>.ret trivial
|f+1,k=>.ask (h.bd hn _) (h.bd hn _) fun b=>by cases b with
 |true=>exact .ret trivial
 |false=>exact Ab h f _
theorem wu:∀f (p:Array Nat) k q,fU n p->Asks n (fun r=>fU n r.1) (kas_desc f p k q)
|0,p,k,q,h=>.ret h
|f+1,p,k,q,h=>.ask (h.bd hn _) (h.bd hn _) fun b=>by cases b with
 |true=>
   rw[Q_d rfl];split
   .exact wu f _ _ _ (h.rev _ _)
   .exact wu f _ _ _ h
 |false=>refine .ask (h.bd hn _) (h.bd hn _) fun b=>?_;cases b with
  |true=>exact .ret h
  |false=>exact wu f _ _ _ h
theorem IM{p:Array Nat}(h:fU n p)(a b:Nat):Asks n (fun r=>fU n r.2) (kas_tail3 a b p):=Asks.bind (Ab hn (h.rev 0 a) _ _) fun m _=>.ret (h.rev 0 a)
theorem I0{p:Array Nat}(h:fU n p)(a b:Nat):Asks n (fun r=>fU n r.2) (kas_descPart a b p):=by
 refine Asks.bind (wu hn _ p _ _ h) fun r B=>?_;split
 .exact IM hn (B.rev _ _) _ _
 .exact IM hn B _ _
theorem Rz{p:Array Nat}(h:fU n p)(a:Nat):Asks n (fun r=>fU n r.2) (kas_count a p):=by
 refine Asks.bind (Ab hn h _ _) fun k _=>?_;split
 .exact .ret h
 .split
  .refine .ask (h.bd hn _) (h.bd hn _) fun b=>?_;cases b with
  |true=>exact .ret h
  |false=>exact I0 hn (h.rev _ _) _ _
  .exact I0 hn h _ _
theorem AH{p:Array Nat}(h:fU n p)(k:Nat):∀f l r,Asks n (fun _=>True) (kas_place p k f l r)
|0,l,r=>.ret trivial
|f+1,l,r=>by
  unfold kas_place;split
  .exact .ret trivial
  .refine .ask (h.bd hn _) (h.bd hn _) fun b=>?_;cases b with
  |true=>exact AH h k f _ _
  |false=>exact AH h k f _ _
theorem G9:∀f (p:Array Nat) k,fU n p->Asks n (fU n) (kas_bin f p k)
|0,p,k,h=>.ret h
|f+1,p,k,h=>Asks.bind (AH hn h k _ _ _) fun l _=>G9 f _ _ (h.bub _ _)
theorem IL:Asks n (fU n) (kas_sort n):=by
 refine Asks.bind (Rz hn (by unfold fU;simp) n) fun r B=>?_;split
 .exact G9 hn _ _ _ B
 .exact .ret B
end
def lF(n:Nat)(c:Nat->Nat->Bool):List Nat:=if n<2 then g_ n else(qN c (kas_sort n)).toList
theorem AQ(n:Nat)(c:Nat->Nat->Bool):(lF n c).Perm (g_ n):=by
 unfold lF;split
 .exact .refl _
 .exact(IL (by omega)).run c
def kC:List Int->List Int->Bool
|[],[]=>false
|[],_::_=>true
|_::_,[]=>false
|x::xs,y::ys=>if x=y then kC xs ys else decide (x<y)
def jx(fin:Bool):List (List Int)->List (List Int)->Bool
|k::ks,l::ls=>if k=l then jx fin ks ls else kC k l
|_,_=>fin
def gL(ks ls:List (List Int)):Bool:=jx (decide (ks.length<ls.length)) ks ls
end DL
namespace DL
open PySem PyProof.Rows PySem.W PySem.Calls
section
variable{prog:E_}{w:P_}{A:V_}{E:a_->e_->Prop}{s:e_}
theorem RQ{a:Addr}{vs:List a_}{n:Nat}{P:PySem.Fin->e_->Prop}(d:s.heap.get? a=some (ï "list" vs.toArray n))(k:vs.length<2)(h:∀h' c,(∀b o,b≠a->s.heap.get? b=some o->h'.get? b=some o)->h'.get? a=some (ï "list" vs.toArray c)->P (.done (.ret .none)) { s with heap:=h' }):K_ (G_ prog w) A (å.«list.sort» ⟨[.ref a],[]⟩) P E s:=by
 have B:vs.length<=sizeLine:=by rw[H_];omega
 have g:=fun(h:Heap)(f:Array a_->Array a_)=>Zr h a (YV f);obtain⟨j,U⟩:∃j,(s.heap.update a (YV fun _=>(#[]:Array a_))).get? a=some (ï "list" #[] j):=⟨_,get?_update_seq d fun _=>#[]⟩
 rw[list_sort_plain];refine d_ (listItems_at d rfl (d_ (listUpdate_at d rfl ?_ (by rw[D_];exact B) (Xe _))));refine d_ (seqEpoch_at U rfl (d_ (wpAny_newTuple (d_ (wpAny_newList (Ya ?_) (Xe _))) (by show vs.length<=_;exact B))))
 dsimp only
 have Z:vs.toArray.size<2:=by rw[D_];exact k
 rw[Q_d Z,Q_d Z];refine d_ (C_ ?_);have Y:(pure ():StateT SortSt Sem Unit).run (ć general' (vs.toArray.zip vs.toArray) #[] 7 none)=pure ((),ć general' (vs.toArray.zip vs.toArray) #[] 7 none):=rfl;rw[Y];refine d_ (C_ ?_)
 dsimp only
 have N:(arrOf (ć general' (vs.toArray.zip vs.toArray) #[] 7 none)).map (·.2)=vs.toArray:=by show((vs.toArray.zip vs.toArray).map (·.2))=vs.toArray;apply Array.ext';simp[ę]
 rw[N];have L:∀b o,(s.heap.update a (YV fun _=>(#[]:Array a_))).get? b=some o->(((s.heap.update a (YV fun _=>(#[]:Array a_))).push (ï "tuple" vs.toArray 0)).push (ï "list" #[] 0)).get? b=some o:=fun b o e=>b_ _ (b_ _ e);have M:=L _ _ U;refine d_ (seqEpoch_at M rfl (d_ (listUpdate_at M rfl ?_ (Xe _) (by rw[D_];exact Nat.le_succ_of_le B))));simp only[bne_self_eq_false,į,if_false];refine C_ (h _ _ (fun b o i e=>?_) (get?_update_seq M fun _=>vs.toArray));exact((g _ _).2 b i).trans (L b o (((g _ _).2 b i).trans e))
theorem TW{l:Addr}{vs:List a_}{Q:a_->e_->Prop}(a:s.heap.IsList l vs.toArray)(f:vs.length<2)(h:∀h' c D,(∀b o,s.heap.get? b=some o->h'.get? b=some o)->s.heap.objs.size<=D->h'.get? D=some (ï "list" vs.toArray c)->Q (.ref D) { s with heap:=h' }):K_ (G_ prog w) A (call (.builtin "sorted") [.ref l]) Q E s:=by
 refine Calls.call_function_entry kind_sorted plain_sorted entry_sorted (args_sorted1 _) ?_;refine d_ (C_ (d_ (collect_list a ?_ (by rw[H_];omega))));refine d_ (wpAny_newList ?_ (by rw[H_];omega));generalize Y:((s.heap.push _).update s.heap.objs.size _)=M;have N:M.objs.size=s.heap.objs.size+1:=by rw[<-Y,Heap.size_update,size_push']
 have L:∀b o,s.heap.get? b=some o->(M.push (ï "list" vs.toArray 0)).get? b=some o:=fun b o q=>by have U:=x_ q;refine b_ _ ?_;rw[<-Y,Heap.get?_update_ne _ _ _ _ (L_ U)];exact b_ _ q
 have B:(M.push _).get? M.objs.size=some (ï "list" vs.toArray 0):=q_ _ rfl;refine d_ (Ya (XO slot_list_sort ⟨_,B,rfl⟩ entry_list_sort ?_ (args_list_sort _)));refine RQ B f fun h' c Z d=>?_;refine⟨_,rfl,C_ ⟨_,rfl,h h' c _ (fun b o e=>Z b o ?_ (L b o e)) (by simp_all) d⟩⟩;rw[N];exact L_ (Xw (x_ e))
end
end DL
namespace DL
open PySem PySem.Spec PyProof.Rows L2 PySem.W PySem.Calls
def Ut(h B:Heap)(a:Addr)(cls:a_)(od L:Option Addr):Prop:=∃oe vs,h.get? a=some oe/\oe.cls=cls/\(∀dx,od=some dx->oe.dict=some dx)/\oe.data=.fields vs /\(vs[1]? = some Value.none\/(∃T oT ts,vs[1]? = some (.ref T)/\B.get? T=none/\T≠a/\h.get? T=some oT/\oT.data=.fields ts/\ts[3]? = some Value.none) \/∃l T oT ts,L=some l/\vs[1]? = some (.ref T)/\B.get? T=none/\T≠a/\h.get? T=some oT/\oT.data=.fields ts/\ts[3]? = some (ñ ↑l))
def Cu(st:List Env):Option Addr:=st.head?.bind (·.frame)
structure Fly(P:E_)(w:P_)(st:List Env)(H:Hp)(s:e_)(H':Hp)(a:Addr)(cls:a_)(od:Option Addr)(s':e_):Prop where
 os:s'.os=s.os
 bare:Zf s'.gens
 un:Un (i8 st) [] H H' s.heap s'.heap
 hok:d7 P w H' s'.heap
 ex:∃B:Heap,B.StaysIn s'.heap/\B.get? a=none/\s'.heap.FunFrames B st/\Ut s'.heap B a cls od (Cu st) /\(∀b o,s.heap.get? b=some o->b∉i8 st->∃o',B.get? b=some o')/\∀b u,H' b=some u->∃o',B.get? b=some o'
end DL
namespace DL
open PySem PySem.Spec PyProof.Rows L2
inductive D where
 |non|bl (b:Bool)|int (i:Int)|str (x:Str)
 |tup (ds:List D)|lst (ds:List D)
 |dic (kvs:List (bG×D))
 |obj (c:Nat) (fs:List (Str×D))
instance:Inhabited D:=⟨.non⟩
inductive Res(α:Type) where
 |ok (a:α)|exc (x:D)|stuck
def Res.bind{α β:Type}(r:Res α)(f:α->Res β):Res β:=match r with
|.ok a=>f a
|.exc x=>.exc x
|.stuck=>.stuck
@[simp] theorem bind_ok{B L:Type}(a:B)(f:B->Res L):(Res.ok a).bind f=f a:=rfl
def fin{α:Type}(r:Res α)(q:α->Prop)(x:D->Prop):Prop:=match r with
|.ok a=>q a
|.exc e=>x e
|.stuck=>False
theorem cC{B:Type}{r:Res B}{q L:B->Prop}{x:D->Prop}(h:fin r q x)(hq:∀a,q a->L a):fin r L x:=by cases r with
|ok a=>exact hq a h
|exc e=>exact h
|stuck=>exact h
theorem cB{L B:Type}{r:Res L}{f:L->Res B}{q:B->Prop}{x:D->Prop}(h:fin (r.bind f) q x):fin r (fun a=>fin (f a) q x) x:=by cases r with
|ok a=>exact h
|exc e=>exact h
|stuck=>exact h
abbrev GH:=Addr->Option D
inductive Scl:V->D->Prop where
 |non:Scl .non .non
 |bl (b:Bool):Scl (.bl b) (.bl b)
 |int (i:Int):Scl (.int i) (.int i)
 |str (x:Str):Scl (.str x) (.str x)
inductive KC(K:W.Frag)(a:Addr):D->Prop where
|lst {xs:List V} {ds:List D}:cL K (fun _=>none) a xs->Paired Scl xs ds->KC K a (.lst ds)
|tup {xs:List V} {ds:List D}:dw K (fun _=>none) a xs->Paired Scl xs ds->(∃o,K.lookup a=some o/\o.cls=.type "tuple"/\o.dict=none)->KC K a (.tup ds)
inductive RG(K:W.Frag)(G:GH):V->D->Prop where
 |scl {v:V} {d:D}:Scl v d->RG K G v d
 |ref {a:Addr} {d:D}:G a=some d->RG K G (.ref a) d
 |kc {a:Addr} {d:D}:KC K a d->RG K G (.ref a) d
abbrev cW(K:W.Frag)(G:GH):List V->List D->Prop:=Paired (RG K G)
abbrev fE(K:W.Frag)(G:GH):List (bG×V)->List (bG×D)->Prop:=Paired fun p q=>p.1=q.1/\RG K G p.2 q.2
abbrev xD(nm:Str)(ds:List (Str×D)):D:=.obj 0 (("__class__",.str nm)::ds)
def XN(K:W.Frag)(nm:Str)(C:Addr):Prop:=∃o cd,K.lookup C=some o/\o.data=Data.cls cd/\cd.name=nm
def VE(a C:Addr)(od:Option Addr):Heap->Prop:=fun h=>∃oe vs,h.get? a=some oe/\oe.cls=.ref C/\(∀dx,od=some dx->oe.dict=some dx)/\oe.data=.fields vs
def XF(G:GH)(od:Option Addr)(ds:List (Str×D)):Prop:=match od with
|none=>ds=[]
|some dx=>G dx=some (.obj 1 ds)
theorem XF.mono{G L:GH}{B:Option Addr}{ds:List (Str×D)}(h:XF G B ds)(M:∀a d,G a=some d->L a=some d):XF L B ds:=by cases B with
|none=>exact h
|some N=>exact M _ _ h
abbrev iV(K:W.Frag)(G:GH):List (Str×V)->List (Str×D)->Prop:=Paired fun p q=>p.1=q.1/\RG K G p.2 q.2
abbrev iD(nm:Str)(ds:List (Str×D)):D:=.obj 2 (("__class__",.str nm)::ds)
inductive OB(K:W.Frag)(G:GH)(H:Hp)(a:Addr):D->Prop where
 |lst {xs:List V} {ds:List D}:Rd H a (.lst xs)->cW K G xs ds->OB K G H a (.lst ds)
 |tup {xs:List V} {ds:List D}:Rd H a (.tup xs)->cW K G xs ds->OB K G H a (.tup ds)
 |dic {ob:Obj} {ps:List (bG×V)} {kvs:List (bG×D)}:H a=some (.frz ob (.dK ps))->fE K G ps kvs->OB K G H a (.dic kvs)
 |exc {nm:Str} {C:Addr} {od:Option Addr} {ds:List (Str×D)}:H a=some (.ext (VE a C od))->XN K nm C->XF G od ds->OB K G H a (xD nm ds)
 |fld {fs:List (Str×V)} {ds:List (Str×D)}:H a=some (.xd fs)->iV K G fs ds->OB K G H a (.obj 1 ds)
 |ins {nm:Str} {C dx:Addr} {fs:List (Str×V)} {ds:List (Str×D)}:H a=some (.ins C dx fs)->XN K nm C->iV K G fs ds->OB K G H a (iD nm ds)
def cA(K:W.Frag)(G:GH)(H:Hp):Prop:=∀a d,G a=some d->OB K G H a d
inductive OwnO(K:W.Frag)(G:GH)(H:Hp)(a:Addr):D->Prop where
 |lst {xs:List V} {ds:List D}:H a=some (.lst xs)->cW K G xs ds->OwnO K G H a (.lst ds)
 |dic {ps:List (bG×V)} {kvs:List (bG×D)}:H a=some (.dK ps)->fE K G ps kvs->OwnO K G H a (.dic kvs)
structure Own(K:W.Frag)(G:GH)(H:Hp)(a:Addr)(d:D):Prop where
 un:G a=none
 ob:OwnO K G H a d
structure Grow(K:W.Frag)(G:GH)(H:Hp)(G':GH)(H':Hp):Prop where
 ok:cA K G' H'
 he:∀a o,H a=some o->H' a=some o
 ge:∀a d,G a=some d->G' a=some d
 gf:∀a,H a≠none->G' a=G a
variable{K:W.Frag}{G G' G2:GH}{H H' H2:Hp}{d:D}{v:V}
section
variable{G1:GH}{H1:Hp}{a p:Addr}
theorem Rd.mono{u:HO}(h:Rd H a u)(B:∀a o,H a=some o->H' a=some o):Rd H' a u:=by
 rcases h with h|⟨o,h⟩
 .exact .inl (B _ _ h)
 .exact .inr ⟨o,B _ _ h⟩
theorem Rd.isS{u:HO}(h:Rd H a u):H a≠none:=by rcases h with h|⟨o,h⟩ <;> rw[h] <;> simp
theorem RG.mono(h:RG K G v d)(B:∀a d,G a=some d->G' a=some d):RG K G' v d:=by cases h with
|scl s=>exact .scl s
|ref e=>exact .ref (B _ _ e)
|kc k=>exact .kc k
theorem cW.mono{xs:List V}{ds:List D}(h:cW K G xs ds)(B:∀a d,G a=some d->G' a=some d):cW K G' xs ds:=Paired.mono (fun _ _ r=>r.mono B) h
theorem fE.mono{xs:List (bG×V)}{ds:List (bG×D)}(h:fE K G xs ds)(B:∀a d,G a=some d->G' a=some d):fE K G' xs ds:=Paired.mono (fun _ _ r=>⟨r.1,r.2.mono B⟩) h
theorem OB.mono(h:OB K G H a d)(L:∀a d,G a=some d->G' a=some d)(B:∀o,H a=some o->H' a=some o):OB K G' H' a d:=by
 have rd:∀{u:HO},Rd H a u->Rd H' a u:=fun r=>by
  rcases r with r|⟨o,r⟩
  .exact .inl (B _ r)
  .exact .inr ⟨o,B _ r⟩
 cases h with
|lst r s=>exact .lst (rd r) (s.mono L)
|tup r s=>exact .tup (rd r) (s.mono L)
|dic r s=>exact .dic (B _ r) (fE.mono s L)
|exc r n f=>exact .exc (B _ r) n (f.mono L)
|fld r s=>exact .fld (B _ r) (Paired.mono (fun _ _ r=>⟨r.1,r.2.mono L⟩) s)
|ins r n s=>exact .ins (B _ r) n (Paired.mono (fun _ _ r=>⟨r.1,r.2.mono L⟩) s)
theorem OB.isS(h:OB K G H a d):H a≠none:=by cases h with
|lst r s=>exact Rd.isS r
|tup r s=>exact Rd.isS r
|dic r s=>rw[r];simp
|exc r n f=>rw[r];simp
|fld r s=>rw[r];simp
|ins r n s=>rw[r];simp
theorem cA.isN(g:cA K G H)(h:H p=none):G p=none:=by cases e:G p with
|none=>rfl
|some d=>exact Q_f h (g p d e).isS
theorem OwnO.isS(h:OwnO K G H a d):H a≠none:=by cases h with
|lst r s=>rw[r];simp
|dic r s=>rw[r];simp
theorem OwnO.mono(h:OwnO K G H a d)(L:∀a d,G a=some d->G' a=some d)(B:∀o,H a=some o->H' a=some o):OwnO K G' H' a d:=by cases h with
|lst r s=>exact .lst (B _ r) (s.mono L)
|dic r s=>exact .dic (B _ r) (fE.mono s L)
theorem Own.mono(h:Own K G H a d)(w:Grow K G H G' H'):Own K G' H' a d:=⟨by rw[w.gf a h.ob.isS];exact h.un,h.ob.mono w.ge fun o e=>w.he _ _ e⟩
def fz(H:Hp)(a:Addr)(ob:Obj):Hp:=match H a with
|some (.dK ps)=>aV H a (.frz ob (.dK ps))
|_=>H
theorem qF{b:Addr}{B:Obj}(h:b≠a):fz H a B b=H b:=by unfold fz;cases e:H a with
|none=>rfl
|some u=>cases u <;> first|rfl|exact bZ h
theorem MB{xs:List V}{B:Obj}(h:H a=some (.lst xs)):fz H a B=H:=by unfold fz;rw[h]
theorem OwnO.fast(h:OwnO K G H a d)(B:Obj):OB K G (fz H a B) a d:=by cases h with
|lst r s=>rw[MB r];exact .lst (.inl r) s
|dic r s=>exact .dic ((fun h=>by unfold fz;rw[h];exact cP) r) s
theorem cA.fast(g:cA K G H)(M:G a=none)(B:Obj):cA K G (fz H a B):=fun b d e=>by
 have L:b≠a:=by grind
 exact(g b d e).mono (by grind) fun o z=>by rw[qF L];exact z
theorem Grow.refl(g:cA K G H):Grow K G H G H:=⟨g,fun _ _ e=>e,fun _ _ e=>e,fun _ _=>rfl⟩
theorem Grow.trans(x:Grow K G H G1 H1)(y:Grow K G1 H1 G2 H2):Grow K G H G2 H2:=
 ⟨y.ok,fun a o e=>y.he _ _ (x.he _ _ e),fun a d e=>y.ge _ _ (x.ge _ _ e),fun a h=>by
  have B:H1 a≠Option.none:=by cases e:H a with
  |none=>exact Q_f e h
  |some o=>rw[x.he _ _ e];simp
  rw[y.gf a B,x.gf a h]⟩
def gset(G:GH)(a:Addr)(d:D):GH:=fun b=>if b=a then some d else G b
theorem fZ:gset G a d a=some d:=Q_d rfl
theorem i5{b:Addr}(h:b≠a):gset G a d b=G b:=Q_e h
theorem kb(B:G a=none):∀b e,G b=some e->gset G a d b=some e:=fun b e h=>by
 have:b≠a:=by grind
 rw[i5 this];exact h
theorem cA.gset(g:cA K G H)(B:G a=none)(o:OB K G H a d):cA K (gset G a d) H:=fun b e h=>by
 by_cases L:b=a
 .subst L;rw[fZ]at h;cases h;exact o.mono (kb B) fun _ q=>q
 .rw[i5 L]at h;exact(g b e h).mono (kb B) fun _ q=>q
theorem yZ(B:H p=none){o:HO}:∀a u,H a=some u->aV H p o a=some u:=fun a u e=>by rw[bZ (nA e B)];exact e
theorem Grow.new(g:cA K G H)(B:H p=none)(o:HO):Grow K G H G (aV H p o):=⟨fun a d e=>(g a d e).mono (by grind) fun u q=>yZ B _ _ q,fun a u e=>yZ B _ _ e,fun _ _ e=>e,fun _ _=>rfl⟩
theorem Grow.newF(g:cA K G H)(B:H p=none){o:HO}(M:OB K G (aV H p o) p d):Grow K G H (gset G p d) (aV H p o):=by have w:=Grow.new g B o;have L:=g.isN B;exact⟨w.ok.gset L M,w.he,fun a e h=>kb L a e h,fun a h=>i5 (by rintro rfl;exact h B)⟩
theorem Grow.frz(w:Grow K G H G' H')(L:H a=none)(o:Own K G' H' a d)(B:Obj):Grow K G H (gset G' a d) (fz H' a B):=⟨(w.ok.fast o.un B).gset o.un (o.ob.fast B),fun b u e=>by rw[qF (by grind)];exact w.he b u e,fun b e h=>kb o.un b e (w.ge b e h),fun b h=>by rw[i5 (by grind)];exact w.gf b h⟩
theorem RG.lst{ds:List D}(g:cA K G H)(h:RG K G v (.lst ds)):∃a xs,v=.ref a/\cL K H a xs/\cW K G xs ds:=by cases h with
|scl s=>cases s
|ref e=>cases g _ _ e with
 |lst r s=>exact⟨_,_,rfl,.inl r,s⟩
|kc k=>cases k with
 |lst r s=>
   refine⟨_,_,rfl,?_,Paired.mono (fun _ _ z=>.scl z) s⟩;rcases r with(r|⟨o,r⟩)|r
   .cases r
   .cases r
   .exact .inr r
theorem RG.tup{ds:List D}(g:cA K G H)(h:RG K G v (.tup ds)):∃a xs,v=.ref a/\dw K H a xs/\cW K G xs ds:=by cases h with
|scl s=>cases s
|ref e=>cases g _ _ e with
 |tup r s=>exact⟨_,_,rfl,.inl r,s⟩
|kc k=>cases k with
 |tup r s _=>
   refine⟨_,_,rfl,?_,Paired.mono (fun _ _ z=>.scl z) s⟩;rcases r with(r|⟨o,r⟩)|r
   .cases r
   .cases r
   .exact .inr r
theorem RG.dic{B:List (bG×D)}(g:cA K G H)(h:RG K G v (.dic B)):∃a L,v=.ref a/\Rd H a (.dK L)/\fE K G L B:=by cases h with
|scl s=>cases s
|ref e=>cases g _ _ e with
 |dic r s=>exact⟨_,_,rfl,.inr ⟨_,r⟩,s⟩
|kc k=>cases k
theorem RG.int{i:Int}(g:cA K G H)(h:RG K G v (.int i)):v=.int i:=by cases h with
|scl s=>cases s;rfl
|ref e=>cases g _ _ e
|kc k=>cases k
theorem RG.str{x:Str}(g:cA K G H)(h:RG K G v (.str x)):v=.str x:=by cases h with
|scl s=>cases s;rfl
|ref e=>cases g _ _ e
|kc k=>cases k
theorem RG.bl{b:Bool}(g:cA K G H)(h:RG K G v (.bl b)):v=.bl b:=by cases h with
|scl s=>cases s;rfl
|ref e=>cases g _ _ e
|kc k=>cases k
theorem RG.non(g:cA K G H)(h:RG K G v .non):v=.non:=by cases h with
|scl s=>cases s;rfl
|ref e=>cases g _ _ e
|kc k=>cases k
def RB(K:W.Frag)(G:GH)(H:Hp)(v:V)(d:D):Prop:=RG K G v d\/∃a,v=.ref a/\Own K G H a d
theorem RG.rb(h:RG K G v d):RB K G H v d:=.inl h
theorem RB.mono(h:RB K G H v d)(w:Grow K G H G' H'):RB K G' H' v d:=by
 rcases h with h|⟨a,e,h⟩
 .exact .inl (h.mono w.ge)
 .exact .inr ⟨a,e,h.mono w⟩
theorem RB.lst{ds:List D}(g:cA K G H)(h:RB K G H v (.lst ds)):∃a xs,v=.ref a/\cL K H a xs/\cW K G xs ds:=by
 rcases h with h|⟨a,e,h⟩
 .exact h.lst g
 .cases h.ob with
 |lst r s=>exact⟨a,_,e,cL.of r,s⟩
theorem RB.tup{ds:List D}(g:cA K G H)(h:RB K G H v (.tup ds)):∃a xs,v=.ref a/\dw K H a xs/\cW K G xs ds:=by
 rcases h with h|⟨a,e,h⟩
 .exact h.tup g
 .cases h.ob
theorem RB.dic{B:List (bG×D)}(g:cA K G H)(h:RB K G H v (.dic B)):∃a L,v=.ref a/\Rd H a (.dK L)/\fE K G L B:=by
 rcases h with h|⟨a,e,h⟩
 .exact h.dic g
 .cases h.ob with
 |dic r s=>exact⟨a,_,e,.inl r,s⟩
theorem RB.int{i:Int}(g:cA K G H)(h:RB K G H v (.int i)):v=.int i:=by
 rcases h with h|⟨a,e,h⟩
 .exact h.int g
 .cases h.ob
theorem RB.str{x:Str}(g:cA K G H)(h:RB K G H v (.str x)):v=.str x:=by
 rcases h with h|⟨a,e,h⟩
 .exact h.str g
 .cases h.ob
theorem RB.bl{b:Bool}(g:cA K G H)(h:RB K G H v (.bl b)):v=.bl b:=by
 rcases h with h|⟨a,e,h⟩
 .exact h.bl g
 .cases h.ob
theorem RB.non(g:cA K G H)(h:RB K G H v .non):v=.non:=by
 rcases h with h|⟨a,e,h⟩
 .exact h.non g
 .cases h.ob
theorem Paired.get{L B:Type}{F:L->B->Prop}:∀{l:List L}{r:List B}{i:Nat}{b:B},Paired F l r->r[i]? = some b->∃a,l[i]? = some a/\F a b
|_,_,_,_,.nil,e=>by simp at e
|_,_,0,_,.cons h _,e=>by simp at e;subst e;exact⟨_,rfl,h⟩
|_,_,i+1,b,.cons _ t,e=>by obtain⟨a,N,M⟩:=Paired.get (i:=i) t (by simpa using e);exact⟨a,by simpa using N,M⟩
theorem Paired.app{L B:Type}{F:L->B->Prop}{l M:List L}{r r':List B}(h:Paired F l r)(q:Paired F M r'):Paired F (l++M) (r++r'):=by induction h with
|nil=>exact q
|cons h _ N=>exact .cons h N
theorem Paired.tk{L B:Type}{F:L->B->Prop}{l:List L}{r:List B}(n:Nat)(h:Paired F l r):Paired F (l.take n) (r.take n):=by induction h generalizing n with
|nil=>cases n <;> exact .nil
|cons h _ M=>cases n with
 |zero=>exact .nil
 |succ n=>exact .cons h (M n)
theorem Paired.dr{L B:Type}{F:L->B->Prop}{l:List L}{r:List B}(n:Nat)(h:Paired F l r):Paired F (l.drop n) (r.drop n):=by induction h generalizing n with
|nil=>cases n <;> exact .nil
|cons h t M=>cases n with
 |zero=>exact .cons h t
 |succ n=>exact M n
theorem Paired.st{L B:Type}{F:L->B->Prop}{a:L}{b:B}(h:F a b){l:List L}{r:List B}(n:Nat)(p:Paired F l r):Paired F (l.set n a) (r.set n b):=by induction p generalizing n with
|nil=>exact .nil
|cons q t M=>cases n with
 |zero=>exact .cons h t
 |succ n=>exact .cons q (M n)
theorem Paired.er{L B:Type}{F:L->B->Prop}{l:List L}{r:List B}(n:Nat)(p:Paired F l r):Paired F (l.eraseIdx n) (r.eraseIdx n):=by induction p generalizing n with
|nil=>exact .nil
|cons q t M=>cases n with
 |zero=>exact t
 |succ n=>exact .cons q (M n)
end
inductive Md where
 |sh|ow|bw
 deriving DecidableEq
abbrev aL:=List (Option D)
structure GE where
 gh:GH
 h0:Hp
 hd:Nat->Option (Option V×Option D)
def Bw(K:W.Frag)(h0:Hp)(G:GH)(H:Hp)(v:V)(d:D):Prop:=RG K G v d\/∃a,v=V.ref a/\Own K G H a d/\h0 a≠none
theorem Bw.grow{K:W.Frag}{B:Hp}{G M:GH}{H L:Hp}{v:V}{d:D}(h:Bw K B G H v d)(w:Grow K G H M L):Bw K B M L v d:=by
 rcases h with h|⟨a,e,U,N⟩
 .exact .inl (h.mono w.ge)
 .exact .inr ⟨a,e,U.mono w,N⟩
theorem Bw.rb{K:W.Frag}{L:Hp}{G:GH}{H:Hp}{v:V}{d:D}(h:Bw K L G H v d):RB K G H v d:=by
 rcases h with h|⟨a,e,B,M⟩
 .exact .inl h
 .exact .inr ⟨a,e,B⟩
def Lk(r:aL)(st:L2.St)(i:Nat)(o:Option V×Option D):Prop:=st[i]? = some o.1/\∀d,r[i]? = some (some d)->o.2=some d
structure SI(X:Cx)(g:GE)(m:List Md)(r:aL)(G:GH)(st:L2.St)(H:Hp):Prop where
 gok:cA X.K G H
 old:∀a o,g.h0 a=some o->H a=some o
 ge:∀a d,g.gh a=some d->G a=some d
 gf:∀a,g.h0 a≠none->G a=g.gh a
 lm:m.length=st.length
 lr:r.length=st.length
 sh:∀(i:Nat) d,r[i]? = some (some d)->m[i]? = some .sh->∃v,st[i]? = some (some v)/\RG X.K G v d
 ow:∀(i:Nat) d,r[i]? = some (some d)->m[i]? = some .ow->∃a,st[i]? = some (some (V.ref a))/\Own X.K G H a d/\g.h0 a=none
 bw:∀(i:Nat) d,r[i]? = some (some d)->m[i]? = some .bw->∃v,st[i]? = some (some v)/\Bw X.K g.h0 G H v d
 dis:∀(i j:Nat) a d e,i≠j->r[i]? = some (some d)->r[j]? = some (some e)->m[i]? = some .ow->m[j]? = some .ow->st[i]? = some (some (V.ref a))->st[j]? = some (some (V.ref a))->False
 lk:∀(i:Nat) o,g.hd i=some o->m[i]? = some .bw->Lk r st i o
variable{X:Cx}{g:GE}{m:List Md}{r:aL}
section
variable{st:L2.St}
theorem SI.grow(s:SI X g m r G st H)(w:Grow X.K G H G' H'):SI X g m r G' st H' where
 gok:=w.ok
 old:=fun a o e=>w.he _ _ (s.old a o e)
 ge:=fun a d e=>w.ge _ _ (s.ge a d e)
 gf:=fun a h=>by
  have B:H a≠none:=by cases e:g.h0 a with
  |none=>exact Q_f e h
  |some o=>rw[s.old _ _ e];simp
  rw[w.gf a B,s.gf a h]
 lm:=s.lm
 lr:=s.lr
 sh:=fun i d B N=>by obtain⟨v,M,L⟩:=s.sh i d B N;exact⟨v,M,L.mono w.ge⟩
 ow:=fun i d B N=>by obtain⟨a,M,L,U⟩:=s.ow i d B N;exact⟨a,M,L.mono w,U⟩
 bw:=fun i d B N=>by obtain⟨v,M,L⟩:=s.bw i d B N;exact⟨v,M,L.grow w⟩
 dis:=s.dis
 lk:=s.lk
theorem SI.grown(s:SI X g m r G st H):Grow X.K g.gh g.h0 G H:=⟨s.gok,s.old,s.ge,s.gf⟩
theorem SI.frz(s:SI X g m r G st H)(i:Nat)(hi:m[i]? = some .ow):(∃n,(∀a d,G a=some d->n a=some d)/\SI X g (m.set i .sh) r n st H)\/∃a,∀q,∃n,(∀a d,G a=some d->n a=some d)/\SI X g (m.set i .sh) r n st (fz H a q):=by
 have Y:i<m.length:=(c_.mp hi).1;by_cases l:∃d,r[i]? = some (some d)
 .obtain⟨d,hd⟩:=l;obtain⟨a,u,c,t⟩:=s.ow i d hd hi;refine .inr ⟨a,fun q=>⟨gset G a d,kb c.un,(s.gok.fast c.un q).gset c.un (c.ob.fast q),fun b o e=>by rw[qF (by rintro rfl;rw[t]at e;cases e)];exact s.old b o e,fun b e h=>kb c.un b e (s.ge b e h),fun b h=>?_,by simpa using s.lm,s.lr,?_,?_,?_,?_,fun j o N M=>?_⟩⟩
  .rw[i5 (by rintro rfl;exact h t)];exact s.gf b h
  .intro j e N M;by_cases L:i=j
   .subst L;rw[hd]at N;cases N;exact⟨_,u,.ref fZ⟩
   .rw[f_ L]at M;obtain⟨v,Z,U⟩:=s.sh j e N M;exact⟨v,Z,U.mono (kb c.un)⟩
  .intro j e N M;by_cases L:i=j
   .subst L;rw[u_ Y]at M;cases M
   .rw[f_ L]at M;obtain⟨b,Z,U,p⟩:=s.ow j e N M;have B:b≠a:=by
     rintro rfl
     exact s.dis i j b d e L hd N hi M u Z
    exact⟨b,Z,⟨by rw[i5 B];exact U.un,U.ob.mono (kb c.un) fun _ z=>by rw[qF B];exact z⟩,p⟩
  .intro j e N M;by_cases L:i=j
   .subst L;rw[u_ Y]at M;cases M
   .rw[f_ L]at M;obtain⟨v,Z,U⟩:=s.bw j e N M;refine⟨v,Z,?_⟩;rcases U with U|⟨b,rfl,U,p⟩
    .exact .inl (U.mono (kb c.un))
    .have B:b≠a:=by rintro rfl;exact p t
     exact .inr ⟨b,rfl,⟨by rw[i5 B];exact U.un,U.ob.mono (kb c.un) fun _ z=>by rw[qF B];exact z⟩,p⟩
  .intro j k b e e' hjk N hk M hm' Z U;have L:i≠j:=by
    rintro rfl
    rw[u_ Y]at M;cases M
   have f:i≠k:=by
    rintro rfl
    rw[u_ Y]at hm';cases hm'
   rw[f_ L]at M;rw[f_ f]at hm';exact s.dis j k b e e' hjk N hk M hm' Z U
  .refine s.lk j o N ?_;by_cases L:i=j
   .subst L;rw[u_ Y]at M;cases M
   .rw[f_ L]at M;exact M
 .refine .inl ⟨G,fun _ _ z=>z,s.gok,s.old,s.ge,s.gf,by simpa using s.lm,s.lr,?_,?_,?_,?_,fun j o N M=>?_⟩
  .intro j e N M;have L:i≠j:=by rintro rfl;exact l ⟨e,N⟩
   rw[f_ L]at M;exact s.sh j e N M
  .intro j e N M;have L:i≠j:=by rintro rfl;exact l ⟨e,N⟩
   rw[f_ L]at M;exact s.ow j e N M
  .intro j e N M;have L:i≠j:=by rintro rfl;exact l ⟨e,N⟩
   rw[f_ L]at M;exact s.bw j e N M
  .intro j k b e e' hjk N hk M hm' Z U;have L:i≠j:=by rintro rfl;exact l ⟨e,N⟩
   have f:i≠k:=by rintro rfl;exact l ⟨e',hk⟩
   rw[f_ L]at M;rw[f_ f]at hm';exact s.dis j k b e e' hjk N hk M hm' Z U
  .refine s.lk j o N ?_;by_cases L:i=j
   .subst L;rw[u_ Y]at M;cases M
   .rw[f_ L]at M;exact M
end
theorem PE.imp{X:Cx}{e:Expr}{t t':TE}(h:PE X e t)(i:∀σ H Q,t' σ H Q->t σ H Q):PE X e t':=fun B s σ H Q I q=>h B s σ H Q I (i σ H Q q)
theorem PT.imp{X:Cx}{e:Expr}{t t':TT}(h:PT X e t)(i:∀σ H Q,t' σ H Q->t σ H Q):PT X e t':=fun B s σ H Q I q=>h B s σ H Q I (i σ H Q q)
theorem PW.imp{X:Cx}{e:Expr}{t t':TT}(h:PW X e t)(i:∀σ H Q,t' σ H Q->t σ H Q):PW X e t':=fun B L s σ H Q I q=>h B L s σ H Q I (i σ H Q q)
theorem PA.imp{X:Cx}{e:List Expr}{t t':TA}(h:PA X e t)(i:∀σ H Q,t' σ H Q->t σ H Q):PA X e t':=fun B L s σ H Q I q=>h B L s σ H Q I (i σ H Q q)
theorem PS.imp{X:Cx}{e:Stmt}{t t':TS}(h:PS X e t)(i:∀D σ H,t' D σ H->t D σ H):PS X e t':=fun B s σ H D I q=>h B s σ H D I (i D σ H q)
theorem d6.imp{X:Cx}{e:List Stmt}{t t':TS}(h:d6 X e t)(i:∀D σ H,t' D σ H->t D σ H):d6 X e t':=fun B s σ H D I q=>h B s σ H D I (i D σ H q)
def L7(X:Cx)(σ:L2.St)(G:GH)(H':Hp)(e:a_)(x:D)(s':e_):Prop:=∃pz s H1 a C od nm ds,e=.ref a/\x=xD nm ds/\XN X.K nm C/\XF G od ds/\Inv X pz σ H1 s/\Fly X.prog X.w X.stack H1 s H' a (.ref C) od s'
def XW(X:Cx)(σ:L2.St)(G:GH)(H:Hp)(x:D):Prop:=∀pz e s' G' H',Grow X.K G H G' H'->Inv X pz σ H' s'->L7 X σ G' H' e x s'->X.xe e s'
theorem XW.grow{X:Cx}{σ:L2.St}{G L:GH}{H B:Hp}{x:D}(h:XW X σ G H x)(w:Grow X.K G H L B):XW X σ L B x:=fun U e N Z Y M I q=>h U e N Z Y (w.trans M) I q
abbrev FE:=aL->Res D
def tE(X:Cx)(g:GE)(m:List Md)(f:FE):TE:=fun σ H Q=>∃r G,SI X g m r G σ H/\fin (f r) (fun d=>∀v G' H',Grow X.K G H G' H'->RG X.K G' v d->Q v H') (XW X σ G H)
def tB(X:Cx)(g:GE)(m:List Md)(f:FE):TE:=fun σ H Q=>∃r G,SI X g m r G σ H/\fin (f r) (fun d=>∀v G' H',Grow X.K G H G' H'->RB X.K G' H' v d->Q v H') (XW X σ G H)
def tO(X:Cx)(g:GE)(m:List Md)(f:FE):TE:=fun σ H Q=>∃r G,SI X g m r G σ H/\fin (f r) (fun d=>∀a G' H',Grow X.K G H G' H'->H a=none->Own X.K G' H' a d->Q (.ref a) H') (XW X σ G H)
def tQ(X:Cx)(g:GE)(m:List Md)(f:aL->Res Bool):TT:=fun σ H Q=>∃r G,SI X g m r G σ H/\fin (f r) (fun b=>∀G' H',Grow X.K G H G' H'->Q b H') (XW X σ G H)
def tL(X:Cx)(g:GE)(m:List Md)(f:aL->Res (List D)):TA:=fun σ H Q=>∃r G,SI X g m r G σ H/\fin (f r) (fun ds=>∀vs G' H',Grow X.K G H G' H'->cW X.K G' vs ds->Q vs H') (XW X σ G H)
def CD(X:Cx)(g:GE)(m:List Md)(f:aL->Res (List D)):TA:=fun σ H Q=>∃r G,SI X g m r G σ H/\fin (f r) (fun ds=>∀vs G' H',Grow X.K G H G' H'->Paired (RB X.K G' H') vs ds->Q vs H') (XW X σ G H)
def SE(X:Cx)(g:GE)(m:List Md)(e:Expr)(f:FE):Prop:=PE X e (tE X g m f)
def SB(X:Cx)(g:GE)(m:List Md)(e:Expr)(f:FE):Prop:=PE X e (tB X g m f)
def SO(X:Cx)(g:GE)(m:List Md)(e:Expr)(f:FE):Prop:=PE X e (tO X g m f)
def SQ(X:Cx)(g:GE)(m:List Md)(e:Expr)(f:aL->Res Bool):Prop:=PT X e (tQ X g m f)
def SW(X:Cx)(g:GE)(m:List Md)(e:Expr)(f:aL->Res Bool):Prop:=PW X e (tQ X g m f)
def SA(X:Cx)(g:GE)(m:List Md)(es:List Expr)(f:aL->Res (List D)):Prop:=PA X es (tL X g m f)
def iF(X:Cx)(g:GE)(m:List Md)(es:List Expr)(f:aL->Res (List D)):Prop:=PA X es (CD X g m f)
variable{a e b c:Expr}{f fa fb:FE}{pos:Pos}
section
variable{fc:FE}
theorem SE.toB(h:SE X g m e f):SB X g m e f:=PE.imp h fun N H Q y=>by obtain⟨r,G,B,q⟩:=y;exact ⟨r,G,B,cC q fun d k v M L w z=>k v M L w z.rb⟩
theorem Inv.fast{pz:List (Addr×Obj)}{σ:L2.St}{H:Hp}{s:e_}(I:Inv X pz σ H s)(a:Addr):∃b,Inv X pz σ (fz H a b) s:=by cases e:H a with
|none=>exact⟨{ cls:=.none,data:=.fields #[] },by unfold fz;rw[e];exact I⟩
|some u=>cases u with
 |dK Z=>
   obtain⟨U,N,Y,M,o,c,d,B,L⟩:=(I.hok a _ e)
   have f:fz H a o=aV H a (.frz o (.dK Z)):=by unfold fz;rw[e]
   refine⟨o,?_⟩;rw[f];exact I.write (by rw[e];exact trivial) (.inl rfl) (by simp_all) ⟨o,B⟩ (⟨B,U,N,Y,M,o,c,d,B,L⟩)
 |_=>exact⟨{ cls:=.none,data:=.fields #[] },by unfold fz;rw[e];exact I⟩
theorem SO.toE(h:SO X g m e f):SE X g m e f:=by intro Y s M H Q I ⟨r,G,N,q⟩;refine bQ (h Y s M H (fun v L=>∃a,v=.ref a/\∀B,Q v (fz L a B)) I ⟨r,G,N,cC q fun d k a j L w Z o=>⟨a,rfl,fun B=>k _ _ _ (w.frz Z o B) (.ref fZ)⟩⟩) fun u i y=>?_;obtain⟨v,L,c,U,a,_,z⟩:=y;obtain⟨B,b⟩:=Inv.fast c a;exact⟨v,_,b,U,z B⟩
theorem SO.toB(h:SO X g m e f):SB X g m e f:=h.toE.toB
theorem rE{v:V}{d:D}(h:PE X e (tC v))(s:Scl v d):SE X g m e fun _=>.ok d:=PE.imp h fun L H Q k=>by obtain⟨r,G,B,q⟩:=k;exact q v G H (Grow.refl B.gok) (.scl s)
theorem uO{i:Int}{j}:SE X g m (.Constant (.int i) j pos) fun _=>.ok (.int i):=rE (fun _ _ _ H _ I h=>wpAny_Constant_int ⟨.int i,H,I.tok _,⟨_,rfl⟩,h⟩) (.int i)
theorem lX{i:Bool}{j}:SE X g m (.Constant (.bool i) j pos) fun _=>.ok (.bl i):=rE U7 (.bl i)
theorem iX{j}:SE X g m (.Constant .none j pos) fun _=>.ok .non:=rE (fun _ _ _ H _ I h=>Constant_none ⟨.non,H,I,rfl,h⟩) .non
theorem da{i:Str}{j}:SE X g m (.Constant (.str i) j pos) fun _=>.ok (.str i):=rE Ex (.str i)
def ie(r:aL)(i:Nat):Res D:=match r[i]? with
|some (some d)=>.ok d
|_=>.stuck
theorem wa{r:aL}{i:Nat}{q:D->Prop}{x:D->Prop}(h:fin (ie r i) q x):∃d,r[i]? = some (some d)/\q d:=by
 unfold ie at h;split at h
 .rename_i d e;exact⟨d,e,h⟩
 .exact h.elim
theorem EH{x:Str}{v:V}{u:a_}{d:D}(L:Gl X x)(B:X.mg x=some u)(r:aT v u)(s:Scl v d)(M:(x==("__debug__" : Str))=false:=by decide):SE X g m (.Name x pos) fun _=>.ok d:=rE (vN L B r M) s
theorem ox{a:Type}{k:D->D->Res a}{q:a->Prop}{R:V->V->Hp->Prop}{r:aL}{G:GH}{σ:L2.St}{H:Hp}(c:SI X g m r G σ H)(h:fin ((fa r).bind fun U=>(fb r).bind fun d2=>k U d2) q (XW X σ G H))(j:∀U d2 M L Y B,Grow X.K G H Y B->RB X.K Y B M U->RB X.K Y B L d2->fin (k U d2) q (XW X σ G H)->R M L B):tB X g m fa σ H fun M d=>tB X g m fb σ d fun L B=>R M L B:=by refine⟨r,G,c,cC (cB h) fun U N M l d Z i=>⟨r,l,c.grow Z,?_⟩⟩;cases e:fb r with
|ok d2=>rw[e]at N;exact fun L Y B b f=>j U d2 M L Y B (Z.trans b) (i.mono b) f N
|exc x=>rw[e]at N;exact(N).grow Z
|stuck=>rw[e]at N;exact N
def eN{α:Type}:Option α->Res α
|some a=>.ok a
|none=>.stuck
@[simp] theorem opt_some{B:Type}(a:B):eN (some a)=.ok a:=rfl
theorem dz{B:Type}{o:Option B}{q:B->Prop}{x:D->Prop}(h:fin (eN o) q x):∃a,o=some a/\q a:=by cases o with
|none=>exact h.elim
|some a=>exact⟨a,rfl,h⟩
def gR(K:W.Frag)(r:R2)(k:D->D->Option D):Prop:=∀(G:GH)(H:Hp)(v1 v2:V)(d1 d2 d:D)(Q:VK),cA K G H->RB K G H v1 d1->RB K G H v2 d2->k d1 d2=some d ->(∀v G' H',Grow K G H G' H'->RG K G' v d->Q v H')->r v1 v2 H Q
def f2(fa fb:FE)(k:D->D->Option D):FE:=fun r=>(fa r).bind fun d1=>(fb r).bind fun d2=>eN (k d1 d2)
theorem yh{R:R2}{k:D->D->Option D}(a:gR X.K R k)(h:PE X e (xy R (tB X g m fa) (tB X g m fb))):SE X g m e (f2 fa fb k):=by refine PE.imp h fun n H Q k=>?_;obtain⟨r,G,U,q⟩:=k;refine ox U q fun c b N M j f w Z Y B=>?_;obtain⟨d,e,B⟩:=dz B;exact a j f N M c b d Q w.ok Z Y e fun v l i L z=>B v l i (w.trans L) z
theorem kO{op:Operator}{R:R2}{k:D->D->Option D}(B:cX X (Y1 op) R)(L:gR X.K R k)(N:SB X g m a fa)(M:SB X g m b fb):SE X g m (.BinOp a op b pos) (f2 fa fb k):=yh L (DR B N M)
theorem uN{op:CmpOp}{R:R2}{k:D->D->Option D}(e:cX X (Xm op) R)(B:gR X.K R k)(N:SB X g m a fa)(M:SB X g m b fb)(L:XM op b=false):SE X g m (.Compare a [op] [b] pos) (f2 fa fb k):=yh B ((fun B N M L=>by intro d s U H Q I h;exact wpAny_Compare1 (oQ N M I h fun v u Y x y i f c Z q=>B d Y U i x y v u Q f c Z q) L) e N M L)
def tK:D->Option Bool
|.bl b=>some b
|_=>none
def cK(f:FE):aL->Res Bool:=fun r=>(f r).bind fun d=>eN (tK d)
theorem mS{op:CmpOp}{R:R2}{k:D->D->Option D}(h:cX X (Xm op) R)(i:gR X.K R k)(n:SB X g m a fa)(l:SB X g m b fb)(j:XM op b=false):SQ X g m (.Compare a [op] [b] pos) (cK (f2 fa fb k)):=by
 refine PT.imp (Gx h n l j) fun x H Q a=>?_;obtain⟨r,G,Z,q⟩:=a;have e:cK (f2 fa fb k) r=(fa r).bind fun L=>(fb r).bind fun M=>(eN (k L M)).bind fun d=>eN (tK d):=by unfold cK f2;cases fa r with
 |ok L=>cases fb r <;> rfl
 |exc _=>rfl
 |stuck=>rfl
 rw[e]at q;refine ox Z q fun L M Y U t p w f c B=>?_;obtain⟨d,e,B⟩:=dz (cB B);obtain⟨b,o,B⟩:=dz B;cases d with
|bl y=>exact i t p Y U L M _ _ w.ok f c e fun v u s N z=>⟨_,z.bl N.ok,B u s (w.trans N)⟩
|_=>cases o
end
instance decMul(i j:Int):Decidable (jC i j):=by unfold jC;infer_instance
instance decDiv(i j:Int):Decidable (mN i j):=by unfold mN;infer_instance
instance decPow(i j:Int):Decidable (oZ i j):=by unfold oZ;infer_instance
def pq(k:Int->Int->D):D->D->Option D
|.int a,.int b=>some (k a b)
|_,_=>none
def lC(C:Int->Int->Prop)[∀a b,Decidable (C a b)](k:Int->Int->D):D->D->Option D
|.int a,.int b=>if C a b then some (k a b)else none
|_,_=>none
@[simp] theorem intsC_int(C:Int->Int->Prop)[∀a b,Decidable (C a b)](k:Int->Int->D)(a b:Int):lC C k (.int a) (.int b)=if C a b then some (k a b)else none:=rfl
theorem nY{gv:Int->Int->V}{B:Int->Int->D}(hs:∀i j,Scl (gv i j) (B i j)):gR K (lZ gv) (pq B):=by
 intro G H U N Z Y d Q g M L e q;unfold pq at e;split at e
 .cases e;exact⟨_,_,M.int g,L.int g,q _ G H (Grow.refl g) (.scl (hs _ _))⟩
 .cases e
theorem pR{C:Int->Int->Prop}[∀a b,Decidable (C a b)]{gv:Int->Int->V}{B:Int->Int->D}(hs:∀i j,Scl (gv i j) (B i j)):gR K (rI C gv) (lC C B):=by
 intro G H U N Z Y d Q g M L e q;unfold lC at e;split at e
 .split at e
  .rename_i hc;cases e;exact⟨_,_,M.int g,L.int g,hc,q _ G H (Grow.refl g) (.scl (hs _ _))⟩
  .cases e
 .cases e
abbrev CL:D->D->Option D:=pq fun a b=>.int (a-b)
abbrev eI:D->D->Option D:=lC jC fun a b=>.int (a*b)
abbrev je:D->D->Option D:=lC mN fun a b=>.int (a/b)
abbrev cO:D->D->Option D:=lC (fun _ b=>0<b) fun a b=>.int (a%b)
abbrev kx:D->D->Option D:=lC oZ fun a b=>.int (a^b.toNat)
abbrev mq:D->D->Option D:=pq fun a b=>.bl (decide (a<b))
abbrev L1:D->D->Option D:=pq fun a b=>.bl (decide (a<=b))
abbrev mG:D->D->Option D:=pq fun a b=>.bl (decide (b<a))
variable{p q:FQ}{es:List Expr}{fl:aL->Res (List D)}
section
variable{fc:FE}
theorem UC(L:SB X g m a fa)(B:SB X g m b fb):SE X g m (.BinOp a .Sub b pos) (f2 fa fb CL):=kO (sU fun _ _ _ _ _ _ _ q=>sub_int q) (nY fun _ _=>.int _) L B
theorem mY(M:SB X g m a fa)(L:SB X g m b fb):SE X g m (.BinOp a .Mult b pos) (f2 fa fb eI):=kO (qm fun _ _ _ _ _ _ _ B q=>mul_int q B.ok) (pR fun _ _=>.int _) M L
theorem pF(M:SB X g m a fa)(L:SB X g m b fb):SE X g m (.BinOp a .FloorDiv b pos) (f2 fa fb je):=kO (qm fun i j _ _ _ _ _ B q=>by have U:(0:Int)<j:=B.1;have N:j<1073741824:=B.2;exact floordiv_int (by omega) (by rw[ZI i (by omega)];exact q) (.inl (PyProof.noPylong_small (by omega)))) (pR fun _ _=>.int _) M L
theorem iG(M:SB X g m a fa)(L:SB X g m b fb):SE X g m (.BinOp a .Mod b pos) (f2 fa fb cO):=kO (qm fun i j _ _ _ _ _ B q=>by have N:(0:Int)<j:=B;exact mod_int' (by omega) (by rw[Int.fmod_eq_emod_of_nonneg i (by omega)];exact q)) (pR fun _ _=>.int _) M L
theorem UB(M:SB X g m a fa)(L:SB X g m b fb):SE X g m (.BinOp a .Pow b pos) (f2 fa fb kx):=kO (qm fun _ _ _ _ _ _ _ B q=>pow_int_small B.1 B.2.1 B.2.2 q) (pR fun _ _=>.int _) M L
theorem sJ(L:SB X g m a fa)(B:SB X g m b fb):SE X g m (.Compare a [.Lt] [b] pos) (f2 fa fb mq):=uN yn (nY fun _ _=>.bl _) L B (lI _)
theorem CN(L:SB X g m a fa)(B:SB X g m b fb):SE X g m (.Compare a [.Gt] [b] pos) (f2 fa fb mG):=uN Eb (nY fun _ _=>.bl _) L B (lI _)
theorem jq(L:SB X g m a fa)(B:SB X g m b fb):SQ X g m (.Compare a [.Lt] [b] pos) (cK (f2 fa fb mq)):=mS yn (nY fun _ _=>.bl _) L B (lI _)
theorem km(L:SB X g m a fa)(B:SB X g m b fb):SQ X g m (.Compare a [.Gt] [b] pos) (cK (f2 fa fb mG)):=mS Eb (nY fun _ _=>.bl _) L B (lI _)
def f1(fa:FE)(k:D->Option D):FE:=fun r=>(fa r).bind fun d=>eN (k d)
def sX:D->Option D
|.int a=>some (.int (-a))
|_=>none
theorem yg(Y:SB X g m a fa):SE X g m (.UnaryOp .USub a pos) (f1 fa sX):=by
 refine PE.imp (U8 (Vp fun _ _ _ _ _ q=>neg_int q) Y) fun c H Q k=>?_;obtain⟨r,G,L,q⟩:=k;refine ⟨r,G,L,cC (cB q) fun d U v b Z B M=>?_⟩
 obtain⟨f,e,N⟩:=dz U;cases d with
|int i=>cases e;exact⟨i,M.int B.ok,N _ b Z B (.scl (.int _))⟩
|_=>cases e
def iJ:D->Option Bool
|.non=>some false
|.bl b=>some b
|.int i=>some (i != 0)
|.str y=>if y.length<=sizeLine then some ((y.length:Int) != 0)else none
|.lst ds=>some (! ds.isEmpty)
|.tup ds=>some (! ds.isEmpty)
|.dic kvs=>some (! kvs.isEmpty)
|.obj _ _=>none
theorem AE{L B:Type}{F:L->B->Prop}{l:List L}{r:List B}(h:Paired F l r):l.isEmpty=r.isEmpty:=by cases h <;> rfl
theorem GU{K:W.Frag}{G:GH}{H:Hp}{v:V}{d:D}{b:Bool}(B:cA K G H)(h:RB K G H v d)(e:iJ d=some b):oU K v H b:=by cases d with
|non=>cases e;rw[h.non B];rfl
|bl Z=>cases e;rw[h.bl B];rfl
|int i=>cases e;rw[h.int B];rfl
|str y=>
  rw[h.str B];have M:(if y.length<=sizeLine then some ((y.length:Int) != 0)else none)=some b:=e;by_cases N:y.length<=sizeLine
  .rw[Q_d N]at M;cases M;exact⟨N,rfl⟩
  .rw[Q_e N]at M;cases M
|lst Y=>cases e;obtain⟨a,L,rfl,s,r⟩:=h.lst B;exact .inl ⟨L,s,by rw[AE r]⟩
|tup Y=>cases e;obtain⟨a,L,rfl,s,r⟩:=h.tup B;exact .inr (.inl ⟨L,s,by rw[AE r]⟩)
|dic U=>cases e;obtain⟨a,L,rfl,s,r⟩:=h.dic B;exact .inr (.inr ⟨L,s,by rw[AE r]⟩)
|obj _ _=>cases e
def di(f:FE):aL->Res Bool:=fun r=>(f r).bind fun d=>eN (iJ d)
theorem ga(c:SB X g m a fa)(Z:∀B,isTrue a X.env B=(do let v <-B;Zu a.pos;YF [v] (truthy v)):=by intro _;rfl):SQ X g m a (di fa):=by
 refine PT.imp (Hy c Z) fun i H Q k=>?_;obtain⟨r,G,M,q⟩:=k;refine ⟨r,G,M,cC (cB q) fun d Y v h f L N=>?_⟩
 obtain⟨b,e,U⟩:=dz Y;exact⟨b,GU L.ok N e,U h f L⟩
abbrev FQ:=aL->Res Bool
def ig(p q:FQ):FQ:=fun r=>(p r).bind fun c=>if c=true then q r else .ok false
def kF(p q:FQ):FQ:=fun r=>(p r).bind fun c=>if c=true then .ok true else q r
def fQ(p:FQ):FQ:=fun r=>(p r).bind fun c=>.ok (! c)
variable{rest:List Expr}
theorem gE{B:Type}{r:Res B}{σ:L2.St}{G N:GH}{H M:Hp}{P L:B->Prop}(h:fin r P (XW X σ G H))(w:Grow X.K G H N M)(U:∀a,P a->L a):fin r L (XW X σ N M):=by
   have h:=(cC h U)
   cases r with
  |ok a=>exact h
  |exc e=>exact(fun _ x=>x.grow w) e h
  |stuck=>exact h
theorem EC(M:SQ X g m a p):SW X g m (.BoolOp .And [a] pos) p:=by intro N L s B H Q I h;refine isTrue_and (bQ (M L s B H Q I h) fun c U e=>?_);cases c with
  |true=>exact isTrue_and_nil e
  |false=>exact e
theorem mT(M:SQ X g m a p):SW X g m (.BoolOp .Or [a] pos) p:=by intro N L s B H Q I h;refine isTrue_or (bQ (M L s B H Q I h) fun c U e=>?_);cases c with
  |false=>exact isTrue_or_nil e
  |true=>exact e
theorem DU(Z:SQ X g m a p)(Y:SW X g m (.BoolOp .And (b::rest) pos) q):SW X g m (.BoolOp .And (a::b::rest) pos) (ig p q):=by
 refine PW.imp (Ni Z Y) fun h H Q y=>?_;obtain⟨r,G,L,k⟩:=y;refine ⟨r,G,L,cC (cB k) fun c M N d B=>?_⟩
 cases c with
|true=>exact⟨r,N,L.grow B,gE M B fun b z f e U=>z f e (B.trans U)⟩
|false=>exact M N d B
theorem gI(Z:SQ X g m a p)(Y:SW X g m (.BoolOp .Or (b::rest) pos) q):SW X g m (.BoolOp .Or (a::b::rest) pos) (kF p q):=by
 refine PW.imp (U9 Z Y) fun h H Q y=>?_;obtain⟨r,G,L,k⟩:=y;refine ⟨r,G,L,cC (cB k) fun c M N d B=>?_⟩
 cases c with
|true=>exact M N d B
|false=>exact⟨r,N,L.grow B,gE M B fun b z f e U=>z f e (B.trans U)⟩
theorem SW.toQ(h:SW X g m e p):SQ X g m e p:=PW.pt h
theorem jg(N:SQ X g m a p):SQ X g m (.UnaryOp .Not a pos) (fQ p):=PT.imp (EA N) fun Z H Q z=>by obtain⟨r,G,L,k⟩:=z;exact ⟨r,G,L,cC (cB k) fun c M Y U B=>M Y U B⟩
def lU(fa fb:FE):FE:=fun r=>(fa r).bind fun d=>(eN (tK d)).bind fun c=>if c=true then fb r else .ok (.bl false)
def Cs(fa:FE):FE:=fun r=>(fa r).bind fun d=>(eN (tK d)).bind fun c=>.ok (.bl (! c))
theorem pd{op}(h:SE X g m a fa):SE X g m (.BoolOp op [a] pos) fa:=fun L s B H Q I M=>BoolOp_one (h L s B H Q I M)
theorem pb(h:SE X g m a fa)(f:SE X g m (.BoolOp .And (b::rest) pos) fb):SE X g m (.BoolOp .And (a::b::rest) pos) (lU fa fb):=by
 refine PE.imp (M6 h f) fun n H Q y=>?_;obtain⟨r,G,L,k⟩:=y;refine ⟨r,G,L,cC (cB k) fun d Z v N i B Y=>?_⟩
 obtain⟨c,e,M⟩:=dz (cB Z);cases d with
|bl o=>cases e;refine⟨_,Y.bl B.ok,?_⟩;cases c with
 |true=>exact⟨r,N,L.grow B,gE M B fun b z v l j U=>z v l j (B.trans U)⟩
 |false=>exact M _ N i B (.scl (.bl _))
|_=>cases e
theorem UA(Y:SE X g m a fa):SE X g m (.UnaryOp .Not a pos) (Cs fa):=by
 refine PE.imp (M8 Y) fun f H Q z=>?_;obtain⟨r,G,L,k⟩:=z;refine ⟨r,G,L,cC (cB k) fun d U v b Z B M=>?_⟩
 obtain⟨c,e,N⟩:=dz (cB U);cases d with
|bl h=>cases e;exact⟨_,M.bl B.ok,N _ b Z B (.scl (.bl _))⟩
|_=>cases e
def qr(p:FQ)(fa fb:FE):FE:=fun r=>(p r).bind fun c=>if c=true then fa r else fb r
theorem mX(d:SQ X g m c p)(f:SE X g m a fa)(e:SE X g m b fb):SE X g m (.IfExp c a b pos) (qr p fa fb):=by
 refine PE.imp (Qq d f e) fun h H Q y=>?_;obtain⟨r,G,M,k⟩:=y;refine ⟨r,G,M,cC (cB k) fun c Y Z i B=>?_⟩
 cases c with
|true=>exact⟨r,Z,M.grow B,gE Y B fun b z v U N L=>z v U N (B.trans L)⟩
|false=>exact⟨r,Z,M.grow B,gE Y B fun b z v U N L=>z v U N (B.trans L)⟩
variable{fr:aL->Res (List D)}
def aE:aL->Res (List D):=fun _=>.ok []
def aH(fa:FE)(fl:aL->Res (List D)):aL->Res (List D):=fun r=>(fa r).bind fun d=>(fl r).bind fun ds=>.ok (d::ds)
theorem bS:SA X g m [] aE:=PA.imp ka fun L H Q z=>by obtain⟨r,G,B,k⟩:=z;exact k [] G H (Grow.refl B.gok) .nil
theorem bP(a:SE X g m e fa)(Z:SA X g m es fl)(hs:i_ (e::es) X.env=(false,eval e X.env)::i_ es X.env:=by rfl):SA X g m (e::es) (aH fa fl):=by
 refine PA.imp (i6 a Z hs) fun h H Q y=>?_;obtain⟨r,G,M,k⟩:=y;refine ⟨r,G,M,cC (cB k) fun d Y v f l B U=>⟨r,f,M.grow B,?_⟩⟩
 exact gE (cB Y) B fun j z i c b L N=>z _ c b (B.trans L) (.cons (U.mono L.ge) N)
theorem bF:iF X g m [] aE:=PA.imp ka fun L H Q z=>by obtain⟨r,G,B,k⟩:=z;exact k [] G H (Grow.refl B.gok) .nil
theorem bB(a:SB X g m e fa)(Z:iF X g m es fl)(hs:i_ (e::es) X.env=(false,eval e X.env)::i_ es X.env:=by rfl):iF X g m (e::es) (aH fa fl):=by
 refine PA.imp (i6 a Z hs) fun h H Q y=>?_;obtain⟨r,G,M,k⟩:=y;refine ⟨r,G,M,cC (cB k) fun d Y v f l B U=>⟨r,f,M.grow B,?_⟩⟩
 exact gE (cB Y) B fun j z i c b L N=>z _ c b (B.trans L) (.cons (U.mono L) N)
def sz(ds:List D):Option (List D):=if ds.length<=sizeLine then some ds else none
theorem yy{ds B:List D}(h:sz ds=some B):B=ds/\ds.length<=sizeLine:=by unfold sz at h;grind
def jU(fl:aL->Res (List D)):FE:=fun r=>(fl r).bind fun ds=>(eN (sz ds)).bind fun ds=>.ok (.tup ds)
def jv(fl:aL->Res (List D)):FE:=fun r=>(fl r).bind fun ds=>(eN (sz ds)).bind fun ds=>.ok (.lst ds)
theorem gb{x1}(h:SA X g m es fl):SE X g m (.Tuple es x1 pos) (jU fl):=by
 refine PE.imp (M9 h) fun b H Q z=>?_;obtain⟨r,G,N,k⟩:=z;refine ⟨r,G,N,cC (cB k) fun f Y c j i B L=>?_⟩
 obtain⟨a,e,U⟩:=dz (cB Y);obtain⟨rfl,d⟩:=yy e;have M:=Paired.length L;refine⟨by omega,fun p Z=>?_⟩;exact U _ _ _ (B.trans (Grow.newF B.ok Z (.tup (.inl cP) L))) (.ref fZ)
theorem dX(h:SA X g m es fl):SO X g m (.List es pos) (jv fl):=by
 refine PE.imp (M7 h) fun d H Q z=>?_;obtain⟨r,G,U,k⟩:=z;refine ⟨r,G,U,cC (cB k) fun j Z f c l B M=>?_⟩
 obtain⟨b,e,Y⟩:=dz (cB Z);obtain⟨rfl,i⟩:=yy e;have N:=Paired.length M;refine⟨by omega,fun p L=>?_⟩;have a:H p=none:=by cases q:H p with
 |none=>rfl
 |some o=>rw[B.he _ _ q]at L;cases L
 exact Y p c _ (B.trans (Grow.new B.ok L _)) a ⟨B.ok.isN L,.lst cP M⟩
end
def xX(K:W.Frag)(r:List V->Hp->VK->Prop)(k:List D->Option D):Prop:=∀(G:GH)(H:Hp)(vs:List V)(ds:List D)(d:D)(Q:VK),cA K G H->Paired (RB K G H) vs ds->k ds=some d ->(∀v G' H',Grow K G H G' H'->RG K G' v d->Q v H')->r vs H Q
def LO(K:W.Frag)(r:List V->Hp->VK->Prop)(k:List D->Option D):Prop:=∀(G:GH)(H:Hp)(vs:List V)(ds:List D)(d:D)(Q:VK),cA K G H->Paired (RB K G H) vs ds->k ds=some d ->(∀a G' H',Grow K G H G' H'->H a=none->Own K G' H' a d->Q (.ref a) H')->r vs H Q
def fC(fl:aL->Res (List D))(k:List D->Option D):FE:=fun r=>(fl r).bind fun ds=>eN (k ds)
theorem Grow.back{K:W.Frag}{G M:GH}{H L:Hp}(w:Grow K G H M L){a:Addr}(B:L a=none):H a=none:=by cases q:H a with
|none=>rfl
|some o=>rw[w.he _ _ q]at B;cases B
variable{id T:String}
section
variable{fc:FE}{p p2:Pos}{x:Str}{R:List V->Hp->VK->Prop}{k:List D->Option D}
theorem hX(a:xX X.K R k)(h:PE X e (xz R (CD X g m fl))):SE X g m e (fC fl k):=by
 refine PE.imp h fun l H Q k=>?_;obtain⟨r,G,N,q⟩:=k;refine ⟨r,G,N,cC (cB q) fun b Z M i c B U=>?_⟩
 obtain⟨d,e,Y⟩:=dz Z;exact a i c M b d Q B.ok U e fun v j f L z=>Y v j f (B.trans L) z
theorem DK(b:LO X.K R k)(h:PE X e (xz R (CD X g m fl))):SO X g m e (fC fl k):=by
 refine PE.imp h fun n H Q k=>?_;obtain⟨r,G,N,q⟩:=k;refine ⟨r,G,N,cC (cB q) fun c Z M j f B U=>?_⟩
 obtain⟨d,e,Y⟩:=dz Z;exact b j f M c d Q B.ok U e fun v l i L a z=>Y v l i (B.trans L) (B.back a) z
def lenD:List D->Option D
|[.str y]=>if y.length<=sizeLine then some (.int y.length)else none
|[.lst ds]=>some (.int ds.length)
|[.tup ds]=>some (.int ds.length)
|[.dic kvs]=>some (.int kvs.length)
|_=>none
theorem Mm{K:W.Frag}:xX K (fun xs H Q=>(∃x n,xs=[x]/\tX K x H n/\Q (.int n) H)\/∃a L,xs=[V.ref a]/\Rd H a (.dK L)/\Q (.int L.length) H) lenD:=by
 intro G H N U d Q B M e q;unfold lenD at e;split at e
 .split at e
  .cases e;cases M with
  |cons r t=>cases t;exact .inl ⟨_,_,rfl,by rw[r.str B];exact⟨by assumption,rfl⟩,q _ G H (Grow.refl B) (.scl (.int _))⟩
  .cases e
 .cases e;cases M with
 |cons r t=>cases t;obtain⟨a,xs,rfl,s,r⟩:=r.lst B;have:=Paired.length r;exact .inl ⟨_,_,rfl,.inl ⟨xs,s,rfl⟩,q _ G H (Grow.refl B) (.scl (by rw[this];exact .int _))⟩
 .cases e;cases M with
 |cons r t=>cases t;obtain⟨a,xs,rfl,s,r⟩:=r.tup B;have:=Paired.length r;exact .inl ⟨_,_,rfl,.inr ⟨xs,s,rfl⟩,q _ G H (Grow.refl B) (.scl (by rw[this];exact .int _))⟩
 .cases e;cases M with
 |cons r t=>cases t;obtain⟨a,xs,rfl,s,r⟩:=r.dic B;have:=Paired.length r;exact .inr ⟨_,_,rfl,s,q _ G H (Grow.refl B) (.scl (by rw[this];exact .int _))⟩
 .cases e
theorem dB(Y:Gl X "len")(U:X.mg "len" = none)(M:iF X g m (e::es) fl)(Z:i_ (e::es) X.env=(false,eval e X.env)::i_ es X.env:=by rfl)(L:(backTo pos (i_ es X.env)).any (·.1)=false:=by rfl):SE X g m (.Call (.Name "len" p) (e::es) [] pos) (fC fl lenD):=hX Mm (nq (fT.or Pu (by intro j s c H d f Q I r h;obtain⟨a,B,rfl,M,q⟩:=h;obtain⟨u,rfl,N⟩:=fF r;cases N;exact Uy I M fun t i b=>⟨.int B.length,H,b,⟨t,rfl⟩,q⟩)) Y U PySem.boot_len M (by decide) (rfl) Z L)
def o8:List D->Option D
|[.lst ds]=>some (.lst ds)
|[.tup ds]=>some (.lst ds)
|_=>none
theorem OQ{K:W.Frag}:LO K (fun xs H Q=>∃p B,xs=[.ref p]/\(cL K H p B\/dw K H p B)/\∀l,H l=none->Q (.ref l) (aV H l (.lst B))) o8:=by
 intro G H b c d Q L Y e q;have fin:∀{B:List V}{U:List D},cW K G B U->(∀(a:Addr)(Z:GH)(N:Hp),Grow K G H Z N->H a=none->Own K Z N a (.lst U)->Q (.ref a) N)->∀l,H l=none->Q (.ref l) (aV H l (.lst B)):=fun r q l M=>q l G _ (Grow.new L M _) M ⟨L.isN M,.lst cP r⟩;unfold o8 at e;split at e
 .cases e;cases Y with
 |cons r t=>cases t;obtain⟨a,xs,rfl,s,r⟩:=r.lst L;exact⟨a,xs,rfl,.inl s,fin r q⟩
 .cases e;cases Y with
 |cons r t=>cases t;obtain⟨a,xs,rfl,s,r⟩:=r.tup L;exact⟨a,xs,rfl,.inr s,fin r q⟩
 .cases e
theorem yV(y:Gl X "list")(x:X.mg "list" = none)(A:iF X g m (e::es) fl)(z:i_ (e::es) X.env=(false,eval e X.env)::i_ es X.env:=by rfl)(a:(backTo pos (i_ es X.env)).any (·.1)=false:=by rfl) :
  SO X g m (.Call (.Name "list" p) (e::es) [] pos) (fC fl o8):=DK OQ (nu (by
     intro t s k H C E Q I r h;obtain⟨p,Y,rfl,M,q⟩:=h;obtain⟨u,rfl,l⟩:=fF r;cases l;have fin:∀(B:List a_),aK Y B->Y.length<=sizeLine->∀(U:Heap)(i:Nat),(∀b j,s.heap.get? b=some j->U.get? b=some j) ->U.get? s.heap.objs.size=some { cls:=.type "list",dict:=none,data:=.seq B.toArray i,slots:=#[] }->EP X t k Q _ { s with heap:=U }:=fun B L Z U i v e=>⟨.ref s.heap.objs.size,_,I.laid v (o_ _) (show dS X.prog X.w _ U _ (.lst Y)from⟨Z,B,i,L,e⟩),rfl,q _ (I.hok.fresh (o_ _))⟩
     rcases M with M|M
     .obtain⟨B,L,pl,Z⟩:=I.list M;have N:=L.length;obtain⟨o,c,f,n,d⟩:=pl.isList;exact call_list_seq p (.inl rfl) c f d (by grind) (by grind)
     .obtain⟨B,L,pl,Z⟩:=I.tuple M;have N:=L.length;obtain⟨o,c,f,n,d⟩:=pl;exact call_list_seq p (.inr rfl) c f d (by grind) (by grind)) y x rfl A (by decide) (rfl) z a)
def tupD:List D->Option D
|[.lst ds]=>some (.tup ds)
|[.tup ds]=>some (.tup ds)
|_=>none
theorem iI(Z:Gl X "tuple")(U:X.mg "tuple" = none)(c:iF X g m (e::es) fl)(b:i_ (e::es) X.env=(false,eval e X.env)::i_ es X.env:=by rfl)(M:(backTo pos (i_ es X.env)).any (·.1)=false:=by rfl) :
  SE X g m (.Call (.Name "tuple" p) (e::es) [] pos) (fC fl tupD):=hX (by
     intro G H f h d Q B N e q;unfold tupD at e;split at e
     .cases e;cases N with
     |cons r t=>cases t;obtain⟨a,L,rfl,s,r⟩:=r.lst B;exact⟨a,L,rfl,.inl ⟨s,fun l Y=>q _ _ _ (Grow.newF B Y (.tup (.inl cP) r)) (.ref fZ)⟩⟩
     .cases e;cases N with
     |cons r t=>
       cases t;rcases r with r|⟨a,_,o⟩
       .obtain⟨a,L,rfl,s,r'⟩:=r.tup B;exact⟨a,L,rfl,.inr ⟨s,q _ G H (Grow.refl B) r⟩⟩
       .cases o.ob
     .cases e) (nu Tu Z U rfl c (by decide) (rfl) b M)
def ixD:D->D->Option D
|.lst ds,.int i=>gU ds i
|.tup ds,.int i=>gU ds i
|.str z,.int i=>if z.length<=sizeLine then(gU z.cps.toList i).map fun c=>.str ⟨#[c]⟩else none
|_,_=>none
theorem DE{K:W.Frag}{G:GH}{xs:List V}{ds:List D}{i:Int}{d:D}(r:cW K G xs ds)(h:gU ds i=some d):∃v,gU xs i=some v/\RG K G v d:=by unfold gU at h ⊢;rw[Paired.length r];cases e:i7 ds.length i with
|none=>rw[e]at h;cases h
|some j=>rw[e]at h;exact Paired.get r h
theorem xV{K:W.Frag}:gR K (VC K) ixD:=by
 intro G H b Z g f d Q B N M e q;unfold ixD at e;split at e
 .obtain⟨a,xs,rfl,s,r⟩:=N.lst B;obtain⟨v,U,L⟩:=DE r e;exact .inl ⟨a,xs,_,v,rfl,M.int B,s,U,q v G H (Grow.refl B) L⟩
 .obtain⟨a,xs,rfl,s,r⟩:=N.tup B;obtain⟨v,U,L⟩:=DE r e;exact .inr (.inl ⟨a,xs,_,v,rfl,M.int B,s,U,q v G H (Grow.refl B) L⟩)
 .split at e
  .rename_i z i hz;cases Y:gU z.cps.toList i with
  |none=>rw[Y]at e;cases e
  |some c=>rw[Y]at e;cases e;exact .inr (.inr ⟨z,i,c,N.str B,M.int B,hz,Y,q _ G H (Grow.refl B) (.scl (.str _))⟩)
  .cases e
 .cases e
def cH{α:Type}(xs:List α)(lo hi:Option Int):List α:=(xs.drop (HT.sIx xs.length 0 lo)).take (HT.sIx xs.length xs.length hi-HT.sIx xs.length 0 lo)
theorem uF{L B:Type}{F:L->B->Prop}{xs:List L}{ds:List B}(r:Paired F xs ds)(lo hi:Option Int):Paired F (cH xs lo hi) (cH ds lo hi):=by unfold cH;rw[Paired.length r];exact Paired.tk _ (Paired.dr _ r)
abbrev FP:=aL->Res (Option Int)
def tP(X:Cx)(g:GE)(m:List Md)(f:FP):TO:=fun σ H Q=>∃r G,SI X g m r G σ H/\fin (f r) (fun o=>∀G' H',Grow X.K G H G' H'->Q o H') (XW X σ G H)
def nJ(X:Cx)(g:GE)(m:List Md)(e:Option Expr)(f:FP):Prop:=PO X e (tP X g m f)
theorem PO.imp{X:Cx}{e:Option Expr}{t t':TO}(h:PO X e t)(i:∀σ H Q,t' σ H Q->t σ H Q):PO X e t':=fun B s σ H Q I q=>h B s σ H Q I (i σ H Q q)
def VD:D->Option Int
|.int i=>some i
|_=>none
def jd(f:FE):FP:=fun r=>(f r).bind fun d=>(eN (VD d)).bind fun i=>.ok (some i)
theorem g6:nJ X g m none fun _=>.ok none:=PO.imp (by intro M s B H Q I h;exact C_ ⟨none,H,I,.none,h⟩) fun B H Q k=>by obtain⟨r,G,L,q⟩:=k;exact q G H (Grow.refl L.gok)
theorem g9(h:SB X g m e f):nJ X g m (some e) (jd f):=by
 refine PO.imp (N5 h) fun a H Q k=>?_;obtain⟨r,G,L,q⟩:=k;refine ⟨r,G,L,cC (cB q) fun d U v Z Y B M=>?_⟩
 obtain⟨i,e,N⟩:=dz (cB U);cases d with
|int j=>cases e;exact⟨_,M.int B.ok,N Z Y B⟩
|_=>cases e
def ql(d:D)(lo hi:Option Int):Option D:=match d with
|.tup ds=>if HT.sIx ds.length 0 lo=0/\HT.sIx ds.length ds.length hi=ds.length then none else some (.tup (cH ds lo hi))
|.lst ds=>some (.lst (cH ds lo hi))
|_=>none
def oM(fa:FE)(fl fh:FP):FE:=fun r=>(fa r).bind fun d=>(fl r).bind fun lo=>(fh r).bind fun hi=>eN (ql d lo hi)
theorem MY{R:V->Option Int->Option Int->Hp->Prop}{a b:FP}{r:aL}{G:GH}{σ:L2.St}{H:Hp}{q:D->Prop}(U:SI X g m r G σ H)(h:fin (oM fa a b r) q (XW X σ G H))(i:∀d lo hi v N B d',Grow X.K G H N B->RB X.K N B v d->ql d lo hi=some d'->q d'->R v lo hi B):tB X g m fa σ H fun x c=>tP X g m a σ c fun l B=>tP X g m b σ B fun u Y=>R x l u Y:=by refine⟨r,G,U,cC (cB h) fun d o v s c L f=>⟨r,s,U.grow L,gE (cB o) L fun lo n N B M=>⟨r,N,(U.grow L).grow M,?_⟩⟩⟩;refine gE (cB n) (L.trans M) fun hi k p Y Z=>?_;obtain⟨d',e,j⟩:=dz k;exact i d lo hi v p Y d' ((L.trans M).trans Z) ((f.mono M).mono Z) e j
theorem lD{lo hi:Option Expr}{b c:FP}(k:SB X g m e f)(j:nJ X g m lo b)(i:nJ X g m hi c):SE X g m (.Subscript e (.Slice lo hi none p2) pos) (oM f b c):=by refine PE.imp (Aj (jW.or GK EO) k j i) fun n H Q z=>?_;obtain⟨r,G,h,q⟩:=z;refine MY h q fun d lo hi v t o l w Y e Z=>?_;cases d with
|tup B=>
  obtain⟨a,N,rfl,s,r⟩:=Y.tup w.ok;have M:(if HT.sIx B.length 0 lo=0/\HT.sIx B.length B.length hi=B.length then none else some (D.tup (cH B lo hi)))=some l:=e;by_cases L:HT.sIx B.length 0 lo=0/\HT.sIx B.length B.length hi=B.length
  .rw[Q_d L]at M;cases M
  rw[Q_e L]at M;cases M;rw[<-Paired.length r]at L;refine .inr ⟨a,N,rfl,s,L,fun p U=>?_⟩;exact Z _ _ _ (w.trans (Grow.newF w.ok U (.tup (.inl cP) (uF r lo hi)))) (.ref fZ)
|lst B=>cases e;obtain⟨a,N,rfl,s,r⟩:=Y.lst w.ok;exact .inl ⟨a,N,rfl,s,fun p U=>Z _ _ _ (w.trans (Grow.newF w.ok U (.lst (.inl cP) (uF r lo hi)))) (.ref fZ)⟩
|_=>cases e
end
inductive Out where
 |nx (r:aL)|rt (d:D)|bk (r:aL)|ct (r:aL)|exc (x:D) (r:aL)|stuck
abbrev FS:=aL->Out
def bX(G G':GH):Prop:=∀a d,G a=some d->G' a=some d
theorem bX.refl(G:GH):bX G G:=fun _ _ e=>e
theorem bX.trans{G L B:GH}(a:bX G L)(b:bX L B):bX G B:=fun x d e=>b x d (a x d e)
def forget(m:List Md)(r:aL):aL:=X8 (fun md o=>if md=Md.sh then o else none) m r
def io(m:List Md):List Md:=m.map fun _=>Md.sh
theorem rW{m:List Md}{r:aL}{i:Nat}{d:D}(h:(forget m r)[i]? = some (some d)):r[i]? = some (some d)/\m[i]? = some .sh:=by unfold forget at h;rw[đ]at h;cases L:m[i]? with
|none=>rw[L]at h;cases h
|some N=>cases M:r[i]? with
 |none=>rw[L,M]at h;cases h
 |some o=>
   rw[L,M]at h;have B:(if N=Md.sh then o else none)=some d:=WU h;split at B
   .rename_i hm;subst hm;rw[B];exact⟨rfl,rfl⟩
   .cases B
section
variable{st:L2.St}
theorem SI.forget(s:SI X g m r G st H):SI X g (io m) (forget m r) G st H where
 gok:=s.gok
 old:=s.old
 ge:=s.ge
 gf:=s.gf
 lm:=by rw[io,h_];exact s.lm
 lr:=by rw[DL.forget,Zs,s.lm,s.lr,Nat.min_self]
 sh:=fun i d h _=>s.sh i d (rW h).1 (rW h).2
 ow:=fun i d h B=>by rw[io,A_,(rW h).2]at B;cases B
 bw:=fun i d h B=>by rw[io,A_,(rW h).2]at B;cases B
 dis:=fun i j a d e _ h _ B=>by rw[io,A_,(rW h).2]at B;cases B
 lk:=fun i o _ B=>by rw[io,A_]at B;cases q:m[i]? <;> rw[q]at B <;> cases B
theorem SI.set(s:SI X g m r G st H)(i:Nat){v:V}{d:D}(l:RG X.K G v d):SI X g (m.set i .sh) (r.set i (some d)) G (st.set i (some v)) H where
 gok:=s.gok
 old:=s.old
 ge:=s.ge
 gf:=s.gf
 lm:=by simp[s.lm]
 lr:=by simp[s.lr]
 sh:=fun j e h L=>by
  by_cases B:i=j
  .subst B;have M:i<r.length:=by have:=(c_.mp h).1;simpa using this
   rw[u_ M]at h;cases h;exact⟨v,by rw[u_ (by rw[<-s.lr];exact M)],l⟩
  .rw[f_ B]at h L;rw[f_ B];exact s.sh j e h L
 ow:=fun j e h L=>by
  by_cases B:i=j
  .subst B;have M:i<m.length:=by have:=(c_.mp L).1;simpa using this
   rw[u_ M]at L;cases L
  .rw[f_ B]at h L;rw[f_ B];exact s.ow j e h L
 bw:=fun j e h L=>by
  by_cases B:i=j
  .subst B;have M:i<m.length:=by have:=(c_.mp L).1;simpa using this
   rw[u_ M]at L;cases L
  .rw[f_ B]at h L;rw[f_ B];exact s.bw j e h L
 dis:=fun j k a q p U f Z L N c b=>by
  have B:i≠j:=by
   rintro rfl
   have M:i<m.length:=by have:=(c_.mp L).1;simpa using this
   rw[u_ M]at L;cases L
  have Y:i≠k:=by
   rintro rfl
   have M:i<m.length:=by have:=(c_.mp Z).1;rw[ğ,s.lr,<-s.lm]at this;exact this
   rw[u_ M]at N;cases N
  rw[f_ B]at f L c;rw[f_ Y]at Z N b;exact s.dis j k a q p U f Z L N c b
 lk:=fun j o n L=>by
  have B:i≠j:=by
   rintro rfl
   have M:i<m.length:=by have:=(c_.mp L).1;simpa using this
   rw[u_ M]at L;cases L
  rw[f_ B]at L;have:=s.lk j o n L;exact⟨by rw[f_ B];exact this.1,fun d h=>this.2 d (by rw[f_ B]at h;exact h)⟩
theorem SI.setO(s:SI X g m r G st H)(i:Nat){a:Addr}{d:D}(q:Own X.K G H a d)(u:g.h0 a=none)(l:∀(j:Nat)(b:Addr)(e:D),r[j]? = some (some e)->m[j]? = some Md.ow->st[j]? = some (some (V.ref b))->b≠a):SI X g (m.set i .ow) (r.set i (some d)) G (st.set i (some (V.ref a))) H where
 gok:=s.gok
 old:=s.old
 ge:=s.ge
 gf:=s.gf
 lm:=by simp[s.lm]
 lr:=by simp[s.lr]
 sh:=fun j e h L=>by
  by_cases B:i=j
  .subst B;have M:i<m.length:=by have:=(c_.mp L).1;simpa using this
   rw[u_ M]at L;cases L
  .rw[f_ B]at h L;rw[f_ B];exact s.sh j e h L
 ow:=fun j e h L=>by
  by_cases B:i=j
  .subst B;have M:i<r.length:=by have:=(c_.mp h).1;simpa using this
   rw[u_ M]at h;cases h;exact⟨a,by rw[u_ (by rw[<-s.lr];exact M)],q,u⟩
  .rw[f_ B]at h L;rw[f_ B];exact s.ow j e h L
 bw:=fun j e h L=>by
  by_cases B:i=j
  .subst B;have M:i<m.length:=by have:=(c_.mp L).1;simpa using this
   rw[u_ M]at L;cases L
  .rw[f_ B]at h L;rw[f_ B];exact s.bw j e h L
 dis:=fun j k b p n Z f c L Y U N=>by
  by_cases B:i=j
  .subst B;rw[f_ Z]at c Y N;have M:i<st.length:=by have:=(c_.mp U).1;simpa using this
   rw[u_ M]at U;have e:a=b:=by injection U with U;injection U with U;injection U
   exact l k b n c Y N e.symm
  .by_cases hik:i=k
   .subst hik;rw[f_ B]at f L U;have M:i<st.length:=by have:=(c_.mp N).1;simpa using this
    rw[u_ M]at N;have e:a=b:=by injection N with N;injection N with N;injection N
    exact l j b p f L U e.symm
   .rw[f_ B]at f L U;rw[f_ hik]at c Y N;exact s.dis j k b p n Z f c L Y U N
 lk:=fun j o t L=>by
  have B:i≠j:=by
   rintro rfl
   have M:i<m.length:=by have:=(c_.mp L).1;simpa using this
   rw[u_ M]at L;cases L
  rw[f_ B]at L;have:=s.lk j o t L;exact⟨by rw[f_ B];exact this.1,fun d h=>this.2 d (by rw[f_ B]at h;exact h)⟩
theorem SI.other(s:SI X g m r G st H){p:Addr}(c:G p=none)(f:g.h0 p=none)(M:∀(i:Nat),m[i]?≠some Md.ow)(o:HO):SI X g m r G st (aV H p o) where
 gok:=fun b e h=>(s.gok b e h).mono (by grind) fun L q=>by rw[bZ (by grind)];exact q
 old:=fun b L h=>by rw[bZ (by grind)];exact s.old b L h
 ge:=s.ge
 gf:=s.gf
 lm:=s.lm
 lr:=s.lr
 sh:=s.sh
 ow:=fun i d _ h=>Q_f h (M i)
 bw:=fun i d Z Y=>by
  obtain⟨v,U,B⟩:=s.bw i d Z Y;refine⟨v,U,?_⟩;rcases B with B|⟨a,rfl,B,N⟩
  .exact .inl B
  .have ha:a≠p:=by grind
   exact .inr ⟨a,rfl,⟨B.un,B.ob.mono (by grind) fun L z=>by rw[bZ ha];exact z⟩,N⟩
 dis:=fun i j a d e _ _ _ h=>Q_f h (M i)
 lk:=s.lk
theorem SI.less(s:SI X g m r G st H){r':aL}(L:r'.length=r.length)(h:∀(i:Nat) d,r'[i]? = some (some d)->r[i]? = some (some d)):SI X g m r' G st H:=⟨s.gok,s.old,s.ge,s.gf,s.lm,L.trans s.lr,fun i d a b=>s.sh i d (h i d a) b,fun i d a b=>s.ow i d (h i d a) b,fun i d a b=>s.bw i d (h i d a) b,fun i j a d e n p q x y=>s.dis i j a d e n (h i d p) (h j e q) x y,fun i o M B=>by have:=s.lk i o M B;exact⟨this.1,fun d N=>this.2 d (h i d N)⟩⟩
theorem SI.held(s:SI X g m r G st H){j:Nat}{b:Addr}{e:D}(h:r[j]? = some (some e))(L:m[j]? = some .ow)(hs:st[j]? = some (some (V.ref b))):H b≠none:=by
 obtain⟨a,B,M,_⟩:=s.ow j e h L;rw[hs]at B;injection B with B;injection B with B;injection B with B
 rw[B];exact M.ob.isS
theorem SI.setN(s:SI X g m r G st H){M:GH}{L:Hp}(w:Grow X.K G H M L)(i:Nat){a:Addr}{d:D}(B:H a=none)(N:Own X.K M L a d):SI X g (m.set i .ow) (r.set i (some d)) M (st.set i (some (V.ref a))) L:=by
 refine(s.grow w).setO i N ?_ fun j b e Z Y U=>?_
 .cases q:g.h0 a with
 |none=>rfl
 |some o=>rw[s.old _ _ q]at B;cases B
 .rintro rfl
  exact s.held Z Y U B
theorem SI.mut(s:SI X g m r G st H){i:Nat}{d:D}(c:m[i]? = some .ow)(f:r[i]? = some (some d)):∃a,st[i]? = some (some (V.ref a))/\Own X.K G H a d/\∀(l:HO)(d':D),OwnO X.K G (aV H a l) a d'->SI X g m (r.set i (some d')) G st (aV H a l):=by
 obtain⟨a,w,u,t⟩:=s.ow i d f c;have F:i<r.length:=(c_.mp f).1;refine⟨a,w,u,fun l d' E=>?_⟩;have L:∀(j:Nat)(b:Addr)(e:D),j≠i->r[j]? = some (some e)->m[j]? = some .ow->st[j]? = some (some (V.ref b))->b≠a:=fun j b e p Y U Z z=>by subst z;exact s.dis i j b d e (X6 p) f Y c U w Z
 refine⟨fun b e h=>?_,fun b o h=>?_,s.ge,s.gf,s.lm,by simp[s.lr],?_,?_,?_,?_,fun j o p M=>?_⟩
 .have hb:b≠a:=by rintro rfl;rw[u.un]at h;cases h
  exact(s.gok b e h).mono (fun _ _ z=>z) fun o q=>by rw[bZ hb];exact q
 .have hb:b≠a:=by rintro rfl;rw[t]at h;cases h
  rw[bZ hb];exact s.old b o h
 .intro j e h M;have N:i≠j:=by rintro rfl;rw[c]at M;cases M
  rw[f_ N]at h;exact s.sh j e h M
 .intro j e h M;by_cases N:i=j
  .subst N;rw[u_ F]at h;cases h;exact⟨a,w,⟨u.un,E⟩,t⟩
  .rw[f_ N]at h;obtain⟨b,Y,U,Z⟩:=s.ow j e h M;have hb:=L j b e (X6 N) h M Y;exact⟨b,Y,⟨U.un,U.ob.mono (fun _ _ z=>z) fun o z=>by rw[bZ hb];exact z⟩,Z⟩
 .intro j e h M;have N:i≠j:=by rintro rfl;rw[c]at M;cases M
  rw[f_ N]at h;obtain⟨v,Y,U⟩:=s.bw j e h M;refine⟨v,Y,?_⟩;rcases U with U|⟨b,rfl,U,Z⟩
  .exact .inl U
  .have hb:b≠a:=by rintro rfl;exact Z t
   exact .inr ⟨b,rfl,⟨U.un,U.ob.mono (fun _ _ z=>z) fun o z=>by rw[bZ hb];exact z⟩,Z⟩
 .have bound:∀(j:Nat) e,(r.set i (some d'))[j]? = some (some e)->∃O,r[j]? = some (some O):=fun j e h=>by
   by_cases N:i=j
   .subst N;exact⟨d,f⟩
   .rw[f_ N]at h;exact⟨e,h⟩
  intro j k b Q P n Y U C A y x;obtain⟨J,Y⟩:=bound j Q Y;obtain⟨I,U⟩:=bound k P U;exact s.dis j k b J I n Y U C A y x
 .have N:i≠j:=by rintro rfl;rw[c]at M;cases M
  have:=s.lk j o p M;exact⟨this.1,fun B h=>this.2 B (by rw[f_ N]at h;exact h)⟩
end
def RV(ro:Bool)(K:W.Frag)(H0:Hp)(G:GH)(H:Hp)(v:V)(d:D):Prop:=match ro with
|false=>RG K G v d
|true=>(∃a,v=.ref a/\H0 a=none/\Own K G H a d)\/(d=.non/\v=.non)
def df(X:Cx)(g:GE)(ro:Bool)(m' mb:List Md)(G:GH)(D:Ends):Out->Prop
|.nx r'=>∀σ' G' H',bX G G'->SI X g m' r' G' σ' H'->D.nx σ' H'
|.rt d=>∀v G' H',Grow X.K g.gh g.h0 G' H'->RV ro X.K g.h0 G' H' v d->D.rt v H'
|.bk r'=>∀σ' G' H',bX G G'->SI X g mb r' G' σ' H'->D.bk σ' H'
|.ct r'=>∀σ' G' H',bX G G'->SI X g mb r' G' σ' H'->D.ct σ' H'
|.exc x r'=>∀pz e s' σ' G' H',bX G G'->SI X g (io m') r' G' σ' H'->Inv X pz σ' H' s'->L7 X σ' G' H' e x s'->X.xe e s'
|.stuck=>False
def tS(X:Cx)(g:GE)(ro:Bool)(m m' mb:List Md)(f:FS):TS:=fun D σ H=>∃r G,SI X g m r G σ H/\df X g ro m' mb G D (f r)
def SS(X:Cx)(g:GE)(ro:Bool)(mb m:List Md)(st:Stmt)(f:FS)(m':List Md):Prop:=m'.length=m.length/\PS X st (tS X g ro m m' mb f)
def il(X:Cx)(g:GE)(ro:Bool)(mb m:List Md)(st:List Stmt)(f:FS)(m':List Md):Prop:=m'.length=m.length/\d6 X st (tS X g ro m m' mb f)
theorem wt{m m':List Md}(h:m'.length=m.length):io m'=io m:=by unfold io;rw[Zm,Zm,h]
theorem df.x{X:Cx}{g:GE}{ro:Bool}{m m' mb:List Md}{r:aL}{G:GH}{D:Ends}{σ:L2.St}{H:Hp}{x:DL.D}(h:df X g ro m' mb G D (.exc x (forget m r)))(B:SI X g m r G σ H)(N:m'.length=m.length):XW X σ G H x:=fun M e L Z Y w I U=>h M e L σ Z Y w.ge (by rw[wt N];exact(B.grow w).forget) I U
variable{ro:Bool}{m' m1 mb:List Md}{pos':Pos}{sts:List Stmt}{s1:FS}
section
variable{tg:Expr}{fc:FE}{st:Stmt}{sts':List Stmt}{s2:FS}
theorem df.gle{G Y:GH}{D:Ends}{o:Out}(h:df X g ro m' mb G D o)(w:bX G Y):df X g ro m' mb Y D o:=by cases o with
|nx U=>exact fun B M L q N=>h B M L (w.trans q) N
|rt d=>exact h
|bk U=>exact fun B M L q N=>h B M L (w.trans q) N
|ct U=>exact fun B M L q N=>h B M L (w.trans q) N
|exc x U=>exact fun a e Z B M L q=>h a e Z B M L (w.trans q)
|stuck=>exact h
def aI(s1 s2:FS):FS:=fun r=>match s1 r with
|.nx r'=>s2 r'
|o=>o
def bR:FS:=fun r=>.nx r
theorem aM:il X g ro mb m [] bR m:=⟨rfl,d6.imp rD fun D B H k=>by obtain⟨r,G,L,q⟩:=k;exact q B G H (bX.refl G) L⟩
theorem aG(Y:SS X g ro mb m st s1 m1)(N:il X g ro mb m1 sts s2 m'):il X g ro mb m (st::sts) (aI s1 s2) m':=by refine⟨N.1.trans Y.1,d6.imp (pT Y.2 N.2) fun D f H ⟨r,G,a,q⟩=>⟨r,G,a,?_⟩⟩;unfold aI at q;cases e:s1 r with
|nx M=>rw[e]at q;exact fun L U Z w B=>⟨M,U,B,df.gle q w⟩
|rt d=>rw[e]at q;exact q
|bk M=>rw[e]at q;exact q
|ct M=>rw[e]at q;exact q
|exc x M=>rw[e]at q;exact fun c e b L U Z w B=>q c e b L U Z w (by rw[wt N.1];exact B)
|stuck=>rw[e]at q;exact q
theorem jM:SS X g ro mb m st (fun _=>.stuck) m:=⟨rfl,PS.imp (fun _ _ _ _ _ _ h=>h.elim) fun D B H ⟨r,G,L,q⟩=>q⟩
theorem jH(i:Nat)(hi:m[i]? = some .ow)(h:SS X g ro mb (m.set i .sh) st s1 m'):SS X g ro mb m st s1 m':=by
 refine⟨h.1.trans (by simp),fun U s N H D I k=>?_⟩;obtain⟨r,G,Y,q⟩:=k;rcases Y.frz i hi with⟨M,L,B⟩|⟨a,z⟩
 .exact h.2 U s N H D I ⟨r,M,B,df.gle q L⟩
 .obtain⟨ob,I2⟩:=Inv.fast I a;obtain⟨M,L,B⟩:=z ob;exact h.2 U s N _ D I2 ⟨r,M,B,df.gle q L⟩
def kA{α:Type}(m:List Md)(r:aL)(x:Res α)(k:α->Out):Out:=match x with
|.ok a=>k a
|.exc e=>.exc e (forget m r)
|.stuck=>.stuck
@[simp] theorem onE_ok{B:Type}(m:List Md)(r:aL)(a:B)(k:B->Out):kA m r (.ok a) k=k a:=rfl
theorem iH{B:Type}{x:Res B}{k:B->Out}{r:aL}{G:GH}{D:Ends}{σ:L2.St}{H:Hp}(L:SI X g m r G σ H)(M:m'.length=m.length)(h:df X g ro m' mb G D (kA m r x k)):fin x (fun a=>df X g ro m' mb G D (k a)) (XW X σ G H):=by cases x with
|ok a=>exact h
|exc e=>exact df.x h L M
|stuck=>exact h
def aR(m:List Md)(i:Nat)(f:FE):FS:=fun r=>kA m r (f r) fun d=>.nx (r.set i (some d))
theorem dU(i:Nat){x:Str}(c:X.N.Nodup)(hi:X.N[i]? = some x)(M:jY X.env.scope x)(b:SO X g m e f)(hs:Xq e (some (.Name x pos')) pos.line X.env=pure false:=by rfl)(Z:X.fn x=true\/X.env.scope.names.lookup x=some .local:=by first|exact .inl rfl|exact .inr rfl|assumption):SS X g ro mb m (.Assign [.Name x pos'] e pos) (aR m i f) (m.set i .ow):=by
 have L:(m.set i .ow).length=m.length:=by simp
 refine⟨L,PS.imp (uX c hi M b hs Z) fun D k H ⟨r,G,B,q⟩=>⟨r,G,B,?_⟩⟩;exact cC (iH B L q) fun d q a j h w Y U=>q _ j h w.ge (B.setN w i Y U)
def o6(m:List Md)(f:FE):FS:=fun r=>kA m r (f r) fun _=>.nx r
theorem jL(M:SE X g m e f)(hs:Xq e none pos.line X.env=pure false:=by rfl):SS X g ro mb m (.Expr e pos) (o6 m f) m:=⟨rfl,PS.imp (rC M hs) fun D L H k=>by obtain⟨r,G,B,q⟩:=k;exact ⟨r,G,B,cC (iH B rfl q) fun d q v U N w _=>q L U N w.ge (B.grow w)⟩⟩
def dG(m:List Md)(f:FE):FS:=fun r=>kA m r (f r) fun d=>.rt d
theorem aZ(M:SE X g m e f):SS X g false mb m (.Return (some e) pos) (dG m f) m:=⟨rfl,PS.imp (Ez M) fun D Y H k=>by obtain⟨r,G,B,q⟩:=k;exact ⟨r,G,B,cC (iH B rfl q) fun d q v U N w L=>q v U N (B.grow w).grown L⟩⟩
theorem MU(i:Nat){x:Str}(U:m[i]? = some .ow)(Z:X.N[i]? = some x)(M:gz X.env.scope x)(Y:(x==("__debug__" : Str))=false:=by decide)(B:(x==("__classdict__" : Str))=false:=by decide):SS X g true mb m (.Return (some (.Name x pos')) pos) (dG m fun r=>ie r i) m:=by refine⟨rfl,PS.imp (Ez (gD Z M Y B)) fun D h H k=>?_⟩;obtain⟨r,G,L,q⟩:=k;obtain⟨d,e,q⟩:=wa (iH L rfl q);obtain⟨a,f,c,b⟩:=L.ow i d e U;exact⟨_,f,q _ G H L.grown (.inl ⟨a,rfl,b,c⟩)⟩
def eV(m:List Md)(p:FQ)(s1 s2:FS):FS:=fun r=>kA m r (p r) fun c=>if c=true then s1 r else s2 r
theorem cD(N:SQ X g m c p)(L:il X g ro mb m sts s1 m')(U:il X g ro mb m sts' s2 m'):SS X g ro mb m (.If c sts sts' pos) (eV m p s1 s2) m':=by refine⟨L.1,PS.imp (yf N L.2 U.2) fun D Y H ⟨r,G,B,q⟩=>⟨r,G,B,cC (iH B L.1 q) fun c q M Z w=>?_⟩⟩;cases c with
|true=>exact⟨r,M,B.grow w,df.gle q w.ge⟩
|false=>exact⟨r,M,B.grow w,df.gle q w.ge⟩
theorem pZ(i:Nat)(h:il X g ro mb m sts s1 m')(hi:m'[i]? = some .ow):il X g ro mb m sts s1 (m'.set i .sh):=by
 refine⟨by simp[h.1],fun Z s n H D I ⟨r,G,o,q⟩=>?_⟩;refine bQ (h.2 Z s n H ⟨fun L M=>D.nx L M\/∃a,∀U,D.nx L (fz M a U),D.rt,D.bk,D.ct⟩ I ⟨r,G,o,?_⟩) fun f j p=>?_
 .cases e:s1 r with
 |nx Y=>
   rw[e]at q;intro L l M w N;rcases N.frz i hi with⟨c,b,B⟩|⟨a,z⟩
   .exact .inl (q L c M (w.trans b) B)
   .refine .inr ⟨a,fun U=>?_⟩;obtain⟨c,b,B⟩:=z U;exact q L c _ (w.trans b) B
 |rt d=>rw[e]at q;exact q
 |bk Y=>rw[e]at q;exact q
 |ct Y=>rw[e]at q;exact q
 |exc x Y=>rw[e]at q;exact fun Z e j L l M w N=>q Z e j L l M w (by rw[wt (m:=m') (by simp)];exact N)
 |stuck=>rw[e]at q;exact q
 .cases f with
 |next=>
   obtain⟨L,M,k,z|⟨a,z⟩⟩:=p
   .exact⟨L,M,k,z⟩
   .obtain⟨U,I2⟩:=Inv.fast k a;exact⟨L,_,I2,z U⟩
 |brk=>exact p
 |cont=>exact p
 |ret u=>exact p
end
abbrev FT:=D->aL->Option aL
abbrev lv:=List D->aL->Option aL
def tG(X:Cx)(g:GE)(m m':List Md)(ft:FT):TG:=fun v σ H Q=>∃r G d,SI X g m r G σ H/\RG X.K G v d/\∃r',ft d r=some r'/\∀σ',SI X g m' r' G σ' H->Q σ' H
def Vx(X:Cx)(g:GE)(m m':List Md)(ft:lv):lq:=fun vs σ H Q=>∃r G ds,SI X g m r G σ H/\cW X.K G vs ds/\∃r',ft ds r=some r'/\∀σ',SI X g m' r' G σ' H->Q σ' H
theorem PG.imp{X:Cx}{e:Expr}{t t':TG}(h:PG X e t)(i:∀v σ H Q,t' v σ H Q->t v σ H Q):PG X e t':=fun B s σ H v u Q I r q=>h B s σ H v u Q I r (i v σ H Q q)
theorem kH.imp{X:Cx}{e:List Expr}{t t':lq}(h:kH X e t)(i:∀v σ H Q,t' v σ H Q->t v σ H Q):kH X e t':=fun B s σ H v u Q I r q=>h B s σ H v u Q I r (i v σ H Q q)
def SG(X:Cx)(g:GE)(m:List Md)(tg:Expr)(ft:FT)(m':List Md):Prop:=m'.length=m.length/\PG X tg (tG X g m m' ft)
structure SGs(X:Cx)(g:GE)(m:List Md)(ts:List Expr)(n:Nat)(ft:lv)(m':List Md):Prop where
 ml:m'.length=m.length
 ln:∀ds r r',ft ds r=some r'->ds.length=n
 pg:kH X ts (Vx X g m m' ft)
def bC(i:Nat):FT:=fun d r=>some (r.set i (some d))
def gy(ft:lv):FT:=fun d r=>match d with
|.tup ds=>ft ds r
|.lst ds=>ft ds r
|_=>none
def gB:lv:=fun ds r=>match ds with
|[]=>some r
|_=>none
def de(ft:FT)(fts:lv):lv:=fun ds r=>match ds with
|[]=>none
|d::ds=>(ft d r).bind fun r'=>fts ds r'
variable{ft:FT}
section
variable{tg:Expr}{ts:List Expr}{fts:lv}{n:Nat}
theorem E8(i:Nat){x:Str}(Y:X.N.Nodup)(hi:X.N[i]? = some x)(M:jY X.env.scope x)(U:X.fn x=true\/X.env.scope.names.lookup x=some .local:=by first|exact .inl rfl|exact .inr rfl|assumption):SG X g m (.Name x pos) (bC i) (m.set i .sh):=⟨by simp,PG.imp (N1 Y hi M U) fun v Z H Q z=>by obtain⟨r,G,d,B,L,a,e,k⟩:=z;cases e;exact k _ (B.set i L)⟩
theorem j4:SGs X g m [] 0 gB m:=by
 refine⟨rfl,fun B r U e=>?_,kH.imp N4 fun v L H Q ⟨r,G,B,M,N,U,e,k⟩=>?_⟩
 .cases B with
 |nil=>rfl
 |cons _ _=>cases e
 .cases N with
 |nil=>cases e;exact⟨rfl,k L M⟩
 |cons _ _=>cases e
theorem fu(a:SG X g m tg ft m1)(Z:SGs X g m1 ts n fts m')(hs:(XA (tg::ts) X.env).map (·.2)=ë tg X.env::(XA ts X.env).map (·.2):=by rfl):SGs X g m (tg::ts) (n+1) (de ft fts) m':=by
 refine⟨Z.ml.trans a.1,fun M r B e=>?_,kH.imp (Qt a.2 Z.pg hs) fun v h H Q ⟨r,G,M,c,Y,B,e,k⟩=>?_⟩
 .cases M with
 |nil=>cases e
 |cons d M=>have L:((ft d r).bind fun B=>fts M B)=some B:=e;cases q:ft d r with
  |none=>rw[q]at L;cases L
  |some N=>rw[q]at L;have:=Z.ln M N B L;simp[this]
 .cases Y with
 |nil=>cases e
 |@cons j d i M Y f=>have L:((ft d r).bind fun B=>fts M B)=some B:=e;cases q:ft d r with
  |none=>rw[q]at L;cases L
  |some N=>rw[q]at L;exact⟨_,_,rfl,r,G,d,c,Y,N,q,fun b U=>⟨N,G,M,U,f,B,L,k⟩⟩
theorem Nd{k:Nat}{t:lq}(l:X.calm=true)(h:kH X ts t)(i:(XA ts X.env).length=n)(B:(XA ts X.env).findIdx? (·.1)=none):PG X (.Tuple ts k pos) (fun v σ H Q=>∃a xs,v=.ref a/\cL X.K H a xs/\xs.length=n/\t xs σ H Q):=by intro U s σ H v u Q I r M;obtain⟨a,xs,p,g,j,M⟩:=M;subst p;cases r;obtain⟨L,N,⟨o,Y,d,c,w,Z⟩,x⟩:=I.list g;rw[PyProof.Rows.assign_Tuple];refine d_ (Z0 ?_);unfold unpack;rw[B,show(XA ts X.env).length=L.toArray.size by simp[i,<-j,N.length]];refine d_ (Ya (W.kun_itemsOf (I.ok.hd l) ⟨o,d,c,Y,Z⟩ fun m f=>?_));have q:Inv X U σ H { s with heap:=m }:=I.kept (t':=s.toks) fun b o e=>f b o (L_ (x_ e)) e;exact h U _ σ H xs _ Q q (by simpa using N) M
theorem PG.or{e:Expr}{t t':TG}(h:PG X e t)(h':PG X e t'):PG X e (fun v σ H Q=>t v σ H Q\/t' v σ H Q):=fun B s σ H v u Q I r q=>q.elim (h B s σ H v u Q I r) (h' B s σ H v u Q I r)
theorem j5{k:Nat}(c:X.calm=true)(h:SGs X g m ts n fts m')(b:(XA ts X.env).length=n:=by rfl)(B:(XA ts X.env).findIdx? (·.1)=none:=by rfl):SG X g m (.Tuple ts k pos) (gy fts) m':=by refine⟨h.ml,PG.imp (PG.or (Nc c h.pg b B) (Nd c h.pg b B)) fun v f H Q z=>?_⟩;obtain⟨r,G,d,N,Z,U,e,k⟩:=z;cases d with
|tup M=>obtain⟨a,Y,rfl,s,L⟩:=Z.tup N.gok;exact .inl ⟨a,Y,rfl,s,(Paired.length L).trans (h.ln M r U e),r,G,M,N,L,U,e,k⟩
|lst M=>obtain⟨a,Y,rfl,s,L⟩:=Z.lst N.gok;exact .inr ⟨a,Y,rfl,s,(Paired.length L).trans (h.ln M r U e),r,G,M,N,L,U,e,k⟩
|_=>cases e
end
structure Yields(K:W.Frag)(J:It)(ds:List D)(G0:GH):Prop where
 go:∀G H (i:Nat),bX G0 G->cA K G H->i<ds.length->J.go i H
 yld:∀G H (i:Nat) x H' d,bX G0 G->cA K G H->J.yld i H x H'->ds[i]? = some d->∃G',Grow K G H G' H'/\RG K G' x d
 stop:∀G H,bX G0 G->cA K G H->J.stop ds.length H
abbrev FI:=aL->Res (List D)
def tI(X:Cx)(g:GE)(m:List Md)(f:FI):TI:=fun σ H R=>∃r G,SI X g m r G σ H/\fin (f r) (fun ds=>∀J G' H',Grow X.K G H G' H'->Yields X.K J ds G'->R J H') (XW X σ G H)
def iU(X:Cx)(g:GE)(m:List Md)(tg iter:Expr)(f:FI):Prop:=PI X tg iter (tI X g m f)
theorem PI.imp{X:Cx}{B e:Expr}{t t':TI}(h:PI X B e t)(i:∀σ H Q,t' σ H Q->t σ H Q):PI X B e t':=fun L s σ H R I q=>h L s σ H R I (i σ H R q)
theorem zz{K:W.Frag}{a:Addr}{ds:List D}{N:GH}(Y:RG K N (.ref a) (.lst ds)):Yields K (xL K a) ds N:=by
 have M:∀G H,bX N G->cA K G H->∃B,cL K H a B/\cW K G B ds:=fun G H w L=>by obtain⟨b,B,e,s,r⟩:=(Y.mono w).lst L;cases e;exact⟨B,s,r⟩
 refine⟨fun G H i w L f=>?_,fun G H i x g d w L y e=>?_,fun G H w L=>?_⟩
 .obtain⟨B,s,r⟩:=M G H w L;have c:=Paired.length r;exact⟨B,B[i],s,k_ (by omega)⟩
 .obtain⟨B,s,r⟩:=M G H w L;obtain⟨rfl,y⟩:=y;obtain⟨v,Z,U⟩:=Paired.get r e;have:=y B s;rw[Z]at this;cases this;exact⟨G,Grow.refl L,U⟩
 .obtain⟨B,s,r⟩:=M G H w L;exact⟨B,s,Y2 (Paired.length r)⟩
theorem y0{K:W.Frag}{a:Addr}{ds:List D}{N:GH}(Y:RG K N (.ref a) (.tup ds)):Yields K (Di K a) ds N:=by
 have M:∀G H,bX N G->cA K G H->∃B,dw K H a B/\cW K G B ds:=fun G H w L=>by obtain⟨b,B,e,s,r⟩:=(Y.mono w).tup L;cases e;exact⟨B,s,r⟩
 refine⟨fun G H i w L f=>?_,fun G H i x g d w L y e=>?_,fun G H w L=>?_⟩
 .obtain⟨B,s,r⟩:=M G H w L;have c:=Paired.length r;exact⟨B,B[i],s,k_ (by omega)⟩
 .obtain⟨B,s,r⟩:=M G H w L;obtain⟨rfl,y⟩:=y;obtain⟨v,Z,U⟩:=Paired.get r e;have:=y B s;rw[Z]at this;cases this;exact⟨G,Grow.refl L,U⟩
 .obtain⟨B,s,r⟩:=M G H w L;exact⟨B,s,Y2 (Paired.length r)⟩
def fH(lo:Int)(n:Nat):List D:=(g_ n).map fun(i:Nat)=>D.int (lo+(i:Int))
theorem NL{K:W.Frag}{lo:Int}{n:Nat}{N:GH}:Yields K (xK lo n) (fH lo n) N:=by
 have L:(fH lo n).length=n:=by simp[fH]
 refine⟨fun G H i w M B=>(by rw[L]at B;exact B),fun G H i x U d w M y e=>?_,fun G H w M=>(by rw[L];exact o_ _)⟩;obtain⟨rfl,rfl⟩:=y;have B:i<n:=by have:=(c_.mp e).1;rw[L]at this;exact this
 unfold fH at e;rw[A_,Xf B]at e;cases e;exact⟨G,Grow.refl M,.scl (.int _)⟩
def cS:D->Option (List D)
|.lst ds=>some ds
|.tup ds=>some ds
|_=>none
variable{iter:Expr}
section
variable{tg:Expr}
def bI(k:D->Option (List D))(f:FE):FI:=fun r=>(f r).bind fun d=>eN (k d)
theorem yW{l:Expr}{Z:TE}(j:PE X l Z):PI X tg l (fun σ H R=>Z σ H fun x L=>(∃a,x=.ref a/\(∃xs,cL X.K L a xs)/\R (xL X.K a) L)\/∃a,x=.ref a/\(∃xs,dw X.K L a xs)/\R (Di X.K a) L):=by
 intro g s σ H R I h;refine bQ (j g s σ H _ I h) fun v M k=>?_;obtain⟨x,L,B,c,f⟩:=k;rcases f with⟨a,e,⟨xs,U⟩,q⟩|⟨a,e,⟨xs,U⟩,q⟩
 .subst e;cases c;obtain⟨N,d,p,i⟩:=B.list U;refine Č p.isList ?_;refine⟨M.heap.objs.size,[M.heap.objs.size],_,_,L,rfl,B.kept fun b o e=>b_ _ e,Ri a _,⟨_,q_ _ rfl,rfl,rfl⟩,fun b Y=>?_,q⟩;have e:=by simpa using Y
  subst e;exact B.fpOk (o_ _) (B.hok.fresh (o_ _))
 .subst e;cases c;obtain⟨N,d,p,i⟩:=B.tuple U;refine XC (p) ?_;refine⟨M.heap.objs.size,[M.heap.objs.size],_,_,L,rfl,B.kept fun b o e=>b_ _ e,RX a _,⟨_,q_ _ rfl,rfl,rfl⟩,fun b Y=>?_,q⟩;have e:=by simpa using Y
  subst e;exact B.fpOk (o_ _) (B.hok.fresh (o_ _))
theorem pj(h:SE X g m e f):iU X g m tg e (bI cS f):=by
 refine PI.imp (yW h) fun b H R k=>?_;obtain⟨r,G,Y,q⟩:=k;refine ⟨r,G,Y,cC (cB q) fun d q v U N w B=>?_⟩
 obtain⟨c,e,q⟩:=dz q;cases d with
|lst M=>obtain⟨a,L,rfl,s,Z⟩:=B.lst w.ok;exact .inl ⟨a,rfl,⟨L,s⟩,q _ U N w (zz B)⟩
|tup M=>obtain⟨a,L,rfl,s,Z⟩:=B.tup w.ok;exact .inr ⟨a,rfl,⟨L,s⟩,q _ U N w (y0 B)⟩
|_=>cases e
structure YieldsC(K:W.Frag)(J:It)(ds:List D)(G0:GH)(H0:Hp):Prop where
 go:∀G H (i:Nat),Grow K G0 H0 G H->i<ds.length->J.go i H
 yld:∀G H (i:Nat) x H' d,Grow K G0 H0 G H->J.yld i H x H'->ds[i]? = some d->∃G',Grow K G H G' H'/\RG K G' x d
 stop:∀G H,Grow K G0 H0 G H->J.stop ds.length H
theorem Yields.toC{K:W.Frag}{J:It}{ds:List D}{B:GH}{M:Hp}(y:Yields K J ds B):YieldsC K J ds B M:=⟨fun G H i w L=>y.go G H i w.ge w.ok L,fun G H i x N d w q e=>y.yld G H i x N d w.ge w.ok q e,fun G H w=>y.stop G H w.ge w.ok⟩
def Vv(X:Cx)(g:GE)(m:List Md)(f:FI):TI:=fun σ H R=>∃r G,SI X g m r G σ H/\fin (f r) (fun ds=>∀J G' H',Grow X.K G H G' H'->YieldsC X.K J ds G' H'->R J H') (XW X σ G H)
def gQ(X:Cx)(g:GE)(m:List Md)(tg iter:Expr)(f:FI):Prop:=PI X tg iter (Vv X g m f)
theorem iU.toC{fi:FI}(h:iU X g m tg iter fi):gQ X g m tg iter fi:=PI.imp h fun N H R z=>by obtain⟨r,G,B,q⟩:=z;exact ⟨r,G,B,cC q fun U k J M L w y=>k J M L w y.toC⟩
theorem NK{K:W.Frag}{a:Addr}{ds:List D}{N:GH}{M:Hp}(o:Own K N M a (.lst ds)):YieldsC K (xL K a) ds N M:=by
 have L:∀G H,Grow K N M G H->∃B,cL K H a B/\cW K G B ds:=fun G H w=>by cases(o.mono w).ob with
 |lst r s=>exact⟨_,cL.of r,s⟩
 refine⟨fun G H i w b=>?_,fun G H i x c d w y e=>?_,fun G H w=>?_⟩
 .obtain⟨B,s,r⟩:=L G H w;have Z:=Paired.length r;exact⟨B,B[i],s,by simp_all⟩
 .obtain⟨B,s,r⟩:=L G H w;obtain⟨rfl,y⟩:=y;obtain⟨v,Y,U⟩:=Paired.get r e;have:=y B s;rw[Y]at this;cases this;exact⟨G,Grow.refl w.ok,U⟩
 .obtain⟨B,s,r⟩:=L G H w;exact⟨B,s,Y2 (Paired.length r)⟩
theorem dq(h:SB X g m e f):gQ X g m tg e (bI cS f):=by
 refine PI.imp (yW h) fun Y H R k=>?_;obtain⟨r,G,U,q⟩:=k;refine ⟨r,G,U,cC (cB q) fun d q v N M w B=>?_⟩
 obtain⟨Z,e,q⟩:=dz q;cases d with
|lst L=>
  rcases B with B|⟨a,rfl,o⟩
  .obtain⟨a,xs,rfl,s,rs⟩:=B.lst w.ok;exact .inl ⟨a,rfl,⟨xs,s⟩,q _ N M w (zz B).toC⟩
  .cases o.ob with
  |lst r s=>exact .inl ⟨a,rfl,⟨_,cL.of r⟩,q _ N M w (NK o)⟩
|tup L=>
  rcases B with B|⟨a,rfl,o⟩
  .obtain⟨a,xs,rfl,s,rs⟩:=B.tup w.ok;exact .inr ⟨a,rfl,⟨xs,s⟩,q _ N M w (y0 B).toC⟩
  .cases o.ob
|_=>cases e
def iN:List D->Option (List D)
|[.int j]=>if-(2^62)<=j/\j<2^62 then some (fH 0 j.toNat)else none
|_=>none
def jz(k:List D->Option (List D))(fl:aL->Res (List D)):FI:=fun r=>(fl r).bind fun ds=>eN (k ds)
theorem lj{N:Pos}(Y:Gl X "range")(U:X.mg "range" = none)(Z:iF X g m [a] fl)(hs:i_ [a] X.env=[(false,eval a X.env)]:=by rfl):iU X g m tg (.Call (.Name "range" N) [a] [] pos) (jz iN fl):=by
 refine PI.imp (Q8 Y U Z hs) fun d H R k=>?_;obtain⟨r,G,B,q⟩:=k;refine ⟨r,G,B,cC (cB q) fun i q h c b w L=>?_⟩
 obtain⟨f,e,q⟩:=dz q;unfold iN at e;split at e
 .split at e
  .rename_i j hj;cases e;cases L with
  |cons M t=>cases t;exact⟨j,by rw[M.int w.ok],hj.1,hj.2,q _ c b w NL⟩
  .cases e
 .cases e
def bA(ft:FT)(body:FS):List D->FS
|[],r=>.nx r
|d::ds,r=>match ft d r with
 |none=>.stuck
 |some r1=>match body r1 with
  |.nx r'=>bA ft body ds r'
  |.ct r'=>bA ft body ds r'
  |.bk r'=>.nx r'
  |o=>o
def j6(m:List Md)(fi:FI)(ft:FT)(body:FS):FS:=fun r=>kA m r (fi r) fun ds=>bA ft body ds r
theorem iW(hp:Y_ (G_ X.prog X.w) X.A X.env X.xe)(hc:X.calm=true){ft:FT}{fi:FI}(hi:iU X g m tg iter fi)(hg:SG X g m tg ft m)(hb:il X g ro m m sts s1 m)(hs:∀x,W9 iter X.env x=pure x:=by intro _;rfl):SS X g ro mb m (.For tg iter sts [] pos) (j6 m fi ft s1) m:=by
 refine⟨rfl,PS.imp (qR hp hc hi hg.2 hb.2 hs) fun D O H ⟨r,G,I,q⟩=>⟨r,G,I,cC (iH I rfl q) fun h q J z H0 P Y=>?_⟩⟩;refine⟨fun i n O H=>∃r G,SI X g m r G O H/\bX z G/\i<=h.length/\n=h.length-i/\df X g ro m mb G D (bA ft s1 (h.drop i) r),⟨h.length,r,z,I.grow P,bX.refl z,Xe _,rfl,df.gle q P.ge⟩,?_⟩
 rintro i n E t ⟨Q,v,a,b,hi,rfl,N⟩
 by_cases f:i<h.length
 .have hd:=Xa f;rw[hd]at N;unfold bA at N;refine .inr ⟨Y.go v t i b a.gok f,fun p u=>∃r G,SI X g m r G p u/\bX z G/\df X g ro m mb G D _,fun p u w=>by obtain⟨j,C,F,c,q'⟩:=w;exact ⟨_,by omega,j,C,F,c,f,rfl,q'⟩,fun x u y=>?_⟩;obtain⟨C,l,rv⟩:=Y.yld v t i x u h[i] b a.gok y (k_ f);have c:=b.trans l.ge;cases M:ft h[i] Q with
 |none=>simp only[M]at N;exact N.elim
 |some K=>simp only[M]at N;refine⟨Q,C,h[i],a.grow l,rv,K,M,fun R U=>⟨K,C,U,?_⟩⟩;cases o:s1 K with
  |nx j=>simp only[o]at N;exact fun Z k s B L=>⟨j,k,L,c.trans B,df.gle N (bX.trans l.ge B)⟩
  |ct j=>simp only[o]at N;exact fun Z k s B L=>⟨j,k,L,c.trans B,df.gle N (bX.trans l.ge B)⟩
  |bk j=>simp only[o]at N;exact fun Z k s B L=>N Z k s (bX.trans l.ge B) L
  |rt d=>simp only[o]at N;exact N
  |exc x j=>simp only[o]at N;exact fun pz e T Z k s B=>N pz e T Z k s (bX.trans l.ge B)
  |stuck=>simp only[o]at N;exact N
 .have e:i=h.length:=by omega
  subst e;rw[Yf]at N;exact .inl ⟨Y.stop v t b a.gok,N E v t (bX.refl _) a⟩
def fV(m:List Md):List Md:=m.map fun x=>if x=Md.sh then Md.sh else Md.bw
def yv(m:List Md)(r:aL)(st:L2.St)(G:GH)(H:Hp):GE:=⟨G,H,fun i=>if m[i]? = some Md.ow\/m[i]? = some Md.bw then some ((st[i]?).join,(r[i]?).join)else none⟩
theorem rR{m:List Md}{i:Nat}{x:Md}(h:m[i]? = some x):(fV m)[i]? = some (if x=Md.sh then Md.sh else Md.bw):=by unfold fV;rw[A_,h];rfl
theorem Pb{m:List Md}{i:Nat}(h:(fV m)[i]? = some Md.sh):m[i]? = some Md.sh:=by cases q:m[i]? with
|none=>unfold fV at h;rw[A_,q]at h;cases h
|some x=>rw[rR q]at h;cases x <;> first|rfl|(simp at h)
theorem HW{m:List Md}{i:Nat}(h:(fV m)[i]? = some Md.ow):False:=by cases q:m[i]? with
|none=>unfold fV at h;rw[A_,q]at h;cases h
|some x=>rw[rR q]at h;cases x <;> simp at h
theorem lockM_bw{m:List Md}{i:Nat}(h:(fV m)[i]? = some Md.bw):m[i]? = some Md.ow\/m[i]? = some Md.bw:=by cases q:m[i]? with
|none=>unfold fV at h;rw[A_,q]at h;cases h
|some x=>rw[rR q]at h;cases x with
 |sh=>simp at h
 |ow=>exact .inl rfl
 |bw=>exact .inr rfl
theorem SI.lock{r:aL}{G:GH}{st:L2.St}{H:Hp}(s:SI X g m r G st H):SI X (yv m r st G H) (fV m) r G st H where
 gok:=s.gok
 old:=fun _ _ e=>e
 ge:=fun _ _ e=>e
 gf:=fun _ _=>rfl
 lm:=by unfold fV;rw[h_];exact s.lm
 lr:=s.lr
 sh:=fun i d h B=>s.sh i d h (Pb B)
 ow:=fun i d h B=>(HW B).elim
 bw:=fun i d h B=>by
  rcases lockM_bw B with z|z
  .obtain⟨a,h1,h2,_⟩:=s.ow i d h z;exact⟨_,h1,.inr ⟨a,rfl,h2,h2.ob.isS⟩⟩
  .obtain⟨v,h1,h2⟩:=s.bw i d h z;refine⟨v,h1,?_⟩;rcases h2 with h2|⟨a,e,h2,_⟩
   .exact .inl h2
   .exact .inr ⟨a,e,h2,h2.ob.isS⟩
 dis:=fun i j a d e _ _ _ B=>(HW B).elim
 lk:=fun i o h B=>by
  have L:(if m[i]? = some Md.ow\/m[i]? = some Md.bw then some _ else none)=some o:=h;rw[Q_d (lockM_bw B)]at L;cases L;have N:=by have:=(c_.mp B).1;unfold fV at this;rw[h_,s.lm]at this;exact this
  refine⟨?_,fun d M=>by rw[M];rfl⟩;simp_all
theorem SI.unlock{r r':aL}{G u:GH}{st U:L2.St}{H t:Hp}(s:SI X g m r G st H)(Z:SI X (yv m r st G H) (fV m) r' u U t):SI X g m r' u U t:=by
 have w:Grow X.K G H u t:=Z.grown;have B:∀(i:Nat),(m[i]? = some Md.ow\/m[i]? = some Md.bw)->U[i]? = some (st[i]?).join/\∀d,r'[i]? = some (some d)->r[i]? = some (some d):=fun i f=>by
  have M:(fV m)[i]? = some Md.bw:=by rcases f with z|z <;> rw[rR z] <;> simp
  obtain⟨N,Y⟩:=Z.lk i ((st[i]?).join,(r[i]?).join) (Q_d f) M;refine⟨N,fun d p=>?_⟩;have:=Y d p;cases q:r[i]? with
 |none=>rw[q]at this;cases this
 |some o=>rw[q]at this;rw[show o=some d from this]
 have L:∀(i:Nat) v,(m[i]? = some Md.ow\/m[i]? = some Md.bw)->st[i]? = some (some v)->U[i]? = some (some v):=fun i v f h=>by rw[(B i f).1,h];rfl
 refine⟨Z.gok,fun a o e=>Z.old a o (s.old a o e),fun a d e=>Z.ge a d (s.ge a d e),fun a h=>?_,?_,Z.lr,fun i d h M=>?_,fun i d h M=>?_,fun i d h M=>?_,fun i j a d e n N Y l k I F=>?_,fun i o f M=>?_⟩
 .have N:H a≠none:=by cases e:g.h0 a with
  |none=>exact Q_f e h
  |some o=>rw[s.old _ _ e];simp
  rw[w.gf a N,s.gf a h]
 .have:=Z.lm;unfold fV at this;rw[h_]at this;exact this
 .exact Z.sh i d h (by rw[rR M];simp)
 .obtain⟨a,N,Y,h3⟩:=s.ow i d ((B i (.inl M)).2 d h) M;exact⟨a,L i _ (.inl M) N,Y.mono w,h3⟩
 .obtain⟨v,N,Y⟩:=s.bw i d ((B i (.inr M)).2 d h) M;exact⟨v,L i _ (.inr M) N,Y.grow w⟩
 .have e1:=(B i (.inl l)).2 d N;have E:=(B j (.inl k)).2 e Y;obtain⟨b,y,_,_⟩:=s.ow i d e1 l;obtain⟨c,x,_,_⟩:=s.ow j e E k;have C:=L i _ (.inl l) y;have A:=L j _ (.inl k) x;rw[I]at C;rw[F]at A;cases C;cases A;exact s.dis i j a d e n e1 E l k y x
 .obtain⟨N,Y⟩:=s.lk i o f M;refine⟨?_,fun d p=>Y d ((B i (.inr M)).2 d p)⟩;rw[(B i (.inr M)).1,N];rfl
theorem SI.unlockX{r r':aL}{G Y:GH}{st L:L2.St}{H U:Hp}(s:SI X g m r G st H)(B:SI X (yv m r st G H) (io (fV m)) r' Y L U):SI X g (io m) r' Y L U:=by
 have w:Grow X.K G H Y U:=B.grown;have f:io (fV m)=io m:=wt (by unfold fV;rw[h_]);rw[f]at B;have N:∀{i:Nat}{x:Md},(io m)[i]? = some x->x=Md.sh:=fun{i x} h=>by unfold io at h;simp_all
 refine⟨B.gok,fun a o e=>B.old a o (s.old a o e),fun a d e=>B.ge a d (s.ge a d e),fun a h=>?_,B.lm,B.lr,B.sh,fun i d h M=>(nomatch (N M)),fun i d h M=>(nomatch (N M)),fun i j a d e c Z n b k=>(nomatch (N b)),fun i o l M=>(nomatch (N M))⟩;have Z:H a≠none:=by cases e:g.h0 a with
 |none=>exact Q_f e h
 |some o=>rw[s.old _ _ e];simp
 rw[w.gf a Z,s.gf a h]
theorem za(hp:Y_ (G_ X.prog X.w) X.A X.env X.xe)(hc:X.calm=true){ft:FT}{fi:FI}(hi:gQ X g m tg iter fi)(hg:∀g',SG X g' (fV m) tg ft (fV m))(hb:∀g',il X g' ro (fV m) (fV m) sts s1 (fV m))(hs:∀x,W9 iter X.env x=pure x:=by intro _;rfl):SS X g ro mb m (.For tg iter sts [] pos) (j6 m fi ft s1) m:=by
 have Cl:PG X tg (fun v j H Q=>∃g',tG X g' _ _ ft v j H Q):=fun P s j H v u Q I r w=>(by obtain⟨g',q⟩:=w;exact (hg g').2 P s j H v u Q I r q);have BT:d6 X sts (fun D j H=>∃g',tS X g' ro _ _ _ s1 D j H):=fun P s j H D I V=>(by obtain⟨g',q⟩:=V;exact (hb g').2 P s j H D I q);refine⟨rfl,PS.imp (qR hp hc hi Cl BT hs) fun D j H ⟨r,G,si,q⟩=>⟨r,G,si,cC (iH si rfl q) fun h q J G0 H0 w0 Y=>?_⟩⟩;have M:=si.grow w0;refine⟨fun i n k E=>∃O p,SI X _ _ O p k E/\i<=h.length/\n=h.length-i/\df X g ro m mb p D (bA ft s1 (h.drop i) O),⟨h.length,r,G0,M.lock,Xe _,rfl,df.gle q w0.ge⟩,?_⟩
 rintro i n k E ⟨O,p,l,hi,rfl,N⟩
 have wg:=l.grown;by_cases f:i<h.length
 .have hd:=Xa f;rw[hd]at N;unfold bA at N;refine .inr ⟨Y.go p E i wg f,fun F T=>∃c t,SI X _ _ c t F T/\df X g ro m mb t D _,fun F T W=>by obtain⟨c,t,si',q'⟩:=W;exact ⟨_,by omega,c,t,si',f,rfl,q'⟩,fun x T y=>?_⟩;obtain⟨t,K,rv⟩:=Y.yld p E i x T h[i] wg y (k_ f);cases U:ft h[i] O with
 |none=>simp only[U]at N;exact N.elim
 |some r2=>simp only[U]at N;refine⟨_,O,t,h[i],l.grow K,rv,r2,U,fun σ2 Id=>⟨_,r2,t,Id,?_⟩⟩;cases C:s1 r2 with
  |nx c=>simp only[C]at N;exact fun b o R B L=>⟨c,o,L,df.gle N (bX.trans K.ge B)⟩
  |ct c=>simp only[C]at N;exact fun b o R B L=>⟨c,o,L,df.gle N (bX.trans K.ge B)⟩
  |bk c=>simp only[C]at N;exact fun b o R B L=>N b o R (bX.trans K.ge B) (M.unlock L)
  |rt d=>simp only[C]at N;intro v G2 H2 wr Z;refine N v G2 H2 (M.grown.trans wr) ?_;cases ro with
   |false=>exact Z
   |true=>
     rcases Z with⟨a,e1,e2,e3⟩|z
     .exact .inl ⟨a,e1,M.grown.back e2,e3⟩
     .exact .inr z
  |exc x c=>simp only[C]at N;exact fun P e s' b o R B L=>N P e s' b o R (bX.trans K.ge B) (M.unlockX L)
  |stuck=>simp only[C]at N;exact N
 .have e:i=h.length:=by omega
  subst e;rw[Yf]at N;exact .inl ⟨Y.stop p E wg,N k p E (bX.refl _) (M.unlock l)⟩
def gj(m:List Md)(p:FQ)(body:FS):Nat->FS
|0,_=>.stuck
|n+1,r=>kA m r (p r) fun c=>if c=true then(match body r with
  |.nx r'=>gj m p body n r'
  |.ct r'=>gj m p body n r'
  |.bk r'=>.nx r'
  |o=>o)else .nx r
theorem pN(n:Nat)(y:Y_ (G_ X.prog X.w) X.A X.env X.xe)(z:SQ X g m c p)(C:il X g ro m m sts s1 m):SS X g ro mb m (.While c sts [] pos) (gj m p s1 n) m:=by
 refine⟨rfl,PS.imp (Qv y z C.2) fun D l H w=>?_⟩;obtain⟨r,G,I,q⟩:=w;refine⟨fun n l H=>∃r G,SI X g m r G l H/\df X g ro m mb G D (gj m p s1 n r),by grind,?_⟩
 rintro n j J ⟨k,F,U,o⟩
 cases n with
|zero=>exact o.elim
|succ n=>refine⟨k,F,U,cC (iH U rfl o) fun c M t E Y=>?_⟩;cases c with
 |false=>exact M j t E Y.ge (U.grow Y)
 |true=>refine⟨fun b s=>∃r G,SI X g m r G b s/\df X g ro m mb G D _,fun b s h=>⟨n,XB _,h⟩,k,t,U.grow Y,?_⟩;cases a:s1 k with
  |nx f=>simp only[a]at M;exact fun N Z i B L=>⟨f,Z,L,df.gle M (bX.trans Y.ge B)⟩
  |ct f=>simp only[a]at M;exact fun N Z i B L=>⟨f,Z,L,df.gle M (bX.trans Y.ge B)⟩
  |bk f=>simp only[a]at M;exact fun N Z i B L=>M N Z i (bX.trans Y.ge B) L
  |rt d=>simp only[a]at M;exact M
  |exc x f=>simp only[a]at M;exact fun v e u N Z i B=>M v e u N Z i (bX.trans Y.ge B)
  |stuck=>simp only[a]at M;exact M
end
def qq:Res D->Res D
|.ok d=>.ok d
|_=>.stuck
inductive ArgsOk(K:W.Frag)(G:GH)(H:Hp):List Md->List V->List D->Prop where
 |nil:ArgsOk K G H [] [] []
 |sh {v:V} {d:D} {ms:List Md} {vs:List V} {ds:List D}:RG K G v d->ArgsOk K G H ms vs ds->ArgsOk K G H (.sh::ms) (v::vs) (d::ds)
 |bw {v:V} {d:D} {ms:List Md} {vs:List V} {ds:List D}:RB K G H v d->ArgsOk K G H ms vs ds->ArgsOk K G H (.bw::ms) (v::vs) (d::ds)
theorem ArgsOk.len{ms:List Md}{vs:List V}{ds:List D}(h:ArgsOk K G H ms vs ds):vs.length=ms.length/\ds.length=ms.length:=by induction h with
|nil=>exact⟨rfl,rfl⟩
|sh h t B=>exact⟨Q_g (· + 1) B.1,Q_g (· + 1) B.2⟩
|bw h t B=>exact⟨Q_g (· + 1) B.1,Q_g (· + 1) B.2⟩
theorem ArgsOk.app{B:List V}{dds:List D}(hs:Paired Scl B dds):∀{ms:List Md}{vs:List V}{ds:List D},ArgsOk K G H ms vs ds->ArgsOk K G H (ms++r_ dds.length .sh) (vs++B) (ds++dds)
|_,_,_,.nil=>by induction hs with
 |nil=>exact .nil
 |cons h t L=>exact .sh (.scl h) L
|_,_,_,.sh h t=>.sh h (t.app hs)
|_,_,_,.bw h t=>.bw h (t.app hs)
theorem ArgsOk.get:∀{ms:List Md}{vs:List V}{ds:List D}{i:Nat}{d:D},ArgsOk K G H ms vs ds->ds[i]? = some d->∃v,vs[i]? = some v/\((ms[i]? = some .sh/\RG K G v d)\/(ms[i]? = some .bw/\RB K G H v d))
|_,_,_,_,_,.nil,e=>by simp at e
|_,_,_,0,_,.sh h t,e=>by simp at e;subst e;exact⟨_,rfl,.inl ⟨rfl,h⟩⟩
|_,_,_,0,_,.bw h t,e=>by simp at e;subst e;exact⟨_,rfl,.inr ⟨rfl,h⟩⟩
|_,_,_,i+1,d,.sh h t,e=>by obtain⟨v,L,B⟩:=t.get (i:=i) (d:=d) (by simpa using e);exact⟨v,by simpa using L,by simpa using B⟩
|_,_,_,i+1,d,.bw h t,e=>by obtain⟨v,L,B⟩:=t.get (i:=i) (d:=d) (by simpa using e);exact⟨v,by simpa using L,by simpa using B⟩
def nE(K:W.Frag)(ro:Bool)(ms:List Md)(F:List D->Res D):Sp:=fun vs H Q _=>∃G ds,cA K G H/\ArgsOk K G H ms vs ds/\fin (F ds) (fun d=>∀v G' H',Grow K G H G' H'->RV ro K H G' H' v d->Q v H') fun _=>False
def dI(ro:Bool):Out->Res D
|.nx _=>if ro=true then .stuck else .ok .non
|.rt d=>.ok d
|.exc x _=>.exc x
|_=>.stuck
def cQ(n:Nat)(ds:List D):aL:=ds.map some++r_ (n-ds.length) none
def iz(n:Nat)(ms:List Md):List Md:=ms++r_ (n-ms.length) .sh
variable{w:P_}
section
variable{P:E_}{mg:Str->Option a_}{base:Heap}
theorem wf{X:Cx}{N:List Str}{ms:List Md}{vs:List V}{ds:List D}{G:GH}{H:Hp}(f:cA X.K G H)(rs:ArgsOk X.K G H ms vs ds)(n:ms.length<=N.length):SI X ⟨G,H,fun _=>none⟩ (iz N.length ms) (cQ N.length ds) G (L2.bO N vs) H:=by
 obtain⟨m,l⟩:=rs.len;have Y:(L2.bO N vs).length=N.length:=by unfold L2.bO;rw[M_,h_,XV];omega
 have k:(cQ N.length ds).length=N.length:=by unfold cQ;rw[M_,h_,XV];omega
 have g:(iz N.length ms).length=N.length:=by unfold iz;rw[M_,XV];omega
 have M:∀(i:Nat) d,(cQ N.length ds)[i]? = some (some d)->i<ms.length/\(iz N.length ms)[i]? = ms[i]?/\∃v,(L2.bO N vs)[i]? = some (some v)/\((ms[i]? = some .sh/\RG X.K G v d)\/(ms[i]? = some .bw/\RB X.K G H v d)):=fun i d h=>by
  unfold cQ at h;by_cases U:i<ds.length
  .rw[J_ (by simpa using U),A_]at h;have c:ds[i]? = some d:=by cases z:ds[i]? with
   |none=>rw[z]at h;cases h
   |some p=>rw[z]at h;cases h;rfl
   obtain⟨v,b,Z⟩:=rs.get c;refine⟨by omega,?_,v,?_,Z⟩
   .unfold iz;rw[J_ (by omega)]
   .unfold L2.bO;rw[J_ (by rw[h_];omega),A_,b];rfl
  .rw[W0 (by simpa using U),Xr]at h;split at h <;> cases h
 refine⟨f,fun _ _ e=>e,fun _ _ e=>e,fun _ _=>rfl,by rw[g,Y],by rw[Y,k],fun i d h L=>?_,fun i d h L=>?_,fun i d h L=>?_,fun i j a d e _ h _ L=>?_,fun i o h=>nomatch h⟩
 .obtain⟨_,hq,v,h1,h2⟩:=M i d h;rw[hq]at L;rcases h2 with⟨_,h2⟩|⟨B,h2⟩
  .exact⟨v,h1,h2⟩
  .rw[L]at B;cases B
 .obtain⟨_,hq,v,h1,h2⟩:=M i d h;rw[hq]at L;rcases h2 with⟨B,h2⟩|⟨B,h2⟩ <;> rw[L]at B <;> cases B
 .obtain⟨_,hq,v,h1,h2⟩:=M i d h;rw[hq]at L;rcases h2 with⟨B,h2⟩|⟨B,h2⟩
  .rw[L]at B;cases B
  .refine⟨v,h1,?_⟩;rcases h2 with h2|⟨a,rfl,h2⟩
   .exact .inl h2
   .exact .inr ⟨a,rfl,h2,h2.ob.isS⟩
 .obtain⟨_,hq,v,h1,h2⟩:=M i d h;rw[hq]at L;rcases h2 with⟨B,h2⟩|⟨B,h2⟩ <;> rw[L]at B <;> cases B
theorem Hc{X:Cx}{ro:Bool}{fs:FS}{m':List Md}{G:GH}{H:Hp}{r:aL}{Q:VK}(q:fin (dI ro (fs r)) (fun d=>∀v L B,Grow X.K G H L B->RV ro X.K H L B v d->Q v B) fun _=>False):df X ⟨G,H,fun _=>none⟩ ro m' [] G { nx:=fun _ B=>Q .non B,rt:=Q } (fs r):=by cases e:fs r with
|nx M=>rw[e]at q;cases ro with
 |false=>exact fun N L B _ Y=>q .non L B Y.grown (.scl .non)
 |true=>exact q.elim
|rt d=>rw[e]at q;exact fun v L B U Z=>q v L B U Z
|bk M=>rw[e]at q;exact q.elim
|ct M=>rw[e]at q;exact q.elim
|exc x M=>rw[e]at q;exact q.elim
|stuck=>rw[e]at q;exact q
theorem E5{x M:Str}{st:Stmt}{f:Addr}{c:Xv}{N Y:List Str}{k:Nat}{ro:Bool}{ms:List Md}{fs:FS}{m':List Md}(F:Fun K x M st f c)(S:FnScope N Y (aA st))(a:ms.length=Y.length)(B:∀(U:a_)(A:V_)(L:List Env)(s:e_)(H:Hp)(g:GE)(E:XK),Room k (A.deeper (YK M (aA st) s.heap.objs.size f U)) ->il (d4 f8 P w K mg base N M (aA st) f U A L s H E).nox g ro [] (iz N.length ms) (aS st) fs m'):FnOk P w K mg base f8 (k+1) f c Y (nE K ro ms fun ds=>dI ro (fs (cQ N.length ds))):=by
 refine F.ok S (fun d H Q E k=>by obtain⟨G,ds,b,Z,q⟩:=k;exact Z.len.1.trans a) fun U A L s H d Q E e h=>?_;obtain⟨G,ds,b,Z,q⟩:=h;have i:Y.length<=N.length:=by have:=Q_g YZ S.pre;rw[WY]at this;omega
 exact⟨_,(B U A L s H ⟨G,H,fun _=>none⟩ E e).2,cQ N.length ds,G,wf b Z (by omega),Hc q⟩
end
section
variable{k:Nat}{fa:Addr}{fd:Xv}{ps:List Str}{F:List D->Res D}{dvs:List V}{ds:List a_}{dds:List D}{x:Str}{p:Pos}{ms:List Md}
def CC(X:Cx)(g:GE)(m:List Md)(ms:List Md)(f:aL->Res (List D)):TA:=fun σ H Q=>∃r G,SI X g m r G σ H/\fin (f r) (fun ds=>∀vs G' H',Grow X.K G H G' H'->ArgsOk X.K G' H' ms vs ds->Q vs H') (XW X σ G H)
def jX(X:Cx)(g:GE)(m:List Md)(es:List Expr)(ms:List Md)(f:aL->Res (List D)):Prop:=PA X es (CC X g m ms f)
theorem aO:jX X g m [] [] aE:=PA.imp ka fun L H Q z=>by obtain⟨r,G,B,k⟩:=z;exact k [] G H (Grow.refl B.gok) .nil
theorem aW(a:SE X g m e f)(Z:jX X g m es ms fl)(hs:i_ (e::es) X.env=(false,eval e X.env)::i_ es X.env:=by rfl):jX X g m (e::es) (.sh::ms) (aH f fl):=by
 refine PA.imp (i6 a Z hs) fun i H Q y=>?_;obtain⟨r,G,M,k⟩:=y;refine ⟨r,G,M,cC (cB k) fun d Y v h n B U=>⟨r,h,M.grow B,?_⟩⟩
 exact gE (cB Y) B fun l z j c b L N=>z _ c b (B.trans L) (.sh (U.mono L.ge) N)
theorem aD(a:SB X g m e f)(Z:jX X g m es ms fl)(hs:i_ (e::es) X.env=(false,eval e X.env)::i_ es X.env:=by rfl):jX X g m (e::es) (.bw::ms) (aH f fl):=by
 refine PA.imp (i6 a Z hs) fun i H Q y=>?_;obtain⟨r,G,M,k⟩:=y;refine ⟨r,G,M,cC (cB k) fun d Y v h n B U=>⟨r,h,M.grow B,?_⟩⟩
 exact gE (cB Y) B fun l z j c b L N=>z _ c b (B.trans L) (.bw (U.mono L) N)
def bM(fl:aL->Res (List D))(dds:List D)(F:List D->Res D):FE:=fun r=>(fl r).bind fun ds=>qq (F (ds++dds))
theorem Av{ro:Bool}{vs:List V}{M:List D}{G:GH}{H:Hp}{Q:VK}(U:cA X.K G H)(rs:ArgsOk X.K G H ms vs M)(B:Paired Scl dvs dds)(q:fin (qq (F (M++dds))) (fun d=>∀v N L,Grow X.K G H N L->RV ro X.K H N L v d->Q v L) fun _=>False):nE X.K ro (ms++r_ dds.length .sh) F (vs++dvs) H Q E0:=by refine⟨G,_,U,rs.app B,?_⟩;cases e:F _ with
|ok d=>rw[e]at q;exact q
|exc x=>rw[e]at q;exact q.elim
|stuck=>rw[e]at q;exact q.elim
theorem wl{B:Type}{r:Res B}{q:B->Prop}{x:D->Prop}(h:fin r q x)(L:∀e,r≠.exc e):fin r q fun _=>False:=by cases r with
|ok a=>exact h
|exc e=>simp_all
|stuck=>exact h
theorem yS(r:Res D)(e:D):qq r≠.exc e:=by cases r <;> simp[qq]
def mn(f:FE):FE:=fun r=>(f r).bind fun d=>match d with
|.non=>.stuck
|d=>.ok d
end
theorem Pw{L:Env}:∀(l:List (Str×YO))(M:List (Str×Addr)),(∀x∈l,x.2=.free->∃c,L.cells.lookup x.1=some c)->(∀x c,M.lookup x=some c->L.cells.lookup x=some c) ->∃U,(forIn l M (fun(x:Str×YO)(M:List (Str×Addr))=>if (x.2==NameKind.free)=true then(do let a <-cellOf L x.1;pure (ForInStep.yield ((x.1,a)::M)))else pure (ForInStep.yield M)):Sem (List (Str×Addr)))=pure U /\(∀x c,U.lookup x=some c->L.cells.lookup x=some c)/\(∀x,(x,NameKind.free)∈l->∃c,U.lookup x=some c)/\(∀x c,M.lookup x=some c->∃Y,U.lookup x=some Y):=by
 intro l
 induction l with
|nil=>intro M _ h;exact⟨M,rfl,h,fun x N=>(by cases N),fun x c h=>⟨c,h⟩⟩
|cons y l i=>
  intro M d j;obtain⟨n,k⟩:=y;by_cases b:k=.free
  .subst b;obtain⟨c,m⟩:=d (n,.free) j_ rfl;have p:cellOf L n=pure c:=by unfold cellOf;rw[m]
   have B:∀x Y,((n,c)::M).lookup x=some Y->L.cells.lookup x=some Y:=fun x Y h=>by rw[XR]at h;cases q:x==n with
   |true=>rw[q]at h;cases h;rw[Yu q];exact m
   |false=>rw[q]at h;exact j x Y h
   obtain⟨U,g,f,e,Z⟩:=i ((n,c)::M) (fun x N=>d x (l_ _ N)) B;refine⟨U,?_,f,fun x N=>?_,fun x Y h=>?_⟩
   .rw[<-g];rw[Zn];show(cellOf L n >>= fun a=>pure (ForInStep.yield ((n,a)::M))) >>= _=_;rw[p];rfl
   .rcases I_.mp N with z|z
    .cases z;exact Z n c (by rw[XR];simp)
    .exact e x z
   .cases q:x==n with
   |true=>exact Z x c (by rw[XR,q])
   |false=>exact Z x Y (by rw[XR,q];exact h)
  .obtain⟨U,g,f,e,Z⟩:=i M (fun x N=>d x (l_ _ N)) j;have o:(k==NameKind.free)=false:=by simpa using b
   refine⟨U,?_,f,fun x N=>?_,Z⟩
   .rw[<-g,Zn];simp only[o,į,if_false];rfl
   .rcases I_.mp N with z|z
    .cases z;exact Q_f rfl b
    .exact e x z
theorem RC{B:YH}{L:Env}(N:∀x∈B.names,x.2=.free->∃c,L.cells.lookup x.1=some c):∃M,Ð B L=pure M/\(∀x c,M.lookup x=some c->L.cells.lookup x=some c)/\(∀x,(x,NameKind.free)∈B.names->∃c,M.lookup x=some c):=by obtain⟨M,e,Y,U,_⟩:=Pw B.names [] N (by simp_all);refine⟨M,?_,Y,U⟩;have Z:Ð B L=((forIn B.names _ _) >>= fun a=>pure a):=rfl;rw[Z,e];rfl
theorem Lb{f:Str->YO->YO}:∀(l:List (Str×YO))(x:Str),(l.map fun y=>(y.1,f y.1 y.2)).lookup x=(l.lookup x).map (f x)
|[],x=>rfl
|(n,k)::l,x=>by rw[s_,XR,XR];cases q:x==n with
 |true=>simp[Yu q]
 |false=>exact Lb l x
def gq(env:Env)(n:Str)(k:YO):YO:=if (k==.free&&env.scope.kind==.function&&env.kindOf n==some .cell)=true then .cell else k
theorem Lc(B:YH)(L:Env)(x:Str):(ù B L).names.lookup x=(B.names.lookup x).map (gq L x):=by
 rw[<-Lb];congr 1;apply W3;intro y _;obtain⟨n,k⟩:=y;show(if (k==NameKind.free&&L.scope.kind==.function&&L.kindOf n==some .cell)=true then(n,NameKind.cell)else(n,k))=(n,gq L n k)
 unfold gq;split <;> rfl
structure CompSc(X:Cx)(scope:YH)(N':List Str)(nl:Nat)(cap:List Nat):Prop where
 kind:scope.kind=.function
 nocell:∀y∈scope.names,y.2≠.cell
 names:∀y∈scope.names,y.2=.local->scope.names.lookup y.1=some .local
 freeK:∀y∈scope.names,y.2=.free->X.env.kindOf y.1=some .cell\/X.env.kindOf y.1=some .free
 len:N'.length=nl+cap.length
 capN:∀j,j<cap.length->∃x,N'[nl+j]? = some x/\X.N[cap.getD j 0]? = some x/\scope.names.lookup x=some .free
def eY(X:Cx)(s₀:e_)(H₀:Hp)(N':List Str)(scope:YH)(cl:List (Str×Addr))(C:Addr)(fp:List Addr):Cx where
 prog:=X.prog
 w:=X.w
 K:=X.K
 mg:=X.mg
 base:=X.base
 A:=X.A
 N:=N'
 s₀:=s₀
 H₀:=H₀
 env:=ô scope cl C X.env
 outer:=X.stack
 stack:=X.stack
 ex:=fp
 fn:=fun _=>false
 calm:=X.calm
 pn:=[]
 xe:=fun _ _=>False
variable{pz:List (Addr×Obj)}{σ:L2.St}{s:e_}{scope:YH}{N':List Str}{nl:Nat}{cap:List Nat}{cl:List (Str×Addr)}{C:Addr}{fp:List Addr}
theorem ML(I:Inv X pz σ H s)(Z:CompSc X scope N' nl cap)(Y:∀x c,cl.lookup x=some c->X.env.cells.lookup x=some c)(n:∀x,(x,NameKind.free)∈scope.names->∃c,cl.lookup x=some c)(N:∀b∈fp,eT X pz H b/\b<s.heap.objs.size)(f:s.heap.objs.size<=C):(eY X s H N' scope cl C fp).Ok where
 mod:=I.ok.mod
 kind:=Z.kind
 glob:=I.ok.glob
 blt:=I.ok.blt
 above:=f
 inj:=fun x y c a b=>I.ok.inj x y c (Y x c a) (Y y c b)
 has:=fun x m=>by
  have L:(scope.names.lookup x).map (gq X.env x)=some .cell\/(scope.names.lookup x).map (gq X.env x)=some .free:=by rw[<-Lc];exact m
  cases e:scope.names.lookup x with
 |none=>simp_all
 |some k=>
   have d:=PySem.mem_of_lookup e;have j:k=.free:=by
    have B:gq X.env x k=.cell\/gq X.env x k=.free:=by simp_all
    unfold gq at B;split at B
    .simp_all
    .rcases B with z|z
     .exact Q_f z (Z.nocell _ d)
     .exact z
   subst j;exact n x d
 cab:=fun x c h=>by cases h
 hd:=I.ok.hd
 frames:=I.ok.frames
 stk:=.inl rfl
 exf:=fun b M=>⟨L_ (B_ (N b M).2 f),fun x c e=>(N b M).1.2.2.2.2.1 x c (Y x c e)⟩
 bs:=I.bs
 bsz:=O_ I.ok.bsz I.sz
 noex:=fun b o e M=>by
  obtain⟨_,_,_,l,_⟩:=(N b M).1;rcases l with z|z
  .exact I.ok.noex b o e z
  .exact Q_f (B_ (x_ e) (O_ I.ok.bsz z)) (Xo _)
 exfs:=fun b M U=>by
  obtain⟨_,i,g,_⟩:=(N b M).1;rcases I_.mp (I.stkSub b U)with z|z
  .exact i z
  .exact g z
 funs:=I.stack
 frf:=I.stkFree
def iY(ft:FT)(q:FQ)(fe:FE)(r0:aL):List D->Res (List D)
|[]=>.ok []
|d::ds=>(eN (ft d r0)).bind fun r1=>(q r1).bind fun c=>if c=true then(fe r1).bind fun v=>(iY ft q fe r0 ds).bind fun vs=>.ok (v::vs)else iY ft q fe r0 ds
def c9(nl:Nat)(cap:List Nat)(r:aL):aL:=r_ nl none++cap.map fun i=>r.getD i none
def bJ(nl:Nat)(cap:List Nat)(m:List Md):List Md:=r_ nl Md.sh++cap.map fun i=>if m.getD i Md.sh=Md.sh then Md.sh else Md.bw
def fR(nl:Nat)(cap:List Nat)(st:L2.St):L2.St:=r_ nl none++cap.map fun i=>st.getD i none
theorem q8{B:Type}{nl:Nat}{cap:List Nat}{u:B}{h:Nat->B}{i:Nat}(hi:nl<=i):(r_ nl u++cap.map h)[i]? = (cap[i-nl]?).map h:=by rw[W0 (by simpa using hi),XV,A_]
theorem MI(I:Inv X pz σ H s)(T:(eY X s H N' scope cl C fp).Ok)(y:CompSc X scope N' nl cap)(r:∀x c,cl.lookup x=some c->X.env.cells.lookup x=some c)(h2:∀x,(x,NameKind.free)∈scope.names->∃c,cl.lookup x=some c)(hN:X.N.Nodup){f:e_}{m:Hp}{J:Str->Option a_}(Y:f.os=s.os)(hb:Zf f.gens)(K:∀b o,s.heap.get? b=some o->f.heap.get? b=some o)(U:f.heap.Ns C J)(hC:s.heap.objs.size<=C)(Z:m C=none)(hH:∀b,H b=none->b<s.heap.objs.size->m b=none)(Q:Un (i8 X.stack) fp H m s.heap f.heap)(A:d7 X.prog X.w m f.heap):Inv (eY X s H N' scope cl C fp) [] (fR nl cap σ) m f:=by
 refine⟨T,Y,hb,Q,⟨J,U,fun i x v e1 d e3=>?_⟩,fun x c e=>?_,Z,fun x c e=>?_,fun p hp=>Q_f (show p∈([]:List (Addr×Obj))from hp) (by simp),A,?_⟩
 .have hi:nl<=i:=by
   by_cases z:i<nl
   .unfold fR at d;rw[J_ (by simpa using z),Xr]at d;split at d <;> cases d
   .omega
  unfold fR at d;rw[q8 hi]at d;cases t:cap[i-nl]? with
 |none=>rw[t]at d;cases d
 |some j=>
   rw[t]at d;have hj:i-nl<cap.length:=(c_.mp t).1;obtain⟨a,G,F,E⟩:=y.capN (i-nl) hj;have ed:cap.getD (i-nl) 0=j:=by rw[R_,t];rfl
   rw[ed]at F;have ei:nl+(i-nl)=i:=by omega
   rw[ei]at G;have L:N'[i]? = some x:=e1;rw[G]at L;have ex:a=x:=WU L;subst ex;have hv:σ[j]? = some (some v):=by have z:σ.getD j none=some v:=WU d;rw[R_]at z;cases q:σ[j]? with
   |none=>rw[q]at z;cases z
   |some o=>rw[q]at z;rw[show o=some v from z]
   have B:=PySem.mem_of_lookup E;have O:=y.freeK _ B rfl;obtain⟨mx,BT,hl⟩:=I.loc;obtain⟨u,R,lk⟩:=hl j a v F hv (.inr O);refine⟨u,R,.inr ?_⟩;obtain⟨c,P⟩:=h2 a B;have M:Env.kindOf (eY X s H N' scope cl C fp).env a=some .cell\/Env.kindOf (eY X s H N' scope cl C fp).env a=some .free:=by
    have z:(ù scope X.env).names.lookup a=some (gq X.env a .free):=by rw[Lc,E];rfl
    show(ù scope X.env).names.lookup a=_\/(ù scope X.env).names.lookup a=_;rw[z];unfold gq;split
    .exact .inl rfl
    .exact .inr rfl
   refine⟨M,c,P,?_⟩;rcases lk with⟨k,_⟩|⟨_,c',l,g⟩
   .rcases O with z|z <;> rw[k]at z <;> cases z
   .rw[r a c P]at l;cases l;obtain⟨o,h,n⟩:=g;exact⟨o,K c o h,n⟩
 .obtain⟨v,o,h,n⟩:=I.cell x c (r x c e);exact⟨v,o,K c o h,n⟩
 .obtain⟨v,o,h,n⟩:=I.cell x c (r x c e);exact hH c (I.freeC x c (r x c e)) (x_ h)
 .show(fR nl cap σ).length=N'.length;rw[y.len];simp[fR]
section
variable{prog:E_}{A:V_}{R:Result->e_->Prop}
theorem Nt{f N b:Expr}{d:List Expr}{Z:YH}{k:Pos}{it g:a_}{M:Env}(I:Nat->e_->Prop)(a:∀n s,I n s->K_ (G_ prog w) A (pyNext it) (fun r j=>match r with
  |none=>R (.ok .next) j
  |some v=>K_ (G_ prog w) A (Ç N it v) (fun _ B=>K_ (G_ prog w) A (ë N M v) (fun _ p=>
     K_ (G_ prog w) A (forIn d true fun c r=>if r=true then do let ok <-isTrue c M (eval c M);pure (ForInStep.yield ok)else pure (ForInStep.yield r)) (fun ok i=>
      if ok=true then K_ (G_ prog w) A (eval f M) (fun x o=>K_ (G_ prog w) A (call (.builtin "list.append") [g,x]) (fun _ l=>∃m,m<n/\I m l) (é (G_ prog w) A M fun e U=>R (.error e) U) o) (é (G_ prog w) A M fun e U=>R (.error e) U) i
      else ∃m,m<n/\I m i) (é (G_ prog w) A M fun e U=>R (.error e) U) p) (é (G_ prog w) A M fun e U=>R (.error e) U) B)
     (é (G_ prog w) A M fun e U=>R (.error e) U) j) (é (G_ prog w) A M fun e U=>R (.error e) U) s)(n:Nat)(h:I n s):ä (G_ prog w) A (.compLoop (.ListComp f [⟨N,b,d,0⟩] Z k) 0 it g M) R s:=by refine codeAny_loop rfl I (fun n s u=>?_) n h;refine wpAny_noted ?_;refine d_ (Z0 (d_ (X_ (a n s u) (fun r j t=>?_) fun _ _ Y=>Y)));cases r with
|none=>exact C_ t
|some v=>refine d_ (X_ t (fun _ B L=>?_) fun _ _ Y=>Y);refine d_ (X_ L (fun _ p C=>d_ (X_ C (fun ok i q=>?_) fun _ _ Y=>Y)) fun _ _ Y=>Y);cases ok with
 |false=>exact C_ ⟨rfl,q⟩
 |true=>exact d_ (d_ (X_ q (fun x o z=>d_ (X_ z (fun _ l y=>C_ (C_ ⟨rfl,y⟩)) fun _ _ Y=>Y)) fun _ _ Y=>Y))
end
def lu(X:Cx)(g:GE)(m:List Md)(ifs:List Expr)(f:FQ):Prop:=∀(pz:List (Addr×Obj))(s:e_)(σ:L2.St)(H:Hp)(Q:Bool->Hp->Prop),Inv X pz σ H s->tQ X g m f σ H Q ->K_ (G_ X.prog X.w) X.A (forIn ifs true fun c r=>if r=true then do let ok <-isTrue c X.env (eval c X.env);pure (ForInStep.yield ok)else pure (ForInStep.yield r)) (TP X pz σ Q) X.xe s
theorem uZ:lu X g m [] fun _=>.ok true:=fun M s L H Q I k=>by obtain⟨r,G,B,q⟩:=k;exact wpAny_tests_nil ⟨H,I,q G H (Grow.refl B.gok)⟩
theorem kY(h:SQ X g m c p):lu X g m [c] p:=fun L s B H Q I q=>wpAny_tests_one (h L s B H Q I q)
def jB(ft:FT)(nl:Nat):Prop:=∀d r r1,ft d r=some r1->r1.length=r.length/\∀i,nl<=i->r1[i]? = r[i]?
def xY(ft:lv)(nl:Nat):Prop:=∀d r r1,ft d r=some r1->r1.length=r.length/\∀i,nl<=i->r1[i]? = r[i]?
theorem qV{i nl:Nat}(h:i<nl):jB (bC i) nl:=fun d r B e=>by cases e;exact⟨by simp,fun j L=>by rw[f_ (by omega)]⟩
theorem IG{ft:FT}{B:lv}{nl:Nat}(a:jB ft nl)(Z:xY B nl):xY (de ft B) nl:=fun L r N e=>by cases L with
|nil=>cases e
|cons d L=>have U:((ft d r).bind fun Y=>B L Y)=some N:=e;cases q:ft d r with
 |none=>simp_all
 |some M=>rw[q]at U;obtain⟨g,f⟩:=a d r M q;obtain⟨c,b⟩:=Z L M N U;simp_all
theorem MA{B:lv}{nl:Nat}(h:xY B nl):jB (gy B) nl:=fun d r M e=>by cases d with
|tup L=>exact h L r M e
|lst L=>exact h L r M e
|_=>cases e
variable{elt:Expr}{ifs:List Expr}{fe:FE}
section
variable{s2:e_}{tg:Expr}{J:It}{it:Addr}{tn:Nat->Heap->Prop}{ds vs:List D}{E:a_->e_->Prop}
theorem Nq(i:Nat):(bJ nl cap m)[i]?≠some Md.ow:=fun h=>by
 by_cases L:i<nl
 .unfold bJ at h;rw[J_ (by simpa using L),Xr]at h;split at h <;> cases h
 .unfold bJ at h;rw[q8 (by omega)]at h;cases e:cap[i-nl]? with
 |none=>rw[e]at h;cases h
 |some j=>rw[e]at h;have B:(if m.getD j Md.sh=Md.sh then Md.sh else Md.bw)=Md.ow:=WU h;split at B <;> cases B
def CI(El:W.Frag->GH->Hp->GH->Hp->V->D->Prop)(X:Cx)(g:GE)(m:List Md)(f:FE):TE:=fun σ H Q=>∃r G,SI X g m r G σ H/\fin (f r) (fun d=>∀v G' H',Grow X.K G H G' H'->El X.K G H G' H' v d->Q v H') (XW X σ G H)
theorem Jc{El:W.Frag->GH->Hp->GH->Hp->V->D->Prop}{Rl:Addr->GH->Hp->List V->List D->Prop}(R0:∀p G H,Rl p G H [] [])(Rg:∀{p G H I s ws ds},Rl p G H ws ds->Grow X.K G H I s->Rl p I s ws ds)(Rn:∀{p G H ws ds},Rl p G H ws ds->ws.length=ds.length)(Ra:∀{p G H I s ws ds v d},Rl p G H ws ds->Grow X.K G H I s->Grow X.K G2 H2 G H->H p=some (.lst ws)->El X.K G H I s v d->Rl p I (aV s p (.lst (ws++[v]))) (ws++[v]) (ds++[d]))(hN:X.N.Nodup)(VU:X.calm=true)(sc:CompSc X scope N' nl cap)(h1:∀x c,cl.lookup x=some c->X.env.cells.lookup x=some c)(h2:∀x,(x,NameKind.free)∈scope.names->∃c,cl.lookup x=some c)(I2:Inv X pz σ H2 s2)(si:SI X g m r G2 σ H2)(T:Turn X.prog X.w X.K tg J fp it tn)(st:tn 0 s2.heap)(hf:∀b∈fp,eT X pz H2 b)(Y:YieldsC X.K J ds G2 H2)(hsz:ds.length<=sizeLine)(hg:∀C,SG (eY X s2 H2 N' scope cl C fp) ⟨G2,H2,fun _=>none⟩ (bJ nl cap m) tg ft (bJ nl cap m))(Wi:jB ft nl)(hq:∀C,lu (eY X s2 H2 N' scope cl C fp) ⟨G2,H2,fun _=>none⟩ (bJ nl cap m) ifs q)(he:∀C,PE (eY X s2 H2 N' scope cl C fp) elt (CI El (eY X s2 H2 N' scope cl C fp) ⟨G2,H2,fun _=>none⟩ (bJ nl cap m) fe))(V7:iY ft q fe (c9 nl cap r) ds=.ok vs){RR:a_->Addr->Result->e_->Prop}(Wj:∀(p C:Addr)(R:e_)(s:Hp)(I:GH),Inv X pz σ s R->(∃mm,R.heap.Ns C mm)->s C=none->C≠X.env.locals->X.s₀.heap.objs.size<=C->(∀x c,X.env.cells.lookup x=some c->c≠C)->(∀z∈X.pn++pz,z.1≠C) ->Grow X.K G2 H2 I s->H2 p=none->(∃ws,s p=some (.lst ws)/\I p=none/\Rl p I s ws vs)->RR (.ref p) C (.ok .next) R):K_ (G_ X.prog X.w) X.A (newList []) (fun acc s3=>K_ (G_ X.prog X.w) X.A (newFunctionEnv scope X.env.globals cl [] X.env.qual none .none (some X.env)) (fun VQ s4=>ä (G_ X.prog X.w) X.A (.compStart (.ListComp elt [⟨tg,iter,ifs,0⟩] scope pos) 0 (.ref it) acc { VQ with scope:=ù scope X.env }) (RR acc VQ.locals) s4) E s3) E s2:=by
 refine ZQ (wpAny_newFunctionEnv sc.nocell (by intro y hy;simp at hy) (fun O LE Id=>?_) sc.kind)
 dsimp only at LE Id ⊢
 generalize VT:s2.heap.push { cls:=.type "list",dict:=none,data:=.seq ([]:List a_).toArray }=HH at LE Id ⊢;have hC:HH.objs.size=s2.heap.objs.size+1:=by rw[<-VT,Xi]
 have V0:s2.heap.objs.size≠HH.objs.size:=by rw[hC];exact L_ (XB _)
 have L:s2.heap.objs.size<=HH.objs.size:=by rw[hC];exact À _
 have U:∀b,b<s2.heap.objs.size->b≠HH.objs.size/\b≠s2.heap.objs.size:=fun b l=>⟨by rw[hC];exact L_ (Xw l),L_ l⟩
 have old:∀b o,s2.heap.get? b=some o->O.get? b=some o:=fun b o e=>Id.extBut b o (U b (x_ e)).1 (b_ _ (VT▸b_ _ e));have V5:O.get? s2.heap.objs.size=some { cls:=.type "list",dict:=none,data:=.seq ([]:List a_).toArray }:=Id.extBut _ _ V0 (b_ _ (VT▸q_ _ rfl));have Z:H2 s2.heap.objs.size=none:=I2.hok.fresh (o_ _);have KK:∀b∈fp,eT X pz H2 b/\b<s2.heap.objs.size:=fun b l=>⟨hf b l,by obtain⟨o,e,_⟩:=T.obj 0 s2.heap st b l;exact x_ e⟩
 have ok:=ML (fp:=fp) I2 sc h1 h2 KK L;generalize B:eY X s2 H2 N' scope cl HH.objs.size fp=k at ok;have V6:G2 s2.heap.objs.size=none:=si.gok.isN Z;have w0:Grow X.K G2 H2 G2 (aV H2 s2.heap.objs.size (.lst [])):=Grow.new si.gok Z _;have V4:d7 X.prog X.w (aV H2 s2.heap.objs.size (.lst [])) O:=I2.hok.laid old (o_ _) ⟨Xe _,[],0,.nil,V5⟩;have IC:Inv k [] (fR nl cap σ) (aV H2 s2.heap.objs.size (.lst [])) { s2 with heap:=O,toks:=s2.toks+([]:List (Str×a_)).length }:=by
  subst B;refine MI I2 ok sc h1 h2 hN rfl I2.bare old LE L ?_ (fun b l hlt=>?_) (Un.laid old (o_ _) Z) V4
  .rw[bZ (X6 V0)];exact I2.hok.fresh L
  .rw[bZ (U b hlt).2];exact l
 have SC:SI k ⟨G2,H2,fun _=>none⟩ (bJ nl cap m) (c9 nl cap r) G2 (fR nl cap σ) (aV H2 s2.heap.objs.size (.lst [])):=by
  subst B;have V8:(bJ nl cap m).length=nl+cap.length:=by simp[bJ]
  have VV:(c9 nl cap r).length=nl+cap.length:=by simp[c9]
  have ST:(fR nl cap σ).length=nl+cap.length:=by simp[fR]
  have BT:∀(i:Nat) d,(c9 nl cap r)[i]? = some (some d)->nl<=i/\∃j,cap[i-nl]? = some j/\r[j]? = some (some d):=fun i d h=>by
   by_cases hi:i<nl
   .unfold c9 at h;rw[J_ (by simpa using hi),Xr]at h;split at h <;> cases h
   .refine⟨by omega,?_⟩;unfold c9 at h;rw[q8 (by omega)]at h;cases e:cap[i-nl]? with
   |none=>rw[e]at h;cases h
   |some j=>rw[e]at h;refine⟨j,rfl,?_⟩;have h':r.getD j none=some d:=WU h;rw[R_]at h';cases e2:r[j]? with
    |none=>rw[e2]at h';cases h'
    |some o=>rw[e2]at h';rw[show o=some d from h']
  have Cl:∀(i j:Nat) md,nl<=i->cap[i-nl]? = some j->(bJ nl cap m)[i]? = some md->md=if m.getD j Md.sh=Md.sh then Md.sh else Md.bw:=fun i j md hi hj h=>by unfold bJ at h;rw[q8 hi,hj]at h;exact(WU h).symm
  have IO:∀(i j:Nat) v,nl<=i->cap[i-nl]? = some j->σ[j]? = some (some v)->(fR nl cap σ)[i]? = some (some v):=fun i j v hi hj h=>by unfold fR;rw[q8 hi,hj];show some (σ.getD j none)=_;rw[R_,h];rfl
  have mj:∀(j:Nat) d,r[j]? = some (some d)->m[j]? = some (m.getD j Md.sh):=fun j d h=>by
   have hl:j<m.length:=by have:=(c_.mp h).1;rw[si.lr,<-si.lm]at this;exact this
   rw[R_,k_ hl];rfl
  refine⟨w0.ok,w0.he,w0.ge,w0.gf,by rw[V8,ST],by rw[VV,ST],fun i d h hm=>?_,fun i d h hm=>?_,fun i d h hm=>?_,fun i j a d e _ h _ hm=>?_,fun i o h=>nomatch h⟩
  .obtain⟨hi,j,hj,hr⟩:=BT i d h;have e:=Cl i j _ hi hj hm;have VN:m.getD j Md.sh=Md.sh:=by
    by_cases z:m.getD j Md.sh=Md.sh
    .exact z
    .rw[Q_e z]at e;cases e
   obtain⟨v,h1,h2⟩:=si.sh j d hr (by rw[mj j d hr,VN]);exact⟨v,IO i j v hi hj h1,h2.mono w0.ge⟩
  .obtain⟨hi,j,hj,hr⟩:=BT i d h;have e:=Cl i j _ hi hj hm;split at e <;> cases e
  .obtain⟨hi,j,hj,hr⟩:=BT i d h;have e:=Cl i j _ hi hj hm;have VN:m.getD j Md.sh≠Md.sh:=by intro z;rw[Q_d z]at e;cases e
   have Ty:=mj j d hr;cases q:m.getD j Md.sh with
  |sh=>exact Q_f q VN
  |ow=>rw[q]at Ty;obtain⟨a,h1,h2,_⟩:=si.ow j d hr Ty;exact⟨_,IO i j _ hi hj h1,.inr ⟨a,rfl,h2.mono w0,h2.ob.isS⟩⟩
  |bw=>
    rw[q]at Ty;obtain⟨v,h1,h2⟩:=si.bw j d hr Ty;refine⟨v,IO i j _ hi hj h1,?_⟩;rcases h2 with h2|⟨a,rfl,h2,_⟩
    .exact .inl (h2.mono w0.ge)
    .exact .inr ⟨a,rfl,h2.mono w0,h2.ob.isS⟩
  .obtain⟨hi,j',hj,hr⟩:=BT i d h;have e:=Cl i j' _ hi hj hm;split at e <;> cases e
 have VS:tn 0 O:=T.keep _ _ _ st fun b _ o e=>old b o e;have VJ:∀(s:Hp),(∀b∈fp,s b=none)->∀b∈fp,eT k [] s b:=fun s hn b l=>by
  clear IC SC;subst B;obtain⟨z0,z1,z2,z3,z4,z5⟩:=hf b l;refine⟨hn b l,?_,?_,?_,?_,?_⟩
  .exact(U b (KK b l).2).1
  .intro hfs;rcases I_.mp (I2.stkSub b hfs)with z|z
   .exact z1 z
   .exact z2 z
  .exact .inl l
  .exact fun x c e=>z4 x c (h1 x c e)
  .intro p hp;exact Q_f (show p∈([]:List (Addr×Obj))from hp) (by simp)
 have eA:k.A=X.A:=Eq.rec (motive:=fun z _=>z.A=X.A) rfl B;have eP:k.prog=X.prog:=Eq.rec (motive:=fun z _=>z.prog=X.prog) rfl B;have eW:k.w=X.w:=Eq.rec (motive:=fun z _=>z.w=X.w) rfl B;have eK:k.K=X.K:=Eq.rec (motive:=fun z _=>z.K=X.K) rfl B;have eX:k.xe=fun _ _=>False:=Eq.rec (motive:=fun z _=>z.xe=fun _ _=>False) rfl B;have eE:k.env=ô scope cl HH.objs.size X.env:=Eq.rec (motive:=fun z _=>z.env=ô scope cl HH.objs.size X.env) rfl B;have eC:k.calm=true:=Eq.rec (motive:=fun z _=>z.calm=true) VU B;have eH:k.H₀=H2:=Eq.rec (motive:=fun z _=>z.H₀=H2) rfl B;have VY:PG k tg (tG k ⟨G2,H2,fun _=>none⟩ (bJ nl cap m) (bJ nl cap m) ft):=Eq.rec (motive:=fun z _=>PG z tg (tG z ⟨G2,H2,fun _=>none⟩ (bJ nl cap m) (bJ nl cap m) ft)) (hg _).2 B;have hq':lu k ⟨G2,H2,fun _=>none⟩ (bJ nl cap m) ifs q:=Eq.rec (motive:=fun z _=>lu z ⟨G2,H2,fun _=>none⟩ (bJ nl cap m) ifs q) (hq _) B;have VW:PE k elt (CI El k ⟨G2,H2,fun _=>none⟩ (bJ nl cap m) fe):=Eq.rec (motive:=fun z _=>PE z elt (CI El z ⟨G2,H2,fun _=>none⟩ (bJ nl cap m) fe)) (he _) B;have V3:∀{s:Hp}{R:e_}{σ':L2.St}{I:GH}{ws:List V},Inv k [] σ' s R->Grow X.K G2 H2 I s->s s2.heap.objs.size=some (.lst ws)->I s2.heap.objs.size=none->Rl s2.heap.objs.size I s ws vs->RR (.ref s2.heap.objs.size) HH.objs.size (.ok .next) R:=fun{s R σ' I ws} J1 wg hpp hgp rs=>by
  clear IC SC VJ VY hq' VW eA eP eW eK eX eE eC eH;subst B;have un:=J1.base;refine Wj _ _ R s I ?_ (let⟨mm,hn,_⟩:=J1.loc;⟨mm,hn⟩) J1.free (Xu (B_ I2.lt L)) (O_ I2.sz L) (fun x c e z=>?_) (fun z hz e=>?_) wg Z ⟨_,hpp,hgp,rs⟩
  .refine I2.call' J1.os un J1.hok J1.bare fun b l=>?_;obtain⟨z0,z1,z2,z3,z4,z5⟩:=hf b l;exact⟨z3,z1,z4,z5⟩
  .obtain⟨v,o,ho,_⟩:=I2.cell x c e;exact Q_f (B_ (x_ ho) L) (by rw[z];exact Xo _)
  .have:=(I2.pin z hz).1;exact Q_f (B_ (x_ this) L) (by rw[e];exact Xo _)
 have VO:ä (G_ X.prog X.w) X.A (.compLoop (.ListComp elt [⟨tg,iter,ifs,0⟩] scope pos) 0 (.ref it) (.ref s2.heap.objs.size) (ô scope cl HH.objs.size X.env)) (RR (.ref s2.heap.objs.size) HH.objs.size)
   { s2 with heap:=O,toks:=s2.toks+([]:List (Str×a_)).length }:=by
  refine Nt (fun n R=>∃(i:Nat)(σ':L2.St)(s:Hp)(I:GH)(ws:List V)(P rest:List D),Inv k [] σ' s R/\SI k ⟨G2,H2,fun _=>none⟩ (bJ nl cap m) (c9 nl cap r) I σ' s/\tn i R.heap/\(∀b∈fp,s b=none)/\Grow X.K G2 H2 I s /\s s2.heap.objs.size=some (.lst ws)/\I s2.heap.objs.size=none/\Rl s2.heap.objs.size I s ws P/\iY ft q fe (c9 nl cap r) (ds.drop i)=.ok rest/\vs=P++rest/\P.length<=i/\i<=ds.length/\n=ds.length-i) ?_ ds.length
   ⟨0,_,_,G2,[],[],vs,IC,SC,VS,fun b l=>?_,w0,cP,V6,R0 _ _ _,V7,rfl,o_ _,Xe _,rfl⟩
  rotate_left
  .rw[bZ (U b (KK b l).2).2];exact(hf b l).1
  rintro n s3 ⟨i,σ3,H3,G3,ws,P,rest,I3,S3,st3,fr3,w3,hp3,hg3,rs3,f,hv3,hd3,hi3,rfl⟩
  have M:∀{α:Type}{t:Sem α}{Q:α->e_->Prop}{R:e_}{E':a_->e_->Prop},K_ (G_ k.prog k.w) k.A t Q k.xe R->K_ (G_ X.prog X.w) X.A t Q E' R:=fun h=>by rw[eP,eW,eA,eX]at h;exact X_ h (fun _ _ z=>z) fun _ _ z=>z.elim
  by_cases hlt:i<ds.length
  .have hd:ds.drop i=ds[i]::ds.drop (i+1):=Xa hlt;rw[hd]at f;unfold iY at f;have VX:=T.item k eP eW eK eC i [] s3 σ3 H3 (é (G_ X.prog X.w) X.A (ô scope cl HH.objs.size X.env) fun e R=>RR (.ref s2.heap.objs.size) HH.objs.size (.error e) R) I3 (VJ H3 fr3) st3 (Y.go G3 H3 i w3 hlt);rw[eA]at VX;refine bQ VX fun rr s4 g=>?_;obtain⟨u,hr,h4⟩:=g;subst hr;refine bQ h4 fun _ s5 W=>?_;obtain⟨x,H5,I5,r5,y5,st5,fr5⟩:=W;obtain⟨G5,w5,Wn⟩:=Y.yld G3 H3 i x H5 ds[i] w3 y5 (k_ hlt);have Wg:=w3.trans w5;cases Tm:ft ds[i] (c9 nl cap r)with
  |none=>rw[Tm]at f;cases f
  |some r1=>
    rw[Tm]at f;simp only[opt_some,bind_ok]at f;have Wf:=I5.pinned (VJ H5 fr5) (T.obj _ _ st5);have S5:SI k ⟨G2,H2,fun _=>none⟩ (bJ nl cap m) (c9 nl cap r) G5 σ3 H5:=S3.grow (by rw[eK];exact w5);have V9:RG k.K G5 x ds[i]:=by rw[eK];exact Wn
    have as5:=VY _ s5 σ3 H5 x u (fun F H6=>H6=H5/\SI k ⟨G2,H2,fun _=>none⟩ (bJ nl cap m) r1 G5 F H5) Wf r5 ⟨c9 nl cap r,G5,ds[i],S5,V9,r1,Tm,fun F Wm=>⟨rfl,Wm⟩⟩;rw[eE]at as5;refine bQ (M as5) fun _ s6 J=>?_;obtain⟨F,H6,I6,e6,S6⟩:=J;subst e6;obtain⟨Wd,Wh⟩:=Wi _ _ _ Tm;cases VL:q r1 with
   |stuck=>rw[VL]at f;cases f
   |exc xx=>rw[VL]at f;cases f
   |ok b1=>
     rw[VL]at f;simp only[bind_ok]at f;have VZ:=hq' _ s6 F H6 (fun b H7=>b=b1/\∃G7,Grow X.K G5 H6 G7 H7) I6 ⟨r1,G5,S6,by rw[VL];exact fun G7 H7 w7=>⟨rfl,G7,by rw[eK]at w7;exact w7⟩⟩;rw[eE]at VZ;refine bQ (M VZ) fun b s7 N=>?_;obtain⟨H7,I7,eb,G7,w7⟩:=N;subst eb;have S7:SI k ⟨G2,H2,fun _=>none⟩ (bJ nl cap m) r1 G7 F H7:=S6.grow (by rw[eK];exact w7);have VR:=Wg.trans w7;have VH:H7 s2.heap.objs.size=some (.lst ws):=w7.he _ _ (w5.he _ _ hp3);have V1:G7 s2.heap.objs.size=none:=by rw[w7.gf _ (by rw[w5.he _ _ hp3];simp),w5.gf _ (by rw[hp3];simp)];exact hg3
     have back:∀{VM:L2.St}{H8:Hp}{G8:GH}{s8:e_},Inv k ([]++uW fp s5.heap) VM H8 s8->Inv k [] VM H8 s8/\tn (i+1) s8.heap/\∀b∈fp,H8 b=none:=fun{VM H8 G8 s8} I8=>by refine⟨I8.unpinned,T.keep _ _ _ st5 fun b l o e=>(I8.pin (b,o) (W7 _ (W7 _ (wN l e)))).1,fun b l=>?_⟩;obtain⟨o,e,_⟩:=T.obj _ _ st5 b l;exact(I8.pin (b,o) (W7 _ (W7 _ (wN l e)))).2.1
     have less:∀{VM:L2.St}{H8:Hp}{G8:GH},SI k ⟨G2,H2,fun _=>none⟩ (bJ nl cap m) r1 G8 VM H8->SI k ⟨G2,H2,fun _=>none⟩ (bJ nl cap m) (c9 nl cap r) G8 VM H8:=fun h=>h.less Wd.symm fun j d hj=>by
      by_cases Wl:j<nl
      .exact Q_f hj ((fun hi d=>fun h=>by unfold c9 at h;rw[J_ (by simpa using hi),Xr]at h;split at h <;> cases h) Wl d)
      .rw[Wh j (by omega)];exact hj
     cases b with
    |false=>rw[Q_e y_]at f ⊢;obtain⟨Wk,t7,f7⟩:=back (G8:=G7) I7;exact⟨ds.length-(i+1),by omega,i+1,F,H7,G7,ws,P,rest,Wk,less S7,t7,f7,VR,VH,V1,Rg rs3 (w5.trans w7),f,hv3,by omega,hlt,rfl⟩
    |true=>rw[Q_d rfl]at f ⊢;cases LT:fe r1 with
     |stuck=>rw[LT]at f;cases f
     |exc xx=>rw[LT]at f;cases f
     |ok d1=>rw[LT]at f;simp only[bind_ok]at f;cases er:iY ft q fe (c9 nl cap r) (ds.drop (i+1))with
      |stuck=>rw[er]at f;cases f
      |exc xx=>rw[er]at f;cases f
      |ok rest'=>
        rw[er]at f;simp only[bind_ok]at f;cases f;have V2:=VW _ s7 F H7 (fun v H8=>∃G8,Grow X.K G7 H7 G8 H8/\El X.K G7 H7 G8 H8 v d1) I7 ⟨r1,G7,S7,by rw[LT];exact fun v G8 H8 w8 rv=>⟨G8,by rw[eK]at w8;exact w8,by rw[eK]at rv;exact rv⟩⟩;rw[eE]at V2;refine bQ (M V2) fun u8 s8 C=>?_;obtain⟨v8,H8,I8,r8,G8,w8,rv8⟩:=C;have Wb:H8 s2.heap.objs.size=some (.lst ws):=w8.he _ _ VH;have VP:G8 s2.heap.objs.size=none:=by rw[w8.gf _ (by rw[VH];simp)];exact V1
        have S8:SI k ⟨G2,H2,fun _=>none⟩ (bJ nl cap m) r1 G8 F H8:=S7.grow (by rw[eK];exact w8);have hlen:=Rn rs3;have We:=fw (X:=k) _ s8 F H8 (.ref s2.heap.objs.size) [v8] (.ref s2.heap.objs.size) [u8] (fun v H9=>H9=aV H8 s2.heap.objs.size (.lst (ws++[v8]))) I8 rfl (.cons r8 .nil) ⟨_,ws,v8,rfl,rfl,Wb,by omega,rfl⟩;refine bQ (M We) fun u9 s9 E=>?_;obtain⟨v9,H9,I9,r9,e9⟩:=E;subst e9;obtain⟨Wc,t9,f9⟩:=back (G8:=G8) I9;have Wa:=Ra (Rg rs3 (w5.trans w7)) w8 VR VH rv8;have VI:=VR.trans w8;refine⟨ds.length-(i+1),by omega,i+1,F,_,G8,ws++[v8],P++[d1],rest',Wc,less (S8.other VP Z Nq _),t9,f9,?_,cP,VP,Wa,er,by rw[hv3,W_];rfl,by rw[M_,Xy];omega,hlt,rfl⟩;refine⟨fun b e l=>(VI.ok b e l).mono (fun _ _ z=>z) fun o z=>?_,fun b o l=>?_,VI.ge,VI.gf⟩
        .rw[bZ (by rintro rfl;rw[VP]at l;cases l)];exact z
        .rw[bZ (by rintro rfl;rw[Z]at l;cases l)];exact VI.he b o l
  .have e:i=ds.length:=by omega
   subst e;rw[Yf]at f;cases f;rw[T_]at hv3;subst hv3;have dn:=T.done k eP eW eK eC ds.length [] s3 σ3 H3 (é (G_ X.prog X.w) X.A (ô scope cl HH.objs.size X.env) fun e R=>RR (.ref s2.heap.objs.size) HH.objs.size (.error e) R) I3 (VJ H3 fr3) st3 (Y.stop G3 H3 w3);rw[eA]at dn;refine bQ dn fun rr s4 G=>?_;obtain⟨hr,I4⟩:=G;subst hr;exact V3 I4 w3 hp3 hg3 rs3
 exact codeAny_compStart_list VO (T.self X.A 0 _ _ _ VS VO)
end
def sW:Res (List D)->Res (List D)
|.ok d=>.ok d
|_=>.stuck
@[simp] theorem noXL_ok(d:List D):sW (.ok d)=.ok d:=rfl
def cZ(nl:Nat)(cap:List Nat)(fi:FI)(ft:FT)(q:FQ)(fe:FE):FE:=fun r=>(fi r).bind fun ds=>(eN (sz ds)).bind fun ds=>(sW (iY ft q fe (c9 nl cap r) ds)).bind fun vs=>.ok (.lst vs)
section
variable{tg:Expr}{spos:Pos}{fi:FI}
theorem ID{r:aL}{P:D->Prop}{x:D->Prop}(h:fin (cZ nl cap fi ft q fe r) P x):fin (fi r) (fun ds=>∃vs,ds.length<=sizeLine/\iY ft q fe (c9 nl cap r) ds=.ok vs/\P (.lst vs)) x:=by refine cC (cB h) fun ds U=>?_;obtain⟨M,Y,B⟩:=dz (cB U);obtain⟨rfl,N⟩:=yy Y;cases L:iY ft q fe _ M with
|ok vs=>rw[L]at B;exact⟨vs,N,rfl,B⟩
|exc x=>rw[L]at B;exact B.elim
|stuck=>rw[L]at B;exact B.elim
theorem CompSc.clo{pz:List (Addr×Obj)}{σ:L2.St}{H:Hp}{s:e_}(L:CompSc X scope N' nl cap)(M:X.Ok):∃B,Ð scope X.env=pure B/\(∀x c,B.lookup x=some c->X.env.cells.lookup x=some c)/\(∀x,(x,NameKind.free)∈scope.names->∃c,B.lookup x=some c):=RC fun y N U=>M.has y.1 (L.freeK y N U)
theorem yU(hN:X.N.Nodup)(B:X.calm=true)(t:CompSc X scope N' nl cap)(hi:gQ X g m tg iter fi)(hg:∀s0 n l C fp g',SG (eY X s0 n N' scope l C fp) g' (bJ nl cap m) tg ft (bJ nl cap m))(M:jB ft nl)(hq:∀s0 n l C fp g',lu (eY X s0 n N' scope l C fp) g' (bJ nl cap m) ifs q)(he:∀s0 n l C fp g',SE (eY X s0 n N' scope l C fp) g' (bJ nl cap m) elt fe)(hs:∀x,W9 iter X.env x=pure x:=by intro _;rfl):SO X g m (.ListComp elt [⟨tg,iter,ifs,0⟩] scope pos) (cZ nl cap fi ft q fe):=by
 intro pz s σ H Q I h;obtain⟨r,G,R,k⟩:=h;obtain⟨l,F,h1,h2⟩:=t.clo (pz:=pz) (σ:=σ) (H:=H) (s:=s) I.ok;have k1:=ID k;rw[eval_ListComp];refine Z2 (use:=none) rfl hs F t.kind t.names (bQ (hi pz s σ H (fun J f=>∃c i j,Grow X.K G H c f/\YieldsC X.K J i c f/\i.length<=sizeLine/\iY ft q fe (c9 nl cap r) i=.ok j /\(∀a c f,Grow X.K G H c f->H a=none->Own X.K c f a (.lst j)->Q (.ref a) f)) I ⟨r,G,R,cC k1 fun i ⟨j,z1,z2,z3⟩ J c f w y=>⟨c,i,j,w,y,z1,z2,z3⟩⟩) fun v s1 hv=>bQ hv fun itv s2 Id=>?_);obtain⟨it,fp,tn,J,H2,rfl,I2,T,st,hf,G2,i,j,u,Y,z,L,hQ⟩:=Id;refine Jc (El:=fun K _ _ c _ v d=>RG K c v d) (Rl:=fun _ G _ P i=>cW X.K G P i) (fun _ _ _=>.nil) (fun h w=>h.mono w.ge) Paired.length (fun h w _ _ e=>Paired.snoc (h.mono w.ge) e) (RR:=fun O C=>compPost (G_ X.prog X.w) X.A X.xe none (EP X pz σ Q) O C) hN B t h1 h2 I2 (R.grow u) T st hf Y z (fun C=>hg _ _ _ _ _ _) M (fun C=>hq _ _ _ _ _ _) (fun C=>he _ _ _ _ _ _) L ?_;intro p C s' f c I' Z U Cl IO BT KK w' hp ⟨P,o1,o2,o3⟩;have ho:Own X.K c f p (.lst j):=⟨o2,.lst o1 o3⟩
 obtain⟨mm,hn⟩:=Z;refine⟨mm,hn,fun h' E=>⟨.ref p,f,?_,rfl,hQ p c f (u.trans w') (u.back hp) ho⟩⟩;exact I'.turned (it:=C) (t':=s'.toks) (fun b o hb e=>E.extBut b o hb e) U Cl.symm.symm (.inr IO) BT KK
theorem RD(i:Nat){y:Str}(hN:X.N.Nodup)(B:X.calm=true)(hy:X.N[i]? = some y)(L:X.env.scope.names.lookup y=some .local)(E:CompSc X scope N' nl cap)(hi:gQ X g m tg iter fi)(hg:∀s0 t l C fp g',SG (eY X s0 t N' scope l C fp) g' (bJ nl cap m) tg ft (bJ nl cap m))(Z:jB ft nl)(hq:∀s0 t l C fp g',lu (eY X s0 t N' scope l C fp) g' (bJ nl cap m) ifs q)(he:∀s0 t l C fp g',SE (eY X s0 t N' scope l C fp) g' (bJ nl cap m) elt fe)(Tm:Xq (.ListComp elt [⟨tg,iter,ifs,0⟩] scope pos) (some (.Name y pos')) spos.line X.env=pure true:=by rfl)(hs:∀x,W9 iter X.env x=pure x:=by intro _;rfl):SS X g ro mb m (.Assign [.Name y pos'] (.ListComp elt [⟨tg,iter,ifs,0⟩] scope pos) spos) (aR m i (cZ nl cap fi ft q fe)) (m.set i .ow):=by
 refine⟨by simp,?_⟩;intro pz s σ H D0 I h;obtain⟨r,G,A,k⟩:=h;obtain⟨l,P,h1,h2⟩:=E.clo (pz:=pz) (σ:=σ) (H:=H) (s:=s) I.ok;have k1:=ID (iH A (by simp) k);rw[exec_Assign_Name_used _ _ _ _ Tm];refine d_ (Z0 (d_ ?_));refine d_ (X_ (Z2 rfl hs P E.kind E.names (bQ (hi pz s σ H (fun J f=>∃c j z,Grow X.K G H c f/\YieldsC X.K J j c f/\j.length<=sizeLine/\iY ft q fe _ j=.ok z /\(∀n c f,bX G c->SI X g _ _ c n f->D0.nx n f)) I ⟨r,G,A,cC k1 fun j ⟨z,z1,z2,z3⟩ J c f w y=>⟨c,j,z,w,y,z1,z2,z3⟩⟩) fun v s1 hv=>bQ hv fun itv s2 KK=>?_)) (fun _ s' hq=>C_ (C_ hq)) fun _ _ e=>e);obtain⟨it,fp,tn,J,H2,rfl,I2,T,st,hf,G2,j,z,u,Y,F,U,hQ⟩:=KK;refine Jc (El:=fun K _ _ c _ v d=>RG K c v d) (Rl:=fun _ G _ Q j=>cW X.K G Q j) (fun _ _ _=>.nil) (fun h w=>h.mono w.ge) Paired.length (fun h w _ _ e=>Paired.snoc (h.mono w.ge) e) hN B E h1 h2 I2 (A.grow u) T st hf Y F (by simp_all) Z (by simp_all) (fun C=>he _ _ _ _ _ _) U ?_;intro p C s' f c I' BT Id LT Ty IO Cl R hp ⟨Q,o1,o2,o3⟩;have ho:Own X.K c f p _:=⟨o2,.lst o1 o3⟩
 obtain⟨mm,hn⟩:=BT;refine ĉ (IP I' hN hy (.inl L) (v:=.ref p) rfl (fun s'' LE m=>?_) (.inr L));obtain⟨a,O,ha⟩:=m;have ST:C≠a:=by grind
 refine⟨mm,hn.sameBut O ST,fun h' M=>?_⟩;refine⟨_,f,LE.turned (fun b o hb e=>M.extBut b o hb e) Id LT (.inr Ty) IO Cl,?_⟩;exact hQ _ c f (u.trans R).ge (A.setN (u.trans R) i (u.back hp) ho)
end
def kJ(K:W.Frag)(r:V->List V->Hp->VK->Prop)(mk:D->List D->Option D):Prop:=∀(G:GH)(H:Hp)(a:Addr)(d:D)(vs:List V)(ds:List D)(d':D)(Q:VK),cA K G H->Own K G H a d->cW K G vs ds->mk d ds=some d' ->(∀o',OwnO K G (aV H a o') a d'->Q .non (aV H a o'))->r (.ref a) vs H Q
def Ct(T:String):D->Bool
|.lst _=>T == "list"
|.dic _=>T == "dict"
|_=>false
def cJ(T:String)(m:List Md)(i:Nat)(fl:aL->Res (List D))(mk:D->List D->Option D):FS:=fun r=>match r[i]? with
|some (some d)=>if Ct T d=true then kA m r (fl r) fun ds=>(match mk d ds with
 |some d'=>.nx (r.set i (some d'))
 |none=>.stuck)else .stuck
|_=>.stuck
variable{o:Expr}
section
variable{apos cpos:Pos}{x name:Str}{R:V->List V->Hp->VK->Prop}{mk:D->List D->Option D}
theorem eQ(i:Nat)(o:m[i]? = some .ow)(A:ü T)(b:Slot T name id)(KK:typeOf (.builtin id)=pure (.type "method_descriptor"))(BT:jb X id R)(J:kJ X.K R mk)(Q:X.N[i]? = some x)(I:gz X.env.scope x)(P:SA X g m (e::es) fl)(O:(x==("__debug__" : Str))=false:=by decide)(Cl:(x==("__classdict__" : Str))=false:=by decide)(M:Xb (.Name x pos') name X.env (eval (.Name x pos') X.env)=eval (.Name x pos') X.env:=by rfl)(Y:((backTo cpos (i_ (e::es) X.env)).all (fun x=>! x.1)&&(Y4 cpos (X7 [] X.env)).all (fun x=>x.1.isSome)&&decide ((e::es).length+([]:List ç).length+(if ([]:List ç).isEmpty then 0 else 1)<30))=true:=by rfl)(L:(apos.endLine==cpos.line)=true:=by rfl)(Id:i_ (e::es) X.env=(false,eval e X.env)::i_ es X.env:=by rfl)(B:(backTo cpos (i_ es X.env)).any (·.1)=false:=by rfl):SS X g ro mb m (.Expr (.Call (.Attribute (.Name x pos') name apos) (e::es) [] cpos) pos) (cJ T m i fl mk) m:=
 ⟨rfl,PS.imp (rC (yp A b KK BT (gD Q I O Cl) P M Y L Id B)) fun D0 v H h=>by obtain⟨r,G,f,k⟩:=h;unfold cJ at k;cases c:r[i]? with
   |none=>simp only[c]at k;exact(k).elim
   |some C=>cases C with
    |none=>simp only[c]at k;exact(k).elim
    |some d=>
      simp only[c]at k;by_cases l:Ct T d=true
      .rw[Q_d l]at k;obtain⟨a,p,h2,h3⟩:=f.mut o c;refine⟨_,p,(by cases h2.ob with
         |lst r s=>exact .inl ⟨Yu l,_,cL.of r⟩
         |dic r s=>exact .inr (.inr (.inl ⟨Yu l,.inl ⟨_,.inl r⟩⟩))),r,G,f,cC (iH f rfl k) fun q j y u H' w z=>?_⟩
       cases n:mk d q with
      |none=>simp only[n]at j;exact(j).elim
      |some t=>simp only[n]at j;obtain⟨a',U,Z,IO⟩:=(f.grow w).mut o c;rw[p]at U;cases U;exact J u H' a d y q t _ w.ok Z z n fun F E=>j v u _ w.ge (IO F t E)
      .rw[Q_e l]at k;exact(k).elim⟩
def appD:D->List D->Option D
|.lst ds,[d]=>if ds.length<sizeLine then some (.lst (ds++[d]))else none
|_,_=>none
theorem fY{K:W.Frag}:kJ K F7 appD:=by
 intro G H a d N Y Z Q U M B e q;unfold appD at e;split at e
 .split at e
  .cases e;cases M.ob with
  |lst r s=>cases B with
   |cons L t=>cases t;have:=Paired.length s;exact⟨a,_,_,rfl,rfl,r,by omega,q _ (.lst cP (Paired.snoc s L))⟩
  .cases e
 .cases e
def xU(x:Int)(n:Nat):Nat:=if x<0 then(x+(n:Int)).toNat else min x.toNat n
def dZ{α:Type}(xs:List α)(x:Int)(y:α):List α:=xs.take (xU x xs.length)++y::xs.drop (xU x xs.length)
def Ga:V->List V->Hp->VK->Prop:=fun x vs H Q=>∃l xs i y,x=.ref l/\vs=[.int i,y]/\H l=some (.lst xs)/\-(2^63)<=i/\i<2^63/\xs.length<sizeLine/\Q .non (aV H l (.lst (dZ xs i y)))
theorem Rb:jb X "list.insert" Ga:=by
 intro k s d H x g v j Q I Y Z h;obtain⟨l,f,i,y,rfl,rfl,N,c,b,m,q⟩:=h;cases Y;obtain⟨u,M,rfl,⟨t,rfl⟩,U⟩:=Ee Z;obtain⟨z,L,n,r,a,e⟩:=I.lstM N;have B:¬(! ZF i)=true:=by rw[fitsIndex_both c b];grind
 refine Yb PySem.F.slot_list_insert ⟨_,e,rfl⟩ PySem.F.entry_list_insert (PySem.F.args_list_insert_3 _ _ _) (AutoListH.list_insert_list_int_val_1 l L.toArray n i t M B (by simp_all)) ⟨e,?_⟩;refine⟨.non,_,I.lset (its':=dZ L i M) N e ?_ ?_ ?_,rfl,q⟩
 .rw[D_];unfold dZ xU
  grind
 .unfold dZ;rw[a];exact aK.append (r.take _) (.cons U (r.drop _))
 .unfold dZ
  grind
def insD:D->List D->Option D
|.lst ds,[.int i,d]=>if ds.length<sizeLine/\-(2^63)<=i/\i<2^63 then some (.lst (dZ ds i d))else none
|_,_=>none
theorem L8{M L:Type}{F:M->L->Prop}{l:List M}{r:List L}{x:M}{y:L}(h:Paired F l r)(i:Int)(B:F x y):Paired F (dZ l i x) (dZ r i y):=by unfold dZ;rw[Paired.length h];exact Paired.app (Paired.tk _ h) (.cons B (Paired.dr _ h))
theorem L9{K:W.Frag}:kJ K Ga insD:=by
 intro G H a d Y Z b Q U N B e q;unfold insD at e;split at e
 .split at e
  .rename_i hl;cases e;cases N.ob with
  |lst r s=>cases B with
   |cons M t=>cases t with
    |cons L t=>cases t;have:=Paired.length s;exact⟨a,_,_,_,rfl,by rw[M.int U],r,hl.2.1,hl.2.2,by omega,q _ (.lst cP (L8 s _ L))⟩
  .cases e
 .cases e
end
def dm:D->Bool
|.non=>true
|.bl _=>true
|.int _=>true
|.str _=>true
|_=>false
def iK:D->V
|.non=>.non
|.bl b=>.bl b
|.int i=>.int i
|.str x=>.str x
|_=>.non
def eqs(a b:D):Bool:=ii (iK a) (iK b)
theorem RB.flat(h:RB K G H v d)(B:cA K G H)(L:dm d=true):v=iK d/\gT v=true:=by cases d with
|non=>rw[h.non B];exact⟨rfl,rfl⟩
|bl b=>rw[h.bl B];exact⟨rfl,rfl⟩
|int i=>rw[h.int B];exact⟨rfl,rfl⟩
|str x=>rw[h.str B];exact⟨rfl,rfl⟩
|_=>cases L
theorem xQ{xs:List V}{ds:List D}(h:cW K G xs ds)(L:cA K G H)(B:ds.all dm=true):xs=ds.map iK/\xs.all gT=true:=by induction h with
|nil=>exact⟨rfl,rfl⟩
|cons r t M=>
  rw[Ys,Q_]at B;obtain⟨U,N⟩:=RB.flat r.rb L B.1
  grind
def gM:D->Option bG
|.int i=>some (.inl i)
|.str x=>some (.inr x)
|_=>none
def fm(kvs:List (bG×D))(k:bG):Bool:=kvs.any fun kv=>decide (kv.1=k)
def cM(kvs:List (bG×D))(k:bG):Option D:=(kvs.find? fun kv=>decide (kv.1=k)).map (·.2)
def jV(x c:D):Option Bool:=match c with
|.lst ds=>if dm x=true/\ds.all dm=true then some (ds.any fun y=>eqs y x)else none
|.tup ds=>if dm x=true/\ds.all dm=true then some (ds.any fun y=>eqs y x)else none
|.dic kvs=>(gM x).map (fm kvs)
|.str y=>match x with
 |.str z=>some (!(W2 y z 0 y.length 1).isEmpty)
 |_=>none
|_=>none
def gN(x c:D):Option D:=(jV x c).map .bl
def eG(x c:D):Option D:=(jV x c).map fun b=>.bl (! b)
theorem E4{K:W.Frag}{G:GH}{k:bG}{M:List (bG×V)}{L:List (bG×D)}(h:fE K G M L)(d:D)(e:cM L k=some d):∃v,eB M k=some v/\RG K G v d:=by induction h with
|nil=>cases e
|@cons p q M L r t a=>
  obtain⟨Z,U⟩:=p;obtain⟨g,i⟩:=q;obtain⟨f,Y⟩:=r;have B:=f;subst B;by_cases N:Z=k
  .subst N;have:=by simpa[cM,WW]using e
   subst this;exact⟨U,wj rfl,Y⟩
  .have e':cM L k=some d:=by simpa[cM,WW,N]using e
   obtain⟨v,c,b⟩:=a e';exact⟨v,by rw[rL N];exact c,b⟩
theorem QM{K:W.Frag}{G:GH}{k:bG}{M:List (bG×V)}{L:List (bG×D)}(h:fE K G M L)(e:cM L k=none):eB M k=none:=by induction h with
|nil=>rfl
|@cons p q M L r t Y=>
  obtain⟨U,a⟩:=p;obtain⟨c,d⟩:=q;obtain⟨Z,b⟩:=r;have B:=Z;subst B;by_cases N:U=k
  .subst N;simp[cM,WW]at e
  .have e':cM L k=none:=by simpa[cM,WW,N]using e
   rw[rL N];exact Y e'
theorem MD(B:List (bG×D))(k:bG):fm B k=(cM B k).isSome:=by induction B with
|nil=>rfl
|cons p r L=>
  by_cases e:p.1=k
  .simp[fm,cM,WW,e]
  .have h1:fm (p::r) k=fm r k:=by simp[fm,e]
   have M:cM (p::r) k=cM r k:=by simp[cM,WW,e]
   rw[h1,M,L]
theorem yG{K:W.Frag}{G:GH}{H:Hp}{v:V}{d:D}{k:bG}(B:cA K G H)(h:RB K G H v d)(e:gM d=some k):v=kV k:=by cases d with
|int i=>cases e;exact h.int B
|str x=>cases e;exact h.str B
|_=>cases e
section
variable{fc:FE}
def CW(neg:Bool):R2:=fun y x H Q=>∃a o,x=.ref a/\kM H a y o/\Q (.bl (if neg then ! o.isSome else o.isSome)) H
def jp(K:W.Frag)(neg:Bool):R2:=fun x y H Q=>LX K neg x y H Q\/CW neg x y H Q\/∃i j,x=.str i/\y=.str j/\Q (.bl (if neg then !(!(W2 j i 0 j.length 1).isEmpty)else !(W2 j i 0 j.length 1).isEmpty)) H
theorem Eu(M:X.A.units+1<Yp):cX X (Xm .In) (jp X.K false):=cX.or Q7 (cX.or ((fun M=>by intro U s N H y x u v Q I B L h;obtain⟨a,d,rfl,Y,q⟩:=h;cases L;exact C7 M I Y B fun c Z=>⟨.bl _,H,Z,rfl,q⟩) M) (by intro U s N H x y v u Q I L B h;obtain⟨i,j,rfl,rfl,q⟩:=h;obtain⟨t,rfl⟩:=L;obtain⟨b,rfl⟩:=B;exact in_str (dP I q rfl)))
theorem OG(Y:X.A.units+1<Yp):cX X (Xm .NotIn) (jp X.K true):=cX.or (by
   intro b s Z H x y v u Q I B L h;obtain⟨p,f,rfl,M,c,N,q⟩:=h;cases L;rcases M with M|M
   .obtain⟨its,r,pl,hz⟩:=I.list M;refine SeqAt.notIn_listAt _ pl.isList (fun w U=>nZ B c r N w (by simpa using U)) ⟨.bl _,H,I,rfl,?_⟩;rw[show its.toArray.any _=its.any (iE x)by simp,rj r N];exact q
   .obtain⟨its,r,pl,hz⟩:=I.tuple M;refine SeqAt.notIn_tupleAt _ pl (fun w U=>nZ B c r N w (by simpa using U)) ⟨.bl _,H,I,rfl,?_⟩;rw[show its.toArray.any _=its.any (iE x)by simp,rj r N];exact q) (cX.or ((fun Y=>by intro b s Z H y x u v Q I L B h;obtain⟨a,l,rfl,d,q⟩:=h;cases B;exact Nx Y I d L fun k e=>⟨.bl _,H,e,rfl,q⟩) Y) (by intro b s Z H x y v u Q I B L h;obtain⟨i,j,rfl,rfl,q⟩:=h;obtain⟨t,rfl⟩:=B;obtain⟨g,rfl⟩:=L;exact notIn_str ⟨.bl _,H,I,rfl,q⟩))
theorem Ft{K:W.Frag}(M:Bool):gR K (jp K M) (fun x c=>(jV x c).map fun b=>.bl (if M then ! b else b)):=by
 intro G H l j Y t d Q B g f e q;have Z:∀{U:List V}{L:List D}{p:Addr},cW K G U L->j=.ref p->(cL K H p U\/dw K H p U)->dm Y=true->L.all dm=true->d=.bl (if M then !(L.any fun y=>eqs y Y)else L.any fun y=>eqs y Y)->jp K M l j H Q:=fun{U L p} rs e2 hs hf hfs ed=>by
  obtain⟨s,f1⟩:=RB.flat g B hf;obtain⟨r,o⟩:=xQ rs B hfs;refine .inl ⟨p,U,e2,hs,f1,o,q _ G H (Grow.refl B) ?_⟩;have:xG l U=L.any fun y=>eqs y Y:=by unfold xG;rw[r,Zv,s];rfl
  rw[this,ed];exact .scl (.bl _)
 cases t with
|lst L=>
  by_cases N:dm Y=true/\L.all dm=true
  .simp only[jV,Q_d N,Ą]at e;obtain⟨p,U,e2,hs,rs⟩:=f.lst B;exact Z rs e2 (.inl hs) N.1 N.2 (WU e).symm
  .simp only[jV,Q_e N,Ĺ]at e;cases e
|tup L=>
  by_cases N:dm Y=true/\L.all dm=true
  .simp only[jV,Q_d N,Ą]at e;obtain⟨p,U,e2,hs,rs⟩:=f.tup B;exact Z rs e2 (.inr hs) N.1 N.2 (WU e).symm
  .simp only[jV,Q_e N,Ĺ]at e;cases e
|dic a=>simp only[jV]at e;cases i:gM Y with
 |none=>rw[i]at e;cases e
 |some k=>
   rw[i]at e;cases e;obtain⟨p,h,rfl,hs,rs⟩:=f.dic B;refine .inr (.inl ⟨p,eB h k,rfl,by rw[yG B g i];exact .inl ⟨h,k,hs,rfl,rfl⟩,q _ G H (Grow.refl B) ?_⟩);have:(eB h k).isSome=fm a k:=by rw[MD];cases m:cM a k with
   |none=>rw[QM rs m];rfl
   |some d=>obtain⟨v,n,_⟩:=E4 rs d m;rw[n];rfl
   rw[this];exact .scl (.bl _)
|str y=>cases Y with
 |str z=>cases e;exact .inr (.inr ⟨z,y,g.str B,f.str B,q _ G H (Grow.refl B) (.scl (.bl _))⟩)
 |_=>cases e
|_=>cases e
theorem DC{K:W.Frag}:gR K (jp K false) gN:=by
 have h:=Ft (K:=K) false;have e:(fun x c=>(jV x c).map fun b=>D.bl (if false=true then ! b else b))=gN:=by funext x c;unfold gN;cases jV x c <;> rfl
 exact h
theorem Nm{K:W.Frag}:gR K (jp K true) eG:=by
 have h:=Ft (K:=K) true;have e:(fun x c=>(jV x c).map fun b=>D.bl (if true=true then ! b else b))=eG:=by funext x c;unfold eG;cases jV x c <;> rfl
 exact h
theorem sK(B:X.A.units+1<Yp)(N:SB X g m a fa)(M:SB X g m b fb)(L:XM .In b=false:=by rfl):SE X g m (.Compare a [.In] [b] pos) (f2 fa fb gN):=uN (Eu B) DC N M L
theorem l6(B:X.A.units+1<Yp)(N:SB X g m a fa)(M:SB X g m b fb)(L:XM .In b=false:=by rfl):SQ X g m (.Compare a [.In] [b] pos) (cK (f2 fa fb gN)):=mS (Eu B) DC N M L
theorem nM(B:X.A.units+1<Yp)(N:SB X g m a fa)(M:SB X g m b fb)(L:XM .NotIn b=false:=by rfl):SQ X g m (.Compare a [.NotIn] [b] pos) (cK (f2 fa fb eG)):=mS (OG B) Nm N M L
def tm:D->D->Option D
|.non,.non=>some (.bl true)
|_,.non=>some (.bl false)
|_,_=>none
def mB:D->D->Option D
|.non,.non=>some (.bl false)
|_,.non=>some (.bl true)
|_,_=>none
theorem RB.isnon{K:W.Frag}{G:GH}{H:Hp}{v:V}{d:D}(B:cA K G H)(h:RB K G H v d):(v=.non↔d=.non):=by
 constructor
 .intro e;subst e;rcases h with h|⟨a,e,_⟩
  .cases h with
  |scl s=>cases s;rfl
  .cases e
 .intro e;subst e;exact h.non B
theorem US{K:W.Frag}:gR K (fun x y H Q=>y=.non/\Q (.bl (decide (x=.non))) H) tm:=by intro G H a Z M Y d Q B U N e q;have L:=U.isnon B;cases Y with
|non=>refine⟨N.non B,q _ G H (Grow.refl B) ?_⟩;cases M with
 |non=>cases e;rw[Q_c (L.mpr rfl)];exact .scl (.bl _)
 |_=>cases e;rw[Q_b (fun z=>by have:=L.mp z;cases this)];exact .scl (.bl _)
|_=>cases M <;> cases e
theorem Mb{K:W.Frag}:gR K (fun x y H Q=>y=.non/\Q (.bl (! decide (x=.non))) H) mB:=by intro G H a Z M Y d Q B U N e q;have L:=U.isnon B;cases Y with
|non=>refine⟨N.non B,q _ G H (Grow.refl B) ?_⟩;cases M with
 |non=>cases e;rw[Q_c (L.mpr rfl)];exact .scl (.bl _)
 |_=>cases e;rw[Q_b (fun z=>by have:=L.mp z;cases this)];exact .scl (.bl _)
|_=>cases M <;> cases e
theorem kl(N:SB X g m a fa)(M:SB X g m b fb):SQ X g m (.Compare a [.Is] [b] pos) (cK (f2 fa fb tm)):=mS (by
   intro Y s U H x y v u Q I L B h;obtain⟨rfl,q⟩:=h;cases B;refine is_none_gen (dP I q ?_);cases x <;> first
    |(rfl)
    |(obtain⟨t,rfl⟩:=L;rfl)) US N M (lI _)
theorem DX(N:SB X g m a fa)(M:SB X g m b fb):SQ X g m (.Compare a [.IsNot] [b] pos) (cK (f2 fa fb mB)):=mS (by
   intro Y s U H x y v u Q I L B h;obtain⟨rfl,q⟩:=h;cases B;refine isnot_none_gen (dP I q ?_);cases x <;> first
    |(rfl)
    |(obtain⟨t,rfl⟩:=L;rfl)) Mb N M (lI _)
end
end DL
section
namespace DL
open PySem PySem.Spec PyProof.Rows L2
variable{X:Cx}{g:GE}{m mb:List Md}{e a b o c:Expr}{f fa fb:FE}{pos pos':Pos}
section
variable{fc:FE}{p1 p2:Pos}{ro:Bool}{x:Str}
def CV:R2:=fun x y H Q=>∃a v,x=.ref a/\kM H a y (some v)/\Q v H
theorem Mc(c:X.A.units+1<Yp):kK X CV:=by
 intro L M m s i H x y v u Q I Z Y h d;obtain⟨a,w,rfl,U,q⟩:=h;cases Z;exact Ã ((fun I g=>by
    rcases g with⟨N,k,e,_,_⟩|⟨N,k,b,e,_,_,_⟩
    .obtain⟨_,_,vs,_,dd⟩:=o4 I.hok e;exact dd.typeIs
    .obtain⟨_,_,xs,_,dd⟩:=qE I.hok e;exact dd.typeIs) I U) PySem.F.slot_dict_getitem.lookup (QI c I U Y fun j l f B=>⟨w,H,f,B,q⟩) d
def bV:D->D->Option D
|.dic kvs,k=>(gM k).bind (cM kvs)
|c,k=>ixD c k
theorem d9(l:X.A.units+1<Yp)(o:SB X g m a fa)(n:SB X g m b fb)(hs:vF b:=by intro _ _;rfl):SE X g m (.Subscript a b pos) (f2 fa fb bV):=yh (by intro G H Z Y s L d Q B N M e q;cases s with
  |dic c=>obtain⟨a,j,rfl,hs,i⟩:=N.dic B;have U:(gM L).bind (cM c)=some d:=e;cases f:gM L with
   |none=>rw[f]at U;cases U
   |some k=>rw[f]at U;obtain⟨v,r,p⟩:=E4 i d U;refine .inl ⟨a,v,rfl,?_,q v G H (Grow.refl B) p⟩;rw[yG B M f,<-r];exact .inl ⟨j,k,hs,rfl,rfl⟩
  |lst h=>exact .inr (xV G H Z Y _ L d Q B N M e q)
  |tup h=>exact .inr (xV G H Z Y _ L d Q B N M e q)
  |str h=>exact .inr (xV G H Z Y _ L d Q B N M e q)
  |_=>cases e) (DQ (kK.or (Mc l) (NE.or (Mf.or Me))) o n hs)
theorem kU:SO X g m (.Dict [] [] pos) fun _=>.ok (.dic []):=PE.imp Qp fun L H Q ⟨r,G,B,q⟩ p hp=>q p G _ (Grow.new B.gok hp _) hp ⟨B.gok.isN hp,.dic cP .nil⟩
def fj(kvs:List (bG×D))(k:bG)(d:D):List (bG×D):=if (kvs.any fun kv=>decide (kv.1=k))=true then kvs.map fun kv=>if kv.1=k then(kv.1,d)else kv else kvs++[(k,d)]
theorem Pn{K:W.Frag}{G:GH}{k:bG}{M:List (bG×V)}{B:List (bG×D)}(h:fE K G M B):(M.any fun L=>decide (L.1=k))=B.any fun L=>decide (L.1=k):=by induction h with
|nil=>rfl
|cons r t N=>rw[Yt,Yt,N,r.1]
theorem DT{K:W.Frag}{G:GH}{M:List (bG×V)}{B:List (bG×D)}{k:bG}{v:V}{d:D}(r:fE K G M B)(h:RG K G v d):fE K G (dA M k v) (fj B k d):=by
 unfold dA fj;rw[Pn r];by_cases L:(B.any fun N=>decide (N.1=k))=true
 .rw[Q_d L,Q_d L];clear L
  induction r with
 |nil=>exact .nil
 |@cons p q M B r t U=>
   refine .cons ?_ U
   grind
 .rw[Q_e L,Q_e L];exact Paired.snoc r ⟨rfl,h⟩
def ff:D->D->D->Option D
|.lst ds,.int k,v=>(i7 ds.length k).map fun j=>.lst (ds.set j v)
|.dic kvs,k,v=>(gM k).bind fun k=>if kvs.length<sizeLine then some (.dic (fj kvs k v))else none
|_,_,_=>none
def D7:V->V->V->Hp->(Hp->Prop)->Prop:=fun o i v H Q=>∃p H',o=.ref p/\kL H p i v H'/\Q H'
theorem Om(N:X.A.units+1<Yp):im X D7:=by intro c s a H o i v d e u Q I L M B h;obtain⟨p,Z,rfl,U,q⟩:=h;cases L;exact QJ N I U M B fun b Y=>⟨Z,Y,q⟩
theorem im.or{t t':mL}(h:im X t)(h':im X t'):im X (fun o i v H Q=>t o i v H Q\/t' o i v H Q):=by
 intro U s B H o i v Y Z u Q I M N L q;rcases q with q|q
 .exact h U s B H o i v Y Z u Q I M N L q
 .exact h' U s B H o i v Y Z u Q I M N L q
theorem NV{K:W.Frag}{G:GH}{H:Hp}{a:Addr}{d k v d':D}{U N:V}{Q:Hp->Prop}(i:cA K G H)(m:Own K G H a d)(f:RB K G H U k)(c:RG K G N v)(e:ff d k v=some d')(q:∀g,OwnO K G (aV H a g) a d'->Q (aV H a g)):DH (.ref a) U N H Q\/D7 (.ref a) U N H Q:=by cases m.ob with
|@lst l b r s=>cases k with
 |int k=>have L:(i7 b.length k).map (fun j=>D.lst (b.set j v))=some d':=e;cases Z:i7 b.length k with
  |none=>rw[Z]at L;cases L
  |some j=>rw[Z]at L;cases L;exact .inl ⟨a,l,k,j,rfl,f.int i,r,by rw[Paired.length s];exact Z,q _ (.lst cP (Paired.st c j s))⟩
 |_=>cases e
|@dic o B r s=>have L:(gM k).bind (fun k=>if B.length<sizeLine then some (D.dic (fj B k v))else none)=some d':=e;cases Y:gM k with
 |none=>rw[Y]at L;cases L
 |some n=>
   rw[Y]at L;have M:(if B.length<sizeLine then some (D.dic (fj B n v))else none)=some d':=L;by_cases h:B.length<sizeLine
   .rw[Q_d h]at M;cases M;have:=Paired.length s;refine .inr ⟨a,_,rfl,?_,q _ (.dic cP (DT s c))⟩;rw[yG i f Y];exact kL.k r (by omega)
   .rw[Q_e h]at M;cases M
def putF(m:List Md)(i:Nat)(fk fv:FE):FS:=fun r=>kA m r (fv r) fun v=>match r[i]? with
|some (some d)=>kA m r (fk r) fun k=>(match ff d k v with
 |some d'=>.nx (r.set i (some d'))
 |none=>.stuck)
|_=>.stuck
theorem kP(i:Nat)(F:X.A.units+1<Yp)(p:m[i]? = some .ow)(P:X.N[i]? = some x)(E:gz X.env.scope x)(I:SB X g m b fb)(J:SE X g m e f)(K:(x==("__debug__" : Str))=false:=by decide)(M:(x==("__classdict__" : Str))=false:=by decide)(O:∀v,ë (.Subscript (.Name x p1) b p2) X.env v=(do
   let ov <-YF [v] (eval (.Name x p1) X.env);let iv <-YF [v,ov] (eval b X.env)
   Zu p2
   YF [v,ov,iv] (setItem ov iv v)
   release [v,ov,iv] []):=by intro _;rfl)(hs:swapsWithSole [.Subscript (.Name x p1) b p2] e pos.line X.env=pure false:=by rfl)(C:swappedStores [.Subscript (.Name x p1) b p2] e X.env=pure none:=by rfl)(n:(XA [.Subscript (.Name x p1) b p2] X.env).map (·.2)=[ë (.Subscript (.Name x p1) b p2) X.env]:=by rfl):SS X g ro mb m (.Assign [.Subscript (.Name x p1) b p2] e pos) (putF m i fb f) m:=by refine⟨rfl,PS.imp (Ng J (Na (gD P E K M) I (im.or Qg (Om F)) O) hs C n) fun D0 q H ⟨r,G,Y,k⟩=>⟨r,G,Y,?_⟩⟩;refine cC (iH Y rfl k) fun v Z vv T H1 c s=>?_;cases h:r[i]? with
|none=>simp only[h]at Z;exact(Z).elim
|some u=>cases u with
 |none=>simp only[h]at Z;exact(Z).elim
 |some d=>simp only[h]at Z;obtain⟨a,n,h2,h3⟩:=(Y.grow c).mut p h;refine⟨_,n,r,T,Y.grow c,?_⟩;refine cC (iH (Y.grow c) rfl (df.gle Z c.ge)) fun z l kv R H2 j t=>?_;cases o:ff d z v with
  |none=>simp only[o]at l;exact(l).elim
  |some Q=>simp only[o]at l;obtain⟨a',B,L,U⟩:=((Y.grow c).grow j).mut p h;rw[n]at B;cases B;exact NV j.ok L t (s.mono j.ge) o fun y w=>l q R _ j.ge (U y Q w)
end
mutual
def cU:D->PyData
|.non=>.none
|.bl b=>.bool b
|.int i=>.int i
|.str x=>.str x
|.tup ds=>.tuple (zkI ds)
|.lst ds=>.list (zkI ds)
|.dic _=>.none
|.obj _ _=>.none
def zkI:List D->List PyData
|[]=>[]
|d::ds=>cU d::zkI ds
end
def dy:Nat->D->Prop
|_,.non=>True
|_,.bl _=>True
|_,.int _=>True
|_,.str x=>PyData.strOk x=true
|0,.tup _=>False
|0,.lst _=>False
|k+1,.tup ds=>∀d∈ds,dy k d
|k+1,.lst ds=>∀d∈ds,dy k d
|_,.dic _=>False
|_,.obj _ _=>False
theorem GJ{k:Nat}{ds:List D}:dy (k+1) (.lst ds)↔∀d∈ds,dy k d:=by simp only[dy]
theorem zu{k:Nat}{ds:List D}:dy (k+1) (.tup ds)↔∀d∈ds,dy k d:=by simp only[dy]
def qt(a b:D):Bool:=ķ (cU a) (cU b)
section
variable{pz:List (Addr×Obj)}{σ:L2.St}{H:Hp}{s:e_}{G:GH}
theorem Ii{k:Nat}(U:∀(d:D)(v:V)(u:a_),dy k d->RG X.K G v d->L2.aT v u->∃L,Reads s.heap u (cU d) L)(ds:List D)(vs:List V)(us:List a_)(h:∀d∈ds,dy k d)(r:cW X.K G vs ds)(q:aK vs us):∃L,ReadsAll s.heap us (zkI ds) L:=by induction r generalizing us with
|nil=>cases q;exact⟨[],.nil⟩
|cons r t B=>cases q with
 |cons N M=>obtain⟨b,Z⟩:=U _ _ _ (h _ j_) r N;obtain⟨a,Y⟩:=B _ (by simp_all) M;exact⟨_,.cons Z Y⟩
theorem wb(I:Inv X pz σ H s)(M:cA X.K G H):∀(k:Nat)(d:D)(v:V)(u:a_),dy k d->RB X.K G H v d->L2.aT v u->∃U,Reads s.heap u (cU d) U:=by
 intro k
 induction k with
|zero=>intro d v u L r B;cases d with
 |non=>rw[r.non M]at B;cases B;exact⟨_,.none⟩
 |bl b=>rw[r.bl M]at B;cases B;exact⟨_,.bool b⟩
 |int i=>rw[r.int M]at B;obtain⟨t,rfl⟩:=B;exact⟨_,.int i t⟩
 |str x=>rw[r.str M]at B;obtain⟨t,rfl⟩:=B;exact⟨_,.str x t⟩
 |tup _=>unfold dy at L;exact L.elim
 |lst _=>unfold dy at L;exact L.elim
 |dic _=>unfold dy at L;exact L.elim
 |obj _ _=>unfold dy at L;exact L.elim
|succ k y=>intro d v u L r B;cases d with
 |non=>rw[r.non M]at B;cases B;exact⟨_,.none⟩
 |bl b=>rw[r.bl M]at B;cases B;exact⟨_,.bool b⟩
 |int i=>rw[r.int M]at B;obtain⟨t,rfl⟩:=B;exact⟨_,.int i t⟩
 |str x=>rw[r.str M]at B;obtain⟨t,rfl⟩:=B;exact⟨_,.str x t⟩
 |tup w=>obtain⟨a,Y,rfl,Z,e⟩:=r.tup M;cases B;obtain⟨N,c,f,_⟩:=I.tuple Z;obtain⟨o,g,l,n,j⟩:=f;obtain⟨U,h⟩:=Ii (k:=k) (fun d v u q p m=>y d v u q p.rb m) w Y N (zu.mp L) e c;refine⟨U,?_⟩;unfold cU;exact .tuple g l j (by simpa using h)
 |lst w=>obtain⟨a,Y,rfl,Z,e⟩:=r.lst M;cases B;obtain⟨N,c,f,_⟩:=I.list Z;obtain⟨o,g,l,n,j⟩:=f.isList;obtain⟨U,h⟩:=Ii (k:=k) (fun d v u q p m=>y d v u q p.rb m) w Y N (GJ.mp L) e c;refine⟨a::U,?_⟩;unfold cU;exact .list g l j (by simpa using h)
 |dic _=>unfold dy at L;exact L.elim
 |obj _ _=>unfold dy at L;exact L.elim
theorem zt{k:Nat}(B:∀d,dy k d->Xk (cU d)=true/\Xx (cU d)<=k):∀ds:List D,(∀d∈ds,dy k d)->ZS (zkI ds)=true/\ă (zkI ds)<=k
|[],_=>by unfold zkI ZS ă;exact⟨rfl,Xe _⟩
|d::ds,h=>by obtain⟨Y,U⟩:=B d (h d j_);obtain⟨N,M⟩:=zt B ds fun x L=>h x (l_ _ L);unfold zkI ZS ă;rw[Y,N];exact⟨rfl,Nat.max_le.mpr ⟨U,M⟩⟩
theorem MX:∀(k:Nat)(d:D),dy k d->Xk (cU d)=true/\Xx (cU d)<=k:=by
 intro k
 induction k with
|zero=>intro d B;cases d with
 |non=>unfold cU Xk Xx;grind
 |bl b=>unfold cU Xk Xx;grind
 |int i=>unfold cU Xk Xx;grind
 |str x=>unfold dy at B;unfold cU Xk Xx;simp_all
 |tup _=>unfold dy at B;exact B.elim
 |lst _=>unfold dy at B;exact B.elim
 |dic _=>unfold dy at B;exact B.elim
 |obj _ _=>unfold dy at B;exact B.elim
|succ k M=>intro d B;cases d with
 |non=>unfold cU Xk Xx;grind
 |bl b=>unfold cU Xk Xx;grind
 |int i=>unfold cU Xk Xx;grind
 |str x=>unfold dy at B;unfold cU Xk Xx;simp_all
 |tup L=>
   obtain⟨U,N⟩:=zt M L (zu.mp B);unfold cU Xk Xx
   grind
 |lst L=>
   obtain⟨U,N⟩:=zt M L (GJ.mp B);unfold cU Xk Xx
   grind
 |dic _=>unfold dy at B;exact B.elim
 |obj _ _=>unfold dy at B;exact B.elim
theorem wo{d:D}(h:dy 60 d):ņ (cU d)=true:=by obtain⟨a,b⟩:=MX 60 d h;unfold ņ;rw[a,Q_c (O_ b (by decide))];rfl
end
section
variable{fc:FE}
def pe(a b:D):Bool:=dm a&&dm b&&lW (iK a) (iK b)
open Classical in
def ja(a b:D):Option Bool:=if pe a b=true then some (eqs a b)else if dy 60 a/\dy 60 b then some (qt a b)else none
def eqD(a b:D):Option D:=(ja a b).map .bl
def neD(a b:D):Option D:=(ja a b).map fun c=>.bl (! c)
theorem PC{a b:D}(h:pe a b=false)(L:dy 60 a)(B:dy 60 b):ja a b=some (qt a b):=by unfold ja;simp_all
theorem Ag{a b:D}(h:pe a b=true):ja a b=some (eqs a b):=by unfold ja;rw[Q_d h]
@[simp] theorem eqB_int(a b:Int):ja (.int a) (.int b)=some (a==b):=Ag rfl
@[simp] theorem eqB_str(a b:Str):ja (.str a) (.str b)=some (a==b):=Ag rfl
@[simp] theorem eqB_non_int(b:Int):ja .non (.int b)=some false:=Ag rfl
theorem HL{a b:D}(h:lW (iK a) (iK b)=true)(L:dm a=true)(B:dm b=true):decide (iK a=iK b)=eqs a b:=by
 cases a <;> cases b <;> first
  |grind
  |grind
  |exact Q_f (h) y_
  |exact zV
  |exact yI
  |exact zW
  |rfl
  |simp[iK,eqs,ii]
def zP(K:W.Frag)(neg:Bool):R2:=fun x y H Q=>∃(G:GH)(d1 d2:D),cA K G H/\RB K G H x d1/\RB K G H y d2/\dy 60 d1/\dy 60 d2/\Q (.bl (if neg then ! qt d1 d2 else qt d1 d2)) H
theorem Ih(a:X.A.units+64<Yp):cX X (Xm .Eq) (zP X.K false):=by intro g s f H x y v u Q I U N h;obtain⟨G,e,d,M,Z,Y,L,B,q⟩:=h;obtain⟨j,c⟩:=wb I M 60 e x v L Z U;obtain⟨i,b⟩:=wb I M 60 d y u B Y N;exact SeqAt.compareEq_shaped c b (wo L) (wo B) a ⟨.bl _,H,I,rfl,q⟩
theorem eq_cases{a b:D}{c:Bool}(h:ja a b=some c):(pe a b=true/\c=eqs a b)\/(dy 60 a/\dy 60 b/\c=qt a b):=by
 unfold ja at h
 grind
theorem Dv{K:W.Frag}:gR K (fun x y H Q=>LY x y H Q\/zP K false x y H Q) eqD:=by intro G H i h Z Y d Q L U N e q;unfold eqD at e;cases M:ja Z Y with
|none=>rw[M]at e;cases e
|some c=>
  rw[M]at e;cases e;rcases eq_cases M with⟨B,rfl⟩|⟨b,a,rfl⟩
  .unfold pe at B;rw[Q_,Q_]at B;obtain⟨g,_⟩:=RB.flat U L B.1.1;obtain⟨f,_⟩:=RB.flat N L B.1.2;refine .inl ⟨by simp_all,?_⟩;rw[g,f,HL B.2 B.1.1 B.1.2];exact q _ G H (Grow.refl L) (.scl (.bl _))
  .exact .inr ⟨G,Z,Y,L,U,N,b,a,q _ G H (Grow.refl L) (.scl (.bl _))⟩
theorem U2{K:W.Frag}:gR K (fun x y H Q=>LW x y H Q\/zP K true x y H Q) neD:=by intro G H i h Z Y d Q L U N e q;unfold neD at e;cases M:ja Z Y with
|none=>rw[M]at e;cases e
|some c=>
  rw[M]at e;cases e;rcases eq_cases M with⟨B,rfl⟩|⟨b,a,rfl⟩
  .unfold pe at B;rw[Q_,Q_]at B;obtain⟨g,_⟩:=RB.flat U L B.1.1;obtain⟨f,_⟩:=RB.flat N L B.1.2;refine .inl ⟨by simp_all,?_⟩;rw[g,f,HL B.2 B.1.1 B.1.2];exact q _ G H (Grow.refl L) (.scl (.bl _))
  .exact .inr ⟨G,Z,Y,L,U,N,b,a,q _ G H (Grow.refl L) (.scl (.bl _))⟩
theorem gG(B:X.A.units+64<Yp)(M:SB X g m a fa)(L:SB X g m b fb):SE X g m (.Compare a [.Eq] [b] pos) (f2 fa fb eqD):=uN (cX.or Ea (Ih B)) Dv M L (lI _)
theorem dQ(B:X.A.units+64<Yp)(M:SB X g m a fa)(L:SB X g m b fb):SQ X g m (.Compare a [.Eq] [b] pos) (cK (f2 fa fb eqD)):=mS (cX.or Ea (Ih B)) Dv M L (lI _)
theorem l5(B:X.A.units+64<Yp)(e:SB X g m a fa)(d:SB X g m b fb):SQ X g m (.Compare a [.NotEq] [b] pos) (cK (f2 fa fb neD)):=mS (cX.or U6 ((fun B=>by intro n s l H x y v u Q I Y U h;obtain⟨G,k,j,N,c,Z,M,L,q⟩:=h;obtain⟨p,i⟩:=wb I N 60 k x v M c Y;obtain⟨o,f⟩:=wb I N 60 j y u L Z U;exact SeqAt.compareNe_shaped i f (wo M) (wo L) B ⟨.bl _,H,I,rfl,q⟩) B)) U2 e d (lI _)
def yJ(fa fb fc:FE)(k k':D->D->Option D):FE:=fun r=>(fa r).bind fun x=>(fb r).bind fun y=>(eN (k x y)).bind fun z=>(eN (tK z)).bind fun c=>if c=true then(fc r).bind fun w=>eN (k' y w)else .ok (.bl false)
def DY(K:W.Frag):R2:=fun x y H Q=>∃l b xs zs,x=.ref l/\y=.ref b/\cL K H l xs/\cL K H b zs/\xs.length+zs.length<=sizeLine/\∀p,H p=none->Q (.ref p) (aV H p (.lst (xs++zs)))
theorem Gm:cX X (Y1 .Add) (DY X.K):=by
 intro O s E H x y v u Q I o m h;obtain⟨l,b,J,G,rfl,rfl,w,z,T,q⟩:=h;cases o;cases m;obtain⟨N,r,p,_⟩:=I.list w;obtain⟨B,d,M,_⟩:=I.list z;have R:=r.length;have P:=d.length;obtain⟨⟨C,A,j,k⟩,f,i,n,g⟩:=p.isList;obtain⟨⟨BT,Y,Z,U⟩,a,L,t,c⟩:=M.isList;simp only at i g L c;subst i g L c;have e:N.toArray++B.toArray=(N++B).toArray:=by simp
 refine ú ⟨_,f,rfl⟩ ⟨_,a,rfl⟩ noFill_list_add seq_list_add PySem.F.slot_list_add PySem.F.entry_list_add (PySem.F.args_list_add_2 _ _) (list_addW _ _ N.toArray B.toArray n t A Y k U (by simp;omega)) ⟨f,a,?_⟩;rw[e];exact⟨.ref _,_,I.lnew (t':=s.toks) (r.append d) (by rw[M_];omega),rfl,q _ I.fresh⟩
def addA:D->D->Option D
|.int a,.int b=>some (.int (a+b))
|.str a,.str b=>if a.length+b.length<=sizeLine then some (.str (a++b))else none
|.lst a,.lst b=>if a.length+b.length<=sizeLine then some (.lst (a++b))else none
|.tup (x::a),.tup b=>if (x::a).length+b.length<=sizeLine then some (.tup (x::a++b))else none
|_,_=>none
theorem Fj{K:W.Frag}:gR K (fun x y H Q=>(∃i j,x=.int i/\y=.int j/\Q (.int (i+j)) H)\/(∃i j,x=.str i/\y=.str j/\i.length+j.length<=sizeLine/\Q (.str (i++j)) H)\/DY K x y H Q\/DZ K x y H Q) addA:=by
 intro G H o n s r d Q B L U e q;unfold addA at e;split at e
 .cases e;exact .inl ⟨_,_,L.int B,U.int B,q _ G H (Grow.refl B) (.scl (.int _))⟩
 .split at e
  .rename_i hl;cases e;exact .inr (.inl ⟨_,_,L.str B,U.str B,hl,q _ G H (Grow.refl B) (.scl (.str _))⟩)
  .cases e
 .split at e
  .rename_i hl;cases e;obtain⟨a,Z,rfl,f,N⟩:=L.lst B;obtain⟨b,Y,rfl,c,M⟩:=U.lst B;have l:=Paired.length N;have k:=Paired.length M;exact .inr (.inr (.inl ⟨a,b,Z,Y,rfl,rfl,f,c,by omega,fun p g=>q _ _ _ (Grow.newF B g (.lst (.inl cP) (Paired.app N M))) (.ref fZ)⟩))
  .cases e
 .split at e
  .rename_i x0 a0 b0 hl;cases e;rcases L with L|⟨t,_,h⟩
   .obtain⟨a,Z,rfl,f,N⟩:=L.tup B;obtain⟨b,Y,rfl,c,M⟩:=U.tup B;have l:=Paired.length N;have k:=Paired.length M;refine .inr (.inr (.inr ⟨a,b,Z,Y,rfl,rfl,f,c,?_,by omega,fun m=>?_,fun _ p g=>q _ _ _ (Grow.newF B g (.tup (.inl cP) (Paired.app N M))) (.ref fZ)⟩))
    .rintro rfl
     cases N
    .subst m;cases M;refine q _ G H (Grow.refl B) ?_;rw[T_];exact L
   .cases h.ob
  .cases e
 .cases e
theorem dM(L:SB X g m a fa)(B:SB X g m b fb):SE X g m (.BinOp a .Add b pos) (f2 fa fb addA):=kO (cX.or Es (cX.or Jj (cX.or Gm Gn))) Fj L B
end
end DL
end
namespace DL
open PySem PySem.Spec PyProof.Rows L2
structure DefAt(K:W.Frag)(mg:Str->Option a_)(x:Str)(st:Stmt):Prop where
 ex:∃f fd,mg x=some (.ref f)/\Fun K x x st f fd
structure Callee(P:E_)(w:P_)(K:W.Frag)(mg:Str->Option a_)(base:Heap)(x:Str)(ps:List Str)(ds:List a_)(k:Nat)(ro:Bool)(ms:List Md)(F:List D->Res D):Prop where
 ex:∃f fd,mg x=some (.ref f)/\W.keepIn K (.ref f)=true/\iZ K fd ps ds/\FnOk P w K mg base f8 k f fd ps (nE K ro ms F)
variable{w:P_}{K:W.Frag}
section
variable{P:E_}{mg:Str->Option a_}{base:Heap}
theorem Mq{x:Str}{st:Stmt}{N U:List Str}{k:Nat}{ro:Bool}{ms:List Md}{fs:FS}{m':List Md}(A:DefAt K mg x st)(S:FnScope N U (aA st))(Y:ms.length=U.length)(b:∀(kV Z a:a_)(h:Option Addr)(L e:a_)(us:List a_),us.length=U.length->Zi (W.fnOf x x (bH st) (aS st) (aA st) .none kV Z a h L e) ⟨us,[]⟩=pure (U.zip us))(B:∀(f:Addr)(L:a_)(A:V_)(M:List Env)(s:e_)(H:Hp)(g:GE)(E:XK),Room k (A.deeper (YK x (aA st) s.heap.objs.size f L)) ->il (d4 f8 P w K mg base N x (aA st) f L A M s H E).nox g ro [] (iz N.length ms) (aS st) fs m'):Callee P w K mg base x U [] (k+1) ro ms fun ds=>dI ro (fs (cQ N.length ds)):=by obtain⟨f,d,c,F⟩:=A.ex;exact⟨f,d,c,F.kp,F.binds b,E5 F S Y (B f)⟩
structure DefAtD(K:W.Frag)(mg:Str->Option a_)(x:Str)(st:Stmt)(dds:List a_):Prop where
 ex:∃(f T:Addr)(o:Obj)(n:Nat)(oc:a_)(od:Option Addr)(kV doc pm:a_)(an:Option Addr)(cdv ct:a_)(osl:Array (Option a_)),mg x=some (.ref f)/\K.lookup T=some o/\o.data=.seq dds.toArray n/\K.lookup f=some ⟨oc,od,.func (W.fnOf x x (bH st) (aS st) (aA st) (.ref T) kV doc pm an cdv ct),osl⟩/\W.codeIn K cdv x=true/\W.keepIn K (.ref f)=true
theorem rn{x:Str}{st:Stmt}{N Z:List Str}{k:Nat}{ro:Bool}{ms:List Md}{fs:FS}{m':List Md}{dds ds:List a_}(A:DefAtD K mg x st dds)(S:FnScope N Z (aA st))(h:ms.length=Z.length)(i:Nat)(R:i+ds.length=Z.length)(z:∀(T:Addr)(kV Y a:a_)(c:Option Addr)(M b:a_)(us:List a_),us.length=i->∃e:Option (Array a_)->Sem (List (Str×a_)),Zi (W.fnOf x x (bH st) (aS st) (aA st) (.ref T) kV Y a c M b) ⟨us,[]⟩=seqItems? (.ref T) >>= e/\e (some dds.toArray)=pure (Z.zip (us++ds)))(B:∀(f:Addr)(M:a_)(A:V_)(U:List Env)(s:e_)(H:Hp)(g:GE)(E:XK),Room k (A.deeper (YK x (aA st) s.heap.objs.size f M)) ->il (d4 f8 P w K mg base N x (aA st) f M A U s H E).nox g ro [] (iz N.length ms) (aS st) fs m'):Callee P w K mg base x Z ds (k+1) ro ms fun l=>dI ro (fs (cQ N.length l)):=by
 obtain⟨f,T,o,n,O,J,kV,Y,a,c,M,b,p,F,C,y,r,L,t⟩:=A.ex;refine⟨f,W.fnOf x x (bH st) (aS st) (aA st) (.ref T) kV Y a c M b,F,t,fun s us I v=>?_,?_⟩
 .obtain⟨e,e1,e2⟩:=z T kV Y a c M b us (by rw[M_]at v;omega);exact BindsTo.of_defaults rfl (I _ _ C) y e1 e2
 .have hpl:Z.length<=N.length:=by have:=Q_g YZ S.pre;rw[WY]at this;omega
  refine Dy r L S (fun m H Q E k=>by obtain⟨G,ds,j,d,q⟩:=k;exact d.len.1.trans h) fun A U s H m Q E u w=>?_;obtain⟨G,ds,j,d,q⟩:=w;exact⟨_,(B f M A U s H ⟨G,H,fun _=>none⟩ E u).2.nox,cQ N.length ds,G,wf j d (by omega),Hc q⟩
end
variable{X:Cx}{g:GE}{m:List Md}{e:Expr}{es:List Expr}{fl:aL->Res (List D)}{p pos:Pos}
section
variable{k:Nat}{ps:List Str}{F:List D->Res D}{dvs:List V}{ds:List a_}{dds:List D}{x:Str}{i:Nat}{ms ms':List Md}
theorem MH(c:Callee X.prog X.w X.K X.mg X.base x ps ds k false ms' F)(i:Room k X.A)(o:jX X g m (e::es) ms fl)(N:ms'=ms++r_ dds.length .sh:=by rfl)(j:Gl X x:=by rfl)(n:aK dvs ds:=by exact .nil)(L:Paired Scl dvs dds:=by exact .nil)(B:(x==("__debug__" : Str))=false:=by decide)(l:i_ (e::es) X.env=(false,eval e X.env)::i_ es X.env:=by rfl)(M:(backTo pos (i_ es X.env)).any (·.1)=false:=by rfl):SE X g m (.Call (.Name x p) (e::es) [] pos) (bM fl dds F):=by
 subst N;obtain⟨f,O,y,u,t,s⟩:=c.ex;refine PE.imp (Gs s i j y u t n mR o B l M) fun E H Q w=>?_;obtain⟨r,G,a,q⟩:=w;refine ⟨r,G,a,?_⟩
 cases U:fl r with
|ok I=>unfold bM at q;rw[U]at q;intro J R P Y h;exact Av Y.ok h L (cC (wl q (yS _)) fun d k v C z Z b=>k v C z (Y.trans Z) b)
|exc x=>unfold bM at q;rw[U]at q;exact q
|stuck=>unfold bM at q;rw[U]at q;exact q
theorem Nu(c:Callee X.prog X.w X.K X.mg X.base x ps ds k true ms' F)(j:Room k X.A)(u:jX X g m (e::es) ms fl)(U:ms'=ms++r_ dds.length .sh:=by rfl)(o:Gl X x:=by rfl)(t:aK dvs ds:=by exact .nil)(L:Paired Scl dvs dds:=by exact .nil)(B:(x==("__debug__" : Str))=false:=by decide)(s:i_ (e::es) X.env=(false,eval e X.env)::i_ es X.env:=by rfl)(N:(backTo pos (i_ es X.env)).any (·.1)=false:=by rfl):SO X g m (.Call (.Name x p) (e::es) [] pos) (mn (bM fl dds F)):=by
 subst U;obtain⟨f,T,E,C,z,y⟩:=c.ex;refine PE.imp (Gs y j o E C z t mR u B s N) fun O H Q w=>?_;obtain⟨r,G,b,q⟩:=w;refine ⟨r,G,b,?_⟩
 cases Y:fl r with
|ok P=>
  have q:=cB q;unfold bM at q;rw[Y]at q;intro R G' H' M i;refine Av M.ok i L (cC (wl q (yS _)) fun d k v J I Z h=>?_);rcases h with⟨a,rfl,n,l⟩|⟨rfl,rfl⟩
  .cases d with
  |non=>exact k.elim
  |_=>exact k a J I (M.trans Z) (M.back n) l
  .exact k.elim
|exc x=>have q:=cB q;unfold bM at q;rw[Y]at q;exact q
|stuck=>have q:=cB q;unfold bM at q;rw[Y]at q;exact q
theorem v_(i:Nat)(U:m[i]? = some .sh:=by rfl)(Z:X.N[i]? = some x:=by rfl)(M:gz X.env.scope x:=by first|exact Or.inl rfl|exact Or.inr (Or.inl rfl)|exact Or.inr (Or.inr rfl))(Y:(x==("__debug__" : Str))=false:=by decide)(B:(x==("__classdict__" : Str))=false:=by decide):SE X g m (.Name x p) fun r=>ie r i:=by refine PE.imp (gD Z M Y B) fun c H Q z=>?_;obtain⟨r,G,L,q⟩:=z;obtain⟨d,e,k⟩:=wa q;obtain⟨v,b,a⟩:=L.sh i d e U;exact⟨v,b,k v G H (Grow.refl L.gok) a⟩
theorem aB(i:Nat)(a:i<m.length:=by decide)(c:X.N[i]? = some x:=by rfl)(Y:gz X.env.scope x:=by first|exact Or.inl rfl|exact Or.inr (Or.inl rfl)|exact Or.inr (Or.inr rfl))(b:(x==("__debug__" : Str))=false:=by decide)(B:(x==("__classdict__" : Str))=false:=by decide) :
  SB X g m (.Name x p) fun r=>ie r i:=by refine PE.imp (gD c Y b B) fun f H Q z=>?_;obtain⟨r,G,L,q⟩:=z;obtain⟨d,e,k⟩:=wa q;have Z:=k_ a;cases h:m[i]with
    |sh=>obtain⟨v,U,M⟩:=L.sh i d e (by simp_all);exact⟨v,U,k v G H (Grow.refl L.gok) M.rb⟩
    |ow=>obtain⟨v,U,M,_⟩:=L.ow i d e (by simp_all);exact⟨_,U,k _ G H (Grow.refl L.gok) (.inr ⟨v,rfl,M⟩)⟩
    |bw=>obtain⟨v,U,M⟩:=L.bw i d e (by simp_all);exact⟨_,U,k _ G H (Grow.refl L.gok) M.rb⟩
end
def q9(osc:YH)(ON:List Str)(sc:YH)(N':List Str)(nl:Nat)(cap:List Nat):Bool:=decide (sc.kind=.function)&&sc.names.all (fun y=>decide (y.2≠.cell))&&sc.names.all (fun y=>decide (y.2≠.local) || decide (sc.names.lookup y.1=some .local)) &&
 sc.names.all (fun y=>decide (y.2≠.free) || (decide (osc.names.lookup y.1=some .cell) || decide (osc.names.lookup y.1=some .free)))&&decide (N'.length=nl+cap.length) &&
 (g_ cap.length).all fun j=>match N'[nl+j]?,ON[cap.getD j 0]? with
 |some x,some y=>decide (x=y)&&decide (sc.names.lookup x=some .free)
 |_,_=>false
theorem wk{X:Cx}{osc:YH}{ON:List Str}{U:YH}{N':List Str}{nl:Nat}{cap:List Nat}(d:X.env.scope=osc)(c:X.N=ON)(h:q9 osc ON U N' nl cap=true):CompSc X U N' nl cap:=by subst d c;unfold q9 at h;simp only[Q_,WZ,Q_i,Bool.or_eq_true]at h;obtain⟨⟨⟨⟨⟨l,k⟩,i⟩,g⟩,f⟩,e⟩:=h;refine⟨l,k,fun y L Z=>(i y L).resolve_left fun z=>z Z,fun y L b=>(g y L).resolve_left fun z=>z b,f,fun j a=>?_⟩;have B:=e j (p_.mpr a);cases M:N'[nl+j]? with
|none=>rw[M]at B;cases B
|some x=>cases Y:X.N[cap.getD j 0]? with
 |none=>rw[M,Y]at B;cases B
 |some y=>rw[M,Y]at B;simp only[Q_,Q_i]at B;exact⟨x,rfl,by rw[B.1],B.2⟩
variable{mb:List Md}{a b:Expr}{f fa fb:FE}{pos':Pos}
section
variable{c:Expr}{fc:FE}
theorem Qe{op B:CmpOp}{R o:R2}{k j:D->D->Option D}(J:cX X (Xm op) R)(L:cX X (Xm B) o)(O:gR X.K R k)(M:gR X.K o j)(ha:SB X g m a fa)(hb:SB X g m b fb)(T:SB X g m c fc)(P:lastMarks [op,B] [b,c]=false:=by with_unfolding_all rfl):SE X g m (.Compare a [op,B] [b,c] pos) (yJ fa fb fc k j):=PE.imp (Qo J L ha hb T P) fun σ H Q h=>by obtain⟨r,G,Z,q⟩:=h;refine ox Z q fun d1 n u Y G2 H2 w A f I=>?_;obtain⟨z,ez,F⟩:=dz (cB I);obtain⟨cc,l,i⟩:=dz (cB F);refine O G2 H2 u Y d1 n z _ w.ok A f ez fun v p H3 N x=>?_;cases z with
    |bl b'=>cases l;refine⟨_,x.bl N.ok,?_⟩;cases cc with
     |false=>exact i _ p H3 (w.trans N) (.scl (.bl _))
     |true=>refine⟨r,p,(Z.grow w).grow N,gE (cB i) (w.trans N) fun d3 E t G4 H4 U y=>?_⟩;obtain⟨d,e,C⟩:=dz E;exact M G4 H4 Y t n d3 d Q U.ok ((f.mono N).mono U) y e fun v G' H' s z=>C v G' H' (((w.trans N).trans U).trans s) z
    |_=>cases l
theorem U4{K:W.Frag}:gR K (lZ fun i j=>V.bl (decide (i<j))) mq:=nY fun _ _=>.bl _
theorem U3{K:W.Frag}:gR K (lZ fun i j=>V.bl (decide (i<=j))) L1:=nY fun _ _=>.bl _
end
theorem LI{K:W.Frag}{h:Heap}{N:Str->Option a_}{x:Str}{st:Stmt}(e:K.In h)(G:h.Ns U_ N){f:Addr}{Z:a_}{Y d:Option Addr}{L:Array (Option a_)}{kV M U B b:a_}(a:W.nsIn K U_ x=some (some (.ref f)))(l:K.lookup f=some ⟨Z,Y,.func (W.fnOf x x (bH st) (aS st) (aA st) .none kV M U d B b),L⟩)(c:W.codeIn K B x=true)(k:W.keepIn K (.ref f)=true):DefAt K N x st:=⟨f,_,W.mg_of e G a,fO l c k⟩
theorem sF{K:W.Frag}{h:Heap}{b:Str->Option a_}{x:Str}{st:Stmt}{dds:List a_}(j:K.In h)(G:h.Ns U_ b){f T:Addr}{Z i:a_}{Y e g:Option Addr}{M B:Array (Option a_)}{n:Nat}{kV N U L d:a_}(a:W.nsIn K U_ x=some (some (.ref f)))(l:K.lookup f=some ⟨Z,Y,.func (W.fnOf x x (bH st) (aS st) (aA st) (.ref T) kV N U e L d),M⟩)(t:K.lookup T=some ⟨i,g,.seq dds.toArray n,B⟩)(c:W.codeIn K L x=true)(k:W.keepIn K (.ref f)=true):DefAtD K b x st dds:=⟨f,T,_,n,Z,Y,kV,N,U,e,L,d,M,W.mg_of j G a,t,rfl,l,c,k⟩
theorem Ur{P:E_}{w:P_}{K:W.Frag}{Z:Str->Option a_}{x p:Str}{st:Stmt}{k:Nat}{F:List D->Res D}{b:Addr}(B:Z x=some (.ref b))(A:DefAt K Z x st)(i:∀(kV U a:a_)(d:Option Addr)(Y c:a_)(us:List a_),us.length=[p].length->Zi (W.fnOf x x (bH st) (aS st) (aA st) .none kV U a d Y c) ⟨us,[]⟩=pure ([p].zip us))(C:∀(f:Addr)(N:Xv),Fun K x x st f N->∀M:Heap,FnOk P w K Z M f8 k f N [p] (nE K false [.sh] F)):∃N:Xv,(∀(s:e_)(u:a_),õ s N ⟨[u],[]⟩ [(p,u)])/\∀M:Heap,K.In M->M.Ns U_ Z->FnOk P w K Z M f8 k b N [p] (nE K false [.sh] F):=by obtain⟨f,N,e,g⟩:=A.ex;rw[B]at e;cases e;refine⟨N,fun s u=>?_,fun M _ _=>C b N g M⟩;obtain⟨l,j,kV,U,a,d,Y,c,h,rfl,m,L⟩:=g.ex;exact .of_eq (i kV U a d Y c [u] rfl)
theorem Uq{l:W.OpenLaw}{k:Nat}{q:E_}{L:List Str}{I:(Str->Option a_)->Heap->Prop}{r:P_->Heap->Prop}{d:DefRec}{K:Params->W.Frag}{x:Str}{F:List D->Res D}(A:l.most=some 63)(M:d.params.defaults=[])(y:Room k è)(E:∀(w:P_)(h:Heap),r w h->(K w.params).In h)(n:∀ns:List Int,ns.length<=63->F [.lst (ns.map .int)]=.ok (.bl true))(C:∀(w:P_)(Y:Str->Option a_)(p:Addr)(h:Heap),(K w.params).In h->h.Ns U_ Y->Y d.name=some (.ref p) ->∃o:Xv,(∀(s:e_)(u:a_),õ s o ⟨[u],[]⟩ [(x,u)])/\∀N:Heap,(K w.params).In N->N.Ns U_ Y->FnOk l.prog w (K w.params) Y N f8 k p o [x] (nE (K w.params) false [.sh] F)):W.WalkO q L I r l.row.toRowW d [] (fun f vs=>PySem.call f vs):=by
 refine L2.lT A (by decide) M y E C (fun w H a ns m P U=>?_) fun _ _ _ _ _ z=>z;have B:∀(l:List Int),Paired Scl (l.map V.int) (l.map D.int):=fun l=>by induction l with
 |nil=>exact .nil
 |cons i l t=>exact .cons (.int i) t
 rcases U with U|U
 .refine⟨fun b=>if b=a then some _ else none,[.lst (ns.map .int)],fun b G j=>?_,.sh (.ref (Q_d rfl)) .nil,?_⟩
  .by_cases e:b=a
   .subst e;have g:=(Q_d rfl).symm.trans j;cases g;exact .lst U (Paired.mono (fun _ _ z=>.scl z) (B ns))
   simp_all
  .rw[n ns m];intro v O J Z c;exact c.bl Z.ok
 .refine⟨fun _=>none,_,fun b G j=>(by cases j),.sh (.kc (.lst (.inr U) (B ns))) .nil,?_⟩;rw[n ns m];intro v O J Z c;exact c.bl Z.ok
section
open AutoSeq1 (wpAny_loadPart')
section
variable{prog:E_}{w:P_}{A:V_}{E:a_->e_->Prop}{s:e_}
theorem Uk{it t:Addr}{i:Nat}{items}{x:a_}{Q:a_->e_->Prop}(B:s.heap.IsTupleIter it t i)(Z:s.heap.IsTuple t items)(Y:items[i]? = some x)(b:∀h',h'.IsTupleIter it t (i+1)->Zt it s.heap h'->Q x { s with heap:=h' }):K_ (G_ prog w) A (YJ (.ref it)) Q E s:=by
 obtain⟨o,M,a,L⟩:=id B;obtain⟨c,N,_,d,U⟩:=Z;refine d_ (Xs B.typeIs F.slot_tuple_iterator_next
  (XO F.slot_tuple_iterator_next B.typeIs F.entry_tuple_iterator_next ?_ (F.args_tuple_iterator_next_1 _)))
 show K_ _ _ (field _ 0 >>= _) _ _ s;refine d_ (Xn M L rfl ?_);refine d_ (Xn M L rfl ?_);refine d_ (XT N U ?_);simp only[Xg,Y];refine d_ (wpAny_setField M L (by simp) (C_ ⟨x,rfl,C_ (b _ ?_ (Zr ..))⟩));exact⟨_,Ď _ M (Obj.isFreed_of_fields (ļ L _)),(Obj.cls_mapFields ..).trans a,by rw[ļ L];simp[ñ]⟩
theorem Ug{it t:Addr}{i:Nat}{items}{Q:a_->e_->Prop}(a:A.handled=none)(B:s.heap.IsTupleIter it t i)(Z:s.heap.IsTuple t items)(Y:items[i]? = none)(b:∀h' e,Heap.ExtBut it s.heap h'->(∃o,h'.get? e=some o/\o.cls=.type "StopIteration")->E (.ref e) { s with heap:=h' }):K_ (G_ prog w) A (YJ (.ref it)) Q E s:=by
 obtain⟨o,M,f,U⟩:=id B;obtain⟨c,L,_,d,N⟩:=Z;unfold YJ;refine d_ (Xs B.typeIs F.slot_tuple_iterator_next
  (XO F.slot_tuple_iterator_next B.typeIs F.entry_tuple_iterator_next ?_ (F.args_tuple_iterator_next_1 _)))
 show K_ _ _ (field (.ref it) 0 >>= _) _ _ s;refine d_ (Xn M U rfl ?_);refine d_ (Xn M U rfl ?_);refine d_ (XT L N ?_);simp only[Xg,Y];refine d_ (ý (d_ (wpAny_setField M U (by simp) ?_)));refine d_ ?_;refine d_ (m:=firstArgMember _ _) (wpAny_of_eq (by first|rfl|grind) ?_);refine ZQ ?_ (by size_fits);refine d_ (wpAny_handled ?_)
 first|grind|rw[a]
 refine d_ (C_ (wpAny_throw ?_));exact b _ _ (((Zr ..).extBut.push _).push _) ⟨_,q_ _ rfl,rfl⟩
end
theorem Mv{prog:E_}{w:P_}{A:V_}(b:A.handled=none)(it l:Addr)(M:l≠it)(N:Array a_):á prog w A it [it,l] N.size (fun i v=>N[i]? = some v) (fun i h=>h.IsTupleIter it l i/\h.IsTuple l N) where
 live:=fun _ _ U=>let⟨o,Y,_⟩:=U.1;⟨o,Y⟩
 frame:=fun _ _ _ U Z=>⟨let⟨o,Y,r⟩:=U.1;⟨o,Z it (by simp) o Y,r⟩,let⟨o,Y,r⟩:=U.2;⟨o,Z l (by simp) o Y,r⟩⟩
 item:=fun i s Q E a U c=>by refine Uk U.1 U.2 (x:=N[i]) (by simp[a]) fun e L B=>?_;exact c _ e s.toks (by simp[a]) ⟨L,U.2.extBut B.extBut M⟩ B
 done:=fun s Q E U d=>Ug b U.1 U.2 (by simp) d
theorem Uj(l:Addr)(M:Array a_)(n:Nat)(B:Option Addr)(a:Array (Option a_)) :
  Meets (å.«enumerate.__new__» ⟨[.type "enumerate",.ref l],[]⟩) (fun _ R s=>s.heap.get? l=some { cls:=.type "tuple",dict:=B,data:=.seq M n,slots:=a } /\
   R (.ok (.ret (.ref (s.heap.push { cls:=.type "tuple_iterator",data:=.fields #[.ref l,.int 0 0] }).objs.size)))
    { s with heap:=(s.heap.push { cls:=.type "tuple_iterator",data:=.fields #[.ref l,.int 0 0] }).push { cls:=.type "enumerate",data:=.fields #[.none,.bool false,.ref s.heap.objs.size,ñ 0,.none,.none] } }):=
 .of_wp fun Y w A R s h=>by
  obtain⟨e,g,d,Z,b⟩:=s;obtain⟨N,h⟩:=h;have L:=sub_enumerate;have U:Heap.IsTuple (Ć ⟨e,g,d,Z,b⟩) l M:=⟨_,N,rfl,n,rfl⟩
  wp_walk using Yq N
  refine wpAny_stack_any fun f=>C_ ?_;split
  .rename_i c _ _ _ _ _;cases(c==Value.type "enumerate")
   .wp_walk using Yq N,XC U
    exact⟨_,rfl,h⟩
   .wp_walk using Yq N,XC U
    exact⟨_,rfl,h⟩
  .wp_walk using Yq N,XC U
   exact⟨_,rfl,h⟩
section
variable{prog:E_}{w:P_}{A:V_}{E:a_->e_->Prop}{s:e_}
theorem T2{l:Addr}{L:Array a_}{Q:a_->e_->Prop}(e:s.heap.IsTuple l L)(h:∀h',IsEnum h' (s.heap.objs.size+1) s.heap.objs.size 0 .none->h'.IsTupleIter s.heap.objs.size l 0->h'.objs.size=s.heap.objs.size+2 ->(∀b o,s.heap.get? b=some o->h'.get? b=some o)->Q (.ref (s.heap.objs.size+1)) { s with heap:=h' }):K_ (G_ prog w) A (call (.type "enumerate") [.ref l]) Q E s:=by
 obtain⟨⟨c,B,f,Y⟩,Z,d,n,a⟩:=e;subst d a;refine callType_new F.called_enumerate (rfl) (F.typeCall_enumerate_1 _) (F.newCall_enumerate_1 _) (fun M=>F.args_object_init_2 M _) F.entry_enumerate_new
  (Uj l L n B Y) ⟨Z,?_⟩
 have N:(s.heap.push { cls:=.type "tuple_iterator",data:=.fields #[.ref l,.int 0 0] }).objs.size=s.heap.objs.size+1:=Xi ..;rw[N];have U:IsEnum ((s.heap.push { cls:=.type "tuple_iterator",data:=.fields #[.ref l,.int 0 0] }).push
   { cls:=.type "enumerate",data:=.fields #[.none,.bool false,.ref s.heap.objs.size,ñ 0,.none,.none] }) (s.heap.objs.size+1) s.heap.objs.size 0 .none:=by
  have:=q_ (s.heap.push { cls:=.type "tuple_iterator",data:=.fields #[.ref l,.int 0 0] })
   (o:={ cls:=.type "enumerate",data:=.fields #[.none,.bool false,.ref s.heap.objs.size,ñ 0,.none,.none] }) rfl
  grind
 refine⟨⟨_,U,rfl⟩,h _ U ⟨_,b_ _ (q_ _ rfl),rfl,rfl⟩ (by rw[Xi,N]) fun b o x=>b_ _ (b_ _ x)⟩
end
theorem HQ{X:Cx}{pz:List (Addr×Obj)}{σ:L2.St}{H:Hp}{s:e_}{h':Heap}{ch:List Addr}{T:Addr}{o:HO}{t':Nat}(I:Inv X pz σ H s)(L:∀b∈ch,eT X pz H b)(k:∀b N,b∉ch->s.heap.get? b=some N->h'.get? b=some N)(d:s.heap.objs.size<=T)(a:dS X.prog X.w (aV H T o) h' T o):Inv X pz σ (aV H T o) { s with heap:=h',toks:=t' }:=by
 have U:H T=none:=I.hok.fresh d;have trk:∀b u,H b=some u->b∉ch:=fun b u e Z=>by rw[(L b Z).1]at e;cases e
 have M:∀b N,s.heap.get? b=some N->b≠T:=fun b N e=>L_ (B_ (x_ e) d);have B:∀b u,H b=some u->aV H T o b=some u:=fun b u e=>by rw[bZ (nA e U)];exact e
 refine I.step (g':=s.gens) (d':=s.drawn) (ch:=ch) (fun b Z=>?_) (fun b N _ _ Y e _=>k b N Y e) (fun b N _ _ Y e _=>⟨N.slots,k b N Y e⟩) (fun b N Y e n=>by rw[bZ (M b N e)];exact n)
  (fun b N Y e=>⟨N,k b N Y e⟩) (fun b f e=>B b _ e) (fun b N u e=>B b _ e) (fun b h e=>⟨#[],by rw[B b _ e];simp⟩) (fun m g=>?_) (fun b u e=>?_) I.bare
 .obtain⟨z0,z1,z2,z3,z4,z5⟩:=L b Z;exact⟨z3,z1,z4,z5⟩
 .obtain⟨N,es,ep,ho,r⟩:=g;exact⟨N,es,ep,k _ N (fun Z=>(L _ Z).2.1 rfl) ho,r⟩
 .by_cases Z:b=T
  .subst Z;rw[cP]at e;cases e;exact a
  .rw[bZ Z]at e;refine(I.hok b u e).stay (fun c v Y q=>k c v ?_ q) (fun c q=>B c _ q) fun c f q=>B c _ q;rcases Y with z|z
   .rw[z];exact trk b u e
   .exact trk c _ z
def oY(sq:Hp->List V->Prop):It:=⟨fun i H=>∃xs x,sq H xs/\xs[i]? = some x,fun i H x H'=>∃p v,H p=none/\x=.ref p/\H'=aV H p (.tup [.int i,v])/\∀xs,sq H xs->xs[i]? = some v,fun i H=>∃xs,sq H xs/\xs.length=i⟩
theorem OI{P:E_}{w:P_}{H:Hp}{h:Heap}{T:Addr}{i:Nat}{B:Tok}{x:a_}{v:V}(L:h.get? T=some { cls:=.type "tuple",data:=.seq #[.int i B,x] })(r:L2.aT v x):dS P w H h T (.tup [.int i,v]):=⟨by show 2<=sizeLine;decide,_,.cons ⟨B,rfl⟩ (.cons r .nil),⟨_,L,rfl,0,rfl⟩,_,L,rfl⟩
def gw(K:W.Frag)(t:Bool)(a:Addr)(H:Hp)(xs:List V):Prop:=match t with
|false=>cL K H a xs
|true=>dw K H a xs
def mz(t:Bool)(a u:Addr)(i:Nat)(h:Heap):Prop:=match t with
|false=>h.IsListIter u a i
|true=>h.IsTupleIter u a i
def nF(t:Bool)(a:Addr)(xs:Array a_)(h:Heap):Prop:=match t with
|false=>h.IsList a xs
|true=>h.IsTuple a xs
theorem pH{t:Bool}{a u:Addr}{i:Nat}{h:Heap}(e:mz t a u i h):∃o,h.get? u=some o/\∀v,o.data≠.cell v:=by cases t <;> (obtain⟨o,B,M,L⟩:=e;simp_all)
theorem pV{t:Bool}{a u:Addr}{i:Nat}{h h':Heap}(e:mz t a u i h)(k:∀o,h.get? u=some o->h'.get? u=some o):mz t a u i h':=by cases t <;> (obtain⟨o,B,r⟩:=e;exact⟨o,k o B,r⟩)
theorem Pi{t:Bool}{a:Addr}{xs:Array a_}{h h':Heap}(e:nF t a xs h)(k:∀o,h.get? a=some o->h'.get? a=some o):nF t a xs h':=by cases t <;> (obtain⟨o,B,r⟩:=e;exact⟨o,k o B,r⟩)
section
variable{X:Cx}{pz:List (Addr×Obj)}{σ:L2.St}{H:Hp}{s:e_}{t:Bool}{a u:Addr}{xs ys:List V}{i:Nat}
theorem uU(I:Inv X pz σ H s)(hq:gw X.K t a H xs):∃B:List a_,aK xs B/\nF t a B.toArray s.heap:=by cases t with
|false=>obtain⟨B,L,p,M⟩:=I.list hq;exact⟨B,L,p.isList⟩
|true=>obtain⟨B,L,p,M⟩:=I.tuple hq;exact⟨B,L,p⟩
theorem o5(I:Inv X pz σ H s)(hc:X.calm=true)(hq:gw X.K t a H xs)(B:a≠u)(hi:mz t a u i s.heap):∃(its:List a_)(St:Nat->Heap->Prop),aK xs its/\á X.prog X.w X.A.in1 u [u,a] its.toArray.size (fun i v=>its.toArray[i]? = some v) St/\St i s.heap/\∀j h',St j h'->mz t a u j h':=by obtain⟨its,rv,p⟩:=uU I hq;have hh:X.A.in1.handled=none:=I.ok.hd hc;cases t with
|false=>exact⟨its,_,rv,Draws.list hh u a B its.toArray,⟨hi,p⟩,fun j h' st=>st.1⟩
|true=>exact⟨its,_,rv,Mv hh u a B its.toArray,⟨hi,p⟩,fun j h' st=>st.1⟩
theorem zx(I:Inv X pz σ H s)(L:gw X.K t a H xs)(B:gw X.K t a H ys):xs=ys:=by cases t with
|false=>exact I.list_inj L B
|true=>exact I.tuple_inj L B
theorem pY(I:Inv X pz σ H s)(M:gw X.K t a H xs):a<s.heap.objs.size:=by obtain⟨B,N,p⟩:=uU I M;cases t <;> (obtain⟨o,L,_⟩:=p;exact x_ L)
end
theorem JW{P:E_}{w:P_}{K:W.Frag}{n:List Expr}{k:Nat}{C:Pos}{t:Bool}(a it e:Addr)(L:e≠it)(U:a≠it)(IO:e≠a):Turn P w K (.Tuple n k C) (oY (gw K t a)) [e,it] e (fun i h=>(∃N,IsEnum h e it i N)/\mz t a it i h) where
 mem:=by simp
 obj:=fun i h f b c=>by
  obtain⟨⟨N,d⟩,j⟩:=f;rcases I_.mp c with rfl|c
  .exact⟨_,d,fun v z=>by have z':Data.fields _=Data.cell v:=z;cases z'⟩
  .rw[w_.mp c];exact pH j
 keep:=fun i h h' f kk=>by obtain⟨⟨N,d⟩,j⟩:=f;exact⟨⟨N,kk e (by simp) _ d⟩,pV j fun o q=>kk it (by simp) o q⟩
 item:=by
  intro X m G R Q i pz s σ H E I A f O;subst m G R;obtain⟨xs,x,r,l⟩:=O;obtain⟨⟨N,d⟩,j⟩:=f;obtain⟨g,St,p,D1,T,f1⟩:=o5 I Q r U j;obtain⟨o1,Cl,_⟩:=pH j;have J:i<g.toArray.size:=by have:=(c_.mp l).1;rw[D_,<-p.length];exact this
  refine wpAny_pyNext_enum_itemD D1 d T J L (by simp[L,IO]) fun y h' tk m ho BT hT hsz hk=>?_;refine⟨_,rfl,wpAny_letOwnedTupleGo_enum ho fun M Z B=>?_⟩;obtain⟨u,hu,ru⟩:=p.get l;have F:y=u:=by
   have:g[i]? = some y:=by simpa using m
   rw[hu]at this;exact(WU this).symm
  subst F;have Id:s.heap.objs.size≠e:=Xu (x_ d);have Y:M.get? s.heap.objs.size=some { cls:=.type "tuple",data:=.seq #[.int i tk,y] }:=(B.2 _ Id).trans hT;refine⟨.ref s.heap.objs.size,aV H s.heap.objs.size (.tup [.int i,x]),HQ (s:=s) (h':=M) (t':=tk+1) (ch:=[e,it]) I A (fun b ob c q=>?_) (o_ _) (OI Y ru),rfl,⟨_,x,I.hok.fresh (o_ _),rfl,rfl,fun ys F=>by rw[zx I F r];exact l⟩,⟨⟨_,by simpa using Z⟩,pV (f1 _ _ BT) fun o q=>(B.2 _ (X6 L)).trans q⟩,fun b c=>?_⟩
  .have hbe:b≠e:=fun z=>c (by simp[z]);exact(B.2 b hbe).trans (hk b ob hbe (fun z=>c (by simp[z])) q)
  .rw[bZ ?_]
   .exact(A b c).1
   .rcases I_.mp c with rfl|c
    .exact L_ (x_ d)
    .rw[w_.mp c];exact L_ (x_ Cl)
 done:=by
  intro X m G R Q i pz s σ H E I A f O;subst m G R;obtain⟨xs,r,l⟩:=O;obtain⟨⟨N,d⟩,j⟩:=f;obtain⟨g,St,p,D1,T,f1⟩:=o5 I Q r U j;obtain⟨f0,f1,f2,f3,f4,f5⟩:=A it (by simp);have hn:g.toArray.size=i:=by rw[D_,<-p.length];exact l
  exact wpAny_pyNext_enum_endD D1 d (by rw[hn];exact T) fun h' eb=>⟨rfl,I.turned (t':=s.toks) (fun b o c q=>eb b o c q) f0 f1 f3 f4 f5⟩
 self:=fun _ _ _ _ _ f h=>let⟨⟨_,d⟩,_⟩:=f;ZT d h
end
def oq:D->Option String
|.non=>some "NoneType"
|.bl _=>some "bool"
|.int _=>some "int"
|.str _=>some "str"
|.tup _=>some "tuple"
|.lst _=>some "list"
|.dic _=>some "dict"
|.obj _ _=>none
def hV(t T:String):Bool:=t==T || (t == "bool" && T == "int")
def oJ(T:String)(d:D):Option D:=(oq d).map fun t=>.bl (hV t T)
def VF(K:W.Frag)(x:V)(H:Hp)(t:String):Prop:=match x with
|.non=>t = "NoneType"
|.bl _=>t = "bool"
|.int _=>t = "int"
|.str _=>t = "str"
|.ref p=>(t = "list"/\∃xs,cL K H p xs)\/(t = "tuple"/\∃xs,dw K H p xs)\/(t = "dict"/\∃kvs,Rd H p (.dK kvs))
|_=>False
variable{p2:Pos}
theorem Pt:fT X (.builtin "isinstance") (fun xs H Q=>∃x t T b,xs=[x,.ty T]/\VF X.K x H t/\W.kitOne X.K (.type t) (.type T)=some b/\Q (.bl b) H):=by
 intro c s Z H xs k Q I r h;obtain⟨x,t,T,b,rfl,B,e,q⟩:=h;obtain⟨u,j,rfl,L,a⟩:=Ee r;cases a;have fin:∀N,EP X c Z Q _ { s with toks:=N }:=fun N=>⟨.bl b,H,I.tok N,rfl,q⟩
 cases x with
|non=>cases L;cases(B);exact W.kia_one W.kitx_none I.kIn True.intro e (by simp_all) fin
|bl y=>cases L;cases(B);exact W.kia_one W.kitx_bool I.kIn True.intro e (by simp_all) fin
|int i=>obtain⟨t,rfl⟩:=L;cases B;exact W.kia_one W.kitx_int I.kIn True.intro e (by simp_all) fin
|str i=>obtain⟨t,rfl⟩:=L;cases B;exact W.kia_one W.kitx_str I.kIn True.intro e (by simp_all) fin
|ref p=>
  cases L;rcases B with⟨rfl,xs,M⟩|⟨rfl,xs,M⟩|⟨rfl,d,M⟩
  .obtain⟨its,_,pl,_⟩:=I.list M;obtain⟨o,U,Y,_⟩:=pl.isList;exact W.kia_one W.kitx_list I.kIn ⟨o,U,Y⟩ e (by grind) fin
  .obtain⟨its,_,pl,_⟩:=I.tuple M;obtain⟨o,U,Y,_⟩:=pl;exact W.kia_one W.kitx_tuple I.kIn ⟨o,U,Y⟩ e (by grind) fin
  .obtain⟨_,_,vs,_,pp⟩:=(M.ok I.hok)
   obtain⟨o,l,m,g,f,_⟩:=pp;exact W.kia_one W.kitx_dict I.kIn ⟨o,g,f.1⟩ e (by grind) fin
|_=>exact(B).elim
theorem qH(x:Str)(T:String)(u:YE x=some (.type T))(z:∀(d:D)(t:String),oq d=some t->W.kitOne X.K (.type t) (.type T)=some (hV t T))(A:Gl X "isinstance")(y:X.mg "isinstance" = none)(U:Gl X x)(L:X.mg x=none)(C:SB X g m e f)(w:x≠"__name__" := by decide)(E:(x==("__debug__" : Str))=false:=by decide)(B:i_ [e,.Name x p2] X.env=(false,eval e X.env)::i_ [.Name x p2] X.env:=by rfl)(M:i_ [.Name x p2] X.env=(false,eval (.Name x p2) X.env)::i_ [] X.env:=by rfl)(h:(backTo pos (i_ [.Name x p2] X.env)).any (·.1)=false:=by rfl):SE X g m (.Call (.Name "isinstance" p) [e,.Name x p2] [] pos) (f1 f (oJ T)):=by
 refine PE.imp (nq Pt A y (by first|grind|rfl) (i6 C (i6 (OJ (v:=.ty T) U L u rfl w E) ka M) B) (by decide) (by decide) B h) fun J H Q e=>?_;obtain⟨r,G,l,q⟩:=e;refine ⟨r,G,l,cC (cB q) fun d o v I F Y Z=>?_⟩
 obtain⟨O,j,n⟩:=dz o;unfold oJ at j;cases N:oq d with
|none=>simp_all
|some t=>
  rw[N]at j;cases j;exact⟨v,t,T,_,rfl,(by cases d with
    |non=>cases N;rw[Z.non Y.ok];rfl
    |bl b=>cases N;rw[Z.bl Y.ok];rfl
    |int i=>cases N;rw[Z.int Y.ok];rfl
    |str x=>cases N;rw[Z.str Y.ok];rfl
    |tup k=>cases N;obtain⟨a,c,rfl,s,r⟩:=Z.tup Y.ok;exact .inr (.inl ⟨rfl,c,s⟩)
    |lst k=>cases N;obtain⟨a,c,rfl,s,r⟩:=Z.lst Y.ok;exact .inl ⟨rfl,c,s⟩
    |dic k=>cases N;obtain⟨a,c,rfl,s,r⟩:=Z.dic Y.ok;exact .inr (.inr ⟨rfl,c,s⟩)
    |obj _ _=>cases N),z d t N,n _ I F Y (.scl (.bl _))⟩
theorem AD{d:D}{t:String}(h:oq d=some t){P:String->Prop}(Z:P "NoneType")(Y:P "bool")(U:P "int")(N:P "str")(M:P "tuple")(L:P "list")(B:P "dict"):P t:=by cases d <;> cases h <;> assumption
theorem NF(K:W.Frag)(d:D)(t:String)(h:oq d=some t):W.kitOne K (.type t) (.type "int")=some (hV t "int"):=AD (P:=fun t=>W.kitOne K (.type t) _=some (hV t "int")) h (rfl) (rfl) (rfl) (rfl) (rfl) (rfl) (rfl)
theorem O8(K:W.Frag)(d:D)(t:String)(h:oq d=some t):W.kitOne K (.type t) (.type "bool")=some (hV t "bool"):=AD (P:=fun t=>W.kitOne K _ _=some (hV t "bool")) h (rfl) (rfl) (rfl) (rfl) (rfl) (rfl) (rfl)
theorem zI(K:W.Frag)(d:D)(t:String)(h:oq d=some t):W.kitOne K (.type t) (.type "str")=some (hV t "str"):=AD (P:=fun t=>W.kitOne K _ _=some (hV t "str")) h (rfl) (rfl) (rfl) (rfl) (rfl) (rfl) (rfl)
variable{pos2:Pos}
def hZ(lo:Int)(n:Nat):List V:=(g_ n).map fun(i:Nat)=>V.int (lo+(i:Int))
theorem BZ:∀{xs:List V}{us:List a_},xs.length=us.length->(∀(j:Nat) v u,xs[j]? = some v->us[j]? = some u->L2.aT v u)->aK xs us
|[],[],_,_=>.nil
|v::xs,u::us,B,h=>.cons (h 0 v u rfl rfl) (BZ (by simpa using B) fun j a b M L=>h (j+1) a b (by simpa using M) (by simpa using L))
|[],_::_,B,_=>by simp at B
|_::_,[],B,_=>by simp at B
theorem P0{lo:Int}{n:Nat}{B:Array a_}(h:ItemsOf (fun i v=>∃t,v=.int (lo+i*1) t) B n):aK (hZ lo n) B.toList:=by
 refine BZ (by simp[hZ,h.1]) fun j v u L N=>?_;have M:j<n:=by have:=(c_.mp L).1;simpa[hZ]using this
 unfold hZ at L;rw[A_,Xf M]at L;cases L;obtain⟨t,rfl⟩:=h.2 j u (by rw[<-Y8];exact N);exact⟨t,by simp⟩
theorem QR:fT X (.type "range") (fun xs H Q=>∃j,xs=[.int j]/\∀p,H p=none->Q (.ref p) (aV H p (.rng 0 j))):=by intro M s B H xs L Q I r h;obtain⟨j,rfl,q⟩:=h;obtain⟨u,rfl,t,rfl⟩:=fF r;refine call_range_1 ⟨.ref s.heap.objs.size,_,I.laid (o:=.rng 0 j) (fun b o e=>b_ _ e) (o_ _) ⟨_,_,_,q_ _ rfl⟩,rfl,q _ (I.hok.fresh (o_ _))⟩
theorem Tt(a:X.calm=true):fT X (.type "list") (fun xs H Q=>∃p lo hi,xs=[.ref p]/\H p=some (.rng lo hi)/\(-(2^62)<=lo/\lo<2^62/\-(2^62)<=hi/\hi<2^62)/\(hi-lo).toNat<=sizeLine/\∀l,H l=none->Q (.ref l) (aV H l (.lst (hZ lo (hi-lo).toNat)))):=by
 intro n s j H xs k Q I r h;obtain⟨p,lo,hi,rfl,Y,⟨e,d,c,b⟩,U,q⟩:=h;obtain⟨u,rfl,M⟩:=fF r;cases M;obtain⟨t,u,v,Z⟩:=(I.hok p _ Y)
 have g:Z8 lo hi 1=(((hi-lo).toNat)):=by rw[rangeSize_one];split <;> omega
 refine call_list_range (I.ok.hd a) Z (small_one e d c b) g (by rw[H_]at U;omega) fun f m L i N o B=>?_;refine⟨.ref s.heap.objs.size,_,I.laid N (o_ _) (show dS X.prog X.w _ f _ (.lst _)from⟨by unfold hZ;grind,L.toList,i,P0 B,by omega⟩),rfl,q _ (I.hok.fresh (o_ _))⟩
def uB:List D->Option D
|[.int j]=>if-(2^62)<=j/\j<2^62/\j.toNat<=sizeLine then some (.lst (fH 0 j.toNat))else none
|_=>none
theorem E7{H:Hp}{p l:Addr}{o:HO}(h:aV H p o l=none):H l=none/\l≠p:=by
 by_cases e:l=p
 .subst e;rw[cP]at h;cases h
 .rw[bZ e]at h;exact⟨h,e⟩
theorem pM(x:X.calm=true)(L:Gl X "list")(M:X.mg "list" = none)(w:Gl X "range")(u:X.mg "range" = none)(y:iF X g m [a] fl)(hs:i_ [a] X.env=(false,eval a X.env)::i_ [] X.env:=by rfl)(B:i_ [.Call (.Name "range" p2) [a] [] pos2] X.env=(false,eval (.Call (.Name "range" p2) [a] [] pos2) X.env)::i_ [] X.env:=by rfl):SO X g m (.Call (.Name "list" p) [.Call (.Name "range" p2) [a] [] pos2] [] pos) (fC fl uB):=by
 refine PE.imp (nu (Tt x) L M rfl (i6 (nu QR w u boot_range y (by decide) (by decide) hs rfl) ka B) (by decide) (by decide) B rfl) fun A H Q a=>?_;obtain⟨r,G,c,q⟩:=a;refine ⟨r,G,c,cC (cB q) fun E n C z F N f=>?_⟩
 obtain⟨d,e,k⟩:=dz n;unfold uB at e;split at e
 .split at e
  .rename_i j hj;cases e;cases f with
  |cons h t=>
    cases t;refine⟨j,by rw[h.int N.ok],fun p s=>⟨p,0,j,rfl,cP,⟨by decide,by decide,hj.1,hj.2.1⟩,by simpa using hj.2.2,fun l Z=>?_⟩⟩;obtain⟨U,v⟩:=E7 Z;have Y:=Grow.new N.ok s (.rng 0 j);have b:=Grow.new Y.ok Z (.lst (hZ 0 (j-0).toNat));refine k l z _ (N.trans (Y.trans b)) (N.back U) ⟨N.ok.isN U,.lst cP ?_⟩;rw[show j-0=j by omega];unfold hZ fH
    induction(g_ _)with
   |nil=>exact .nil
   |cons i l o=>exact .cons (.scl (.int _)) o
  .cases e
 .cases e
def oX(K:W.Frag)(r:V->List V->Hp->VK->Prop)(k:D->List D->Option D):Prop:=∀(G:GH)(H:Hp)(v:V)(d:D)(vs:List V)(ds:List D)(d':D)(Q:VK),cA K G H->RB K G H v d->Paired (RB K G H) vs ds->k d ds=some d' ->(∀v' G' H',Grow K G H G' H'->RG K G' v' d'->Q v' H')->r v vs H Q
def xw(T:String):D->Bool
|.lst _=>T == "list"
|.tup _=>T == "tuple"
|.dic _=>T == "dict"
|.str _=>T == "str"
|.int _=>T == "int"
|_=>false
theorem NH{K:W.Frag}{G:GH}{H:Hp}{v:V}{d:D}{T:String}(B:cA K G H)(h:RB K G H v d)(t:xw T d=true):xv K T v H:=by cases d with
|lst M=>obtain⟨a,L,rfl,s,r⟩:=h.lst B;exact .inl ⟨Yu t,L,s⟩
|tup M=>
  have e:T = "tuple" := Yu t;rcases h with h|⟨a,rfl,o⟩
  .cases h with
  |scl s=>cases s
  |ref q=>cases B _ _ q with
   |tup r s=>exact .inr (.inl ⟨e,.inr ⟨_,r⟩⟩)
  |kc k=>cases k with
   |tup r s z=>exact .inr (.inl ⟨e,.inl z⟩)
  .cases o.ob
|dic M=>obtain⟨a,L,rfl,s,r⟩:=h.dic B;exact .inr (.inr (.inl ⟨Yu t,.inl ⟨L,s⟩⟩))
|str x=>rw[h.str B];exact Yu t
|int x=>rw[h.int B];exact Yu t
|_=>cases t
def fM(T:String)(fo:FE)(fl:aL->Res (List D))(k:D->List D->Option D):FE:=fun r=>(fo r).bind fun d=>if xw T d=true then(fl r).bind fun ds=>eN (k d ds)else .stuck
section
variable{o:Expr}{fo:FE}{apos cpos:Pos}{ro:Bool}{x name:Str}{T id:String}{R:V->List V->Hp->VK->Prop}{k:D->List D->Option D}
theorem dY(u:ü T)(N:Slot T name id)(BT:typeOf (.builtin id)=pure (.type "method_descriptor"))(Y:jb X id R)(y:oX X.K R k)(w:SB X g m o fo)(A:iF X g m (e::es) fl)(M:Xb o name X.env (eval o X.env)=eval o X.env:=by rfl)(U:((backTo cpos (i_ (e::es) X.env)).all (fun x=>! x.1)&&(Y4 cpos (X7 [] X.env)).all (fun x=>x.1.isSome)&&decide ((e::es).length+([]:List ç).length+(if ([]:List ç).isEmpty then 0 else 1)<30))=true:=by rfl)(L:(apos.endLine==cpos.line)=true:=by rfl)(Z:i_ (e::es) X.env=(false,eval e X.env)::i_ es X.env:=by rfl)(B:(backTo cpos (i_ es X.env)).any (·.1)=false:=by rfl):SE X g m (.Call (.Attribute o name apos) (e::es) [] cpos) (fM T fo fl k):=by
 refine PE.imp (yp u N BT Y w A M U L Z B) fun σ H Q k=>?_;obtain⟨r,G,h,q⟩:=k;refine ⟨r,G,h,cC (cB q) fun d b v P H1 a i=>?_⟩
 by_cases f:xw T d=true
 .rw[Q_d f]at b;refine⟨NH a.ok i f,r,P,h.grow a,gE (cB b) a fun E t l O I c p=>?_⟩;obtain⟨F,C,s⟩:=dz t;exact y O I v d l E F Q c.ok (i.mono c) p C fun n G' J j z=>s n G' J ((a.trans c).trans j) z
 .rw[Q_e f]at b;exact b.elim
def lA(x:V):List V->Option Nat
|[]=>none
|y::xs=>if ii y x=true then some 0 else(lA x xs).map (· + 1)
def jf(x:D):List D->Option Nat
|[]=>none
|y::xs=>if eqs y x=true then some 0 else(jf x xs).map (· + 1)
theorem Ah(x:D):∀ds:List D,lA (iK x) (ds.map iK)=jf x ds
|[]=>rfl
|y::ds=>by show(if ii _ _=true then some 0 else(lA _ _).map _)=if eqs y x=true then some 0 else(jf x ds).map _;rw[Ah x ds];rfl
theorem Hh{x:V}{xs:List V}{us:List a_}{j:Nat}(N:aK xs us)(f:xs.all gT=true)(h:lA x xs=some j):∃U:j<us.length,iE x us[j]=true/\∀i (hi:i<us.length),i<j->iE x us[i]=false:=by induction N generalizing j with
|nil=>cases h
|@cons y u xs us r t M=>
  rw[Ys,Q_]at f;unfold lA at h;by_cases L:ii y x=true
  .rw[Q_d L]at h;cases h;exact⟨Nat.zero_lt_succ _,by show iE x u=true;rw[qS r f.1];exact L,fun i _ B=>Q_f B (Nat.not_lt_zero _)⟩
  .rw[Q_e L]at h;cases e:lA x xs with
  |none=>rw[e]at h;cases h
  |some z=>rw[e]at h;cases h;obtain⟨a,b,c⟩:=M f.2 e;refine⟨Nat.succ_lt_succ a,b,fun i hi B=>?_⟩;cases i with
   |zero=>show iE x u=false;rw[qS r f.1];simpa using L
   |succ i=>exact c i (Ĩ hi) (Ĩ B)
def F9(K:W.Frag):V->List V->Hp->VK->Prop:=fun x vs H Q=>∃p xs y j,x=.ref p/\vs=[y]/\cL K H p xs/\gT y=true/\xs.all gT=true/\lA y xs=some j/\Q (.int j) H
theorem Ig:jb X "list.index" (F9 X.K):=by
 intro pz s O H x R v T Q I l m h;obtain⟨p,P,y,j,rfl,rfl,E,J,k,e,q⟩:=h;cases l;obtain⟨u,rfl,t⟩:=fF m;obtain⟨N,r,z,A⟩:=I.list E;obtain⟨o,n,d,g,f,Z⟩:=z;obtain⟨a,b,c⟩:=Hh r k e;have hl:=r.length;obtain⟨Y,L,M,B⟩:=o;simp only at g f Z;subst g f Z;refine Yb PySem.F.slot_list_index ⟨_,d,rfl⟩ PySem.F.entry_list_index (PySem.F.args_list_index_2 _ _)
  (SeqAt.list_indexAt p N.toArray n none B u (iE y) j (by simpa using a) (by rw[H_]at A;omega) (by simpa using b) (fun i G U=>by simpa using c i (by simpa using G) U)) ⟨d,fun w C=>nZ t J r k w (by simpa using C),⟨.int j,H,I.tok _,⟨_,rfl⟩,q⟩⟩
def MG:D->List D->Option D
|.lst ds,[x]=>if dm x=true/\ds.all dm=true then(jf x ds).map fun j=>.int j else none
|.tup ds,[x]=>if dm x=true/\ds.all dm=true then(jf x ds).map fun j=>.int j else none
|_,_=>none
theorem Ss{K:W.Frag}{G:GH}{H:Hp}{ds:List D}{xs:List V}{x d':D}{v:V}(M:cA K G H)(rs:cW K G xs ds)(N:RB K G H v x)(e:(if dm x=true/\ds.all dm=true then(jf x ds).map fun j=>D.int j else none)=some d'):∃j:Nat,d'=.int j/\gT v=true/\xs.all gT=true/\lA v xs=some j:=by
 by_cases B:dm x=true/\ds.all dm=true
 .rw[Q_d B]at e;obtain⟨Z,f1⟩:=RB.flat N M B.1;obtain⟨Y,U⟩:=xQ rs M B.2;cases L:jf x ds with
 |none=>rw[L]at e;cases e
 |some j=>rw[L]at e;cases e;exact⟨j,rfl,f1,U,by rw[Z,Y,Ah];exact L⟩
 .rw[Q_e B]at e;cases e
def Fu(d:D)(ds:List D):Option D:=match d with
|.lst _=>MG d ds
|_=>none
theorem II{K:W.Frag}:oX K (F9 K) Fu:=by intro G H v d g c h Q B M N e q;cases d with
|lst f=>cases c with
 |nil=>cases e
 |cons x t=>cases t with
  |nil=>cases N with
   |cons U rt=>cases rt;obtain⟨a,L,rfl,s,r⟩:=M.lst B;obtain⟨j,rfl,b,Z,Y⟩:=Ss B r U e;exact⟨a,L,_,j,rfl,rfl,s,b,Z,Y,q _ G H (Grow.refl B) (.scl (.int _))⟩
  |cons _ _=>cases e
|_=>cases e
def pv(xs:List V):Bool:=xs.all fun x=>match x with|.int _=>true|_=>false
theorem Ic{k:Int}{t:Tok}:∀{xs:List V}{us:List a_},aK xs us->pv xs=true->∀u∈us,Ň u (.int k t) (iE (.int k) u)
|_,_,.nil,_=>fun u B=>by cases B
|y::xs,u::us,.cons r rt,f=>fun L B=>by unfold pv at f;rw[Ys,Q_]at f;cases y with
 |int i=>
   obtain⟨M,rfl⟩:=r;rcases I_.mp B with rfl|B
   .exact MeetsSeq.EqGives.int i k M t
   .exact Ic rt f.2 L B
 |_=>exact Q_f f.1 y_
def D5:V->List V->Hp->VK->Prop:=fun x vs H Q=>∃l xs k j,x=.ref l/\vs=[.int k]/\H l=some (.lst xs)/\pv xs=true/\lA (.int k) xs=some j/\Q .non (aV H l (.lst (xs.eraseIdx j)))
theorem AA:jb X "list.remove" D5:=by
 intro A s p H x w v z Q I f g h;obtain⟨l,d,k,j,rfl,rfl,Z,M,e,q⟩:=h;cases f;obtain⟨u,rfl,t,rfl⟩:=fF g;obtain⟨C,L,n,r,E,Y⟩:=I.lstM Z;obtain⟨a,b,c⟩:=Hh r ((fun h=>by unfold pv at h;rw[WZ]at h ⊢;intro x o;have:=h x o;cases x <;> first|rfl|exact Q_f this y_) M) e;have B:∀y,y∈L.toArray->Ň y (.int k t) (iE (.int k) y):=fun y m=>Ic r M y (by simpa using m);have N:L.toArray.size<=sizeLine:=by rw[D_];omega
 refine Yb PySem.F.slot_list_remove ⟨_,Y,rfl⟩ PySem.F.entry_list_remove (PySem.F.args_list_remove_2 _ _) (MeetsSeq.list_remove l L.toArray n (.int k t) (iE (.int k)) B j (by simpa using a) (by simpa using b) (fun i M U=>by simpa using c i (by simpa using M) U) N) ⟨Y,?_⟩;refine⟨.non,_,I.lset (its':=L.eraseIdx j) Z Y ?_ ?_ ?_,rfl,q⟩
 .apply ŀ.mp;simp[Array.toList_eraseIdxIfInBounds]
 .exact aK.eraseIdx j r
 .have:=List.length_eraseIdx_le d j;omega
def isInt:D->Bool
|.int _=>true
|_=>false
theorem Ma{K:W.Frag}{G:GH}{H:Hp}{xs:List V}{ds:List D}(h:cW K G xs ds)(U:cA K G H)(B:ds.all isInt=true):pv xs=true/\xs=ds.map iK:=by induction h with
|nil=>exact⟨rfl,rfl⟩
|@cons x d xs ds r t L=>rw[Ys,Q_]at B;obtain⟨N,M⟩:=L B.2;cases d with
 |int i=>
   have e:=r.int U;subst e;refine⟨?_,by rw[s_,<-M];rfl⟩;unfold pv at N ⊢
   grind
 |_=>exact Q_f B.1 y_
def remD:D->List D->Option D
|.lst ds,[.int k]=>if ds.all isInt=true then(jf (.int k) ds).map fun j=>.lst (ds.eraseIdx j)else none
|_,_=>none
theorem yN{K:W.Frag}:kJ K D5 remD:=by
 intro G H a d b c f Q L U M e q;unfold remD at e;split at e
 .split at e
  .rename_i zs k hall;cases B:jf _ zs with
  |none=>rw[B]at e;cases e
  |some j=>rw[B]at e;cases e;cases U.ob with
   |lst r s=>cases M with
    |cons N t=>cases t;obtain⟨Z,Y⟩:=Ma s L hall;refine⟨a,_,k,j,rfl,by rw[N.int L],r,Z,?_,q _ (.lst cP (Paired.er j s))⟩;rw[Y];exact(Ah _ zs).trans B
  .cases e
 .cases e
def yY(kvs more:List (bG×D)):List (bG×D):=more.foldl (fun acc kv=>fj acc kv.1 kv.2) kvs
theorem Op{K:W.Frag}{G:GH}{L:List (bG×V)}{B:List (bG×D)}{N:List (bG×V)}{M:List (bG×D)}(Y:fE K G L B)(h:fE K G N M):fE K G (pC N L) (yY M B):=by induction Y generalizing N M with
|nil=>exact h
|@cons p q m Z r t U=>have e:=r.1;show fE K G (pC (dA N p.1 p.2) _) _;rw[e];exact U (DT h r.2)
def Gb:V->List V->Hp->VK->Prop:=fun x vs H Q=>∃d o kvs more,x=.ref d/\vs=[.ref o]/\d≠o/\H d=some (.dK kvs)/\Rd H o (.dK more)/\kvs.length+more.length<=sizeLine/\Q .non (aV H d (.dK (pC kvs more)))
theorem Rc:jb X "dict.update" Gb:=by
 intro P s E H x K v O Q I j k h;obtain⟨d,o,c,N,rfl,rfl,Z,i,t,n,q⟩:=h;cases j;obtain⟨u,rfl,l⟩:=fF k;cases l;obtain⟨J,M,Y,g,L⟩:=(I.hok d _ i)
 obtain⟨G,C,U,f,A⟩:=(t.ok I.hok)
 have T:=Paired.length g;have R:=Paired.length f;refine call_meetsIn PySem.F.slot_dict_update L.typeIs PySem.F.entry_dict_update (PySem.F.args_dict_update_2 _ _) (meets_dict_update _ d o Z C) ⟨Y,U,L,A,by omega,fun z B Id r=>?_⟩;have a:=O_ (Ky N c) n;refine⟨.non,_,I.write (by rw[i];exact trivial) (.inl rfl) (fun b u y p=>(r.2 b y).trans p) (let⟨m,_,_,e,_⟩:=B;⟨m,e⟩) (show dS X.prog X.w _ z d (.dK _)from⟨a,M,_,KV.merge f g,B⟩),rfl,q⟩
def updD:D->List D->Option D
|.dic kvs,[.dic more]=>if kvs.length+more.length<=sizeLine then some (.dic (yY kvs more))else none
|_,_=>none
theorem NJ{K:W.Frag}:kJ K Gb updD:=by
 intro G H a d f i j Q c U Y e q;unfold updD at e;split at e
 .split at e
  .cases e;cases U.ob with
  |dic r s=>cases Y with
   |cons N t=>
     cases t;have L:=N.dic c;obtain⟨b,Z,rfl,L,M⟩:=L;have B:a≠b:=by
      rintro rfl
      cases N with
     |scl s=>cases s
     |ref z=>rw[U.un]at z;cases z
     |kc k=>cases k
     have h:=Paired.length s;have g:=Paired.length M;exact⟨a,b,_,Z,rfl,rfl,B,r,L,by omega,q _ (.dic cP (Op M s))⟩
  .cases e
 .cases e
def Vb:V->List V->Hp->VK->Prop:=fun x vs H Q=>∃d kvs,x=.ref d/\vs=[]/\Rd H d (.dK kvs)/\∀p,H p=none->Q (.ref p) (aV H p (.ext fun h=>h.IsValuesView p d))
theorem Re:jb X "dict.values" Vb:=by
 intro n s i H x k v l Q I U Y h;obtain⟨d,Z,rfl,rfl,g,q⟩:=h;cases U;cases Y;obtain⟨j,M,L,m,B⟩:=(g.ok I.hok)
 refine call_meetsIn PySem.F.slot_dict_values B.typeIs PySem.F.entry_dict_values (PySem.F.args_dict_values_1 _) (meets_dict_values _ d M) ⟨⟨L,B⟩,?_⟩;refine⟨.ref s.heap.objs.size,_,I.laid (fun b N e=>b_ _ e) (o_ _) ?_,rfl,q _ (I.hok.fresh (o_ _))⟩;refine⟨⟨_,q_ _ rfl,rfl,rfl⟩,⟨_,q_ _ rfl⟩,fun p o a f=>?_⟩;obtain⟨N,e,c⟩:=a;exact⟨N,f N e,c⟩
theorem Ud(o:X.calm=true):fT X (.type "list") (fun xs H Q=>∃p d N,xs=[.ref p]/\H p=some (.ext fun h=>h.IsValuesView p d)/\Rd H d (.dK N)/\∀l,H l=none->Q (.ref l) (aV H l (.lst (N.map (·.2))))):=by
 intro F s z H xs C Q I r h;obtain⟨p,d,N,rfl,i,n,q⟩:=h;obtain⟨u,rfl,e⟩:=fF r;cases e;obtain⟨g,_,_⟩:=(I.hok p _ i)
 obtain⟨A,Y,BT,b,U⟩:=(n.ok I.hok)
 obtain⟨P,M⟩:=U.dictAt;have G:=Paired.length b;refine W.kdl_call (W.kdl_values) (I.ok.hd o) ⟨g,M⟩ (by omega) fun t E a y f K B=>?_;have L:aK (N.map (·.2)) a.toList:=by refine BZ (by have O:=B.1;grind) fun j v u c e2=>?_;obtain⟨k,m⟩:=B.2 j u (by grind);rw[A_]at c;cases x:N[j]? with
 |none=>grind
 |some J=>
   rw[x]at c;obtain⟨Z,T,R⟩:=Paired.get b m
   grind
 refine⟨.ref s.heap.objs.size,_,I.laid f (o_ _) (show dS X.prog X.w _ t _ (.lst _)from⟨by grind,a.toList,y,L,by omega⟩),rfl,q _ (I.hok.fresh (o_ _))⟩
def uP:D->Option D
|.dic kvs=>some (.lst (kvs.map (·.2)))
|_=>none
theorem Fi{K:W.Frag}{G:GH}:∀{L:List (bG×V)}{B:List (bG×D)},fE K G L B->cW K G (L.map (·.2)) (B.map (·.2))
|_,_,.nil=>.nil
|_,_,.cons r t=>.cons r.2 (Fi t)
theorem Er(y:X.calm=true)(x:Gl X "list")(w:X.mg "list" = none)(u:SB X g m o fo)(L:Xb o "values" X.env (eval o X.env)=eval o X.env:=by rfl)(B:(apos.endLine==cpos.line)=true:=by rfl)(M:i_ [.Call (.Attribute o "values" apos) [] [] cpos] X.env=(false,eval (.Call (.Attribute o "values" apos) [] [] cpos) X.env)::i_ [] X.env:=by rfl):SO X g m (.Call (.Name "list" pos') [.Call (.Attribute o "values" apos) [] [] cpos] [] pos) (f1 fo uP):=by
 refine PE.imp (nu (Ud y) x w rfl (i6 (Ew PySem.F.plainAttrs_dict PySem.F.slot_dict_values PySem.F.type_dict_values Re u L B) ka M) (by decide) (by decide) M rfl) fun A H Q g=>?_;obtain⟨r,G,i,q⟩:=g;refine ⟨r,G,i,cC (cB q) fun d s v z E N k=>?_⟩
 obtain⟨C,e,n⟩:=dz s;cases d with
|dic t=>
  cases e;obtain⟨a,U,rfl,Y,j⟩:=k.dic N.ok;refine⟨.inr (.inr (.inl ⟨rfl,.inl ⟨U,Y⟩⟩)),a,U,rfl,rfl,Y,fun p b=>⟨p,a,U,rfl,cP,?_,fun l c=>?_⟩⟩
  .exact Rd.mono Y fun a o e=>yZ b _ _ e
  .obtain⟨hl1,hl2⟩:=E7 c;have Z:=Grow.new N.ok b (.ext fun h=>h.IsValuesView p a);have f:=Grow.new Z.ok c (.lst (U.map (·.2)));exact n l z _ (N.trans (Z.trans f)) (N.back hl1) ⟨N.ok.isN hl1,.lst cP (Fi j)⟩
|_=>cases e
end
def eM:Nat->List D->List D
|_,[]=>[]
|i,d::ds=>.tup [.int i,d]::eM (i+1) ds
theorem rG:∀(i:Nat)(ds:List D),(eM i ds).length=ds.length
|_,[]=>rfl
|i,d::ds=>Q_g (· + 1) (rG _ ds)
theorem Af:∀(i j:Nat)(ds:List D),(eM i ds)[j]? = (ds[j]?).map fun d=>D.tup [.int ((i+j:Nat):Int),d]
|_,_,[]=>by simp[eM]
|i,0,d::ds=>by simp[eM]
|i,j+1,d::ds=>by
  show(eM _ ds)[j]? = _;rw[Af _ j ds]
  grind
theorem GF{K:W.Frag}{ds:List D}{N:GH}{M:Hp->List V->Prop}(h:∀G H,bX N G->cA K G H->∃xs,M H xs/\cW K G xs ds):Yields K (oY M) (eM 0 ds) N:=by
 refine⟨fun G H i w B a=>?_,fun G H i x j d w B y e=>?_,fun G H w B=>?_⟩
 .obtain⟨xs,s,r⟩:=h G H w B;rw[rG]at a;have f:=Paired.length r;exact⟨xs,xs[i],s,by grind⟩
 .obtain⟨xs,s,r⟩:=h G H w B;obtain⟨p,v,Z,rfl,rfl,Y⟩:=y;rw[Af]at e;cases L:ds[i]? with
 |none=>rw[L]at e;cases e
 |some g=>rw[L]at e;simp  at e;subst e;obtain⟨c,b,U⟩:=Paired.get r L;have:=Y xs s;rw[b]at this;cases this;exact⟨_,Grow.newF B Z (.tup (.inl cP) (.cons (.scl (.int _)) (.cons U .nil))),.ref fZ⟩
 .obtain⟨xs,s,r⟩:=h G H w B;rw[rG];exact⟨xs,s,Paired.length r⟩
def tH(f:FE):FI:=fun r=>(f r).bind fun d=>(eN (cS d)).bind fun ds=>.ok (eM 0 ds)
section
variable{elts:List Expr}{kk:Nat}
theorem Gw{m:TE}(C:Gl X "enumerate")(A:X.mg "enumerate" = none)(Z:PE X e m)(hs:i_ [e] X.env=(false,eval e X.env)::i_ [] X.env:=by rfl):PI X (.Tuple elts kk pos2) (.Call (.Name "enumerate" p) [e] [] pos) (fun σ H R=>m σ H fun x L=>(∃a,x=.ref a/\(∃xs,cL X.K L a xs)/\R (oY fun H xs=>cL X.K H a xs) L)\/∃a,x=.ref a/\(∃xs,dw X.K L a xs)/\R (oY fun H xs=>dw X.K H a xs) L):=by
 intro r s σ H R I h;refine Call_ (pB I C A boot_enumerate (XJ (bQ (i6 Z ka hs pos r s σ H (fun l L=>match l with
 |[x]=>(∃a,x=.ref a/\(∃xs,cL X.K L a xs)/\R (oY fun H xs=>cL X.K H a xs) L)\/∃a,x=.ref a/\(∃xs,dw X.K L a xs)/\R (oY fun H xs=>dw X.K H a xs) L
 |_=>False) I h) fun w M e=>?_) hs rfl));obtain⟨l,L,N,z,g⟩:=e
 .cases z with
 |nil=>exact g.elim
 |@cons x u xs w n rt=>cases rt with
 |cons _ _=>exact g.elim
 |nil=>
  have fin:∀{f:Heap},f.objs.size=M.heap.objs.size+2->(∀b o,M.heap.get? b=some o->f.get? b=some o)->∀b∈[M.heap.objs.size+1,M.heap.objs.size],eT X r L b:=fun v c b k=>by
   have B:M.heap.objs.size<=b:=by
    rcases I_.mp k with rfl|k
    .exact À _
    .rw[w_.mp k];exact o_ _
   exact N.fpOk B (N.hok.fresh B)
  rcases g with⟨a,rfl,⟨xs,Y⟩,q⟩|⟨a,rfl,⟨xs,Y⟩,q⟩
  .cases n;obtain⟨d,y,i,v⟩:=N.list Y;refine call_enumerate_list i.isList fun f Z j U c=>ZT Z ?_;exact⟨_,[M.heap.objs.size+1,M.heap.objs.size],_,_,L,rfl,N.kept (t':=M.toks) c,JW (t:=false) a _ _ (Xu (XB _)) (L_ (pY (t:=false) N Y)) (Xu (Xw (pY (t:=false) N Y))),⟨⟨_,Z⟩,j⟩,fin U c,q⟩
  .cases n;obtain⟨d,y,i,v⟩:=N.tuple Y;refine T2 (show M.heap.IsTuple a d.toArray from i) fun f Z j U c=>ZT Z ?_;exact⟨_,[M.heap.objs.size+1,M.heap.objs.size],_,_,L,rfl,N.kept (t':=M.toks) c,JW (t:=true) a _ _ (Xu (XB _)) (L_ (pY (t:=true) N Y)) (Xu (Xw (pY (t:=true) N Y))),⟨⟨_,Z⟩,j⟩,fin U c,q⟩
theorem Fc(n:Gl X "enumerate")(l:X.mg "enumerate" = none)(o:SE X g m e f)(hs:i_ [e] X.env=(false,eval e X.env)::i_ [] X.env:=by rfl):iU X g m (.Tuple elts kk pos2) (.Call (.Name "enumerate" p) [e] [] pos) (tH f):=by
 refine PI.imp (Gw n l o hs) fun t H R z=>?_;obtain⟨r,G,j,q⟩:=z;refine ⟨r,G,j,cC (cB q) fun d q v i h w B=>?_⟩
 obtain⟨u,e,q⟩:=dz (cB q);cases d with
|lst c=>cases e;obtain⟨a,M,rfl,s,k⟩:=B.lst w.ok;refine .inl ⟨a,rfl,⟨M,s⟩,q _ i h w (GF fun G H Y Z=>?_)⟩;obtain⟨b,L,e,N,U⟩:=(B.mono Y).lst Z;cases e;exact⟨L,N,U⟩
|tup c=>cases e;obtain⟨a,M,rfl,s,k⟩:=B.tup w.ok;refine .inr ⟨a,rfl,⟨M,s⟩,q _ i h w (GF fun G H Y Z=>?_)⟩;obtain⟨b,L,e,N,U⟩:=(B.mono Y).tup Z;cases e;exact⟨L,N,U⟩
|_=>cases e
end
theorem FA:∀a b:List Int,HT.dJ a b=kC a b
|[],[]=>rfl
|[],_::_=>rfl
|_::_,[]=>rfl
|x::L,y::B=>by rw[HT.fK,kC,FA L B]
inductive TupI(h:Heap):a_->List Int->Prop where
 |mk {a:Addr} {items:Array a_} {ns:List Int}:ã h a items->Yx items.toList ns->TupI h (.ref a) ns
theorem Tc:∀(xs B:List Int),((g_ (min xs.length B.length)).all (fun j=>decide (xs.getD j 0=B.getD j 0))&&xs.length==B.length)=decide (xs=B):=by
 intro xs B;rw[WV,Q_,WZ,beq_iff_eq,Q_h];constructor
 .rintro⟨h1,h2⟩
  refine Ñ h2 fun i a b=>?_;have:=h1 i (p_.mpr (by omega))
  grind
 grind
theorem OT{A:V_}{s:e_}{p q:a_}{k l:List Int}(v:TupI s.heap p k)(hq:TupI s.heap q l)(u:A.units<Yp):Ä A s p q (decide (k=l)):=by cases v with
|@mk a r _ d U=>cases hq with
 |@mk b m _ c N=>
   by_cases e:a=b
   .subst e;obtain⟨o,f,x,n,w⟩:=d;obtain⟨y,L,M,z,B⟩:=c;rw[f]at L;cases L;rw[w]at B;cases B;have:=by have h:=U;have g:=N;exact(Ņ h).symm.trans (Ņ g)
    subst this;rw[Q_c rfl];exact ń _
   .have l1:=U.length;have Z:=N.length;rw[Array.length_toList]at l1 Z;have Y:=SeqAt.RcAt.tuples (e:=fun j=>decide (k.getD j 0=l.getD j 0)) (d) (c) u (fun j f x=>by
     obtain⟨t,E⟩:=ą U j r[j] (by grind);obtain⟨i,C⟩:=ą N j m[j] (by grind);have:=ZD (A:=A.in1) (s:=s) (k.getD j 0) t (l.getD j 0) i
     grind)
    rw[l1,Z,Tc]at Y;exact SeqAt.EqAt.of_refs e Y
inductive TupsI(h:Heap):List a_->List (List Int)->Prop where
 |nil:TupsI h [] []
 |cons {p:a_} {k:List Int} {ps:List a_} {ks:List (List Int)}:TupI h p k->TupsI h ps ks->TupsI h (p::ps) (k::ks)
theorem TupsI.length{h:Heap}:∀{B:List a_}{ks:List (List Int)},TupsI h B ks->B.length=ks.length
|_,_,.nil=>rfl
|_,_,.cons _ t=>Q_g (· + 1) t.length
variable{s:e_}
section
variable{prog:E_}{A:V_}
theorem Mn{fin:Bool}{Q:Bool->e_->Prop}(U:A.units<Yp){M L:List a_}{ks B:List (List Int)}{i:Nat}(m:TupsI s.heap M ks)(a:TupsI s.heap L B)(h:Q (jx fin ks B) s):W.KatLex prog w A false fin Q (M.zip L) i s:=by induction m generalizing L B i with
|nil=>cases a <;> exact W.kat_nil h
|@cons p k M ks Z n c=>cases a with
 |nil=>exact W.kat_nil h
 |@cons q l L B Y b=>
   refine W.kat_cons (OT Z Y U prog w _ _ ?_);by_cases e:k=l
   .rw[Q_c e];have N:Q (jx fin ks B) s:=by unfold jx at h;grind
    exact W.kat_yes (c b N)
   .rw[Q_b e];have N:Q (kC k l) s:=by unfold jx at h;grind
    refine W.kat_no ?_;refine W.kat_one _ _ ?_;cases Z with
   |mk j f=>cases Y with
    |mk g d=>refine HT.iQ j g f d U ?_;rw[FA];exact N
inductive TupR(h:Heap):a_->List (List Int)->Prop where
 |mk {a:Addr} {items:List a_} {ks:List (List Int)}:ã h a items.toArray->TupsI h items ks->ks≠[]->TupR h (.ref a) ks
theorem Oa{p q:a_}{ks Y:List (List Int)}{Q:Bool->e_->Prop}{E:a_->e_->Prop}(c:TupR s.heap p ks)(hq:TupR s.heap q Y)(b:A.units<Yp)(h:Q (gL ks Y) s):K_ (G_ prog w) A (keyLt' (tuples' false) p q) Q E s:=by cases c with
|@mk _ U _ i a f=>cases hq with
 |@mk _ N _ g Z d=>
   obtain⟨o,k,r,n,j⟩:=i;obtain⟨l,L,M,m,B⟩:=g;refine W.kat_lt k j L B ?_;have e:decide (U.toArray.size<N.toArray.size)=decide (ks.length<Y.length):=by rw[D_,D_,a.length,Z.length]
   rw[e];exact Mn b (by simpa using a) (by simpa using Z) h
end
def i4(ns:List Int):List Int:=ns.foldl Â []
theorem S2(ns:List Int):ø (fun i=>ns.getD i 0) ns.length=i4 ns:=by unfold ø i4;congr 1;refine Ñ (by simp) fun i L B=>?_;simp[R_,B]
def gC:List D->Option (List Int)
|[]=>some []
|.int i::ds=>(gC ds).map (i::·)
|_=>none
theorem Aa{K:W.Frag}{G:GH}{H:Hp}(M:cA K G H){ds:List D}{xs:List V}{ns:List Int}(h:cW K G xs ds)(e:gC ds=some ns):xs=ns.map V.int:=by induction h generalizing ns with
|nil=>cases e;rfl
|@cons x d xs ds r t L=>cases d with
 |int i=>have B:(gC ds).map (i::·)=some ns:=e;cases q:gC ds with
  |none=>rw[q]at B;cases B
  |some N=>rw[q]at B;cases B;rw[r.int M,L q];rfl
 |_=>cases e
theorem QS(c:X.calm=true):fT X (.type "set") (fun xs H Q=>∃p ns,xs=[.ref p]/\(cL X.K H p (ns.map V.int)\/dw X.K H p (ns.map V.int))/\ns.length+1<Ye/\∀l,H l=none->Q (.ref l) (aV H l (.set (fun k=>(i4 ns).any (· == k)) (i4 ns).length))):=by
 intro g s d H xs j Q I r h;obtain⟨p,ns,rfl,U,m,q⟩:=h;obtain⟨u,rfl,f⟩:=fF r;cases f;have fin:∀(B:List a_)(L:Heap)(M:Nat),B.length=ns.length->L.SetOf _ s.heap.objs.size (fun k=>(ø (fun i=>ns.getD i 0) B.toArray.size).any _) (ø _ B.toArray.size).length ->(∀b o,b<s.heap.objs.size->s.heap.get? b=some o->L.get? b=some o)->EP X g d Q _ { s with heap:=L,toks:=M }:=fun B L M N Y Z=>by rw[show B.toArray.size=ns.length by omega,S2]at Y;exact⟨.ref s.heap.objs.size,_,I.laid (fun b o e=>Z b o (x_ e) e) (o_ _) (show dS X.prog X.w _ L _ (.set _ _)from Y),rfl,q _ (I.hok.fresh (o_ _))⟩
 rcases U with U|U
 .obtain⟨B,r',pl,hz⟩:=I.list U;have N:=r'.length;rw[h_]at N;exact call_set_list (I.ok.hd c) pl.isList (by simpa using AL r') (by grind) fun L M Y Z=>fin B L M N.symm Y Z
 .obtain⟨B,r',pl,hz⟩:=I.tuple U;have N:=r'.length;rw[h_]at N;exact Tj (I.ok.hd c) (pl) (by simpa using AL r') (by grind) fun L M a=>fin B L M N.symm a.1 a.2
theorem QQ:fT X (.builtin "len") (fun xs H Q=>∃p S n,xs=[.ref p]/\H p=some (.set S n)/\Q (.int n) H):=by
 intro f s d H xs e Q I r h;obtain⟨p,S,n,rfl,M,q⟩:=h;obtain⟨u,rfl,L⟩:=fF r;cases L;obtain⟨o,c,g,t,N,B,Z,_,_,a,Y,U⟩:=(show dS X.prog X.w H s.heap p (.set S n)from I.hok p _ M)
 refine call_len_set N B Z Y ?_ ⟨.int n,H,I.tok _,⟨_,by rw[U]⟩,q⟩;have b:(c.size:Int)<4096:=by unfold Ye at a;omega
 exact Int.lt_of_lt_of_le b (by decide)
def DM:D->Option D
|.lst ds=>(gC ds).bind fun ns=>if ns.length+1<Ye then some (.int (i4 ns).length)else none
|.tup ds=>(gC ds).bind fun ns=>if ns.length+1<Ye then some (.int (i4 ns).length)else none
|_=>none
theorem Qf(E:X.calm=true)(C:Gl X "len")(A:X.mg "len" = none)(Y:Gl X "set")(j:X.mg "set" = none)(F:SB X g m a f)(hs:i_ [a] X.env=(false,eval a X.env)::i_ [] X.env:=by rfl)(M:i_ [.Call (.Name "set" p2) [a] [] pos2] X.env=(false,eval (.Call (.Name "set" p2) [a] [] pos2) X.env)::i_ [] X.env:=by rfl):SE X g m (.Call (.Name "len" p) [.Call (.Name "set" p2) [a] [] pos2] [] pos) (f1 f DM):=by
 refine PE.imp (nq QQ C A PySem.boot_len (i6 (nu (QS E) Y j (by first|exact PyProof.Rows.boot_set|rfl) (i6 F ka hs) (by decide) (by decide) hs rfl) ka M) (by decide) (by decide) M rfl) fun J H Q a=>?_;obtain⟨r,G,x,q⟩:=a;refine ⟨r,G,x,cC (cB q) fun d z v w Z i t=>?_⟩
 obtain⟨u,e,y⟩:=dz z;have L:∀{h:List D}{c:List V}{b:Addr},cW X.K w c h->v=.ref b->(cL X.K Z b c\/dw X.K Z b c)->(gC h).bind (fun N=>if N.length+1<Ye then some (D.int (i4 N).length)else none)=some u ->∃p N,[v]=[V.ref p]/\(cL X.K Z p (N.map V.int)\/dw X.K Z p (N.map V.int))/\N.length+1<Ye/\∀l,Z l=none->∃p S n,[V.ref l]=[V.ref p]/\aV Z l (.set (fun k=>(i4 N).any (· == k)) (i4 N).length) p=some (.set S n)/\Q (.int n) (aV Z l (.set (fun k=>(i4 N).any (· == k)) (i4 N).length)):=fun{h c b} rs ev hs he=>by cases s:gC h with
 |none=>rw[s]at he;cases he
 |some N=>
   rw[s]at he;have B:(if N.length+1<Ye then some (D.int (i4 N).length)else none)=some u:=he;by_cases o:N.length+1<Ye
   .rw[Q_d o]at B;cases B;have I:=Aa i.ok rs s;subst I;exact⟨b,N,by rw[ev],hs,o,fun l U=>⟨l,_,_,rfl,cP,y _ w _ (i.trans (Grow.new i.ok U _)) (.scl (.int _))⟩⟩
   .rw[Q_e o]at B;cases B
 cases d with
|lst h=>obtain⟨b,c,ev,hs,rs⟩:=t.lst i.ok;exact L rs ev (.inl hs) e
|tup h=>obtain⟨b,c,ev,hs,rs⟩:=t.tup i.ok;exact L rs ev (.inr hs) e
|_=>cases e
def De(K:W.Frag)(H:Hp)(x:V)(k:List Int):Prop:=∃b,x=.ref b/\dw K H b (k.map V.int)
def xH(K:W.Frag)(H:Hp)(x:V)(ks:List (List Int)):Prop:=∃b xs,x=.ref b/\dw K H b xs/\Paired (De K H) xs ks/\ks≠[]
def qJ{α:Type}(d:α)(ys:List α)(kss:List (List (List Int))):List α:=(lF ys.length fun i j=>gL (kss.getD i []) (kss.getD j [])).map fun i=>ys.getD i d
theorem dS.isS{P:E_}{w:P_}{H:Hp}{h:Heap}{a:Addr}{o:HO}(x:dS P w H h a o):h.get? a≠none:=by
 have s:∀{u:Obj},h.get? a=some u->h.get? a≠none:=fun e z=>by rw[z]at e;cases e
 cases o with
|lst L=>obtain⟨_,_,_,_,e⟩:=x;exact s e
|tup L=>obtain⟨_,_,_,⟨_,e,_⟩,_⟩:=x;exact s e
|dK B=>obtain⟨_,_,_,_,o,_,_,e,_⟩:=x;exact s e
|dT B=>obtain⟨_,_,_,_,o,_,_,e,_⟩:=x;exact s e
|set S n=>obtain⟨o,_,_,_,e,_⟩:=x;exact s e
|ins C c M=>obtain⟨_,_,_,e,_⟩:=x;exact s e
|own y=>obtain⟨_,e⟩:=x;exact s e
|xd M=>obtain⟨_,⟨_,_,_,e,_⟩,_⟩:=x;exact s e
|rng Z b=>obtain⟨_,_,_,e⟩:=x;exact s e
|frz Y u=>obtain⟨e,_⟩:=x;exact s e
|tbl U=>exact s (x)
|met f y=>exact s (x)
|ext N=>obtain⟨_,⟨_,e⟩,_⟩:=x;exact s e
variable{H:Hp}
section
variable{pz:List (Addr×Obj)}{σ:L2.St}
theorem TupI.stay{h h':Heap}{L:Addr}{N:Str->Option a_}(Z:h.Ns L N)(k:∀b o,b≠L->h.get? b=some o->h'.get? b=some o){p:a_}{ns:List Int}(x:TupI h p ns):TupI h' p ns:=by cases x with
|mk U Y=>
  obtain⟨o,M,a,n,B⟩:=U;refine .mk ⟨o,k _ _ ?_ M,a,n,B⟩ Y
  rintro rfl
  obtain⟨c,f,g,e,d,_⟩:=Z;rw[M]at e;cases e;rw[B]at d;cases d
theorem TupsI.stay{h h':Heap}{L:Addr}{N:Str->Option a_}(M:h.Ns L N)(k:∀b o,b≠L->h.get? b=some o->h'.get? b=some o):∀{B:List a_}{ks:List (List Int)},TupsI h B ks->TupsI h' B ks
|_,_,.nil=>.nil
|_,_,.cons x t=>.cons (x.stay M k) (t.stay M k)
theorem TupR.stay{h h':Heap}{L:Addr}{M:Str->Option a_}(B:h.Ns L M)(k:∀b o,b≠L->h.get? b=some o->h'.get? b=some o){p:a_}{ks:List (List Int)}(x:TupR h p ks):TupR h' p ks:=by cases x with
|mk N Y U=>
  obtain⟨o,c,a,n,Z⟩:=N;refine .mk ⟨o,k _ _ ?_ c,a,n,Z⟩ (Y.stay B k) U
  rintro rfl
  obtain⟨f,g,i,e,d,_⟩:=B
  grind
theorem Ql(I:Inv X pz σ H s){xs:List V}{ks:List (List Int)}{us:List a_}(h:Paired (De X.K H) xs ks)(v:aK xs us):TupsI s.heap us ks:=by induction h generalizing us with
|nil=>cases v;exact .nil
|cons h _ N=>cases v with
 |cons r q=>exact .cons ((fun I h r=>by obtain⟨b,rfl,U⟩:=h;cases r;obtain⟨M,B,L,_⟩:=I.tuple U;exact .mk L (by simpa using AL B)) I h r) (N q)
theorem IU{L:List V}{us:List a_}(r:aK L us):∀(B:List Nat),(∀i∈B,i<L.length)->aK (B.map fun i=>L.getD i .non) (B.map fun i=>us.getD i Value.none)
|[],_=>.nil
|i::B,h=>by refine .cons ?_ (IU r B fun j M=>h j (l_ _ M));have N:=h i j_;obtain⟨u,Y,U⟩:=r.get (k_ N);simp_all
theorem Inv.laidN{D:Addr}{d:List V}{N:List a_}{c:Nat}{h':Heap}(I:Inv X pz σ H s)(p:s.heap.get? D=none)(Z:D≠X.env.locals)(k:∀b o,b≠X.env.locals->s.heap.get? b=some o->h'.get? b=some o)(L:∀m,s.heap.Ns X.env.locals m->h'.Ns X.env.locals m)(i:h'.get? D=some { cls:=.type "list",data:=.seq N.toArray c })(g:aK d N)(h:d.length<=sizeLine)(t':Nat):Inv X pz σ (aV H D (.lst d)) { s with heap:=h',toks:=t' }:=by
 have M:H D=none:=by cases q:H D with
 |none=>rfl
 |some u=>exact Q_f p (dS.isS (I.hok D u q))
 have neD:∀b o,s.heap.get? b=some o->b≠D:=fun b o e z=>by simp_all
 have B:∀b u,H b=some u->aV H D (.lst d) b=some u:=fun b u e=>by rw[bZ (nA e M)];exact e
 have Y:∀b u,H b=some u->b≠X.env.locals:=fun b u e z=>by rw[z,I.free]at e;cases e
 refine I.step (ch:=[]) (by simp_all) (by simp_all) (fun b a l _ _ e _=>⟨a.slots,k b a l e⟩) (fun b a _ e n=>by rw[bZ (neD b a e)];exact n)
  (fun b a _ e=>?_) (by simp_all) (by simp_all) (fun b t e=>⟨#[],by simp_all⟩) L (fun b u e=>?_) I.bare
 .by_cases hb:b=X.env.locals
  .subst hb;obtain⟨m,j,_⟩:=I.loc;obtain⟨o,_,_,U,_⟩:=L m j;exact⟨o,U⟩
  simp_all
 .by_cases hb:b=D
  .subst hb;rw[cP]at e;cases e;exact⟨h,N,c,g,i⟩
  .rw[bZ hb]at e;refine(I.hok b u e).stay (fun f v w q=>k f v ?_ q) (by simp_all) fun f r q=>B f _ q
   grind
theorem Gj{h:Heap}{L:Addr}{m m':Str->Option a_}(a:h.Ns L m)(b:h.Ns L m'):m=m':=by
 obtain⟨o,Y,Z,e,d,_,f⟩:=a;obtain⟨N,B,M,c,g,_,U⟩:=b
 grind
theorem HS{h:Heap}:∀{us:List a_}{L:List (List (List Int))},Paired (fun u ks=>TupR h u ks) us L->∃fs,W.KatTups h us fs/\fs.length=us.length/\∀f∈fs,∃b o,f=Value.ref b/\h.get? b=some o/\o.cls=.type "tuple"
|_,_,.nil=>⟨[],W.KatTups.nil,rfl,fun f B=>nomatch B⟩
|_,_,.cons x t=>by obtain⟨fs,l,j,i⟩:=HS t;cases x with
 |@mk a M ks Z e d=>cases e with
  |nil=>exact Q_f rfl d
  |@cons p k s ks c _=>
    obtain⟨o,r,q,n,m⟩:=Z;refine⟨p::fs,W.KatTups.cons r q m (by simp) l,by simp[j],fun f B=>?_⟩;rcases I_.mp B with rfl|B
    .cases c with
    |mk g _=>obtain⟨Y,U,N,_⟩:=g;exact⟨_,Y,rfl,U,N⟩
    .exact i f B
theorem Qk(I:Inv X pz σ H s){L:List V}{B:List (List (List Int))}{us:List a_}(h:Paired (xH X.K H) L B)(v:aK L us):Paired (fun u ks=>TupR s.heap u ks) us B:=by induction h generalizing us with
|nil=>cases v;exact .nil
|cons h _ Y=>cases v with
 |cons r q=>exact .cons ((fun I h r=>by obtain⟨b,d,rfl,Z,a,c⟩:=h;cases r;obtain⟨U,M,N,_⟩:=I.tuple Z;exact .mk N (Ql I a M) c) I h r) (Y q)
theorem AC{n:Nat}{c:Nat->Nat->Bool}{i:Nat}(h:i∈lF n c):i<n:=p_.mp ((AQ n c).mem_iff.mp h)
theorem Td{k:Nat}(hr:Room k X.A):fT X (.builtin "sorted") (fun xs H Q=>∃p d N,xs=[.ref p]/\cL X.K H p d/\Paired (xH X.K H) d N/\d.length<64/\∀l,H l=none->Q (.ref l) (aV H l (.lst (qJ .non d N)))):=by
 intro pz s σ H xs us Q I r h;obtain⟨p,d,N,rfl,P,R,Cl,q⟩:=h;obtain⟨u,rfl,rx⟩:=fF r;cases rx;obtain⟨f,n,J,hz⟩:=I.list P;have hl:=n.length;have BT:=Paired.length R;by_cases g:f.length<2
 .refine TW J.isList g fun h' c D O y ho=>?_;have hs:=ď y;refine⟨.ref D,_,Inv.laidN I hs (Xu (B_ I.lt y)) (fun b o _ e=>O b o e) (fun m k=>by obtain⟨o,es,ep,e,z⟩:=k;exact ⟨o,es,ep,O _ _ e,z⟩) ho n (by omega) s.toks,rfl,?_⟩;have e:qJ V.non d N=d:=by
   unfold qJ lF;rw[Q_d (by omega)];refine Ñ (by simp) fun i a b=>?_
   grind
  have:=q D (I.hok.fresh y)
  grind
 .obtain⟨mF,F⟩:=I.fr;have Z:=Qk I R n;refine W.kat_sorted F (Hv) J.isList (by omega) (by omega) fun D e1 h' F' E w=>?_;have M:s.heap.get? D=none:=by cases z:s.heap.get? D with
  |none=>rfl
  |some o=>have G:=(E _ (j_)).2;exact Q_f (w (D,o) (Bn G.1 G.2 z)) (Xo _)
  have B:∀{g:Heap}{oD:Obj},Fr X.base X.env.locals g mF->News X.base X.env.locals g ((D,oD)::rh X.base s.heap X.env.locals)->∀b o,b≠X.env.locals->s.heap.get? b=some o->g.get? b=some o:=fun{g oD} F2 N2 b o hb e=>by cases z:X.base.get? b with
  |some o'=>have:=I.bk b o' z;rw[e]at this;cases this;exact F2.keep b o z
  |none=>exact(N2 (b,o) (l_ _ (Bn hb z e))).1
  have k1:=B F' E;have L:=Paired.mono (fun _ _ x=>x.stay F.ns k1) Z;obtain⟨fs,t1,t2,t3⟩:=HS L;refine W.kat_kind (T:=.type "tuple") t1 (by omega) (fun v hv=>?_) (rfl) ?_
  .obtain⟨b,o,rfl,e1,e2⟩:=t3 v hv;rw[<-e2];exact(W.Looks.ld e1).andThen .now
  have hn:0<f.length:=by omega
  refine QB (c:=fun i j=>gL (N.getD i []) (N.getD j [])) (fun i j C t hj hC=>?_) (IL hn) ?_
  .have gi:∀i,i<f.length->TupR h' (f.getD i Value.none) (N.getD i []):=fun i t=>by
    have U:i<N.length:=by omega
    obtain⟨a,ha,hx⟩:=Paired.get L (k_ U)
    grind
   exact Oa (gi i t) (gi j hj) (by have:=hr.un;grind) hC
  .refine W.KasFin.intro F' E (.head fun q P z=>?_) fun h3 c F3 N3=>?_
   .grind
   .have oD:=(N3 _ j_)
    have Y:∀i∈lF d.length (fun i j=>gL (N.getD i []) (N.getD j [])),i<d.length:=fun i t=>AC t;have e0:(qN (fun i j=>gL (N.getD i []) (N.getD j [])) (W.kas_sort f.length)).toList=lF d.length (fun i j=>gL (N.getD i []) (N.getD j [])):=by
     unfold lF
     grind
    rw[e0]at oD;refine⟨.ref D,_,Inv.laidN (t':=_) I M oD.2.1 (B F3 N3) (fun m hm=>by rw[Gj hm F.ns];exact F3.ns) oD.1 (IU n _ Y) ?_,rfl,q D ?_⟩
    .have:=(AQ d.length fun i j=>gL (N.getD i []) (N.getD j [])).length_eq
     grind
    .cases z:H D with
    |none=>rfl
    |some u=>exact Q_f M (dS.isS (I.hok D u z))
end
def nQ:D->Option (List Int)
|.tup ds=>gC ds
|_=>none
def nL:List D->Option (List (List Int))
|[]=>some []
|d::ds=>(nQ d).bind fun k=>(nL ds).map (k::·)
def uM:D->Option (List (List Int))
|.tup (d::ds)=>nL (d::ds)
|_=>none
def nS:List D->Option (List (List (List Int)))
|[]=>some []
|d::ds=>(uM d).bind fun k=>(nS ds).map (k::·)
def yx:List D->Option D
|[.lst ds]=>(nS ds).bind fun kss=>if ds.length<64 then some (.lst (qJ .non ds kss))else none
|_=>none
section
variable{G:GH}
theorem OR(B:cA K G H){ds:List D}{xs:List V}{ks:List (List Int)}(h:cW K G xs ds)(e:nL ds=some ks):Paired (De K H) xs ks:=by induction h generalizing ks with
|nil=>cases e;exact .nil
|@cons x d xs ds r t Z=>have L:(nQ d).bind _=some ks:=e;cases N:nQ d with
 |none=>grind
 |some k=>rw[N]at L;cases M:nL ds with
  |none=>grind
  |some Y=>rw[M]at L;cases L;exact .cons ((fun B r e=>by cases d with
     |tup ds=>obtain⟨a,xs,rfl,s,U⟩:=r.tup B;have:=Aa B U e;subst this;exact⟨a,rfl,s⟩
     |_=>cases e) B r N) (Z M)
theorem NG(L:cA K G H){v:V}{d:D}{ks:List (List Int)}(r:RG K G v d)(e:uM d=some ks):xH K H v ks:=by cases d with
|tup B=>cases B with
 |nil=>cases e
 |cons d B=>
   obtain⟨a,M,rfl,s,N⟩:=r.tup L;exact⟨a,M,rfl,s,OR L N e,(by have b:(nQ d).bind _=some ks:=e;cases Z:nQ d with
     |none=>grind
     |some k=>cases Y:nL B with
      |none=>grind
      |some U=>grind)⟩
|_=>cases e
theorem OS(Y:cA K G H){ds:List D}{xs:List V}{ks:List (List (List Int))}(h:cW K G xs ds)(e:nS ds=some ks):Paired (xH K H) xs ks:=by induction h generalizing ks with
|nil=>cases e;exact .nil
|@cons x d xs ds r t U=>have B:(uM d).bind _=some ks:=e;cases M:uM d with
 |none=>grind
 |some k=>rw[M]at B;cases L:nS ds with
  |none=>grind
  |some N=>rw[L]at B;cases B;exact .cons (NG Y r M) (U L)
theorem HD{xs:List V}{ds:List D}(r:cW K G xs ds):∀(B:List Nat),(∀i∈B,i<ds.length)->cW K G (B.map fun i=>xs.getD i .non) (B.map fun i=>ds.getD i .non)
|[],_=>.nil
|i::B,h=>by refine .cons ?_ (HD r B fun j L=>h j (l_ _ L));have M:=h i j_;obtain⟨u,U,N⟩:=Paired.get r (k_ M);simp_all
end
section
variable{k:Nat}
theorem Ph(h:Room k X.A)(u:Gl X "sorted")(j:X.mg "sorted" = none)(v:iF X g m [a] fl)(hs:i_ [a] X.env=(false,eval a X.env)::i_ [] X.env:=by rfl):SO X g m (.Call (.Name "sorted" p) [a] [] pos) (fC fl yx):=by
 refine DK ?_ (nq (Td h) u j (by first|grind|rfl) v (by decide) (by decide) hs rfl);intro G H w x d Q M c e q;unfold yx at e;split at e
 .rename_i zs;cases U:nS zs with
 |none=>rw[U]at e;cases e
 |some N=>
   rw[U]at e;have Y:(if zs.length<64 then some _ else none)=some d:=e;by_cases L:zs.length<64
   .rw[Q_d L]at Y;cases Y;cases c with
   |cons f t=>cases t;obtain⟨b,Z,rfl,s,r⟩:=f.lst M;have n:=Paired.length r;refine⟨b,Z,N,rfl,s,OS M r U,by omega,fun l B=>q l G _ (Grow.new M B _) B ⟨M.isN B,.lst cP ?_⟩⟩;unfold qJ;rw[n];exact HD r _ fun i o=>AC o
   grind
 .cases e
end
end DL
namespace DL
open PySem PyProof.Rows PySem.SeqAt PySem.MeetsSeq PySem.MeetsSeq2 PySem.MeetsSeq3 L2
section
open PySem.AutoSeq1 (wpAny_loadPart')
end
end DL
namespace DL
open PySem PyProof.Rows L2
end DL
namespace DL
open PySem PySem.Spec PyProof.Rows L2
section
variable{X:Cx}{pz:List (Addr×Obj)}{σ:L2.St}{H:Hp}{s:e_}
theorem Inv.keptN{h':Heap}(I:Inv X pz σ H s)(k:∀b o,b≠X.env.locals->s.heap.get? b=some o->h'.get? b=some o)(L:∀m,s.heap.Ns X.env.locals m->h'.Ns X.env.locals m)(t':Nat):Inv X pz σ H { s with heap:=h',toks:=t' }:=by
 have B:∀b u,H b=some u->b≠X.env.locals:=fun b u e z=>by rw[z,I.free]at e;cases e
 refine I.step (g':=s.gens) (d':=s.drawn) (ch:=[]) (fun b U=>Q_f U (by simp)) (fun b N Z _ _ e _=>k b N Z e) (fun b N Z _ _ e _=>⟨N.slots,k b N Z e⟩) (fun b N _ e n=>n)
  (fun b N _ e=>?_) (fun b a e=>e) (fun b N u e=>e) (fun b f e=>⟨#[],by rw[e];simp⟩) L (fun b u e=>?_) I.bare
 .by_cases U:b=X.env.locals
  .subst U;obtain⟨m,c,_⟩:=I.loc;obtain⟨o,_,_,M,_⟩:=L m c;exact⟨o,M⟩
  .exact⟨N,k b N U e⟩
 .refine(I.hok b u e).stay (fun Y v d q=>k Y v ?_ q) (fun Y q=>q) fun Y a q=>q;rcases d with z|z
  .rw[z];exact B b u e
  .exact B Y _ z
theorem Pv(Z:X.calm=true):fT X (.builtin "min") (fun xs H Q=>∃i j:Int,xs=[.int i,.int j]/\Q (.int (if j<i then j else i)) H):=by intro g s d H xs f Q I r h;obtain⟨i,j,rfl,q⟩:=h;cases r with
|cons N r=>cases r with
 |cons M r=>
   cases r;obtain⟨t,rfl⟩:=N;obtain⟨u,rfl⟩:=M;obtain⟨k,F⟩:=I.fr;exact min_two_N (I.ok.hd Z) F (Hv) fun l L B c=>⟨.int _,_,(by refine Inv.keptN I (fun b o a e=>?_) (fun m Y=>by rw[Gj Y F.ns];exact B.ns) L;cases z:X.base.get? b with
     |some U=>have:=I.bk b U z;rw[e]at this;cases this;exact B.keep b o z
     |none=>exact(c _ (Bn a z e)).1),⟨_,rfl⟩,q⟩
end
def minD:List D->Option D
|[.int i,.int j]=>some (.int (if j<i then j else i))
|_=>none
section
variable{X:Cx}{g:GE}{m:List Md}{e a b:Expr}{es:List Expr}{fl:aL->Res (List D)}{fa fb:FE}{pos p:Pos}
theorem Uz(b:X.calm=true)(Z:Gl X "min")(Y:X.mg "min" = none)(c:iF X g m (e::es) fl)(a:i_ (e::es) X.env=(false,eval e X.env)::i_ es X.env:=by rfl)(B:(backTo pos (i_ es X.env)).any (·.1)=false:=by rfl) :
  SE X g m (.Call (.Name "min" p) (e::es) [] pos) (fC fl minD):=hX (by
     intro G H f h d Q L M e q;unfold minD at e;split at e
     .cases e;cases M with
     |cons U t=>cases t with
      |cons N t=>cases t;exact⟨_,_,by rw[U.int L,N.int L],q _ G H (Grow.refl L) (.scl (.int _))⟩
     .cases e) (nq (Pv b) Z Y ı c (by decide) (rfl) a B)
def Va(K:W.Frag):R2:=fun x y H Q=>∃a b ys,x=.ref a/\y=.ref b/\dw K H a []/\dw K H b ys/\Q (.ref b) H
theorem OF:cX X (Y1 .Add) (Va X.K):=by
 intro J s C H x y v u Q I i g h;obtain⟨a,b,E,rfl,rfl,w,t,q⟩:=h;cases i;cases g;obtain⟨o,j,l,_⟩:=I.tuple w;obtain⟨Z,G,k,_⟩:=I.tuple t;cases j;obtain⟨⟨A,z,e,f⟩,d,r,n,p⟩:=id l;obtain⟨⟨Y,L,U,B⟩,N,M,m,c⟩:=id k;subst r p M c;exact ú ⟨_,d,rfl⟩ ⟨_,N,rfl⟩ Z9 È PySem.F.slot_tuple_add PySem.F.entry_tuple_add (PySem.F.args_tuple_add_2 _ _)
  (tuple_addW0 a b _ _ n m z L f B rfl) ⟨d,N,⟨.ref b,H,I,rfl,q⟩⟩
def addE:D->D->Option D
|.tup [],.tup b=>some (.tup b)
|a,b=>addA a b
theorem pE(h:SB X g m a fa)(f:SB X g m b fb):SE X g m (.BinOp a .Add b pos) (f2 fa fb addE):=kO (cX.or OF (cX.or Es (cX.or Jj (cX.or Gm Gn)))) (by
   intro G H Z Y j i d Q M L B e q;unfold addE at e;split at e
   .cases e;rcases L with L|⟨k,_,N⟩
    .rcases B with B|⟨k,_,N⟩
     .obtain⟨a,xs,rfl,s1,t1⟩:=L.tup M;obtain⟨b,U,rfl,c,l⟩:=B.tup M;cases t1;exact .inl ⟨a,b,U,rfl,rfl,s1,c,q _ G H (Grow.refl M) B⟩
     .cases N.ob
    .cases N.ob
   .exact .inr (Fj G H Z Y j i d Q M L B e q)) h f
end
end DL
namespace DL
open PySem PyProof.Rows L2
section
open PySem.AutoSeq1 (wpAny_loadPart')
end
end DL
namespace DL
open PySem PyProof.Rows PySem.W
section
variable{n:Nat}{c:Nat->Nat->Bool}(as:∀i j,c i j=true->c j i=false)(tr:∀i j k,c j i=false->c k j=false->c k i=false)
include tr in
include as tr in
include tr in
include as tr in
include as tr in
include as tr in
include as tr in
include as tr in
include as tr in
include as tr in
include as tr in
include as tr in
end
end DL
section
namespace DL
end DL
end
namespace DL
open PySem PySem.Spec PyProof.Rows L2
variable{X:Cx}{pz:List (Addr×Obj)}{σ:L2.St}{H:Hp}{s:e_}
theorem PV(L:List Bool):((g_ L.length).all fun i=>L.getD i true)=L.all id:=by
 rw[WV,WZ,WZ];constructor
 .intro h b hb;obtain⟨i,B,rfl⟩:=Ĕ hb;have:=h i (p_.mpr B);simp_all
 .intro h i B;have B:=p_.mp B;have:=h L[i] (Xc _);simp_all
theorem RY(R:X.calm=true)(I:Inv X pz σ H s){p:Addr}{a:List Bool}(hq:cL X.K H p (a.map V.bl)){A:V_}(C:A.handled=none){E:a_->e_->Prop}{Q:a_->e_->Prop}(h:∀I fp d n P St f it N,it=Value.ref I->Walks X.prog X.w A I fp d n P St->St 0 N.heap->TruthOf X.prog X.w A P f->n=a.length->(∀i,f i=a.getD i true) ->(∀(h':Heap)(c:Nat),(∀(b:Addr)(o:Obj),¬b∈d->N.heap.get? b=some o->h'.get? b=some o)->Inv X pz σ H { heap:=h',gens:=N.gens,drawn:=N.drawn,toks:=c,os:=N.os })->Q it N):K_ (G_ X.prog X.w) A (ì (.ref p)) Q E s:=by
 obtain⟨Z,g,t,O⟩:=I.list hq;have y:=g.length;rw[h_]at y;refine PySem.Flt.iter_list_ t.isList fun N J l x U=>?_;refine h s.heap.objs.size [s.heap.objs.size,p] [s.heap.objs.size] Z.toArray.size _ _ _ _ N rfl (Walks.list C _ p U Z.toArray) l ?_ (by simp_all) (fun i=>rfl) fun h' c k=>?_
 .intro i v s' Q' E' hv hq';have B:=by simpa using hv
  have l:i<Z.length:=(c_.mp B).1;have M:i<(a.map V.bl).length:=by simp_all
  obtain⟨u,r,q⟩:=g.get (i:=i) (k_ M);rw[B]at r;cases r;rw[Ě]at q;have Y:=q;subst Y;have e:a.getD i true=a[i]:=by simp_all
  have L:Q' (a.getD i true) s':=hq';rw[e]at L;exact C_ L
 .subst J;have j:∀b o,s.heap.get? b=some o->¬ b∈[s.heap.objs.size]:=fun b o e z=>by have:=w_.mp z;subst this;exact Q_f (x_ e) (Xo _)
  exact Inv.keptN I (fun b o _ e=>k b o (j b o e) (b_ _ e)) (fun m w=>by obtain⟨o,F,G,e,z⟩:=w;exact ⟨o,F,G,k _ _ (j _ _ e) (b_ _ e),z⟩) c
theorem Ps(M:X.calm=true):fT X (.builtin "all") (fun xs H Q=>∃(p:Addr)(B:List Bool),xs=[.ref p]/\cL X.K H p (B.map V.bl)/\Q (.bl (B.all id)) H):=by intro v s o H xs t Q I r h;obtain⟨p,B,rfl,a,q⟩:=h;obtain⟨u,rfl,Z⟩:=fF r;cases Z;refine call_all_walk (RY M I a (show X.A.in1.handled=none from I.ok.hd M) fun J c N n P St U it L m l j i g f e=>⟨J,c,N,n,P,St,U,m,l,j,i,fun b Y k=>?_⟩);have d:=funext f;rw[g,d,PV];exact⟨.bl _,H,e b Y k,rfl,q⟩
def lz:List D->Option (List Bool)
|[]=>some []
|.bl b::ds=>(lz ds).map (b::·)
|_=>none
theorem NU{K:W.Frag}{G:GH}{H:Hp}(U:cA K G H){ds:List D}{xs:List V}{B:List Bool}(h:cW K G xs ds)(e:lz ds=some B):xs=B.map V.bl:=by induction h generalizing B with
|nil=>cases e;rfl
|@cons x d xs ds r t N=>cases d with
 |bl b=>have M:(lz ds).map _=some B:=e;cases L:lz ds with
  |none=>grind
  |some Y=>rw[L]at M;cases M;rw[N L,s_,(RG.rb r).bl U]
 |_=>cases e
def allD:List D->Option D
|[.lst ds]=>(lz ds).map fun bs=>.bl (bs.all id)
|_=>none
variable{g:GE}{m:List Md}{e:Expr}{es:List Expr}{fl:aL->Res (List D)}{pos p:Pos}
theorem Ve(c:X.calm=true)(Z:Gl X "all")(Y:X.mg "all" = none)(f:iF X g m (e::es) fl)(a:i_ (e::es) X.env=(false,eval e X.env)::i_ es X.env:=by rfl)(B:(backTo pos (i_ es X.env)).any (·.1)=false:=by rfl) :
  SE X g m (.Call (.Name "all" p) (e::es) [] pos) (fC fl allD):=hX (by
     intro G H k l d Q L N e q;unfold allD at e;split at e
     .rename_i zs;cases M:lz zs with
     |none=>rw[M]at e;cases e
     |some i=>rw[M]at e;cases e;cases N with
      |cons U t=>cases t;obtain⟨b,j,rfl,s,r⟩:=U.lst L;have h:=NU L r M;subst h;exact⟨b,i,rfl,s,q _ G H (Grow.refl L) (.scl (.bl _))⟩
     .cases e) (nq (Ps c) Z Y PyProof.Rows.boot_all f (by decide) (rfl) a B)
def kB(ks:List Int):Int:=ks.getD (ê (fun i j=>decide (ks.getD i 0<ks.getD j 0)) (ks.length-1)) 0
theorem A4(f:Nat->Int):∀k,ê (fun i j=>decide (f i<f j)) k<=k/\∀i,i<=k->f (ê (fun i j=>decide (f i<f j)) k)<=f i
|0=>⟨o_ _,fun i B=>by
   have:i=0:=by omega
   subst this;exact Int.le_refl _⟩
|k+1=>by
  obtain⟨M,L⟩:=A4 f k;rw[argBest.eq_2]
  grind
theorem Pe{ks:List Int}(h:ks≠[]):kB ks∈ks:=by
 have L:=W4.mpr h;have M:=(A4 (fun i=>ks.getD i 0) (ks.length-1)).1;unfold kB;have B:ê (fun i j=>decide (ks.getD i 0<ks.getD j 0)) (ks.length-1)<ks.length:=by omega
 rw[R_,k_ B];exact Xc _
theorem Oq{ks:List Int}{x:Int}(h:x∈ks):kB ks<=x:=by
 obtain⟨i,B,rfl⟩:=Ĕ h;have:=(A4 (fun i=>ks.getD i 0) (ks.length-1)).2 i (by omega);have e:ks.getD i 0=ks[i]:=by simp[R_,B]
 simp only[e]at this;exact this
theorem QA{prog:E_}{w:P_}{A:V_}{E:a_->e_->Prop}{s:e_}{l:Addr}{L:Array a_}{Q:a_->e_->Prop}(h:s.heap.IsTuple l L)(k:∀B:e_,B={ s with heap:=s.heap.push { cls:=Value.type "tuple_iterator",data:=Data.fields #[Value.ref l,Value.int 0 0] } }->B.heap.IsTupleIter s.heap.objs.size l 0/\B.heap.IsTuple l L->(∀b:Nat,b∈[s.heap.objs.size,l]->b<B.heap.objs.size)->l≠s.heap.objs.size->Q (Value.ref s.heap.objs.size) B):K_ (G_ prog w) A (ì (Value.ref l)) Q E s:=by
 have M:l<s.heap.objs.size:=by obtain⟨o,e,_⟩:=id h;exact x_ e
 refine XC h (k _ rfl ⟨⟨_,q_ _ rfl,rfl,rfl⟩,h.push _⟩ ?_ (L_ M));intro b N;have U:∀Y:Obj,(s.heap.push Y).objs.size=s.heap.objs.size+1:=fun _=>Xi ..;rw[U];simp only[I_,XQ,Q_j]at N;rcases N with rfl|rfl
 .exact XB _
 .exact Xw M
abbrev ya(K:W.Frag)(cmp:Int->Int->Bool):List V->Hp->VK->Prop:=fun xs H Q=>∃(p:Addr)(ks:List Int),xs=[.ref p]/\(cL K H p (ks.map V.int)\/dw K H p (ks.map V.int))/\ks≠[]/\Q (.int (ks.getD (ê (fun i j=>cmp (ks.getD i 0) (ks.getD j 0)) (ks.length-1)) 0)) H
theorem QO{b:String}{op:CmpOp}(hc:X.calm=true)(y:Int->Int->Bool)(k:∀{A:V_}{E:a_->e_->Prop}{s:e_}{x:a_}{Q:a_->e_->Prop},K_ (G_ X.prog X.w) A.in1 (ì x) (fun it d=>∃I fp O G n P St bt,it=Value.ref I/\WalksS X.prog X.w A.in1 I fp O G n P St/\St 0 d/\(∀b:Addr,b∈fp->b<d.heap.objs.size)/\0<n/\CmpOf X.prog X.w A.in1 op P bt/\∀(v:a_)(g:e_),P (ê bt (n-1)) v->Moved O G d g->Q v g) E s->K_ (G_ X.prog X.w) A (call (Value.builtin b) [x]) Q E s)(U:∀(A:V_)(s:e_)(a:Int)(t:Tok)(c:Int)(u:Tok)(E Q:a_->e_->Prop),Q (.bool (y a c)) s->K_ (G_ X.prog X.w) A (richCompare op (.int a t) (.int c u)) Q E s):fT X (.builtin b) (ya X.K y):=by
 intro pz s σ H xs us Q I r h;obtain⟨p,l,rfl,T,Z,q⟩:=h;obtain⟨u,rfl,rx⟩:=fF r;cases rx;have hA:X.A.in1.handled=none:=I.ok.hd hc;have hp:=W4.mpr Z;have fin:∀(N:List a_)(F:Obj)(St:Nat->Heap->Prop),aK (l.map V.int) N->Walks X.prog X.w X.A.in1 s.heap.objs.size [s.heap.objs.size,p] [s.heap.objs.size] N.toArray.size (fun i v=>N.toArray[i]? = some v) St->St 0 (s.heap.push F)->(∀b:Nat,b∈[s.heap.objs.size,p]->b<(s.heap.push F).objs.size) ->∃I fp O G n P St bt,Value.ref s.heap.objs.size=Value.ref I/\WalksS X.prog X.w X.A.in1 I fp O G n P St/\St 0 { s with heap:=s.heap.push F }/\(∀b:Addr,b∈fp->b<(s.heap.push F).objs.size)/\0<n/\CmpOf X.prog X.w X.A.in1 op P bt/\∀(v:a_)(g:e_),P (ê bt (n-1)) v->Moved O G { s with heap:=s.heap.push F } g->EP X pz σ Q v g:=by
  intro N F St C W J f;have hl:=C.length;rw[h_]at hl;have gi:∀i v,N[i]? = some v->∃t,v=Value.int (l.getD i 0) t:=fun i v R=>by
   have J:i<N.length:=(c_.mp R).1;have Y:i<(l.map V.int).length:=by rw[h_];omega
   obtain⟨u,h1,h3⟩:=C.get (i:=i) (x:=(l.map V.int)[i]) (k_ Y);rw[R]at h1;cases h1;rw[Ě]at h3;have L:i<l.length:=by omega
   rw[R_,k_ L];exact h3
  refine⟨s.heap.objs.size,[s.heap.objs.size,p],[s.heap.objs.size],_,N.toArray.size,_,_,fun i j=>y (l.getD i 0) (l.getD j 0),rfl,W.toS,J,f,by rw[D_];omega,?_,fun v g R M=>?_⟩
  .intro i j vi vj g Q' E' h1 h2 hq';obtain⟨t1,rfl⟩:=gi i vi (by simpa using h1);obtain⟨t2,rfl⟩:=gi j vj (by simpa using h2);exact U _ g _ t1 _ t2 E' Q' hq'
  .have hsz:N.toArray.size-1=l.length-1:=by rw[D_];omega
   rw[hsz]at R;obtain⟨t,rfl⟩:=gi _ v (by simpa using R);have ne:∀b o,s.heap.get? b=some o->¬ b∈[s.heap.objs.size]:=fun b o e z=>by have:=w_.mp z;subst this;exact Q_f (x_ e) (Xo _)
   obtain⟨h',g',d',tk,os'⟩:=g;have e1:g'=s.gens:=M.gens;have e3:d'=s.drawn:=M.drawn;have e4:os'=s.os:=M.os;subst e1 e3 e4;exact⟨.int _,H,Inv.keptN I (fun b o _ e=>M.heap b o (ne b o e) (b_ _ e)) (fun m a=>by obtain⟨o,es,ep,e,z⟩:=a;exact ⟨o,es,ep,M.heap _ _ (ne _ _ e) (b_ _ e),z⟩) tk,⟨_,rfl⟩,q⟩
 rcases T with T|T
 .obtain⟨N,C,pl,hz⟩:=I.list T;exact k (PySem.Flt.iter_list_ pl.isList fun d e2 J f B=>by subst e2;exact fin N _ _ C (Walks.list hA _ p B N.toArray) J f)
 .obtain⟨N,C,pl,hz⟩:=I.tuple T;exact k (QA pl fun d e2 J f B=>by subst e2;exact fin N _ _ C (Ŋ hA _ p B N.toArray) J f)
def yd(z:List Int->Int):List D->Option D
|[.lst (d::ds)]=>(gC (d::ds)).map fun ks=>.int (z ks)
|[.tup (d::ds)]=>(gC (d::ds)).map fun ks=>.int (z ks)
|_=>none
theorem Pp{K:W.Frag}{L:Int->Int->Bool}{z:List Int->Int}(f:∀ks:List Int,ks.getD (ê (fun i j=>L (ks.getD i 0) (ks.getD j 0)) (ks.length-1)) 0=z ks):xX K (ya K L) (yd z):=by
 intro G H k l d Q Y c e q;have M:∀(y:D)(U:List D)(v:V)(b:Addr)(B:List V),v=.ref b->(cL K H b B\/dw K H b B)->cW K G B (y::U)->(gC (y::U)).map (fun ks=>D.int (z ks))=some d->ya K L [v] H Q:=fun y U v b B N s r e=>by cases a:gC (y::U)with
 |none=>rw[a]at e;cases e
 |some ks=>
   rw[a]at e;cases e;have g:=Paired.length r;have h:=Aa Y r a;subst h;refine⟨b,ks,by rw[N],s,?_,by rw[f];exact q _ G H (Grow.refl Y) (.scl (.int _))⟩
   rintro rfl
   simp at g
 unfold yd at e;split at e
 .cases c with
 |cons Z t=>cases t;obtain⟨b,B,N,s,r⟩:=Z.lst Y;exact M _ _ _ b B N (.inl s) r e
 .cases c with
 |cons Z t=>cases t;obtain⟨b,B,N,s,r⟩:=Z.tup Y;exact M _ _ _ b B N (.inr s) r e
 .cases e
abbrev yj:List D->Option D:=yd kB
theorem MT(U:X.calm=true)(M:Gl X "min")(L:X.mg "min" = none)(Y:iF X g m (e::es) fl)(N:i_ (e::es) X.env=(false,eval e X.env)::i_ es X.env:=by rfl)(B:(backTo pos (i_ es X.env)).any (·.1)=false:=by rfl):SE X g m (.Call (.Name "min" p) (e::es) [] pos) (fC fl yj):=hX (Pp fun _=>rfl) (nq (QO U _ call_min_walkS fun _ s a t c u E Q h=>HT.h9 _ s a t c u X.prog X.w E Q h) M L ı Y (by decide) (rfl) N B)
def nN(h0 H:Hp):Prop:=∀a o,h0 a=some o->H a=some o
structure YieldsB(K:W.Frag)(h0:Hp)(J:It)(ds:List D)(G0:GH):Prop where
 go:∀G H (i:Nat),bX G0 G->cA K G H->nN h0 H->i<ds.length->J.go i H
 yld:∀G H (i:Nat) x H' d,bX G0 G->cA K G H->nN h0 H->J.yld i H x H'->ds[i]? = some d->∃G',Grow K G H G' H'/\RG K G' x d
 stop:∀G H,bX G0 G->cA K G H->nN h0 H->J.stop ds.length H
theorem Yields.toH{K:W.Frag}{N:Hp}{J:It}{ds:List D}{L:GH}(y:Yields K J ds L):YieldsB K N J ds L:=⟨fun G H i w B _ M=>y.go G H i w B M,fun G H i x U d w B _ q e=>y.yld G H i x U d w B q e,fun G H w B _=>y.stop G H w B⟩
def Vw(X:Cx)(g:GE)(m:List Md)(f:FI):TI:=fun σ H R=>∃r G,SI X g m r G σ H/\fin (f r) (fun ds=>∀J G' H',Grow X.K G H G' H'->YieldsB X.K g.h0 J ds G'->R J H') (XW X σ G H)
def oV(X:Cx)(g:GE)(m:List Md)(tg iter:Expr)(f:FI):Prop:=PI X tg iter (Vw X g m f)
def Vy(X:Cx)(g:GE)(m:List Md)(f:FE):TE:=fun σ H Q=>∃r G,SI X g m r G σ H/\fin (f r) (fun d=>∀v G' H',Grow X.K G H G' H'->Bw X.K g.h0 G' H' v d->Q v H') (XW X σ G H)
def Df(X:Cx)(g:GE)(m:List Md)(e:Expr)(f:FE):Prop:=PE X e (Vy X g m f)
variable{m' mb:List Md}{a iter:Expr}{f:FE}{pos2:Pos}{ro:Bool}{sts:List Stmt}{s1:FS}{elts:List Expr}{kk:Nat}
section
variable{tg:Expr}
theorem nB(i:Nat){x:Str}(U:m[i]? = some .bw:=by rfl)(Z:X.N[i]? = some x:=by rfl)(M:gz X.env.scope x:=by first|exact Or.inl rfl|exact Or.inr (Or.inl rfl)|exact Or.inr (Or.inr rfl))(Y:(x==("__debug__" : Str))=false:=by decide)(B:(x==("__classdict__" : Str))=false:=by decide):Df X g m (.Name x pos) fun r=>ie r i:=by refine PE.imp (gD Z M Y B) fun c H Q z=>?_;obtain⟨r,G,L,q⟩:=z;obtain⟨d,e,k⟩:=wa q;obtain⟨v,b,a⟩:=L.bw i d e U;exact⟨v,b,k _ G H (Grow.refl L.gok) a⟩
theorem Gr{K:W.Frag}{B:Hp}{M G:GH}{L H:Hp}{a:Addr}{ds:List D}(o:Own K M L a (.lst ds))(h:B a≠none)(U:nN B L)(Y:bX M G)(N:nN B H):∃xs,cL K H a xs/\cW K G xs ds:=by cases e:B a with
|none=>exact Q_f e h
|some u=>have b:=U a u e;have Z:=N a u e;cases o.ob with
 |lst r s=>rw[b]at r;cases r;exact⟨_,cL.of Z,cW.mono s Y⟩
theorem SI.oldIn{r:aL}{G:GH}{st:L2.St}{H:Hp}(s:SI X g m r G st H):nN g.h0 H:=s.old
theorem pA(h:Df X g m e f):oV X g m tg e (bI cS f):=by
 refine PI.imp (yW h) fun k H R z=>?_;obtain⟨r,G,Y,q⟩:=z;refine ⟨r,G,Y,cC (cB q) fun d q v U M w B=>?_⟩
 obtain⟨p,e,q⟩:=dz q;cases d with
|lst N=>
  rcases B with B|⟨a,rfl,o,Z⟩
  .obtain⟨a,xs,rfl,s,rs⟩:=B.lst w.ok;exact .inl ⟨a,rfl,⟨xs,s⟩,q _ U M w (zz B).toH⟩
  .cases o.ob with
  |lst r s=>exact .inl ⟨a,rfl,⟨_,cL.of r⟩,q _ U M w ((fun h=>by
      refine⟨fun G H i w L o n=>?_,fun G H i x M d w L o y e=>?_,fun G H w L o=>?_⟩
      .obtain⟨xs,s,r⟩:=h G H w L o;have l:=Paired.length r;exact⟨xs,xs[i],s,k_ (by omega)⟩
      .obtain⟨xs,s,r⟩:=h G H w L o;obtain⟨rfl,y⟩:=y;obtain⟨v,j,B⟩:=Paired.get r e;have:=y xs s;rw[j]at this;cases this;exact⟨G,Grow.refl L,B⟩
      .obtain⟨xs,s,r⟩:=h G H w L o;exact⟨xs,s,Y2 (Paired.length r)⟩) fun u t c _ b=>Gr o Z (Y.grow w).oldIn c b)⟩
|tup N=>
  rcases B with B|⟨a,rfl,o,Z⟩
  .obtain⟨a,xs,rfl,s,rs⟩:=B.tup w.ok;exact .inr ⟨a,rfl,⟨xs,s⟩,q _ U M w (y0 B).toH⟩
  .cases o.ob
|_=>cases e
theorem zy{K:W.Frag}{N:Hp}{ds:List D}{U:GH}{M:Hp->List V->Prop}(h:∀G H,bX U G->cA K G H->nN N H->∃xs,M H xs/\cW K G xs ds):YieldsB K N (oY M) (eM 0 ds) U:=by
 refine⟨fun G H i w B o b=>?_,fun G H i x k d w B o y e=>?_,fun G H w B o=>?_⟩
 .obtain⟨xs,s,r⟩:=h G H w B o;rw[rG]at b;have g:=Paired.length r;exact⟨xs,xs[i],s,by grind⟩
 .obtain⟨xs,s,r⟩:=h G H w B o;obtain⟨p,v,a,rfl,rfl,Z⟩:=y;rw[Af]at e;cases L:ds[i]? with
 |none=>rw[L]at e;cases e
 |some j=>rw[L]at e;simp  at e;subst e;obtain⟨f,c,Y⟩:=Paired.get r L;have:=Z xs s;rw[c]at this;cases this;exact⟨_,Grow.newF B a (.tup (.inl cP) (.cons (.scl (.int _)) (.cons Y .nil))),.ref fZ⟩
 .obtain⟨xs,s,r⟩:=h G H w B o;rw[rG];exact⟨xs,s,Paired.length r⟩
theorem F0(n:Gl X "enumerate")(l:X.mg "enumerate" = none)(t:Df X g m e f)(hs:i_ [e] X.env=(false,eval e X.env)::i_ [] X.env:=by rfl):oV X g m (.Tuple elts kk pos2) (.Call (.Name "enumerate" p) [e] [] pos) (tH f):=by
 refine PI.imp (Gw n l t hs) fun u H R f=>?_;obtain⟨r,G,i,q⟩:=f;refine ⟨r,G,i,cC (cB q) fun d q v h c w B=>?_⟩
 obtain⟨x,e,q⟩:=dz (cB q);cases d with
|lst Z=>
  cases e;rcases B with B|⟨a,rfl,o,j⟩
  .obtain⟨a,xs,rfl,s,rs⟩:=B.lst w.ok;refine .inl ⟨a,rfl,⟨xs,s⟩,q _ h c w (zy fun G H L Y _=>?_)⟩;obtain⟨b,M,e,N,U⟩:=(B.mono L).lst Y;cases e;exact⟨M,N,U⟩
  .cases o.ob with
  |lst r s=>exact .inl ⟨a,rfl,⟨_,cL.of r⟩,q _ h c w (zy fun z y L _ k=>Gr o j (i.grow w).oldIn L k)⟩
|tup Z=>
  cases e;rcases B with B|⟨a,rfl,o,j⟩
  .obtain⟨a,xs,rfl,s,rs⟩:=B.tup w.ok;refine .inr ⟨a,rfl,⟨xs,s⟩,q _ h c w (zy fun G H L Y _=>?_)⟩;obtain⟨b,M,e,N,U⟩:=(B.mono L).tup Y;cases e;exact⟨M,N,U⟩
  .cases o.ob
|_=>cases e
theorem m7(hp:Y_ (G_ X.prog X.w) X.A X.env X.xe)(hc:X.calm=true){ft:FT}{fi:FI}(hi:oV X g m tg iter fi)(hg:SG X g m tg ft m)(hb:il X g ro m m sts s1 m)(hs:∀x,W9 iter X.env x=pure x:=by intro _;rfl):SS X g ro mb m (.For tg iter sts [] pos) (j6 m fi ft s1) m:=by
 refine⟨rfl,PS.imp (qR hp hc hi hg.2 hb.2 hs) fun D O H ⟨r,G,I,q⟩=>⟨r,G,I,cC (iH I rfl q) fun h q J z H0 P Y=>?_⟩⟩;refine⟨fun i n O H=>∃r G,SI X g m r G O H/\bX z G/\i<=h.length/\n=h.length-i/\df X g ro m mb G D (bA ft s1 (h.drop i) r),⟨h.length,r,z,I.grow P,bX.refl z,Xe _,rfl,df.gle q P.ge⟩,?_⟩
 rintro i n E t ⟨Q,v,Z,b,hi,rfl,N⟩
 by_cases f:i<h.length
 .have hd:=Xa f;rw[hd]at N;unfold bA at N;refine .inr ⟨Y.go v t i b Z.gok Z.oldIn f,fun p u=>∃r G,SI X g m r G p u/\bX z G/\df X g ro m mb G D _,fun p u w=>by obtain⟨j,C,F,c,q'⟩:=w;exact ⟨_,by omega,j,C,F,c,f,rfl,q'⟩,fun x u y=>?_⟩;obtain⟨C,l,rv⟩:=Y.yld v t i x u h[i] b Z.gok Z.oldIn y (k_ f);have c:=b.trans l.ge;cases M:ft h[i] Q with
 |none=>simp only[M]at N;exact N.elim
 |some K=>simp only[M]at N;refine⟨Q,C,h[i],Z.grow l,rv,K,M,fun R U=>⟨K,C,U,?_⟩⟩;cases o:s1 K with
  |nx j=>simp only[o]at N;exact fun a k s B L=>⟨j,k,L,c.trans B,df.gle N (bX.trans l.ge B)⟩
  |ct j=>simp only[o]at N;exact fun a k s B L=>⟨j,k,L,c.trans B,df.gle N (bX.trans l.ge B)⟩
  |bk j=>simp only[o]at N;exact fun a k s B L=>N a k s (bX.trans l.ge B) L
  |rt d=>simp only[o]at N;exact N
  |exc x j=>simp only[o]at N;exact fun pz e T a k s B=>N pz e T a k s (bX.trans l.ge B)
  |stuck=>simp only[o]at N;exact N
 .have e:i=h.length:=by omega
  subst e;rw[Yf]at N;exact .inl ⟨Y.stop v t b Z.gok Z.oldIn,N E v t (bX.refl _) Z⟩
end
section
open HT (sIx)
section
variable{prog:E_}{w:P_}{A:V_}{E:a_->e_->Prop}{s:e_}
theorem Tv{t Z:Addr}{N:Array a_}{b a:a_}{lo hi:Option Int}{Q:a_->e_->Prop}(Y:ã s.heap t N)(hs:s.heap.IsSliceOf Z b a .none)(e:â b lo)(d:â a hi)(c:sIx N.size 0 lo=0/\sIx N.size N.size hi=N.size)(h:Q (.ref t) s):K_ (G_ prog w) A (æ (.ref t) (.ref Z)) Q E s:=by
 obtain⟨f,B,M,U⟩:=id hs;have L:s.TypeIs (.ref Z) "slice" := ⟨f,B,M⟩
 unfold æ
 try with_reducible refine Ya ?_
 refine d_ (Ċ Y.typeIs (rfl) (d_ (Xs Y.typeIs W1 (XO W1 Y.typeIs PyProof.Rows.entry_tuple_getitem ?_ (PyProof.Rows.args_tuple_getitem _ _)))));show K_ _ _ (ZE _ >>= _) _ _ s;refine d_ (PyProof.Rows.tupleItemsOf_ Y (d_ (É L ?_)));refine d_ (HT.db hs e d ?_);rw[c.1,c.2];show K_ _ _ (if (((0))==0&&(1)==1&&(N.size-0)==N.size)=true then _ else _) _ _ s;rw[Q_d (by simp)];refine d_ (d_ (É Y.typeIs (C_ ?_)));refine d_ (ý ?_);exact C_ ⟨_,rfl,C_ h⟩
end
def CP(K:W.Frag):V->Option Int->Option Int->Hp->VK->Prop:=fun x lo hi H Q=>∃a xs,x=.ref a/\dw K H a xs/\(sIx xs.length 0 lo=0/\sIx xs.length xs.length hi=xs.length)/\Q (.ref a) H
theorem Qh{X:Cx}:jW X (CP X.K):=by
 intro j s e H x v g f k m i Q I U d Z Y h;obtain⟨a,N,rfl,b,c,q⟩:=h;cases U;obtain⟨L,r,M,l⟩:=I.tuple b;have B:L.toArray.size=N.length:=by exact r.length.symm
 exact⟨"tuple",_,W1.lookup,M.typeIs,Tv M d Z Y (by rw[B];exact c) ⟨.ref a,H,I,rfl,q⟩⟩
def xE(d:D)(lo hi:Option Int):Option D:=match d with
|.tup ds=>some (.tup (cH ds lo hi))
|.lst ds=>some (.lst (cH ds lo hi))
|_=>none
def fP(fa:FE)(fl fh:FP):FE:=fun r=>(fa r).bind fun d=>(fl r).bind fun lo=>(fh r).bind fun hi=>eN (xE d lo hi)
section
variable{X:Cx}{g:GE}{m:List Md}{e:Expr}{f fa:FE}{pos p2:Pos}
theorem OW{R:V->Option Int->Option Int->Hp->Prop}{a b:FP}{r:aL}{G:GH}{σ:L2.St}{H:Hp}{q:D->Prop}(U:SI X g m r G σ H)(h:fin (fP fa a b r) q (XW X σ G H))(i:∀d lo hi v N B d',Grow X.K G H N B->RB X.K N B v d->xE d lo hi=some d'->q d'->R v lo hi B):tB X g m fa σ H fun x c=>tP X g m a σ c fun l B=>tP X g m b σ B fun u Y=>R x l u Y:=by refine⟨r,G,U,cC (cB h) fun d o v s c L f=>⟨r,s,U.grow L,gE (cB o) L fun lo n N B M=>⟨r,N,(U.grow L).grow M,?_⟩⟩⟩;refine gE (cB n) (L.trans M) fun hi k p Y Z=>?_;obtain⟨d',e,j⟩:=dz k;exact i d lo hi v p Y d' ((L.trans M).trans Z) ((f.mono M).mono Z) e j
theorem QH{B:Type}{ds:List B}{lo hi:Option Int}(h:sIx ds.length 0 lo=0/\sIx ds.length ds.length hi=ds.length):cH ds lo hi=ds:=by unfold cH;rw[h.1,h.2];simp
theorem qI{lo hi:Option Expr}{Y Z:FP}(j:SB X g m e f)(i:nJ X g m lo Y)(h:nJ X g m hi Z):SE X g m (.Subscript e (.Slice lo hi none p2) pos) (fP f Y Z):=by refine PE.imp (Aj (jW.or Qh (jW.or GK EO)) j i h) fun n H Q z=>?_;obtain⟨r,G,b,q⟩:=z;refine OW b q fun d lo hi v l k o w B e M=>?_;cases d with
|tup L=>
  cases e;rcases B with B|⟨t,_,c⟩
  .obtain⟨a,xs,rfl,s,r⟩:=B.tup w.ok;by_cases N:sIx L.length 0 lo=0/\sIx L.length L.length hi=L.length
   .refine .inl ⟨a,xs,rfl,s,by rw[Paired.length r];exact N,?_⟩;rw[QH N]at M;exact M _ l k w B
   .rw[<-Paired.length r]at N;refine .inr (.inr ⟨a,xs,rfl,s,N,fun p U=>?_⟩);exact M _ _ _ (w.trans (Grow.newF w.ok U (.tup (.inl cP) (uF r lo hi)))) (.ref fZ)
  .cases c.ob
|lst L=>cases e;obtain⟨a,xs,rfl,s,r⟩:=B.lst w.ok;exact .inr (.inl ⟨a,xs,rfl,s,fun p U=>M _ _ _ (w.trans (Grow.newF w.ok U (.lst (.inl cP) (uF r lo hi)))) (.ref fZ)⟩)
|_=>cases e
end
end
section
open AutoSeq1 (wpAny_loadPart')
structure ZA(zp ti to u1 u2:Addr)(f1 f2:List Addr):Prop where
 a1:ti≠zp
 a2:to≠zp
 a3:u1≠zp
 a4:u2≠zp
 a5:to≠u1
 a6:to≠u2
 a7:u1≠u2
 a8:ti≠to/\ti≠u1/\ti≠u2
 b1:zp∉f1/\to∉f1/\u2∉f1
 b2:zp∉f2/\to∉f2/\u1∉f2
theorem _root_.PySem.Draws.at'{prog:E_}{w:P_}{A:V_}{it:Addr}{fp:List Addr}{n:Nat}{P:Nat->a_->Prop}{St:Nat->Heap->Prop}(D:á prog w A it fp n P St){i:Nat}{h h':Heap}{c:Addr}(st:St i h)(e:Heap.ExtBut c h h')(B:c∉fp):St i h':=D.frame i h h' st fun b L o q=>e b o (by rintro rfl;exact B L) q
section
variable{prog:E_}{w:P_}{A:V_}{E:a_->e_->Prop}{s:e_}{zp ti to u1 u2:Addr}{f1 f2:List Addr}{n1 n2:Nat}{P1 P2:Nat->a_->Prop}{St1 St2:Nat->Heap->Prop}{p q:a_}
theorem Rm{i:Nat}{Q:a_->e_->Prop}(Z:ZA zp ti to u1 u2 f1 f2)(d:á prog w A u1 f1 n1 P1 St1)(a:á prog w A u2 f2 n2 P2 St2)(l:à s.heap zp ti to .none)(hi:Yc s.heap ti (.ref u1) (.ref u2))(ho:Yc s.heap to p q)(P:St1 i s.heap)(O:St2 i s.heap)(l1:i<n1)(l2:i<n2)(hQ:∀x y h' K,P1 i x->P2 i y->à h' zp ti to (ñ s.heap.objs.size)->Yc h' to x y->St1 (i+1) h'->St2 (i+1) h'->Yc h' s.heap.objs.size x y->h'.objs.size=s.heap.objs.size+1 ->(∀c o,c≠zp->c≠to->c≠u1->c≠u2->s.heap.get? c=some o->h'.get? c=some o)->Q (.ref s.heap.objs.size) { s with heap:=h',toks:=K }):K_ (G_ prog w) A (å.«zip.__next__» ⟨[.ref zp],[]⟩) (fun fin R=>∃v,fin=.done (.ret v)/\Q v R) E s:=by
 show K_ _ _ (field (.ref zp) 2 >>= _) _ _ _;refine d_ (Xn l rfl (x:=.bool false) rfl ?_);refine d_ (Xn l rfl (x:=.ref ti) rfl (d_ (XT hi rfl ?_)));refine d_ ?_;unfold YR;refine d_ (Xn l rfl (x:=.none) rfl (C_ ?_));simp only[Q_k];refine d_ (ý (d_ (Xn l rfl (x:=.ref to) rfl (d_ (XU l (by simp) fun g1 ST k=>?_)))));refine d_ ?_;simp only[ě,Ġ,Zn,Ģ];refine d_ (d_ (Z3 ?_));refine d_ (d.item i _ _ _ l1 (d.at' P k.extBut Z.b1.1) fun x g2 t2 X Tm j=>C_ ?_);have n:Yc g2 to p q:=j.extBut _ _ Z.a5 (k.extBut _ _ Z.a2 ho);refine d_ (XT n rfl (d_ (Zj n fun g3 L h=>?_)));replace L:Yc g3 to x q:=L;refine d_ (Ë (C_ ?_));refine d_ (d_ (Z3 ?_));refine d_ (a.item i _ _ _ l2 (a.at' (a.at' (a.at' O k.extBut Z.b2.1) j.extBut Z.b2.2.2) h.extBut Z.b2.2.1) fun y g4 t4 T LT g=>C_ ?_);have I:Yc g4 to x q:=g.extBut _ _ Z.a6 L;refine d_ (XT I rfl (d_ (Zj I fun N B f=>?_)));replace B:Yc N to x y:=B;refine d_ (Ë (C_ (C_ ?_)));refine d_ (XT B rfl (d_ (wpAny_newTuple ?_)));have m:N.objs.size=s.heap.objs.size:=by rw[f.1,g.1,h.1,j.1,k.1]
 have Y:à N zp ti to .ellipsis:=f.extBut _ _ Z.a2.symm (g.extBut _ _ Z.a4.symm (h.extBut _ _ Z.a2.symm (j.extBut _ _ Z.a3.symm ST)));have KK:St1 (i+1) N:=d.at' (d.at' (d.at' Tm h.extBut Z.b1.2.1) g.extBut Z.b1.2.2) f.extBut Z.b1.2.1;have IO:St2 (i+1) N:=a.at' LT f.extBut Z.b2.2.1;have M:zp<N.objs.size:=x_ Y;refine d_ ?_;unfold ō;have LE:à (N.push { cls:=.type "tuple",data:=.seq #[x,y] }) zp ti to .ellipsis:=b_ _ Y;refine d_ (XU LE (by simp) fun g7 Ty C=>?_);refine XU Ty (by simp) fun u U z=>?_;have t:∀c o,c≠zp->N.get? c=some o->u.get? c=some o:=fun c o r e=>z.extBut _ _ r (C.extBut _ _ r (b_ _ e));have J:Yc u N.objs.size x y:=z.extBut _ _ (Xu M) (C.extBut _ _ (Xu M) (q_ _ rfl));have H:u.objs.size=N.objs.size+1:=by rw[z.1,C.1,Xi]
 rw[m]at U J H;refine C_ ⟨_,rfl,?_⟩;show Q (.ref N.objs.size) _;rw[m];refine hQ x y u _ X T U (t _ _ Z.a2 B) (d.frame _ _ _ KK fun b F o e=>t b o (by rintro rfl;exact Z.b1.1 F) e) (a.frame _ _ _ IO fun b F o e=>t b o (by rintro rfl;exact Z.b2.1 F) e) J H fun c o r G c3 c4 e=>t c o r ?_;exact f.extBut _ _ G (g.extBut _ _ c4 (h.extBut _ _ G (j.extBut _ _ c3 (k.extBut _ _ r e))))
theorem PL{i:Nat}{Q:Fin->e_->Prop}(Z:ZA zp ti to u1 u2 f1 f2)(j:á prog w A u1 f1 n1 P1 St1)(h:á prog w A u2 f2 n2 P2 St2)(d:à s.heap zp ti to .none)(hi:Yc s.heap ti (.ref u1) (.ref u2))(G:Yc s.heap to p q)(t:St1 i s.heap)(F:St2 i s.heap)(B:i=n1\/(i<n1/\i=n2))(y:∀h' e C,(∀c o,c≠zp->c≠to->c≠u1->c≠u2->s.heap.get? c=some o->h'.get? c=some o)->(∃o,h'.get? e=some o/\o.cls=.type "StopIteration")->E (.ref e) { s with heap:=h',toks:=C }):K_ (G_ prog w) A (å.«zip.__next__» ⟨[.ref zp],[]⟩) Q E s:=by
 show K_ _ _ (field (.ref zp) 2 >>= _) _ _ _;refine d_ (Xn d rfl (x:=.bool false) rfl ?_);refine d_ (Xn d rfl (x:=.ref ti) rfl (d_ (XT hi rfl ?_)));refine d_ ?_;unfold YR;refine d_ (Xn d rfl (x:=.none) rfl (C_ ?_));simp only[Q_k];refine d_ (ý (d_ (Xn d rfl (x:=.ref to) rfl (d_ (XU d (by simp) fun X Y b=>?_)))));refine d_ ?_;simp only[ě,Ġ,Zn,Ģ];refine d_ (d_ (Z3 ?_));rcases B with B|⟨l,B⟩
 .subst B;refine d_ (j.done _ _ _ (j.at' t b.extBut Z.b1.1) fun n e N m=>?_);obtain⟨k,L,U⟩:=m;have P:à n zp ti to .ellipsis:=N _ _ Z.a3.symm Y;have M:e≠zp:=fun x=>by grind
  exact XU P (by simp) fun z _ a=>y z e _ (fun c o g _ r _ x=>a.extBut _ _ g (N _ _ r (b.extBut _ _ g x))) ⟨k,a.extBut _ _ M L,U⟩
 .subst B;refine d_ (j.item _ _ _ _ l (j.at' t b.extBut Z.b1.1) fun x n R T Id N=>C_ ?_);have f:Yc n to p q:=N.extBut _ _ Z.a5 (b.extBut _ _ Z.a2 G);refine d_ (XT f rfl (d_ (Zj f fun z IO a=>?_)));refine d_ (Ë (C_ ?_));refine d_ (d_ (Z3 ?_));refine d_ (h.done _ _ _ (h.at' (h.at' (h.at' F b.extBut Z.b2.1) N.extBut Z.b2.2.2) a.extBut Z.b2.2.1) fun I e v m=>?_);obtain⟨k,L,U⟩:=m;have O:à I zp ti to .ellipsis:=v _ _ Z.a4.symm (a.extBut _ _ Z.a2.symm (N.extBut _ _ Z.a3.symm Y));have M:e≠zp:=fun x=>by grind
  exact XU O (by simp) fun H _ u=>y H e _ (fun c o g K r J x=>u.extBut _ _ g (v _ _ J (a.extBut _ _ K (N.extBut _ _ r (b.extBut _ _ g x))))) ⟨k,u.extBut _ _ M L,U⟩
theorem S9{i:Nat}{Q:Option a_->e_->Prop}(Z:ZA zp ti to u1 u2 f1 f2)(t:á prog w A.in1 u1 f1 n1 P1 St1)(r:á prog w A.in1 u2 f2 n2 P2 St2)(L:à s.heap zp ti to .none)(hi:Yc s.heap ti (.ref u1) (.ref u2))(b:Yc s.heap to p q)(U:St1 i s.heap)(N:St2 i s.heap)(a:i<n1)(Y:i<n2)(d:∀x y h' B,P1 i x->P2 i y->à h' zp ti to (ñ s.heap.objs.size)->Yc h' to x y->St1 (i+1) h'->St2 (i+1) h'->Yc h' s.heap.objs.size x y->h'.objs.size=s.heap.objs.size+1 ->(∀c o,c≠zp->c≠to->c≠u1->c≠u2->s.heap.get? c=some o->h'.get? c=some o)->Q (some (.ref s.heap.objs.size)) { s with heap:=h',toks:=B }):K_ (G_ prog w) A (pyNext (.ref zp)) Q E s:=by
 have M:s.TypeIs (.ref zp) "zip" := ⟨_,L,rfl⟩
 exact d_ (wpAny_attempt (Xs M F.slot_zip_next (XO F.slot_zip_next M F.entry_zip_next
   (Rm Z t r L hi b U N a Y fun x y h' B n m l k j h g f e=>C_ (d x y h' B n m l k j h g f e)) (F.args_zip_next_1 _))))
theorem T6{i:Nat}{Q:Option a_->e_->Prop}(Z:ZA zp ti to u1 u2 f1 f2)(j:á prog w A.in1 u1 f1 n1 P1 St1)(h:á prog w A.in1 u2 f2 n2 P2 St2)(N:à s.heap zp ti to .none)(hi:Yc s.heap ti (.ref u1) (.ref u2))(L:Yc s.heap to p q)(a:St1 i s.heap)(Y:St2 i s.heap)(B:i=n1\/(i<n1/\i=n2))(g:∀h' M,(∀c o,c≠zp->c≠to->c≠u1->c≠u2->s.heap.get? c=some o->h'.get? c=some o)->Q none { s with heap:=h',toks:=M }):K_ (G_ prog w) A (pyNext (.ref zp)) Q E s:=by
 have U:s.TypeIs (.ref zp) "zip" := ⟨_,N,rfl⟩
 refine d_ (wpAny_attempt (Xs U F.slot_zip_next (XO F.slot_zip_next U F.entry_zip_next (PL Z j h N hi L a Y B fun h' e M b d=>?_) (F.args_zip_next_1 _))));obtain⟨o,L,f⟩:=d;exact d_ (wpAny_isInstance ⟨o,L,f⟩ isSubtype_stop (C_ (g _ _ b)))
end
abbrev my(c:String)(l:Addr):Obj:={ cls:=.type c,data:=.fields #[.ref l,.int 0 0] }
abbrev wz(h:Heap)(c1 c2:String)(l1 l2:Addr):Heap:=(h.push (my c1 l1)).push (my c2 l2)
abbrev ww(h:Heap)(c1 c2:String)(l1 l2:Addr):Heap:=(wz h c1 c2 l1 l2).push { cls:=.type "tuple",data:=.seq #[.ref h.objs.size,.ref (h.push (my c1 l1)).objs.size] }
abbrev pQ(h:Heap)(c1 c2:String)(l1 l2:Addr):Heap:=(ww h c1 c2 l1 l2).push { cls:=.type "tuple",data:=.seq #[.none,.none] }
abbrev ng(h:Heap)(c1 c2:String)(l1 l2:Addr):Heap:=(pQ h c1 c2 l1 l2).push { cls:=.type "zip",data:=.fields #[.none,.bool false,.bool false,.ref (wz h c1 c2 l1 l2).objs.size,.ref (ww h c1 c2 l1 l2).objs.size] }
abbrev mo(t:Bool):String:=match t with
|false => "list_iterator"
|true => "tuple_iterator"
theorem Dl{prog:E_}{w:P_}{A:V_}{E:a_->e_->Prop}{s:e_}{t:Bool}{l:Addr}{xs:Array a_}{Q:a_->e_->Prop}(e:nF t l xs s.heap)(h:Q (.ref s.heap.objs.size) { s with heap:=s.heap.push (my (mo t) l) }):K_ (G_ prog w) A (ì (.ref l)) Q E s:=by cases t with
|false=>exact Č e h
|true=>exact XC e h
theorem Pd(t1 t2:Bool)(L M:Addr)(xs N:Array a_):Meets (å.«zip.__new__» ⟨[.type "zip",.ref L,.ref M],[]⟩) (fun _ R s=>nF t1 L xs s.heap/\nF t2 M N s.heap /\R (.ok (.ret (.ref (pQ s.heap (mo t1) (mo t2) L M).objs.size))) { s with heap:=ng s.heap (mo t1) (mo t2) L M }):=
 .of_wp fun Y w A R s h=>by
  obtain⟨a,b,c,U,Z⟩:=s;obtain⟨e,d,h⟩:=h;have B:=sub_zip;have g:nF t1 L xs (Ć ⟨a,b,c,U,Z⟩):=e;have f:nF t2 M N (Ć ⟨a.push (my (mo t1) L),b,c,U,Z⟩):=Pi d fun o=>b_ _
  wp_walk using Dl g,Dl f
  exact⟨_,rfl,h⟩
section
variable{prog:E_}{w:P_}{A:V_}{E:a_->e_->Prop}{s:e_}
def tW(s:e_)(c1 c2:String)(l1 l2:Addr)(Q:a_->e_->Prop):Prop:=∀h',à h' (s.heap.objs.size+4) (s.heap.objs.size+2) (s.heap.objs.size+3) .none->Yc h' (s.heap.objs.size+2) (.ref s.heap.objs.size) (.ref (s.heap.objs.size+1)) ->Yc h' (s.heap.objs.size+3) .none .none->h'.get? s.heap.objs.size=some (my c1 l1)->h'.get? (s.heap.objs.size+1)=some (my c2 l2) ->(∀c o,s.heap.get? c=some o->h'.get? c=some o)->Q (.ref (s.heap.objs.size+4)) { s with heap:=h' }
theorem Oo{c1 M:String}{B L:Addr}{Q:a_->e_->Prop}(h:tW s c1 M B L Q):(∃o,(ng s.heap c1 M B L).get? (pQ s.heap c1 M B L).objs.size=some o/\o.cls=.type "zip")/\Q (.ref (pQ s.heap c1 M B L).objs.size) { s with heap:=ng s.heap c1 M B L }:=by
 have Y:(s.heap.push (my c1 B)).objs.size=s.heap.objs.size+1:=Xi ..;have U:(wz s.heap c1 M B L).objs.size=s.heap.objs.size+2:=by rw[Xi,Y]
 have N:(ww s.heap c1 M B L).objs.size=s.heap.objs.size+3:=by rw[Xi,U]
 have a:(pQ s.heap c1 M B L).objs.size=s.heap.objs.size+4:=by rw[Xi,N]
 have Z:(ng s.heap c1 M B L).get? (pQ s.heap c1 M B L).objs.size=some _:=q_ _ rfl;have b:(ng s.heap c1 M B L).get? (ww s.heap c1 M B L).objs.size=some _:=b_ _ (q_ _ rfl);have d:(ng s.heap c1 M B L).get? (wz s.heap c1 M B L).objs.size=some _:=b_ _ (b_ _ (q_ _ rfl));have e:(ng s.heap c1 M B L).get? (s.heap.push _).objs.size=some _:=b_ _ (b_ _ (b_ _ (q_ _ rfl)));have f:(ng s.heap c1 M B L).get? s.heap.objs.size=some _:=b_ _ (b_ _ (b_ _ (b_ _ (q_ _ rfl))));rw[U,N,a]at Z;rw[Y,U]at d;rw[N]at b;rw[Y]at e;rw[a];exact⟨⟨_,Z,rfl⟩,h _ Z d b f e fun c o x=>b_ _ (b_ _ (b_ _ (b_ _ (b_ _ x))))⟩
end
end
theorem Fv{t:Bool}{a u:Addr}{h:Heap}(e:h.get? u=some (my (mo t) a)):mz t a u 0 h:=by cases t <;> exact⟨_,e,rfl,rfl⟩
variable{i:Nat}
section
variable{t:Bool}{a u:Addr}{xs ys:List V}
theorem Qz{h':Heap}{ch:List Addr}{t':Nat}(I:Inv X pz σ H s)(B:∀b∈ch,eT X pz H b)(k:∀b L,b∉ch->s.heap.get? b=some L->h'.get? b=some L):Inv X pz σ H { s with heap:=h',toks:=t' }:=by
 have trk:∀b u,H b=some u->b∉ch:=fun b u e M=>by rw[(B b M).1]at e;cases e
 refine I.step (fun b M=>?_) (by simp_all) (fun b L _ _ N e _=>⟨L.slots,k b L N e⟩) (by simp_all)
  (by simp_all) (by simp_all) (by simp_all) (fun b Z e=>⟨#[],by rw[e];simp⟩) (fun m U=>?_) (fun b u e=>?_) I.bare
 .obtain⟨z0,z1,z2,z3,z4,z5⟩:=B b M
  grind
 .obtain⟨L,es,ep,ho,r⟩:=U;exact⟨L,es,ep,k _ L (fun M=>(B _ M).2.1 rfl) ho,r⟩
 .refine(I.hok b u e).stay (fun c v N q=>k c v ?_ q) (fun c q=>q) fun c Y q=>q
  grind
end
def Dh(sq1 sq2:Hp->List V->Prop):It:=⟨fun i H=>∃xs ys x y,sq1 H xs/\sq2 H ys/\xs[i]? = some x/\ys[i]? = some y,fun i H x H'=>∃p v u,H p=none/\x=.ref p/\H'=aV H p (.tup [v,u])/\(∀xs,sq1 H xs->xs[i]? = some v)/\∀ys,sq2 H ys->ys[i]? = some u,fun i H=>∃xs ys,sq1 H xs/\sq2 H ys/\min xs.length ys.length=i⟩
theorem Pj{P:E_}{w:P_}{H:Hp}{h:Heap}{T:Addr}{x y:a_}{v u:V}(B:h.get? T=some { cls:=.type "tuple",data:=.seq #[x,y] })(r1:L2.aT v x)(L:L2.aT u y):dS P w H h T (.tup [v,u]):=⟨by show 2<=sizeLine;decide,[x,y],.cons r1 (.cons L .nil),⟨_,B,rfl,0,rfl⟩,_,B,rfl⟩
theorem Qm{P:E_}{w:P_}{K:W.Frag}{elts:List Expr}{k:Nat}{pos:Pos}{t1 t2:Bool}(a b zp ti to u1 u2:Addr)(Z:ZA zp ti to u1 u2 [u1,a] [u2,b])(h1:a≠u1)(h2:b≠u2):Turn P w K (.Tuple elts k pos) (Dh (gw K t1 a) (gw K t2 b)) [zp,ti,to,u1,u2] zp (fun i h=>à h zp ti to .none/\Yc h ti (.ref u1) (.ref u2)/\(∃p q,Yc h to p q)/\mz t1 a u1 i h/\mz t2 b u2 i h) where
 mem:=by simp
 obj:=fun i h st c hc=>by
  obtain⟨hz,hi,⟨p,q,ho⟩,s1,s2⟩:=st;simp only[I_,XQ,Q_j]at hc;rcases hc with rfl|rfl|rfl|rfl|rfl
  .simp_all
  .simp_all
  .simp_all
  .exact pH s1
  .exact pH s2
 keep:=fun i h h' st kk=>by obtain⟨hz,hi,⟨p,q,ho⟩,s1,s2⟩:=st;exact⟨kk zp (by simp) _ hz,kk ti (by simp) _ hi,⟨p,q,kk to (by simp) _ ho⟩,pV s1 fun o e=>kk u1 (by simp) o e,pV s2 fun o e=>kk u2 (by simp) o e⟩
 item:=by
  intro X hP hw hK hc i pz s σ H E I hf st hg;subst hP hw hK;obtain⟨xs,ys,x,y,q1,q2,hx,hy⟩:=hg;obtain⟨hz,hi,⟨p,q,ho⟩,s1,s2⟩:=st;obtain⟨Y,St1,M,D1,d1,f1⟩:=o5 I hc q1 h1 s1;obtain⟨U,St2,L,D2,d2,f2⟩:=o5 I hc q2 h2 s2;have l1:i<Y.toArray.size:=by have:=(c_.mp hx).1;rw[D_,<-M.length];exact this
  have l2:i<U.toArray.size:=by have:=(c_.mp hy).1;rw[D_,<-L.length];exact this
  refine S9 Z D1 D2 hz hi ho d1 d2 l1 l2 fun vx vy h' tk px py LT KK Id IO hT hsz hk=>⟨_,rfl,wpAny_letOwnedTupleGo_zip LT fun LE BT B=>?_⟩
  obtain⟨wx,e1,r1⟩:=M.get hx;obtain⟨wy,e2,r2⟩:=L.get hy;have ex:vx=wx:=by grind
  have ey:vy=wy:=by grind
  subst ex ey;have nT:∀c o,s.heap.get? c=some o->s.heap.objs.size≠c:=fun c o e=>Xu (x_ e);have Cl:=(B.2 _ (nT _ _ hz)).trans hT;obtain⟨o1,ST,_⟩:=pH s1;obtain⟨o2,ho2,_⟩:=pH s2;refine⟨.ref s.heap.objs.size,aV H s.heap.objs.size (.tup [x,y]),HQ (s:=s) (h':=LE) (t':=tk) (ch:=[zp,to,u1,u2]) I (fun c hc=>hf c ?_) (fun c ob hb e=>?_) (o_ _) (Pj Cl r1 r2),rfl,⟨_,x,y,I.hok.fresh (o_ _),rfl,rfl,fun zs hz=>by rw[zx I hz q1];exact hx,fun zs hz=>by rw[zx I hz q2];exact hy⟩,⟨BT,?_,⟨vx,vy,?_⟩,?_,?_⟩,fun c hc=>?_⟩
  .grind
  .simp only[I_,XQ,Q_j,not_or]at hb;exact(B.2 c hb.1).trans (hk c ob hb.1 hb.2.1 hb.2.2.1 hb.2.2.2 e)
  .exact(B.2 _ Z.a1).trans (hk _ _ Z.a1 Z.a8.1 Z.a8.2.1 Z.a8.2.2 hi)
  .exact(B.2 _ Z.a2).trans KK
  .exact pV (f1 _ _ Id) fun o e=>(B.2 _ Z.a3).trans e
  .exact pV (f2 _ _ IO) fun o e=>(B.2 _ Z.a4).trans e
  .rw[bZ ?_]
   .exact(hf c hc).1
   grind
 done:=by
  intro X hP hw hK hc i pz s σ H E I hf st hg;subst hP hw hK;obtain⟨xs,ys,q1,q2,hm⟩:=hg;obtain⟨hz,hi,⟨p,q,ho⟩,s1,s2⟩:=st;obtain⟨Y,St1,M,D1,d1,f1⟩:=o5 I hc q1 h1 s1;obtain⟨U,St2,L,D2,d2,f2⟩:=o5 I hc q2 h2 s2;have l1:=M.length;have l2:=L.length;refine T6 Z D1 D2 hz hi ho d1 d2 ?_ fun h' tk hk=>⟨rfl,Qz (h':=h') (t':=tk) (ch:=[zp,to,u1,u2]) I (fun c hc=>hf c ?_) fun c ob hb e=>?_⟩
  .grind
  .grind
  simp_all
 self:=fun _ _ _ _ _ st h=>wpAny_pyIter_zip st.1 h
def jy(fa fb:FE):FI:=fun r=>(fa r).bind fun d=>(fb r).bind fun e=>(eN (cS d)).bind fun ds=>(eN (cS e)).bind fun es=>.ok (X8 (fun a b=>D.tup [a,b]) ds es)
theorem PM{L B M:Type}(f:L->B->M):∀(l:List L)(r:List B)(i:Nat),(X8 f l r)[i]? = (match l[i]?,r[i]? with|some a,some b=>some (f a b)|_,_=>none):=fun l r i=>by rw[đ];cases l[i]? <;> cases r[i]? <;> rfl
variable{fa fb:FE}
section
variable{e1 e2:Expr}
theorem Np{pz:List (Addr×Obj)}{σ:L2.St}{H:Hp}{s:e_}{t1 t2:Bool}{a b:Addr}{xs N:List V}{E:a_->e_->Prop}{Q:a_->e_->Prop}(I:Inv X pz σ H s)(Y:gw X.K t1 a H xs)(U:gw X.K t2 b H N)(h:tW s (mo t1) (mo t2) a b Q):K_ (G_ X.prog X.w) X.A (call (.type "zip") [.ref a,.ref b]) Q E s:=by obtain⟨L,_,c⟩:=uU I Y;obtain⟨B,_,Z⟩:=uU I U;exact callType_new F.called_zip (rfl) (F.typeCall_zip_2 _ _) (F.newCall_zip_2 _ _) (fun M=>F.args_object_init_3 M _ _) F.entry_zip_new (Pd t1 t2 a b L.toArray B.toArray) ⟨c,Z,Oo h⟩
theorem kT{x y:Nat}(h:x≠y):(show Addr from x)≠(show Addr from y):=h
theorem pL{x u a:Nat}(L:x≠u)(B:x≠a):(show Addr from x)∉[(show Addr from u),(show Addr from a)]:=by grind
theorem NM{a b k:Nat}(L:a<k)(B:b<k):ZA (show Addr from k+4) (show Addr from k+2) (show Addr from k+3) (show Addr from k) (show Addr from k+1) [(show Addr from k),(show Addr from a)] [(show Addr from k+1),(show Addr from b)]:=⟨kT (by omega),kT (by omega),kT (by omega),kT (by omega),kT (by omega),kT (by omega),kT (by omega),⟨kT (by omega),kT (by omega),kT (by omega)⟩,⟨pL (by omega) (by omega),pL (by omega) (by omega),pL (by omega) (by omega)⟩,⟨pL (by omega) (by omega),pL (by omega) (by omega),pL (by omega) (by omega)⟩⟩
theorem MC{c k:Nat}(h:c=k+4\/c=k+2\/c=k+3\/c=k\/c=k+1):k<=c:=by omega
theorem Nf{l k:TE}(T:Gl X "zip")(P:X.mg "zip" = none)(ha:PE X e1 l)(hb:PE X e2 k)(hs:i_ [e1,e2] X.env=(false,eval e1 X.env)::i_ [e2] X.env:=by rfl)(M:i_ [e2] X.env=(false,eval e2 X.env)::i_ [] X.env:=by rfl)(e:(backTo pos (i_ [e2] X.env)).any (·.1)=false:=by rfl):PI X (.Tuple elts kk pos2) (.Call (.Name "zip" p) [e1,e2] [] pos) (fun σ H R=>l σ H fun x f=>k σ f fun y U=>∃(t1 t2:Bool)(a b:Addr),x=.ref a/\y=.ref b/\(∃xs,gw X.K t1 a U xs)/\(∃d,gw X.K t2 b U d)/\R (Dh (gw X.K t1 a) (gw X.K t2 b)) U):=by
 intro E s σ H R I h;refine Call_ (pB I T P boot_zip (XJ (bQ (i6 ha (i6 hb ka M) hs pos E s σ H (fun j U=>match j with
 |[x,y]=>∃(t1 t2:Bool)(a b:Addr),x=.ref a/\y=.ref b/\(∃xs,gw X.K t1 a U xs)/\(∃d,gw X.K t2 b U d)/\R (Dh (gw X.K t1 a) (gw X.K t2 b)) U
 |_=>False) I h) fun w N k=>?_) hs e));obtain⟨j,f,Y,C,Z⟩:=k
 cases C with
|nil=>exact Z.elim
|@cons x u xs w A rt=>cases rt with
|nil=>exact Z.elim
|@cons y u' t v z L=>cases L with
|cons _ _=>exact Z.elim
|nil=>
 obtain⟨t1,t2,a,b,rfl,rfl,⟨zs,i⟩,⟨ws,g⟩,q⟩:=Z;cases A;cases z;have n:=pY Y i;have m:=pY Y g;refine Np Y i g fun h' o Q O G F J=>wpAny_pyIter_zip o ?_;refine⟨_,[N.heap.objs.size+4,N.heap.objs.size+2,N.heap.objs.size+3,N.heap.objs.size,N.heap.objs.size+1],_,_,f,rfl,Y.kept (t':=N.toks) J,Qm (t1:=t1) (t2:=t2) a b _ _ _ _ _ (NM n m) (L_ n) (L_ (Xw m)),⟨o,Q,⟨_,_,O⟩,Fv G,Fv F⟩,fun c r=>?_,q⟩;have B:N.heap.objs.size<=c:=by simp only[I_,XQ,Q_j]at r;exact MC r
 exact Y.fpOk B (Y.hok.fresh B)
theorem t0(hg:Gl X "zip")(hm:X.mg "zip" = none)(ha:SE X g m e1 fa)(hb:SE X g m e2 fb)(hs:i_ [e1,e2] X.env=(false,eval e1 X.env)::i_ [e2] X.env:=by rfl)(L:i_ [e2] X.env=(false,eval e2 X.env)::i_ [] X.env:=by rfl)(C:(backTo pos (i_ [e2] X.env)).any (·.1)=false:=by rfl):iU X g m (.Tuple elts kk pos2) (.Call (.Name "zip" p) [e1,e2] [] pos) (jy fa fb):=by
 refine PI.imp (Nf hg hm ha hb hs L C) fun σ H R g=>?_;obtain⟨r,G,O,q⟩:=g;refine ⟨r,G,O,cC (cB q) fun d q v G1 H1 l Y=>⟨r,G1,O.grow l,?_⟩⟩
 refine gE (cB q) l fun e q u J T k o=>?_;obtain⟨j,h,q⟩:=dz (cB q);obtain⟨es,ee,q⟩:=dz (cB q);have B:=Y.mono k.ge;have f:∀{v:V}{d:D}{j:List D},RG X.K J v d->cS d=some j->∃(t:Bool)(a:Addr),v=.ref a/\(∃M,gw X.K t a T M)/\∀G H,bX J G->cA X.K G H->∃M,gw X.K t a H M/\cW X.K G M j:=by intro v d j Y h;cases d with
 |lst I=>cases h;obtain⟨a,M,rfl,s,rs⟩:=Y.lst k.ok;refine⟨false,a,rfl,⟨M,s⟩,fun G H A N=>?_⟩;obtain⟨b,U,e,n,z⟩:=(Y.mono A).lst N;cases e;exact⟨U,n,z⟩
 |tup I=>cases h;obtain⟨a,M,rfl,s,rs⟩:=Y.tup k.ok;refine⟨true,a,rfl,⟨M,s⟩,fun G H A N=>?_⟩;obtain⟨b,U,e,n,z⟩:=(Y.mono A).tup N;cases e;exact⟨U,n,z⟩
 |_=>cases h
 obtain⟨t1,a,rfl,x1,y1⟩:=f B h;obtain⟨t2,b,rfl,x2,y2⟩:=f o ee;exact⟨t1,t2,a,b,rfl,rfl,x1,x2,q _ J T (l.trans k) ((fun F E=>by
    refine⟨fun G H i w N hi=>?_,fun G H i x H' d w N y e=>?_,fun G H w N=>?_⟩
    .obtain⟨M,s1,r1⟩:=F G H w N;obtain⟨U,Z,c⟩:=E G H w N;rw[Zs]at hi;have l1:=Paired.length r1;have l2:=Paired.length c;exact⟨M,U,M[i]'(by omega),U[i]'(by omega),s1,Z,k_ _,k_ _⟩
    .obtain⟨M,s1,r1⟩:=F G H w N;obtain⟨U,Z,c⟩:=E G H w N;obtain⟨p,v,u,hp,rfl,rfl,hv,hu⟩:=y;rw[PM]at e;cases e1:j[i]? with
    |none=>rw[e1]at e;cases e
    |some d1=>cases e2:es[i]? with
     |none=>rw[e1,e2]at e;cases e
     |some d2=>rw[e1,e2]at e;cases e;obtain⟨v',z1,Y⟩:=Paired.get r1 e1;obtain⟨u',z2,o⟩:=Paired.get c e2;have Q:=hv M s1;have P:=hu U Z;rw[z1]at Q;cases Q;rw[z2]at P;cases P;exact⟨_,Grow.newF N hp (.tup (.inl cP) (.cons Y (.cons o .nil))),.ref fZ⟩
    .obtain⟨M,s1,r1⟩:=F G H w N;obtain⟨U,Z,c⟩:=E G H w N;refine⟨M,U,s1,Z,?_⟩;rw[Zs,Paired.length r1,Paired.length c]) y1 y2)⟩
end
def qw:Nat:=2^2000
def qx(i j:Int):Prop:=i.natAbs<qw/\j.natAbs<qw
def xW(_i j:Int):Prop:=0<j/\j.natAbs<qw
instance decMulW(i j:Int):Decidable (qx i j):=by unfold qx;infer_instance
instance decDivW(i j:Int):Decidable (xW i j):=by unfold xW;infer_instance
theorem Fo{i:Int}(h:i.natAbs<qw):YL i<=2000:=by
 unfold YL;split
 .exact Xe _
 .rename_i z;have B:i.natAbs≠0:=fun e=>z (by rw[Int.natAbs_eq_zero.mp e];rfl);have:=(ZU B).mpr h;assumption
theorem qx.ok{i j:Int}(h:qx i j):IntMulOk i j:=by
 have L:=Fo h.1;have B:=Fo h.2;unfold IntMulOk;have e:Ļ ((YL i)+(YL j))=false:=by
  unfold Ļ;have:((bitsLine))=134217728:=by decide+kernel
  grind
 rw[e];simp
abbrev oG:D->D->Option D:=lC qx fun a b=>.int (a*b)
abbrev xP:D->D->Option D:=lC xW fun a b=>.int (a/b)
variable{b c:Expr}{apos cpos:Pos}
section
variable{o:Expr}{fc fo:FE}
theorem k0(M:SB X g m a fa)(L:SB X g m b fb):SE X g m (.BinOp a .Mult b pos) (f2 fa fb oG):=kO (qm fun _ _ _ _ _ _ _ B q=>mul_int q B.ok) (pR fun _ _=>.int _) M L
theorem GW(M:SB X g m a fa)(L:SB X g m b fb):SE X g m (.BinOp a .FloorDiv b pos) (f2 fa fb xP):=kO (qm fun i j _ _ _ _ _ B q=>by
   have Y:(0:Int)<j:=B.1;have N:j.natAbs<qw:=B.2;have U:j.natAbs≠0:=by omega
   have:=(ZU U).mpr N;exact floordiv_int (by omega) (by rw[ZI i (by omega)];exact q) (.inl (PyProof.noPylong_of_log2 (by omega)))) (pR fun _ _=>.int _) M L
def absD:List D->Option D
|[.int i]=>some (.int (if i<0 then-i else i))
|_=>none
theorem Vd(Y:Gl X "abs")(U:X.mg "abs" = none)(a:iF X g m (e::es) fl)(Z:i_ (e::es) X.env=(false,eval e X.env)::i_ es X.env:=by rfl)(B:(backTo pos (i_ es X.env)).any (·.1)=false:=by rfl) :
  SE X g m (.Call (.Name "abs" p) (e::es) [] pos) (fC fl absD):=hX (by
     intro G H b c d Q L M e q;unfold absD at e;split at e
     .cases e;cases M with
     |cons N t=>cases t;exact⟨_,by rw[N.int L],q _ G H (Grow.refl L) (.scl (.int _))⟩
     .cases e) (nq Pr Y U PyProof.Rows.boot_abs a (by decide) (rfl) Z B)
theorem vP{x:Str}{d:D}(N:Gl X x)(M:∃a,X.mg x=some (.ref a)/\KC X.K a d)(U:(x==("__debug__" : Str))=false:=by decide):SE X g m (.Name x pos) fun _=>.ok d:=by obtain⟨a,L,k⟩:=M;exact PE.imp (vN (v:=.ref a) N L rfl U) fun Y H Q z=>by obtain⟨r,G,B,q⟩:=z;exact q _ G H (Grow.refl B.gok) (.kc k)
theorem zq{x:Str}{i:Int}(M:Gl X x)(L:∃t,X.mg x=some (.int i t))(N:(x==("__debug__" : Str))=false:=by decide):SE X g m (.Name x pos) fun _=>.ok (.int i):=by obtain⟨t,B⟩:=L;exact EH (v:=.int i) M B ⟨t,rfl⟩ (.int i) N
theorem Co{K:W.Frag}{h:Heap}{B:Str->Option a_}{x:Str}(L:K.In h)(G:h.Ns U_ B){i:Int}{t:Tok}(z:W.nsIn K U_ x=some (some (.int i t))):∃t,B x=some (.int i t):=⟨t,W.mg_of L G z⟩
theorem LR{K:W.Frag}{h:Heap}{B:Str->Option a_}{x:Str}(M:K.In h)(G:h.Ns U_ B){a:Addr}{i j:Int}{t u:Tok}{n:Nat}{L:Array (Option a_)}(z:W.nsIn K U_ x=some (some (.ref a)))(l:K.lookup a=some ⟨.type "tuple",none,.seq #[.int i t,.int j u] n,L⟩):∃a,B x=some (.ref a)/\KC K a (.tup [.int i,.int j]):=by refine⟨a,W.mg_of M G z,.tup (xs:=[.int i,.int j]) (.inr ⟨_,_,_,l,rfl,rfl,?_,.cons ⟨_,rfl⟩ (.cons ⟨_,rfl⟩ .nil)⟩) (.cons (.int _) (.cons (.int _) .nil)) ⟨_,l,rfl,rfl⟩⟩;show 2<=sizeLine;decide
def F8(K:W.Frag):V->List V->Hp->VK->Prop:=fun x vs H Q=>∃p xs y,x=.ref p/\vs=[y]/\cL K H p xs/\gT y=true/\xs.all gT=true/\Q (.int ((xs.countP fun z=>ii z y:Nat):Int)) H
theorem F5{y:V}:∀{xs:List V}{us:List a_},aK xs us->xs.all gT=true->us.countP (iE y)=xs.countP fun z=>ii z y
|_,_,.nil,_=>rfl
|x::xs,u::us,.cons r t,f=>by rw[Ys,Q_]at f;rw[YG,YG,F5 t f.2,qS r f.1]
theorem Az:jb X "list.count" (F8 X.K):=by
 intro E s t H x A v C Q I b c h;obtain⟨p,a,y,rfl,rfl,j,m,Z,q⟩:=h;cases b;obtain⟨u,rfl,d⟩:=fF c;obtain⟨L,r,f,G⟩:=I.list j;obtain⟨o,n,Y,l,k,i⟩:=f;obtain⟨U,M,N,B⟩:=o;subst l k i;refine Yb PySem.F.slot_list_count ⟨_,Y,rfl⟩ PySem.F.entry_list_count (PySem.F.args_list_count_2 _ _)
  (SeqAt.list_countAt p L.toArray n none B u _) ⟨Y,fun w g=>nZ d m r Z w (by simpa using g),⟨.int _,H,I.tok _,⟨_,rfl⟩,?_⟩⟩
 have e:(L.toArray.toList.countP _)=a.countP fun z=>ii z y:=F5 r Z;rw[e];exact q
def pw(d:D)(zs:List D):Option D:=match d,zs with
|.lst ds,[x]=>if dm x=true/\ds.all dm=true then some (.int ((ds.countP fun z=>eqs z x:Nat):Int))else none
|_,_=>none
theorem Aw{K:W.Frag}:oX K (F8 K) pw:=by
 intro G H v d c f g Q B M N e q;unfold pw at e;split at e
 .rename_i zs x;split at e
  .rename_i hc;cases e;cases N with
  |cons U rt=>
    cases rt;obtain⟨a,L,rfl,s,r⟩:=M.lst B;obtain⟨b,f1⟩:=RB.flat U B hc.1;obtain⟨Z,Y⟩:=xQ r B hc.2;refine⟨a,L,_,rfl,rfl,s,f1,Y,?_⟩;have:(L.countP fun z=>ii z (iK x))=zs.countP fun z=>eqs z x:=by rw[Z,ġ];rfl
    rw[b,this];exact q _ G H (Grow.refl B) (.scl (.int _))
  .cases e
 .cases e
end
def tf:bG->D
|.inl i=>.int i
|.inr x=>.str x
theorem OL(k:bG):Scl (kV k) (tf k):=by cases k with
|inl i=>exact .int i
|inr x=>exact .str x
def nO:D->Option (List D)
|.dic kvs=>some (kvs.map fun kv=>tf kv.1)
|_=>none
def Dj(a:Addr)(ob:Obj)(ps:List (bG×V)):It:=⟨fun i H=>H a=some (.frz ob (.dK ps))/\i<ps.length,fun i H x H'=>H'=H/\∃kv,ps[i]? = some kv/\x=kV kv.1,fun i H=>H a=some (.frz ob (.dK ps))/\i=ps.length⟩
theorem Mg{P:E_}{w:P_}{k:bG}{u:a_}(h:(jk P w).is k u=true):aT (kV k) u:=by
 rcases keyIs_shape h with⟨i,t,rfl,rfl⟩|⟨x,t,rfl,rfl⟩
 .exact⟨t,rfl⟩
 .exact⟨t,rfl⟩
section
variable{a:Addr}{ob:Obj}{ps:List (bG×V)}
theorem zX(I:Inv X pz σ H s)(e:H a=some (.frz ob (.dK ps))){Y:Array Z_}{Z:Nat}(B:ob.data=.dict Y Z):∃vs,KV ps vs/\s.heap.DictAt (jk X.prog X.w) a vs Z/\(a==Yj)=false:=by
 obtain⟨U,z,y,vs,r,f,L,M,N,d,b,c⟩:=(I.hok a _ e)
 rw[U]at N;cases N;rw[B]at b;cases b;exact⟨vs,r,⟨ob,Y,U,d,B,c⟩,y⟩
theorem Ny(I:Inv X pz σ H s)(e:H a=some (.frz ob (.dK ps))):∃(M:Array Z_)(N:Nat),ob.data=.dict M N:=by
 obtain⟨b,z,y,U,r,Y,B,L,Z,f,d,c⟩:=(I.hok a _ e)
 simp_all
end
theorem Rh{P:E_}{w:P_}{K:W.Frag}{Q:Expr}(a it:Addr){A:Obj}{z:List (bG×V)}{es:Array Z_}{J:Nat}(L:A.data=.dict es J):Turn P w K Q (Dj a A z) [it] it (fun i h=>h.IsKeyIter it a i z.length J) where
 mem:=by simp
 obj:=fun i h N b Y=>by
  have e:=by simpa using Y
  obtain⟨o,e,c,d⟩:=N;simp_all
 keep:=fun i h G N k=>N.at fun o e=>k it (by simp) o e
 item:=by
  intro X p j q F i T s O H E I f N l;subst p j q;obtain⟨n,hi⟩:=l;obtain⟨y,r,m,_⟩:=zX I n L;have Z:=Paired.length r;have M:i<y.length:=by omega
  obtain⟨C,h1,h2⟩:=DL.Paired.get r (k_ M);obtain⟨x,f1,f2,v,u,t⟩:=f it (by simp);rw[Z]at N;refine wpAny_pyNext_dict_item N m (k_ M) fun g G U B R=>?_;have I1:=I.turned (t':=s.toks) (fun b o Y e=>(R.2 b Y).trans e) x f1 v u t;obtain⟨o,e,c,d⟩:=id B;exact⟨g,rfl,tZ e c d (rfl) ⟨kV C.1,H,I1,by rw[h2.1];exact Mg U,⟨rfl,C,h1,rfl⟩,by rw[Z];exact B,fun b Y=>(f b Y).1⟩⟩
 done:=by intro X p j q F i T s O H E I f N l;subst p j q;obtain⟨n,hi⟩:=l;obtain⟨y,r,m,_⟩:=zX I n L;have Z:=Paired.length r;obtain⟨x,f1,f2,v,u,t⟩:=f it (by simp);rw[Z]at N;exact wpAny_pyNext_dict_end (I.ok.hd F) N m (by simp_all) fun G eb=>⟨rfl,I.turned (fun b o Y e=>eb b o Y e) x f1 v u t⟩
 self:=fun _ _ _ _ _ N h=>wpAny_pyIter_keyiter N h
variable{m1:List Md}
section
variable{tg:Expr}{p:FQ}{pos':Pos}
theorem Gv{l:Expr}{Z:TE}(Y:PE X l Z):PI X tg l (fun σ H R=>Z σ H fun x M=>∃a U N,x=.ref a/\M a=some (.frz U (.dK N))/\R (Dj a U N) M):=by
 intro i s σ H R I h;refine bQ (Y i s σ H _ I h) fun v c z=>?_;obtain⟨x,M,L,f,g⟩:=z;obtain⟨a,U,N,e,d,q⟩:=g;subst e;cases f;obtain⟨p,t,B⟩:=Ny L d;obtain⟨n,r,j,k⟩:=zX L d B;have Y:=Paired.length r;refine wpAny_pyIter_dict k j ?_;refine⟨c.heap.objs.size,[c.heap.objs.size],_,_,M,rfl,L.kept fun b o e=>b_ _ e,Rh a _ B,⟨_,q_ _ rfl,rfl,by rw[Y];rfl⟩,fun b m=>?_,q⟩;have e:=by simpa using m
 subst e;exact L.fpOk (o_ _) (L.hok.fresh (o_ _))
theorem Eo{K:W.Frag}{G:GH}{U:List (bG×V)}{L:List (bG×D)}(r:fE K G U L){i:Nat}{N:bG×V}{d:D}(h:U[i]? = some N)(M:(L.map fun N=>tf N.1)[i]? = some d):RG K G (kV N.1) d:=by rw[A_]at M;cases e:L[i]? with
|none=>rw[e]at M;cases M
|some q=>rw[e]at M;cases M;obtain⟨B,Y,Z⟩:=DL.Paired.get r e;rw[h]at Y;cases Y;rw[Z.1];exact .scl (OL _)
theorem RG.dicF{K:W.Frag}{G:GH}{H:Hp}{v:V}{B:List (bG×D)}(N:cA K G H)(h:RG K G v (.dic B)):∃a M L,v=.ref a/\G a=some (.dic B)/\H a=some (.frz M (.dK L))/\fE K G L B:=by cases h with
|scl s=>cases s
|ref e=>cases N _ _ e with
 |dic r s=>exact⟨_,_,_,rfl,e,r,s⟩
|kc k=>cases k
theorem NC(h:SE X g m e f):gQ X g m tg e (bI nO f):=by
 refine PI.imp (Gv h) fun k H R z=>?_;obtain⟨r,G,M,q⟩:=z;refine ⟨r,G,M,cC (cB q) fun d q v j L w N=>?_⟩
 obtain⟨p,e,q⟩:=dz q;cases d with
|dic b=>obtain⟨a,Z,Y,rfl,_,B,U⟩:=RG.dicF w.ok N;exact⟨a,Z,Y,rfl,B,q _ j L w ((fun B r=>by have n:=Paired.length r;refine⟨fun G H i w o=>⟨w.he _ _ B,by simp_all⟩,fun G H i x L d w y e=>?_,fun G H w=>⟨w.he _ _ B,by simp_all⟩⟩;obtain⟨rfl,l,c,rfl⟩:=y;exact⟨G,Grow.refl w.ok,Eo (fE.mono r w.ge) c e⟩) B U)⟩
|_=>cases e
def ij(g:GE)(a:Addr)(d:D)(u:HO):GE:=⟨gset g.gh a d,aV g.h0 a u,g.hd⟩
theorem SI.up{r:aL}{G:GH}{st:L2.St}{H:Hp}{a:Addr}{d:D}{u:HO}(s:SI X g m r G st H)(hG:G a=some d)(j:H a=some u):SI X (ij g a d u) m r G st H where
 gok:=s.gok
 old:=fun b o e=>by
  by_cases M:b=a
  .subst M;have B:aV g.h0 b u b=some o:=e;rw[cP]at B;cases B;exact j
  .have B:aV g.h0 a u b=some o:=e;rw[bZ M]at B;exact s.old b o B
 ge:=fun b x e=>by
  by_cases M:b=a
  .subst M;have B:gset g.gh b d b=some x:=e;rw[fZ]at B;cases B;exact hG
  .have B:gset g.gh a d b=some x:=e;rw[i5 M]at B;exact s.ge b x B
 gf:=fun b h=>by
  show G b=gset g.gh a d b;by_cases M:b=a
  .subst M;rw[fZ];exact hG
  .rw[i5 M];exact s.gf b fun z=>h (show aV g.h0 a u b=none by rw[bZ M];exact z)
 lm:=s.lm
 lr:=s.lr
 sh:=s.sh
 ow:=fun i x f Z=>by
  obtain⟨c,U,L,N⟩:=s.ow i x f Z;refine⟨c,U,L,?_⟩;have Y:c≠a:=by rintro rfl;rw[L.un]at hG;cases hG
  show aV g.h0 a u c=none;rw[bZ Y];exact N
 bw:=fun i x f Z=>by
  obtain⟨v,U,L⟩:=s.bw i x f Z;refine⟨v,U,?_⟩;rcases L with L|⟨c,e,L,N⟩
  .exact .inl L
  .refine .inr ⟨c,e,L,?_⟩;have Y:c≠a:=by rintro rfl;rw[L.un]at hG;cases hG
   show aV g.h0 a u c≠none;rw[bZ Y];exact N
 dis:=s.dis
 lk:=s.lk
structure Had(g:GE)(a:Addr)(d:D)(u:HO):Prop where
 h0:∀o,g.h0 a=some o->o=u
 gh:∀x,g.gh a=some x->x=d
 gf:g.h0 a≠none->g.gh a=some d
theorem SI.had{r:aL}{G:GH}{st:L2.St}{H:Hp}{a:Addr}{d:D}{u:HO}(s:SI X g m r G st H)(hG:G a=some d)(B:H a=some u):Had g a d u:=⟨fun o e=>by have:=s.old a o e;grind,fun x e=>by have:=s.ge a x e;grind,fun h=>by rw[<-s.gf a h];exact hG⟩
theorem SI.down{r:aL}{G:GH}{st:L2.St}{H:Hp}{a:Addr}{d:D}{u:HO}(Y:Had g a d u)(s:SI X (ij g a d u) m r G st H):SI X g m r G st H:=by
 have k:=s.old a u cP;have hG:=s.ge a d fZ;exact{
  gok:=s.gok
  old:=fun b o e=>by
   by_cases M:b=a
   .subst M;rw[Y.h0 o e];exact k
   .exact s.old b o (show aV g.h0 a u b=some o by rw[bZ M];exact e)
  ge:=fun b x e=>by
   by_cases M:b=a
   .subst M;rw[Y.gh x e];exact hG
   .exact s.ge b x (show gset g.gh a d b=some x by rw[i5 M];exact e)
  gf:=fun b h=>by
   by_cases M:b=a
   .subst M;rw[hG,Y.gf h]
   .have:=s.gf b (show aV g.h0 a u b≠none by rw[bZ M];exact h);rw[this];exact i5 M
  lm:=s.lm
  lr:=s.lr
  sh:=s.sh
  ow:=fun i x j f=>by
   obtain⟨c,U,L,N⟩:=s.ow i x j f;have Z:c≠a:=by rintro rfl;rw[L.un]at hG;cases hG
   refine⟨c,U,L,?_⟩;have B:aV g.h0 a u c=none:=N;rw[bZ Z]at B;exact B
  bw:=fun i x j f=>by
   obtain⟨v,U,L⟩:=s.bw i x j f;refine⟨v,U,?_⟩;rcases L with L|⟨c,e,L,N⟩
   .exact .inl L
   .have Z:c≠a:=by rintro rfl;rw[L.un]at hG;cases hG
    refine .inr ⟨c,e,L,?_⟩;have B:aV g.h0 a u c≠none:=N;rw[bZ Z]at B;exact B
  dis:=s.dis
  lk:=s.lk }
theorem Grow.down{K:W.Frag}{N:GH}{M:Hp}{a:Addr}{d:D}{u:HO}(L:Had g a d u)(w:Grow K (ij g a d u).gh (ij g a d u).h0 N M):Grow K g.gh g.h0 N M:=
 ⟨w.ok,fun b o e=>by
  by_cases B:b=a
  .subst B;rw[L.h0 o e];exact w.he b u cP
  .exact w.he b o (show aV g.h0 a u b=some o by rw[bZ B];exact e),fun b x e=>by
  by_cases B:b=a
  .subst B;rw[L.gh x e];exact w.ge b d fZ
  .exact w.ge b x (show gset g.gh a d b=some x by rw[i5 B];exact e),fun b h=>by
  by_cases B:b=a
  .subst B;rw[L.gf h];exact w.ge b d fZ
  .have:=w.gf b (show aV g.h0 a u b≠none by rw[bZ B];exact h);rw[this];exact i5 B⟩
def Vu(X:Cx)(g:GE)(m:List Md)(f:FE):TI:=fun σ H R=>∃r G,SI X g m r G σ H/\fin (f r) (fun d=>∀a ob ps kvs G' H',d=.dic kvs->Grow X.K G H G' H'->G' a=some (.dic kvs)->H' a=some (.frz ob (.dK ps))->fE X.K G' ps kvs->R (Dj a ob ps) H') (XW X σ G H)
theorem ME(h:SE X g m e f)(c:∀r d,f r=.ok d->∃B,d=.dic B):PI X tg e (Vu X g m f):=by
 refine PI.imp (Gv h) fun k H R z=>?_;obtain⟨r,G,Y,q⟩:=z;refine ⟨r,G,Y,?_⟩
 cases L:f r with
|ok d=>rw[L]at q;intro v j i w Z;obtain⟨B,rfl⟩:=c r d L;obtain⟨a,N,M,rfl,hG,U,b⟩:=RG.dicF w.ok Z;exact⟨a,N,M,rfl,U,q a N M B j i rfl w hG U b⟩
|exc x=>rw[L]at q;exact q
|stuck=>rw[L]at q;exact q
def uD(f:FE):FE:=fun r=>(f r).bind fun d=>match d with
|.dic kvs=>.ok (.dic kvs)
|_=>.stuck
theorem Q6(f:FE):∀r d,uD f r=.ok d->∃B,d=.dic B:=by intro r d e;unfold uD at e;cases L:f r with
|ok x=>rw[L,bind_ok]at e;cases x with
 |dic B=>cases e;exact⟨B,rfl⟩
 |_=>cases e
|exc x=>rw[L]at e;cases e
|stuck=>rw[L]at e;cases e
theorem QL{r:aL}{q:List D->Prop}{x:D->Prop}(h:fin (bI nO f r) q x):fin (uD f r) (fun d=>∀L,d=.dic L->q (L.map fun N=>tf N.1)) x:=by unfold bI at h;unfold uD;cases M:f r with
|ok d=>rw[M]at h;cases d with
 |dic L=>intro B e;cases e;exact h
 |_=>exact h
|exc y=>rw[M]at h;exact h
|stuck=>rw[M]at h;exact h
theorem EG(hp:Y_ (G_ X.prog X.w) X.A X.env X.xe)(hc:X.calm=true){ft:FT}(hi:SE X g m iter f)(hg:∀g',SG X g' m tg ft m)(hb:∀g',il X g' ro m m sts s1 m)(hs:∀x,W9 iter X.env x=pure x:=by intro _;rfl):SS X g ro mb m (.For tg iter sts [] pos) (j6 m (bI nO f) ft s1) m:=by
 have LT:PG X tg (fun v l H Q=>∃g',tG X g' m m ft v l H Q):=fun pz s l H v u Q I r V=>(by obtain⟨g',q⟩:=V;exact (hg g').2 pz s l H v u Q I r q);have LE:d6 X sts (fun D l H=>∃g',tS X g' ro m m m s1 D l H):=fun pz s l H D I W=>(by obtain⟨g',q⟩:=W;exact (hb g').2 pz s l H D I q);refine⟨rfl,PS.imp (qR hp hc (ME ((fun h=>PE.imp h fun l H Q ⟨r,G,T,q⟩=>⟨r,G,T,by refine cC (cB q) fun d q v G' H' w rv=>?_;cases d with
   |dic b=>exact q v G' H' w rv
   |_=>exact q.elim⟩) hi) (Q6 f)) LT LE hs) fun D l H ⟨r,G,T,q⟩=>⟨r,G,T,cC (QL (iH T rfl q)) fun d q a O p b G0 H0 ed w0 Y Z U=>?_⟩⟩
 replace q:=q b ed;have BT:=T.grow w0;have hl:p.length=b.length:=Paired.length U;have o:=BT.had Y Z;generalize IO:(b.map fun kv=>tf kv.1)=j at q;have hdl:j.length=p.length:=by rw[<-IO,h_];omega
 refine⟨fun i n l H=>∃r G,SI X (ij g a (.dic b) (.frz O (.dK p))) m r G l H/\bX G0 G/\i<=j.length/\n=j.length-i/\df X g ro m mb G D (bA ft s1 (j.drop i) r),⟨j.length,r,G0,BT.up Y Z,bX.refl G0,Xe _,rfl,df.gle q w0.ge⟩,?_⟩
 rintro i n σ1 H1 ⟨r1,G1,t,E,hi,rfl,N⟩
 have KK:H1 a=some (.frz O (.dK p)):=t.old a _ cP;by_cases F:i<j.length
 .have hd:j.drop i=j[i]::j.drop (i+1):=Xa F;rw[hd]at N;unfold bA at N;refine .inr ⟨⟨KK,by omega⟩,fun R H'=>∃r G,SI X (ij g a (.dic b) (.frz O (.dK p))) m r G R H'/\bX G0 G/\df X g ro m mb G D (bA ft s1 (j.drop (i+1)) r),fun R H' A=>by obtain⟨C,G',si',le',q'⟩:=A;exact ⟨j.length-(i+1),by omega,C,G',si',le',F,rfl,q'⟩,fun x H' y=>?_⟩;obtain⟨rfl,kv,Tm,rfl⟩:=y;have rv:RG X.K G1 (kV kv.1) j[i]:=Eo (fE.mono U E) Tm (by rw[IO];exact k_ F);cases M:ft j[i] r1 with
 |none=>simp only[M]at N;exact N.elim
 |some r2=>simp only[M]at N;refine⟨ij g a (.dic b) (.frz O (.dK p)),r1,G1,j[i],t,rv,r2,M,fun σ2 ST=>⟨ij g a (.dic b) (.frz O (.dK p)),r2,G1,ST,?_⟩⟩;cases P:s1 r2 with
  |nx C=>simp only[P]at N;exact fun k J H3 B L=>⟨C,J,L,E.trans B,df.gle N B⟩
  |ct C=>simp only[P]at N;exact fun k J H3 B L=>⟨C,J,L,E.trans B,df.gle N B⟩
  |bk C=>simp only[P]at N;exact fun k J H3 B L=>N k J H3 B (L.down o)
  |rt d=>simp only[P]at N;intro v G2 H2 wr Cl;refine N v G2 H2 (wr.down o) ?_;cases ro with
   |false=>exact Cl
   |true=>
     rcases Cl with⟨c,e1,e2,e3⟩|z
     .refine .inl ⟨c,e1,?_,e3⟩;have Ty:c≠a:=by
       rintro rfl
       have:=wr.ge c _ fZ;rw[e3.un]at this;cases this
      have Id:aV g.h0 a (.frz O (.dK p)) c=none:=e2;rw[bZ Ty]at Id;exact Id
     .exact .inr z
  |exc x C=>simp only[P]at N;exact fun pz e s' k J H3 B L=>N pz e s' k J H3 B (L.down o)
  |stuck=>simp only[P]at N;exact N
 .have e:i=j.length:=by omega
  subst e;rw[Yf]at N;exact .inl ⟨⟨KK,by omega⟩,N σ1 G1 H1 (bX.refl _) (t.down o)⟩
def jo:D->D->Option D
|.lst ds,.int k=>if-(2^62)<=k/\k<2^62/\ds.length*k.toNat<=sizeLine then some (.lst ((r_ k.toNat ds).flatten))else none
|_,_=>none
theorem DJ{K:W.Frag}{G:GH}{xs:List V}{ds:List D}(r:cW K G xs ds):∀n:Nat,cW K G (r_ n xs).flatten (r_ n ds).flatten
|0=>.nil
|n+1=>by exact DL.Paired.app r (DJ r n)
theorem ym(w:SO X g m a fa)(v:SB X g m b fb):SO X g m (.BinOp a .Mult b pos) (f2 fa fb jo):=by
 refine PE.imp (DR No w v) fun z H Q a=>?_;obtain⟨r,G,Y,q⟩:=a;refine ⟨r,G,Y,cC (cB q) fun E j l y I M B s=>⟨r,y,Y.grow M,gE (cB j) M fun C i A x F L f=>?_⟩⟩
 obtain⟨d,e,h⟩:=dz i;have n:=s.mono L;unfold jo at e;split at e
 .split at e
  .rename_i ds k hk;cases e;cases n.ob with
  |@lst U _ t Z=>have u:=Paired.length Z;refine⟨l,k,U,rfl,f.int L.ok,t,by omega,by omega,by rw[u];exact hk.2.2,fun p N=>?_⟩;have c:=Grow.new L.ok N (.lst (r_ k.toNat U).flatten);refine h p x _ ((M.trans L).trans c) ?_ ⟨L.ok.isN N,.lst cP (DJ Z _)⟩;cases e:H p with
   |none=>rfl
   |some o=>rw[(M.trans L).he _ _ e]at N;cases N
  .cases e
 .cases e
end
def gY(g:GE)(H:Hp)(fp:List Addr)(i:Nat)(p:Addr):GE:=⟨g.gh,fun b=>if b∈fp then H b else g.h0 b,fun j=>if j=i then some (some (V.ref p),none)else g.hd j⟩
theorem O4{g:GE}{H B:Hp}{fp:List Addr}{i:Nat}{p:Addr}(h:∀b∈fp,B b=H b):gY g B fp i p=gY g H fp i p:=by
 unfold gY
 grind
variable{r r':aL}{G G':GH}{σ':L2.St}{H':Hp}
section
variable{w:List (List D)}
abbrev VG:=aL->List (List D)->Option (aL×List (List D))
variable{st:Stmt}{f1 f2:VG}{tg:Expr}
end
def pk:List D->Option D
|[.bl b]=>some (.int (if b then 1 else 0))
|_=>none
theorem QP{X:Cx}:fT X (.type "int") (fun xs H Q=>∃b:Bool,xs=[.bl b]/\Q (.int (if b then 1 else 0)) H):=by intro N s L H xs M Q I r h;obtain⟨b,rfl,q⟩:=h;obtain⟨u,rfl,B⟩:=fF r;cases B;exact call_int_bool ⟨.int _,H,I.tok _,⟨_,rfl⟩,q⟩
theorem EI{X:Cx}{g:GE}{m:List Md}{e:Expr}{L:List Expr}{U:aL->Res (List D)}{B p:Pos}(b:Gl X "int")(a:X.mg "int" = none)(f:iF X g m (e::L) U)(c:i_ (e::L) X.env=(false,eval e X.env)::i_ L X.env:=by rfl)(M:(backTo B (i_ L X.env)).any (·.1)=false:=by rfl) :
  SE X g m (.Call (.Name "int" p) (e::L) [] B) (fC U pk):=hX (by
     intro G H h i d Q N Y e q;unfold pk at e;split at e
     .cases e;cases Y with
     |cons Z t=>cases t;exact⟨_,by rw[Z.bl N],q _ G H (Grow.refl N) (.scl (.int _))⟩
     .cases e) (nu QP b a rfl f (by decide) (rfl) c M)
structure TL(K:W.Frag)(G:GH)(H:Hp)(p a:Addr)(d1:D)(ds:List D):Prop where
 tp:∃x xs,H p=some (.tup [x,.ref a])/\RG K G x d1/\H a=some (.lst xs)/\cW K G xs ds
 un:∀b∈[p,a],G b=none
 ne:p≠a
def RW(K:W.Frag)(H0:Hp)(G:GH)(H:Hp)(v:V)(d:D):Prop:=∃p a d1 ds,v=.ref p/\d=.tup [d1,.lst ds]/\(∀b∈[p,a],H0 b=none)/\TL K G H p a d1 ds
abbrev FW:=aL->Res D
section
variable{ms:List Md}{q:FQ}{st:Stmt}{sts1:List Stmt}{F:List D->Res D}{k:Nat}{ps:List Str}{p1 p2 p3 p4:Pos}{x y:Str}{d1:D}{ds:List D}
abbrev F3:=aL->D->List D->Option aL
end
end DL
section
namespace DL
section
open PySem PyProof.Rows PySem.W PySem.Calls
variable{prog:E_}{w:P_}{A:V_}{E:a_->e_->Prop}{s:e_}{l:Addr}{vs:List a_}{ns:List Int}
end
open PySem PySem.Spec PyProof.Rows L2
end DL
end
section
namespace DL
section
open PySem PyProof.Rows
variable{prog:E_}{w:P_}{A:V_}{R:Result->e_->Prop}{I S:Addr}{fp wr:List Addr}{n:Nat}{P:Nat->a_->Prop}{St:Nat->Heap->Prop}{TP:Heap->Prop}{bt:Nat->Nat->Bool}
end
end DL
end
namespace DL
open PySem PySem.Spec PyProof.Rows L2
end DL
namespace DL
open PySem PySem.Spec PyProof.Rows L2 PySem.W PySem.Calls
theorem XN.uniq{K:W.Frag}{L:Str}{C c:Addr}(h:XN K L C)(k:(K.all fun e=>match e.2.data with|.cls M=>M.name != L || e.1==c|_=>true)=true):C=c:=by
 obtain⟨o,M,a,Z,Y⟩:=h;have U:(C,o)∈(K:List (Addr×Obj)):=by
  have B:∀l:List (Addr×Obj),l.lookup C=some o->(C,o)∈l:=by
   intro l
   induction l with
  |nil=>intro h;cases h
  |cons q l N=>
    intro h;rw[Yy]at h;split at h
    .rename_i hb;have:=Yu hb;cases h;rw[this];exact j_
    .exact l_ _ (N h)
  exact B K a
 have:=WZ.mp k _ U;simp only[Z]at this;rw[Y]at this;simpa using this
end DL
namespace DL
open PySem PySem.Spec PyProof.Rows L2
theorem iV.get{K:W.Frag}{G:GH}{fs:List (Str×V)}{ds:List (Str×D)}{d:D}{f:Str}(h:iV K G fs ds)(l:ds.lookup f=some d):∃v,fs.lookup f=some v/\RG K G v d:=by induction h with
|nil=>cases l
|@cons p q fs ds r _ B=>grind
theorem RB.ins{K:W.Frag}{G:GH}{H:Hp}{v:V}{k:Str}{B:Str}{ds:List (Str×D)}(L:cA K G H)(h:RB K G H v (.obj 2 ((k,.str B)::ds))):∃a C N fs,v=.ref a/\H a=some (.ins C N fs)/\XN K B C/\iV K G fs ds/\RG K G v (.obj 2 ((k,.str B)::ds)):=by
 rcases h with h|⟨a,rfl,h⟩
 .cases h with
 |scl s=>cases s
 |@ref a _ e=>have M:=e;cases L _ _ e with
  |ins r n f=>exact⟨_,_,_,_,rfl,r,n,f,.ref M⟩
 |kc k=>cases k
 .cases h.ob
def gW(K:W.Frag)(f:Str)(hit:Str->Bool):Prop:=∀nm C,hit nm=true->XN K nm C->Cls K C/\iu K C f
def iS(hit:Str->Bool)(f:Str):D->Option D
|.obj 2 ((_,.str nm)::ds)=>if hit nm=true then ds.lookup f else none
|_=>none
variable{X:Cx}{g:GE}{m:List Md}{e:Expr}{es:List Expr}{fl:aL->Res (List D)}{fe:FE}{f nm:Str}{C:Addr}{p pos:Pos}
section
variable{ro:Bool}{mb:List Md}{a o:Expr}{fo:FE}{x mt:Str}{p2 np apos:Pos}{hit:Str->Bool}
theorem fW(j:gW X.K f hit)(n:SB X g m e fe)(o:Xb e f X.env (eval e X.env)=eval e X.env:=by rfl):SE X g m (.Attribute e f pos) (f1 fe (iS hit f)):=by
 refine PE.imp (pD n o) fun y H Q e=>?_;obtain⟨r,G,U,q⟩:=e;refine ⟨r,G,U,cC (cB q) fun d h v x w L b=>?_⟩
 obtain⟨z,B,c⟩:=dz h;unfold iS at B;split at B
 .rename_i k nm ds;split at B
  .rename_i hh;obtain⟨a,C,t,s,rfl,p,N,Z,_⟩:=RB.ins L.ok b;obtain⟨u,i⟩:=j nm C hh N;obtain⟨M,l,Y⟩:=Z.get B;exact⟨a,C,t,s,M,rfl,p,u,i,l,c M x w L Y⟩
  .cases B
 .cases B
end
structure MethAt(K:W.Frag)(nm mt qual:Str)(st:Stmt):Prop where
 ex:∃C f fd,(∀C',XN K nm C'->C'=C)/\Cls K C/\Meth K C mt f/\Fun K mt qual st f fd
def o9(f:Str)(v:D):List (Str×D)->List (Str×D)
|[]=>[(f,v)]
|(g,x)::r=>if g=f then(g,v)::r else(g,x)::o9 f v r
theorem iV.put{K:W.Frag}{G:GH}{f:Str}{y:V}{d:D}(r:RG K G y d){fs:List (Str×V)}{ds:List (Str×D)}(h:iV K G fs ds):iV K G (L2.putF f y fs) (o9 f d ds):=by induction h with
|nil=>exact .cons ⟨rfl,r⟩ .nil
|@cons p q fs ds B t M=>
  obtain⟨a,v⟩:=p;obtain⟨b,N⟩:=q;have L:=B.1;subst L;show iV K G (if a=f then(a,y)::fs else(a,v)::L2.putF f y fs) (if a=f then(a,d)::ds else(a,N)::o9 f d ds);by_cases z:a=f
  .rw[Q_d z,Q_d z];exact .cons ⟨rfl,r⟩ t
  .rw[Q_e z,Q_e z];exact .cons B M
theorem iV.mono{K:W.Frag}{G B:GH}{fs:List (Str×V)}{ds:List (Str×D)}(h:iV K G fs ds)(L:∀a d,G a=some d->B a=some d):iV K B fs ds:=Paired.mono (fun _ _ r=>⟨r.1,r.2.mono L⟩) h
theorem iV.len{K:W.Frag}{G:GH}{fs:List (Str×V)}{ds:List (Str×D)}(h:iV K G fs ds):fs.length=ds.length:=by induction h with
|nil=>rfl
|cons _ _ B=>simp_all
section
variable{r:aL}{G G':GH}{σ:L2.St}{H H':Hp}{x dx:Addr}{fs fs':List (Str×V)}
theorem SI.ins(s:SI X g m r G σ H)(e:H x=some (.ins C dx fs))(Y:g.h0 x=none)(hG:G x=none):SI X g m r G σ (aV H x (.ins C dx fs')):=by
 have N:∀b d,G b=some d->b≠x:=fun b d h z=>by simp_all
 have own:∀{b:Addr}{d:D},Own X.K G H b d->b≠x:=fun{b d} o z=>by subst z;cases o.ob with
 |lst r _=>rw[e]at r;cases r
 |dic r _=>rw[e]at r;cases r
 have U:∀{b:Addr}{d:D},Own X.K G H b d->Own X.K G (aV H x (.ins C dx fs')) b d:=fun{b d} o=>⟨o.un,o.ob.mono (by grind) fun u B=>by rw[bZ (own o)];exact B⟩
 refine⟨fun b d h=>(s.gok b d h).mono (by grind) fun u B=>by rw[bZ (N b d h)];exact B,fun b u h=>?_,s.ge,s.gf,s.lm,s.lr,s.sh,fun i d M L=>?_,fun i d M L=>?_,s.dis,s.lk⟩
 .rw[bZ (by grind)];exact s.old b u h
 .obtain⟨a,q1,q2,q3⟩:=s.ow i d M L;simp_all
 .obtain⟨v,q1,q2⟩:=s.bw i d M L;refine⟨v,q1,?_⟩;rcases q2 with q2|⟨a,rfl,q2,q3⟩
  .exact .inl q2
  .exact .inr (by simp_all)
end
abbrev FN:=aL->List (Str×D)->Res (List (Str×D))
structure NI(X:Cx)(g:GE)(m:List Md)(x C dx:Addr)(r:aL)(ds:List (Str×D))(G:GH)(σ:L2.St)(H:Hp):Prop where
 si:SI X g m r G σ H
 me:σ[0]? = some (some (V.ref x))
 ob:∃fs,H x=some (.ins C dx fs)/\iV X.K G fs ds
 od:H dx=some (.own x)
 gx:G x=none
 hx:g.h0 x=none
 hd:g.h0 dx=none
def CY(X:Cx)(g:GE)(m:List Md)(x C dx:Addr)(r:aL)(G:GH)(σ:L2.St)(E:Ends):Res (List (Str×D))->Prop
|.ok ds=>∀G' H',bX G G'->NI X g m x C dx r ds G' σ H'->E.nx σ H'
|_=>False
def tN(X:Cx)(g:GE)(m:List Md)(C:Addr)(f:FN):TS:=fun D σ H=>∃r ds G x dx,NI X g m x C dx r ds G σ H/\CY X g m x C dx r G σ D (f r ds)
def xI(X:Cx)(g:GE)(m:List Md)(C:Addr)(st:List Stmt)(f:FN):Prop:=d6 X st (tN X g m C f)
def L0{α:Type}(x:Res α)(k:α->Res (List (Str×D))):Res (List (Str×D)):=match x with
|.ok a=>k a
|_=>.stuck
section
variable{x0:Str}{pos':Pos}{sts:List Stmt}{s2:FN}
theorem U0:xI X g m C [] fun _ ds=>.ok ds:=d6.imp rD fun D L H k=>by obtain⟨r,ds,G,x,M,B,q⟩:=k;exact q G H (bX.refl G) B
def mH(f:Str)(fe:FE)(s2:FN):FN:=fun r ds=>L0 (fe r) fun d=>if ds.length<900 then s2 r (o9 f d ds)else .stuck
theorem OE{B:Type}{x:Res B}{k:B->Res (List (Str×DL.D))}{D:Ends}{r:aL}{a L:Addr}{G:GH}{σ:L2.St}{Z:DL.D->Prop}(h:CY X g m a C L r G σ D (L0 x k)):fin x (fun y=>CY X g m a C L r G σ D (k y)) Z:=by cases x with
|ok a=>exact h
|exc e=>exact(h).elim
|stuck=>exact h
theorem yQ(y:Cls X.K C)(j:iu X.K C f)(t:X.N[0]? = some x0)(n:gz X.env.scope x0)(o:SE X g m e fe)(u:xI X g m C sts s2)(s:(x0==("__debug__" : Str))=false:=by decide)(L:(x0==("__classdict__" : Str))=false:=by decide)(hs:Xq e (some (.Attribute (.Name x0 p) f pos')) pos.line X.env=pure false:=by rfl):xI X g m C (.Assign [.Attribute (.Name x0 p) f pos'] e pos::sts) (mH f fe s2):=by
 refine d6.imp (pT (qQ (gD t n s L) o hs) u) fun D I H g=>?_;obtain⟨r,h,G,x,c,M,q⟩:=g;refine ⟨r,G,M.si,cC (OE q) fun d Y v E O U i=>?_⟩
 split at Y
 .rename_i hl;obtain⟨w,Z,a⟩:=M.ob;have B:=U.he _ _ Z;refine⟨_,M.me,x,C,c,w,rfl,B,y,j,by rw[a.len];omega,r,o9 f d h,E,x,c,⟨(M.si.grow U).ins B M.hx ?_,M.me,⟨_,cP,(a.mono U.ge).put i⟩,?_,?_,M.hx,M.hd⟩,?_⟩
  .rw[U.gf x (by rw[Z];simp)];exact M.gx
  .rw[bZ (fun z=>by have b:=U.he _ _ M.od;rw[z,B]at b;cases b)];exact U.he _ _ M.od
  .rw[U.gf x (by rw[Z];simp)];exact M.gx
  .cases ez:s2 r (o9 f d h)with
  |ok J=>rw[ez]at Y;exact fun F A l k=>Y F A (bX.trans U.ge l) k
  |exc e=>rw[ez]at Y;exact Y
  |stuck=>rw[ez]at Y;exact Y
 .exact(show False from Y).elim
end
abbrev tY:=List D->Res (List (Str×D))
def sH(K:W.Frag)(C:Addr)(nm:Str)(ms:List Md)(F:tY):Sp:=fun vs H Q _=>∃G H1 x dx us ds,H=aV (aV H1 dx (.own x)) x (.ins C dx [])/\H1 x=none/\H1 dx=none/\dx≠x/\vs=.ref x::us/\cA K G H1/\ArgsOk K G H1 ms us ds /\fin (F ds) (fun fd=>∀G' H',Grow K G H1 G' H'->G' x=some (iD nm fd)->Q .non H') fun _=>False
structure CalleeN(P:E_)(w:P_)(K:W.Frag)(mg:Str->Option a_)(base:Heap)(x nm:Str)(ps:List Str)(dv:List a_)(k:Nat)(ms:List Md)(F:tY):Prop where
 ex:∃C f fd,mg x=some (.ref C)/\Mk K C f/\iZ K fd ps dv/\FnOk P w K mg base f8 k f fd ps (sH K C nm ms F)
def uC(nm:Str)(fl:aL->Res (List D))(dds:List D)(F:tY):FE:=fun r=>(fl r).bind fun ds=>match F (ds++dds)with
|.ok fd=>.ok (iD nm fd)
|_=>.stuck
section
variable{ms ms':List Md}{x:Str}{ps:List Str}{k:Nat}{F:tY}{dvs:List V}{dv:List a_}{dds:List D}
theorem make_core{C:Addr}{vs:List V}{M:List D}{G:GH}{H:Hp}{Q:VK}(h:cA X.K G H)(rs:ArgsOk X.K G H ms vs M)(B:Paired Scl dvs dds)(q:fin (match F (M++dds)with|.ok Z=>Res.ok (iD nm Z)|_=>.stuck) (fun d=>∀v U N,Grow X.K G H U N->RG X.K U v d->Q v N) fun _=>False):∀a L,H a=none->H L=none->L≠a->sH X.K C nm (ms++r_ dds.length .sh) F (.ref a::(vs++dvs)) (aV (aV H L (.own a)) a (.ins C L [])) (fun v i=>v=.non/\Q (.ref a) i) E0:=by intro a L g f c;refine⟨G,H,a,L,vs++dvs,M++dds,rfl,g,f,c,rfl,h,rs.app B,?_⟩;cases Y:F (M++dds)with
|ok Z=>rw[Y]at q;exact fun U N w b=>⟨rfl,q _ U N w (.ref b)⟩
|exc e=>rw[Y]at q;exact(show False from q).elim
|stuck=>rw[Y]at q;exact(show False from q).elim
theorem EJ(c:CalleeN X.prog X.w X.K X.mg X.base x nm ps dv k ms' F)(j:Room (k+1) X.A)(o:jX X g m (e::es) ms fl)(U:ms'=ms++r_ dds.length .sh:=by rfl)(l:Gl X x:=by rfl)(n:aK dvs dv:=by exact .nil)(L:Paired Scl dvs dds:=by exact .nil)(B:(x==("__debug__" : Str))=false:=by decide)(M:i_ (e::es) X.env=(false,eval e X.env)::i_ es X.env:=by rfl)(N:(backTo pos (i_ es X.env)).any (·.1)=false:=by rfl):SE X g m (.Call (.Name x p) (e::es) [] pos) (uC nm fl dds F):=by
 subst U;obtain⟨C,f,P,y,u,t,s⟩:=c.ex;refine PE.imp (OK u s j l y t n mR o B M N) fun I H Q w=>?_;obtain⟨r,G,b,q⟩:=w;refine ⟨r,G,b,?_⟩
 unfold uC at q;cases Y:fl r with
|ok J=>rw[Y,bind_ok]at q;intro O T R Z i;refine make_core Z.ok i L (cC (wl q ?_) fun d k v E z a h=>k v E z (Z.trans a) h);intro e M;split at M <;> cases M
|exc x=>rw[Y]at q;exact q
|stuck=>rw[Y]at q;exact q
end
section
variable{P:E_}{w:P_}{K:W.Frag}{mg:Str->Option a_}{base:Heap}
structure MakeAt(K:W.Frag)(mg:Str->Option a_)(x nm qual:Str)(st:Stmt):Prop where
 ex:∃C f fd,mg x=some (.ref C)/\XN K nm C/\Cls K C/\Mk K C f/\Fun K "__init__" qual st f fd
theorem Hk{X:Cx}{N:List Str}{ms:List Md}{us:List V}{ds:List D}{G:GH}{H:Hp}{x C L:Addr}(c:cA X.K G H)(rs:ArgsOk X.K G H ms us ds)(n:ms.length+1<=N.length)(g:H x=none)(t:H L=none)(s:L≠x):NI X ⟨G,H,fun _=>none⟩ (iz N.length (.sh::ms)) x C L (none::(ds.map some++r_ (N.length-(ds.length+1)) none)) [] G (L2.bO N (.ref x::us)) (aV (aV H L (.own x)) x (.ins C L [])):=by
 have s0:=wf c (.sh (.scl .non) rs) (by simpa using n);have u:(L2.bO N (.ref x::us)).length=(L2.bO N (.non::us)).length:=by unfold L2.bO;simp
 have B:∀i,i≠0->(L2.bO N (.ref x::us))[i]? = (L2.bO N (.non::us))[i]?:=fun i f=>by
  obtain⟨j,rfl⟩:∃j,i=j+1:=⟨i-1,by omega⟩
  unfold L2.bO;simp
 have U:∀i d,(none::(ds.map some++r_ _ none))[i]? = some (some d)->i≠0/\(cQ N.length (.non::ds))[i]? = some (some d):=fun i d h=>by cases i with
 |zero=>simp at h
 |succ j=>unfold cQ;simpa using h
 have w:Grow X.K G H G (aV (aV H L (.own x)) x (.ins C L [])):=by
  have r:∀b o,H b=some o->aV (aV H L (.own x)) x (.ins C L []) b=some o:=fun b o Z=>by rw[bZ (by grind),bZ (by grind)];exact Z
  exact⟨fun b d Z=>(c b d Z).mono (by simp_all) (by simp_all),r,fun _ _ z=>z,fun _ _=>rfl⟩
 have l:SI X ⟨G,H,fun _=>none⟩ (iz N.length (.sh::ms)) (none::(ds.map some++r_ (N.length-(ds.length+1)) none)) G (L2.bO N (.ref x::us)) H:=by
  refine⟨s0.gok,s0.old,s0.ge,s0.gf,by exact s0.lm,?_,fun i d h M=>?_,fun i d h M=>?_,fun i d h M=>?_,fun i j a d e Y f p=>?_,fun i o h=>(nomatch h)⟩
  .rw[u,<-s0.lr];unfold cQ;simp
  .obtain⟨z,q⟩:=U i d h;rw[B i z];exact s0.sh i d q M
  .obtain⟨z,q⟩:=U i d h;rw[B i z];exact s0.ow i d q M
  .obtain⟨z,q⟩:=U i d h;rw[B i z];exact s0.bw i d q M
  .obtain⟨z,q⟩:=U i d f;obtain⟨k,m⟩:=U j e p;rw[B i z,B j k];exact s0.dis i j a d e Y q m
 refine⟨l.grow w,?_,⟨[],cP,.nil⟩,by rw[bZ s,cP],c.isN g,g,t⟩;unfold L2.bO;simp
theorem Ot{x i M:Str}{st:Stmt}{N Y:List Str}{k:Nat}{ms:List Md}{fn:FN}(A:MakeAt K mg x i M st)(S:FnScope N Y (aA st))(m:ms.length+1=Y.length)(Z:∀(kV p O:a_)(an:Option Addr)(U ct:a_)(us:List a_),us.length=Y.length->Zi (W.fnOf "__init__" M (bH st) (aS st) (aA st) .none kV p O an U ct) ⟨us,[]⟩=pure (Y.zip us))(B:∀(C:Addr),XN K i C->∀(f:Addr)(U:a_)(A:V_)(L:List Env)(s:e_)(H:Hp)(g:GE)(E:XK),Room k (A.deeper (YK M (aA st) s.heap.objs.size f U)) ->xI (d4 f8 P w K mg base N M (aA st) f U A L s H E).nox g (iz N.length (.sh::ms)) C (aS st) fn):CalleeN P w K mg base x i Y [] (k+1) ms fun ds=>fn (none::(ds.map some++r_ (N.length-(ds.length+1)) none)) []:=by
 obtain⟨C,f,n,j,r,cl,R,F⟩:=A.ex;exact⟨C,f,n,j,R,F.binds Z,(by
    refine F.ok S (fun y H Q E k=>by obtain⟨G,v,a,u,us,ds,_,_,_,_,T,t,l,q⟩:=k;rw[T,S_,l.len.1];exact m) fun U A L s H y Q E X h=>?_;obtain⟨G,v,a,u,us,ds,rfl,j,h2,h3,rfl,t,l,q⟩:=h;have hpl:Y.length<=N.length:=by have:=Q_g YZ S.pre;rw[WY]at this;omega
    refine⟨_,(B C r f) U A L s _ ⟨G,v,fun _=>none⟩ E X,_,[],G,a,u,Hk t l (by omega) j h2 h3,?_⟩;cases o:fn (none::(ds.map some++r_ (N.length-(ds.length+1)) none)) []with
   |ok n=>simp only[o]at q;have J:=q;intro G' H' le c;obtain⟨fs,ho,I⟩:=c.ob;have w:=c.si.grown;refine J (gset G' a (iD i n)) H' ⟨c.si.gok.gset c.gx (.ins ho r I),w.he,fun b d Z=>kb c.gx b d (w.ge b d Z),fun b Z=>?_⟩ fZ;rw[i5 (fun z=>Z (by rw[z];exact j))];exact w.gf b Z
   |exc e=>simp only[o]at q;exact q
   |stuck=>simp only[o]at q;exact q)⟩
end
end DL
namespace DL
open PySem PySem.Spec PyProof.Rows L2 PySem.W PySem.Calls
def on(K:W.Frag)(nm:Str)(c:Addr):Bool:=K.all fun e=>match e.2.data with
|.cls cd=>cd.name != nm || e.1==c
|_=>true
end DL
namespace DL
open PySem PySem.Spec PyProof.Rows L2
def vI(s:Stmt)(j:Nat):Stmt:=match s with
|.ClassDef _ _ _ b _ _ _ _ _ _ _=>b.getD j s
|_=>s
def lS(K:W.Frag)(C:Addr)(nm:Str):Bool:=match K.lookup C with
|some o=>(match o.data with
 |.cls cd=>cd.name==nm
 |_=>false)
|none=>false
structure OC(K:W.Frag)(nm:Str)(C:Addr):Prop where
 un:∀C',XN K nm C'->C'=C
 xn:XN K nm C
 cl:Cls K C
theorem LG{K:W.Frag}{B:Str}{C:Addr}(x:lS K C B=true)(u:on K B C=true)(a:W.plainGet K C Yr=true)(b:W.hasDictIn K C=true)(c:W.plainOver K C=true)(d:W.findIn K (.ref C) "__setattr__" = some (some (.builtin "object.__setattr__"))):OC K B C:=
 ⟨fun L h=>XN.uniq h u,(by
    unfold lS at x;split at x
    .rename_i o e;split at x
     .rename_i cd ed;exact⟨o,cd,e,ed,Yu x⟩
     .cases x
    .cases x),⟨a,b,c,d⟩⟩
theorem sE{K:W.Frag}{f:Str}{B:Str->Bool}(l:List (Str×Addr))(h:∀q∈l,OC K q.1 q.2/\iu K q.2 f)(Z:∀L,B L=true->L∈l.map (·.1)):gW K f B:=fun L C Y M=>by obtain⟨q,U,rfl⟩:=m_.mp (Z L Y);obtain⟨o,N⟩:=h q U;rw[o.un C M];exact⟨o.cl,N⟩
theorem LU{K:W.Frag}{M L B:Str}{st:Stmt}{C f:Addr}{N:Xv}(o:OC K M C)(Y:W.findIn K (.ref C) L=some (some (.ref f)))(U:W.isFn K (.ref f)=true)(F:Fun K L B st f N):MethAt K M L B st:=⟨C,f,N,o.un,o.cl,⟨Y,U,F.kp⟩,F⟩
theorem LS{K:W.Frag}{M:Str->Option a_}{x L B:Str}{st:Stmt}{C f:Addr}{N:Xv}(o:OC K L C)(U:M x=some (.ref C))(b:W.makesIn K C=true)(a:W.findIn K (.ref C) "__init__" = some (some (.ref f)))(Z:W.isFn K (.ref f)=true)(Y:W.keepIn K (.ref C)=true)(F:Fun K "__init__" B st f N):MakeAt K M x L B st:=⟨C,f,N,U,o.xn,o.cl,⟨b,a,Z,Y⟩,F⟩
end DL
namespace DL
open PySem PySem.Spec PyProof.Rows L2 PySem.W
def kN{α:Type}(P:α->Prop):List α->Prop
|[]=>True
|a::l=>P a/\kN P l
theorem kN.mem{L:Type}{P:L->Prop}:∀{l:List L},kN P l->∀q∈l,P q
|[],_,_,B=>by cases B
|a::l,h,q,B=>by
  rcases I_.mp B with rfl|B
  .exact h.1
  .exact kN.mem h.2 q B
end DL
namespace DL
open PySem PySem.Spec PyProof.Rows L2 PySem.W PySem.Calls PySem.Builtin PySem.Builtin.Str
theorem Fy(B:Str):∀L:List Str,L.length*B.length<=(N_ B L).length+B.length
|[]=>by simp
|[x]=>by simp only[Xy,Nat.one_mul];omega
|x::y::r=>by
  have M:=Fy B (y::r);have e:(N_ B (x::y::r)).length=x.length+B.length+(N_ B (y::r)).length:=by show(x++B++N_ B (y::r)).length=_;rw[F_,F_]
  rw[e,S_,Zw];omega
theorem Qn(x y:Str)(B:Nat)(L:0<y.length):(partsBetween x (W2 x y 0 x.length B) y.length).length<=x.length+1:=by have h:=Fy y (partsBetween x (W2 x y 0 x.length B) y.length);rw[<-Y9,StrLaws.glued_between_self]at h;generalize(partsBetween x _ y.length).length=k at h;cases k with
|zero=>omega
|succ k=>rw[Zw]at h;have:=ī k L;omega
section
variable{prog:E_}{w:P_}{A:V_}{E:a_->e_->Prop}{s:e_}{x y:Str}{t u:Tok}{Q:a_->e_->Prop}
theorem RH(B:(y.length==0)=false)(M:x.length<=sizeLine)(N:(partsBetween x (W2 x y 0 x.length (x.length+1)) y.length).length<=sizeLine)(q:∀l k,l.map (·.1)=Txt.split x y->Q (.ref s.heap.objs.size) { s with heap:=s.heap.push { cls:=.type "list",data:=.seq (ÿ l).toArray },toks:=k }):K_ (G_ prog w) A (call (.builtin "str.split") [.str x t,.str y u]) Q E s:=by have T:s.TypeIs (.str x t) "str" := û _ _ _;cases c:(decide (x.length<y.length) || decide (strKind x<strKind y))with
|true=>exact Yb F.slot_str_split T F.entry_str_split (F.args_str_split_2 _ _) (meets_str_split_cannot_occur x y t u c) (q [(x,t)] s.toks (Q_d c).symm)
|false=>have L:=ne_true_of_eq_false c;cases f:(W2 x y 0 x.length _).isEmpty with
 |true=>exact Yb F.slot_str_split T F.entry_str_split (F.args_str_split_2 _ _) (meets_str_split_not_found x y t u c B f) (q [(x,t)] s.toks ((Q_e L).trans (Q_d f)).symm)
 |false=>refine Yb F.slot_str_split T F.entry_str_split (F.args_str_split_2 _ _) (meets_str_split_sep x y t u c B f M N) ?_;have:=q (numbered s.toks _) (s.toks+(partsBetween x (W2 x y 0 x.length (x.length+1)) y.length).length) ((numbered_texts _ _).trans ((Q_e L).trans (Q_e (ne_true_of_eq_false f))).symm);rw[<-strsFrom_eq]at this;exact this
end
theorem Rj{B:List a_}:∀{xs:List Str},aK (xs.map V.str) B->∃l:List (Str×Tok),ÿ l=B/\l.map (·.1)=xs:=by induction B with
|nil=>intro xs h;cases xs with
 |nil=>exact⟨[],rfl,rfl⟩
 |cons _ _=>cases h
|cons v B L=>intro xs h;cases xs with
 |nil=>cases h
 |cons x xs=>cases h with
  |cons r t=>
    obtain⟨k,rfl⟩:=(r)
    obtain⟨l,M,N⟩:=L t;exact⟨(x,k)::l,by rw[<-M];rfl,by grind⟩
theorem IQ:∀l:List (Str×Tok),aK ((l.map (·.1)).map V.str) (ÿ l)
|[]=>.nil
|(x,t)::l=>.cons ⟨t,rfl⟩ (IQ l)
def lM:List D->Option (List Str)
|[]=>some []
|.str x::ds=>(lM ds).map (x::·)
|_::_=>none
theorem OY{K:W.Frag}{G:GH}{H:Hp}(M:cA K G H){xs:List V}{ds:List D}(r:cW K G xs ds):∀{B:List Str},lM ds=some B->xs=B.map V.str:=by induction r with
|nil=>intro B h;cases h;rfl
|@cons v d xs ds r _ L=>intro B h;cases d with
 |str x=>have h:(lM ds).map _=some B:=h;cases e:lM ds with
  |none=>rw[e]at h;cases h
  |some N=>rw[e]at h;cases h;rw[r.str M,L e];rfl
 |_=>cases h
theorem Gd{K:W.Frag}{G:GH}:∀xs:List Str,cW K G (xs.map V.str) (xs.map D.str)
|[]=>.nil
|x::xs=>.cons (.scl (.str x)) (Gd xs)
def D3:V->List V->Hp->VK->Prop:=fun x vs H Q=>∃a b,x=.str a/\vs=[.str b]/\Q (.bl (Txt.endswith a b)) H
def D6:V->List V->Hp->VK->Prop:=fun x vs H Q=>∃a b i r,x=.str a/\vs=[.str b]/\W2 a b 0 a.length 1=i::r/\Q (.int (i:Nat)) H
def D4(K:W.Frag):V->List V->Hp->VK->Prop:=fun x vs H Q=>∃a p xs,x=.str a/\vs=[.ref p]/\cL K H p (xs.map V.str)/\í a xs=true/\Q (.str (Txt.join a xs)) H
def ED:V->List V->Hp->VK->Prop:=fun x vs H Q=>∃a b,x=.str a/\vs=[.str b]/\0<b.length/\a.length<=10000/\∀p,H p=none->Q (.ref p) (aV H p (.lst ((Txt.split a b).map V.str)))
def uH:D->List D->Option D
|.str a,[.str b]=>some (.bl (Txt.endswith a b))
|_,_=>none
def qK:D->List D->Option D
|.str a,[.str b]=>match W2 a b 0 a.length 1 with
 |i::_=>some (.int (i:Nat))
 |[]=>none
|_,_=>none
def ip:D->List D->Option D
|.str a,[.lst ds]=>match lM ds with
 |some xs=>if í a xs=true then some (.str (Txt.join a xs))else none
 |none=>none
|_,_=>none
def qW:D->List D->Option D
|.str a,[.str b]=>if 0<b.length/\a.length<=10000 then some (.lst ((Txt.split a b).map D.str))else none
|_,_=>none
variable{X:Cx}
theorem Ov:jb X "str.endswith" D3:=by
 intro e s Y H x Z v c Q I B L ⟨a,b,U,N,q⟩;subst U N;obtain⟨t,rfl⟩:=(B)
 obtain⟨u,rfl,M⟩:=fF L;obtain⟨d,rfl⟩:=(M)
 exact SC.endswith ⟨.bl _,H,I,rfl,q⟩
theorem zN:jb X "str.index" D6:=by
 intro f s Z H x c v d Q I B L ⟨a,b,i,r,Y,U,N,q⟩;subst Y U;obtain⟨t,rfl⟩:=(B)
 obtain⟨u,rfl,M⟩:=fF L;obtain⟨e,rfl⟩:=(M)
 exact SC.index N ⟨.int _,H,I.tok _,⟨_,rfl⟩,q⟩
theorem zM:jb X "str.join" (D4 X.K):=by
 intro j s e H x g v h Q I L M ⟨a,p,f,d,c,B,Y,q⟩;subst d c;obtain⟨t,rfl⟩:=(L)
 obtain⟨u,rfl,N⟩:=fF M;cases(N);obtain⟨Z,r,U,_⟩:=I.list B;obtain⟨l,rfl,b⟩:=Rj r;exact SC.join U.isList b Y fun i k=>⟨.str _,H,I.tok _,⟨_,rfl⟩,q⟩
theorem Ar:jb X "str.split" ED:=by
 intro h s d H x f v g Q I B L ⟨a,b,c,Z,U,j,q⟩;subst c Z;obtain⟨t,rfl⟩:=(show ∃t,v=Value.str a t from B)
 obtain⟨u,rfl,M⟩:=fF L;obtain⟨t',rfl⟩:=(show ∃t,u=Value.str b t from M)
 have i:=Qn a b (a.length+1) U;refine RH (by rw[beq_eq_false_iff_ne];omega) (by rw[H_];omega) (by rw[H_];omega) fun l k Y=>?_;have N:((Txt.split a b).map V.str).length<=sizeLine:=by
  rw[h_,H_];unfold Txt.split;split
  .exact(by decide:1<=16777216)
  .split
   .exact(by decide:1<=16777216)
   .omega
 refine⟨.ref s.heap.objs.size,_,I.laid (t':=k) (fun b o e=>b_ _ e) (o_ _) (show dS X.prog X.w _ _ _ (.lst ((Txt.split a b).map V.str))from⟨N,ÿ l,0,?_,?_⟩),rfl,q _ (I.hok.fresh (o_ _))⟩
 .rw[<-Y];exact IQ l
 .exact q_ _ rfl
theorem Nz{K:W.Frag}:oX K D3 uH:=by
 intro G H v d U Y Z Q B L M e q;unfold uH at e;split at e
 .cases e;cases M with
 |cons N rt=>cases rt;exact⟨_,_,L.str B,by rw[N.str B],q _ G H (Grow.refl B) (.scl (.bl _))⟩
 .cases e
theorem zv{K:W.Frag}:oX K D6 qK:=by
 intro G H v d U Y Z Q B L M e q;unfold qK at e;split at e
 .split at e
  .rename_i ho;cases e;cases M with
  |cons N rt=>cases rt;exact⟨_,_,_,_,L.str B,by rw[N.str B],ho,q _ G H (Grow.refl B) (.scl (.int _))⟩
  .cases e
 .cases e
theorem zF{K:W.Frag}:oX K (D4 K) ip:=by
 intro G H v d a b c Q B N U e q;unfold ip at e;split at e
 .split at e
  .rename_i xs hx;split at e
   .rename_i hj;cases e;cases U with
   |cons Y rt=>cases rt;obtain⟨p,Z,rfl,L,M⟩:=Y.lst B;have:=OY B M hx;subst this;exact⟨_,p,xs,N.str B,rfl,L,hj,q _ G H (Grow.refl B) (.scl (.str _))⟩
   .cases e
  .cases e
 .cases e
theorem An{K:W.Frag}:oX K ED qW:=by
 intro G H v d Y Z a Q B L M e q;unfold qW at e;split at e
 .split at e
  .rename_i h;cases e;cases M with
  |cons N rt=>cases rt;refine⟨_,_,L.str B,by rw[N.str B],h.1,h.2,fun p U=>?_⟩;exact q _ _ _ (Grow.newF B U (OB.lst (.inl cP) (Gd _))) (.ref fZ)
  .cases e
 .cases e
variable{g:GE}{m:List Md}{fa:FE}{pos:Pos}
section
variable{a b:Expr}{fb:FE}
def yw(x:Str)(n:Int):Str:=if n<1 then Yr else if (n==1 || x.length==0)=true then x else⟨(r_ n.toNat x.cps).foldl (·++·) #[]⟩
def o7:D->D->Option D
|.str x,.int n=>if x.length<=100/\0<=n/\n<=100 then some (.str (yw x n))else none
|_,_=>none
theorem HC(c:Array Nat):∀(k:Nat)(B:Array Nat),((r_ k c).foldl (·++·) B).size=B.size+k*c.size
|0,B=>by simp
|k+1,B=>by rw[ē,X5,HC c k,Array.size_append,Zw];omega
theorem OH:cX X (Y1 .Mult) (fun a b H Q=>∃(x:Str)(n:Int),a=.str x/\b=.int n/\x.length<=100/\0<=n/\n<=100/\Q (.str (yw x n)) H):=by
 intro h s f H x y v u Q I Y U ⟨L,n,d,e,c,Z,j,q⟩;subst d e;obtain⟨t,rfl⟩:=(show ∃t,v=Value.str L t from Y)
 obtain⟨g,rfl⟩:=(show ∃t,u=Value.int n t from U)
 have i:L.length*n.toNat<=100*100:=Nat.mul_le_mul c (by omega);refine P.mul_str (by rw[Q_b (by omega),Q_b (by omega)];rfl) (fun z _=>?_) (fun _ _=>?_) ?_
 .have hn0:(0:Int)<n:=by omega
  have B:(L.length:Int)*n<=100*100:=by
   have:((L.length*n.toNat:Nat):Int)=(L.length:Int)*n:=by rw[YS,YM Z]
   omega
  have:=(Int.le_ediv_iff_mul_le (a:=(L.length:Int)) (b:=2^63-1) hn0).mpr (by omega);omega
 .unfold tooLong;rw[Q_b (by rw[H_];omega)]
 .unfold yw at q;by_cases N:n<1
  .rw[Q_d N]at q ⊢;exact⟨by decide,.str _,H,I.tok _,⟨_,rfl⟩,q⟩
  .rw[Q_e N]at q ⊢;by_cases M:(n==1 || L.length==0)=true
   .rw[Q_d M]at q ⊢;exact⟨.str _,H,I,⟨_,rfl⟩,q⟩
   .rw[Q_e M]at q ⊢;refine⟨?_,.str _,H,I.tok _,⟨_,rfl⟩,q⟩;show((r_ n.toNat L.cps).foldl (·++·) #[]).size<=sizeLine;rw[HC,H_];have:n.toNat*L.cps.size=L.length*n.toNat:=Ý _ _;simp only[Array.size_empty];omega
theorem EK(U:SB X g m a fa)(N:SB X g m b fb):SE X g m (.BinOp a .Mult b pos) (f2 fa fb o7):=by
 refine kO OH (fun G H Z Y f c d Q B M L e q=>?_) U N;unfold o7 at e;split at e
 .split at e
  .rename_i x n h;cases e;exact⟨x,n,M.str B,L.int B,h.1,h.2.1,h.2.2,q _ G H (Grow.refl B) (.scl (.str _))⟩
  .cases e
 .cases e
end
def xC(d:D)(lo hi:Option Int):Option D:=match d with
|.str a=>if a.length<=10000 then some (.str (Txt.slice a lo hi))else none
|_=>none
def oK(fa:FE)(fl fh:FP):FE:=fun r=>(fa r).bind fun d=>(fl r).bind fun lo=>(fh r).bind fun hi=>eN (xC d lo hi)
section
variable{e:Expr}{f:FE}{p2:Pos}
theorem MZ:jW X (fun x lo hi H Q=>∃a,x=.str a/\a.length<=10000/\Q (.str (Txt.slice a lo hi)) H):=by
 intro h s d H x v f e lo hi g Q I Z B b Y ⟨a,c,m,q⟩;subst c;obtain⟨t,rfl⟩:=(Z)
 refine⟨"str",_,F.slot_str_getitem.lookup,û _ _ _,?_⟩;have L:∀l u,(Txt.slice a l u).length<=sizeLine:=fun l u=>O_ (Txt.slice_le a l u) (by rw[H_];omega);cases b with
|none=>cases Y with
 |none=>exact Yg (l:=none) (u:=none) (st:=none) B rfl (Zo ⟨L none none,fun N k=>⟨.str _,H,I.tok _,⟨_,rfl⟩,q⟩⟩)
 |int j M=>exact Yg (l:=none) (u:=some (j,M)) (st:=none) B rfl (Zo ⟨L none (some j),fun N k=>⟨.str _,H,I.tok _,⟨_,rfl⟩,q⟩⟩)
|int i U=>cases Y with
 |none=>exact Yg (l:=some (i,U)) (u:=none) (st:=none) B rfl (Zo ⟨L (some i) none,fun N k=>⟨.str _,H,I.tok _,⟨_,rfl⟩,q⟩⟩)
 |int j M=>exact Yg (l:=some (i,U)) (u:=some (j,M)) (st:=none) B rfl (Zo ⟨L (some i) (some j),fun N k=>⟨.str _,H,I.tok _,⟨_,rfl⟩,q⟩⟩)
theorem yi{lo hi:Option Expr}{U Y:FP}(h:SB X g m e f)(c:nJ X g m lo U)(b:nJ X g m hi Y):SE X g m (.Subscript e (.Slice lo hi none p2) pos) (oK f U Y):=by
 refine PE.imp (Aj MZ h c b) fun t H Q z=>?_;obtain⟨r,G,N,q⟩:=z;refine ⟨r,G,N,cC (cB q) fun d l v s x B a=>⟨r,s,N.grow B,gE (cB l) B fun lo k p w L=>⟨r,p,(N.grow B).grow L,?_⟩⟩⟩
 refine gE (cB k) (B.trans L) fun hi j o n M=>?_;obtain⟨u,e,i⟩:=dz j;have Z:=(a.mono L).mono M;unfold xC at e;split at e
 .split at e
  .cases e;exact⟨_,Z.str M.ok,by assumption,i _ o n ((B.trans L).trans M) (.scl (.str _))⟩
  .cases e
 .cases e
end
theorem nh{X:Cx}{g:GE}{m:List Md}{B:Pos}{x v:Str}(N:Gl X x)(M:∃t,X.mg x=some (.str v t))(U:(x==("__debug__" : Str))=false:=by decide):SE X g m (.Name x B) fun _=>.ok (.str v):=by obtain⟨t,L⟩:=M;exact EH (v:=.str v) N L ⟨t,rfl⟩ (.str v) U
theorem LJ{K:W.Frag}{h:Heap}{B:Str->Option a_}{x:Str}(L:K.In h)(G:h.Ns U_ B){v:Str}{t:Tok}(z:W.nsIn K U_ x=some (some (.str v t))):∃t,B x=some (.str v t):=⟨t,W.mg_of L G z⟩
end DL
namespace DL
open PySem PySem.Spec PyProof.Rows L2
abbrev DW:=D×List D
structure DkR(K:W.Frag)(G:GH)(H:Hp)(C a dx pl:Addr)(w:DW):Prop where
 ob:∃kv,H a=some (.ins C dx [("kept",kv),("past",V.ref pl)])/\RG K G kv w.1
 od:H dx=some (.own a)
 ls:∃xs,H pl=some (.lst xs)/\cW K G xs w.2
 un:∀b∈[a,dx,pl],G b=none
variable{K:W.Frag}{G G':GH}{H H':Hp}{C a dx pl:Addr}{w:DW}
theorem DkR.isS(h:DkR K G H C a dx pl w):∀b∈[a,dx,pl],H b≠none:=fun b M=>by
 obtain⟨L,Y,_⟩:=h.ob;obtain⟨B,U,_⟩:=h.ls;have N:=h.od
 grind
theorem DkR.mono(h:DkR K G H C a dx pl w)(L:bX G G')(B:∀b∈[a,dx,pl],H' b=H b)(N:∀b∈[a,dx,pl],G' b=none):DkR K G' H' C a dx pl w:=by obtain⟨Z,d,Y⟩:=h.ob;obtain⟨M,c,U⟩:=h.ls;exact⟨⟨Z,(B a (by simp)).trans d,Y.mono L⟩,(B dx (by simp)).trans h.od,⟨M,(B pl (by simp)).trans c,U.mono L⟩,N⟩
theorem DkR.ne(h:DkR K G H C a dx pl w):a≠dx/\a≠pl/\dx≠pl:=by
 obtain⟨L,U,_⟩:=h.ob;obtain⟨B,N,_⟩:=h.ls;have M:=h.od
 grind
def hG(g:GE)(G:GH)(H:Hp)(fp:List Addr)(i:Nat)(p:Addr):GE:=⟨G,fun b=>if b∈fp then H b else g.h0 b,fun j=>if j=i then some (some (V.ref p),none)else g.hd j⟩
def Nb(g:GE)(m:List Md)(i:Nat):Prop:=∀j,j≠i->m[j]? = some .bw->∃v,g.hd j=some (v,none)
theorem yk{g:GE}{m:List Md}{i:Nat}(h:∀j,j≠i->m[j]?≠some .bw):Nb g m i:=fun j L B=>Q_f B (h j L)
structure SD(X:Cx)(g:GE)(i:Nat)(C a dx pl:Addr)(m:List Md)(r:aL)(w:DW)(G:GH)(σ:L2.St)(H:Hp):Prop where
 ob:DkR X.K G H C a dx pl w
 h0:∀b∈[a,dx,pl],g.h0 b=none
 si:SI X (gY g H [a,dx,pl] i a) m r G σ H
 mi:m[i]? = some .bw
def jI(X:Cx)(g:GE)(i:Nat)(C:Addr)(kd:D):Prop:=∀m r G σ H,SI X g m r G σ H->m[i]? = some .bw->∃a dx kv fs,σ[i]? = some (some (V.ref a))/\H a=some (.ins C dx fs)/\fs.lookup ("kept" : Str)=some kv/\RG X.K G kv kd
variable{X:Cx}{g:GE}{i:Nat}{m m':List Md}{r r':aL}{w':DW}{σ σ':L2.St}
theorem SD.toH(s:SD X g i C a dx pl m r w G σ H):SI X (hG g G H [a,dx,pl] i a) m r G σ H:=⟨s.si.gok,s.si.old,fun _ _ e=>e,fun _ _=>rfl,s.si.lm,s.si.lr,s.si.sh,s.si.ow,s.si.bw,s.si.dis,s.si.lk⟩
theorem SD.me(s:SD X g i C a dx pl m r w G σ H):σ[i]? = some (some (V.ref a)):=(s.si.lk i _ (by show(if i=i then _ else _)=_;rw[Q_d rfl]) s.mi).1
theorem SD.kept(s:SD X g i C a dx pl m r w G σ H):jI X (hG g G H [a,dx,pl] i a) i C w.1:=by intro b Z d N c L U;obtain⟨M,Y,B⟩:=s.ob.ob;refine⟨a,dx,M,[("kept",M),("past",V.ref pl)],(L.lk i (some (V.ref a),none) (by show(if i=i then _ else _)=_;rw[Q_d rfl]) U).1,L.old a _ ?_,by simp[Yy],B.mono L.ge⟩;show(if a∈[a,dx,pl]then H a else g.h0 a)=_;rw[Q_d (by simp)];exact Y
theorem SD.held(s:SD X g i C a dx pl m r w G σ H)(L:Grow X.K G (hG g G H [a,dx,pl] i a).h0 G' H'):DkR X.K G' H' C a dx pl w:=by
 have h:∀b∈[a,dx,pl],(hG g G H [a,dx,pl] i a).h0 b=H b:=fun b B=>by show(if b∈[a,dx,pl]then H b else g.h0 b)=_;rw[Q_d B]
 refine s.ob.mono L.ge (fun b B=>?_) fun b B=>?_
 .cases e:H b with
 |none=>exact Q_f e (s.ob.isS b B)
 |some o=>exact L.he b o (by rw[h b B];exact e)
 .rw[L.gf b (by rw[h b B];exact s.ob.isS b B)];exact s.ob.un b B
theorem SD.after(s:SD X g i C a dx pl m r w G σ H)(B:SI X (hG g G H [a,dx,pl] i a) m' r' G' σ' H')(M:m'[i]? = some .bw):SD X g i C a dx pl m' r' w G' σ' H':=by
 have d:=s.held B.grown;have N:∀b∈[a,dx,pl],H' b=H b:=fun b L=>by cases e:H b with
 |none=>exact Q_f e (s.ob.isS b L)
 |some o=>exact B.old b o (by show(if b∈[a,dx,pl]then H b else g.h0 b)=_;grind)
 refine⟨d,s.h0,?_,M⟩;rw[O4 N];exact⟨B.gok,B.old,fun b d e=>B.ge b d (s.si.ge b d e),fun b L=>(B.gf b L).trans (s.si.gf b L),B.lm,B.lr,B.sh,B.ow,B.bw,B.dis,B.lk⟩
theorem SD.chg(s:SD X g i C a dx pl m r w G σ H)(L:Nb g m i)(f:∀b,b∉[a,dx,pl]->H' b=H b)(d:DkR X.K G H' C a dx pl w'):SD X g i C a dx pl m r w' G σ H':=by
 have h:∀b o,G b=some o->b∉[a,dx,pl]:=fun b o e z=>by rw[s.ob.un b z]at e;cases e
 have M:∀b∈[a,dx,pl],(gY g H [a,dx,pl] i a).h0 b≠none:=fun b L=>by show(if b∈[a,dx,pl]then H b else g.h0 b)≠_;rw[Q_d L];exact s.ob.isS b L
 have Z:∀b,b∉[a,dx,pl]->(gY g H' [a,dx,pl] i a).h0 b=g.h0 b:=fun b L=>by show(if b∈[a,dx,pl]then H' b else g.h0 b)=_;rw[Q_e L]
 have B:∀b,b∉[a,dx,pl]->(gY g H [a,dx,pl] i a).h0 b=g.h0 b:=fun b L=>by show(if b∈[a,dx,pl]then H b else g.h0 b)=_;rw[Q_e L]
 refine⟨d,s.h0,⟨fun b o e=>(s.si.gok b o e).mono (fun _ _ z=>z) fun u Y=>by grind,fun b o e=>?_,s.si.ge,fun b e=>?_,s.si.lm,s.si.lr,s.si.sh,fun j d U N=>?_,fun j d U N=>?_,s.si.dis,s.si.lk⟩,s.mi⟩
 .by_cases z:b∈[a,dx,pl]
  .have:(gY g H' [a,dx,pl] i a).h0 b=H' b:=by show(if b∈[a,dx,pl]then H' b else g.h0 b)=_;rw[Q_d z]
   grind
  .rw[Z b z]at e;rw[f b z];exact s.si.old b o (by rw[B b z];exact e)
 .by_cases z:b∈[a,dx,pl]
  .exact s.si.gf b (M b z)
  .rw[Z b z]at e;exact s.si.gf b (by rw[B b z];exact e)
 .obtain⟨c,q1,q2,q3⟩:=s.si.ow j d U N;have z:=fun z=>M c z q3;exact⟨c,q1,⟨q2.un,q2.ob.mono (fun _ _ z=>z) fun u Y=>by rw[f c z];exact Y⟩,by grind⟩
 .by_cases hji:j=i
  .subst hji;have l:=(s.si.lk j _ (by show(if j=j then _ else _)=_;rw[Q_d rfl]) s.mi).2 d U;cases l
  .obtain⟨v,ev⟩:=L j hji N;have l:=(s.si.lk j (v,none) (by show(if j=i then _ else _)=_;grind) N).2 d U;cases l
inductive OutD where
 |nx (r:aL) (w:DW)|rt (d:D) (w:DW)|stuck
abbrev dW:=aL->DW->OutD
def nG(X:Cx)(g:GE)(i:Nat)(C a dx pl:Addr)(m':List Md)(G:GH)(D:Ends):OutD->Prop
|.nx r' w'=>∀σ' G' H',bX G G'->SD X g i C a dx pl m' r' w' G' σ' H'->D.nx σ' H'
|.rt d w'=>∀v G' H',bX G G'->Grow X.K g.gh g.h0 G' H'->DkR X.K G' H' C a dx pl w'->RG X.K G' v d->D.rt v H'
|.stuck=>False
def tD(X:Cx)(g:GE)(i:Nat)(C:Addr)(m m':List Md)(f:dW):TS:=fun D σ H=>∃a dx pl r w G,SD X g i C a dx pl m r w G σ H/\nG X g i C a dx pl m' G D (f r w)
def kG(X:Cx)(g:GE)(i:Nat)(C:Addr)(m:List Md)(st:Stmt)(f:dW)(m':List Md):Prop:=PS X st (tD X g i C m m' f)
def ik(X:Cx)(g:GE)(i:Nat)(C:Addr)(m:List Md)(st:List Stmt)(f:dW)(m':List Md):Prop:=d6 X st (tD X g i C m m' f)
variable{m1 mb:List Md}{e:Expr}{pos pos' p:Pos}
section
variable{st:Stmt}{sts sts':List Stmt}{c:Expr}{x:Str}{f1 f2:dW}
theorem nG.gle{D:Ends}{o:OutD}(h:nG X g i C a dx pl m' G D o)(N:bX G G'):nG X g i C a dx pl m' G' D o:=by cases o with
|nx r w=>exact fun B M L l s=>h B M L (N.trans l) s
|rt d w=>exact fun v M L l=>h v M L (N.trans l)
|stuck=>exact h
theorem vC{U:D}(k:jI X g i C U)(d:m[i]? = some .bw)(t:Cls X.K C)(b:iu X.K C "kept")(h:X.N[i]? = some x)(c:gz X.env.scope x)(e:(x==("__debug__" : Str))=false:=by decide)(B:(x==("__classdict__" : Str))=false:=by decide)(f:Xb (.Name x p) "kept" X.env (eval (.Name x p) X.env)=eval (.Name x p) X.env:=by rfl):SE X g m (.Attribute (.Name x p) "kept" pos) fun _=>.ok U:=PE.imp (pD (gD h c e B) f) fun Y H Q z=>by obtain⟨r,G,L,q⟩:=z;obtain⟨a,s,M,j,o,n,l,Z⟩:=k m r G Y H L d;exact⟨_,o,a,C,s,j,M,rfl,n,t,b,l,q M G H (Grow.refl L.gok) Z⟩
def c8(f:D->FS):dW:=fun r w=>match f w.1 r with
|.nx r'=>.nx r' w
|.rt d=>.rt d w
|_=>.stuck
theorem jE{f:D->FS}(h:∀g' L,jI X g' i C L->SS X g' false mb m st (f L) m')(A:m'[i]? = some .bw):kG X g i C m st (c8 f) m':=by
 have E:PS X st (fun D Y H=>∃g' L,jI X g' i C L/\tS X g' false m m' mb (f L) D Y H):=fun u s Y H D I K=>(by obtain⟨g',L,k,q⟩:=K;exact (h g' L k).2 u s Y H D I q);refine PS.imp E fun D Y H V=>?_;obtain⟨a,U,N,r,w,G,s,q⟩:=V;refine ⟨_,w.1,s.kept,r,G,s.toH,?_⟩
 unfold c8 at q;cases e:f w.1 r with
|nx j=>rw[e]at q;exact fun Z n l x c=>q Z n l x (s.after c A)
|rt d=>
  rw[e]at q;intro v n l M t;have F:=s.held M;refine q v n l M.ge ⟨M.ok,fun b o B=>?_,fun b d B=>M.ge b d (s.si.ge b d B),fun b B=>?_⟩ F t
  .have z:b∉[a,U,N]:=fun z=>by rw[s.h0 b z]at B;cases B
   exact M.he b o (by show(if b∈[a,U,N]then H b else g.h0 b)=_;rw[Q_e z];exact B)
  .have z:b∉[a,U,N]:=fun z=>B (s.h0 b z);have p:(hG g G H [a,U,N] i a).h0 b≠none:=by show(if b∈[a,U,N]then H b else g.h0 b)≠_;rw[Q_e z];exact B
   exact(M.gf b p).trans (s.si.gf b p)
|bk j=>rw[e]at q;exact q.elim
|ct j=>rw[e]at q;exact q.elim
|exc y j=>rw[e]at q;exact q.elim
|stuck=>rw[e]at q;exact q.elim
def bU(f1 f2:dW):dW:=fun r w=>match f1 r w with
|.nx r' w'=>f2 r' w'
|o=>o
def ji:dW:=fun r w=>.nx r w
theorem kQ:ik X g i C m [] ji m:=d6.imp rD fun D B H k=>by obtain⟨a,M,L,r,w,G,s,q⟩:=k;exact q B G H (bX.refl G) s
theorem fq(c:kG X g i C m st f1 m1)(b:ik X g i C m1 sts f2 m'):ik X g i C m (st::sts) (bU f1 f2) m':=by
 refine d6.imp (pT c b) fun D h H k=>?_;obtain⟨a,M,L,r,w,G,s,q⟩:=k;refine ⟨a,M,L,r,w,G,s,?_⟩
 unfold bU at q;cases e:f1 r w with
|nx Y B=>rw[e]at q;exact fun N f j Z U=>⟨a,M,L,Y,B,f,U,q.gle Z⟩
|rt d B=>rw[e]at q;exact q
|stuck=>rw[e]at q;exact q
def qo{α:Type}(x:Res α)(k:α->OutD):OutD:=match x with
|.ok a=>k a
|_=>.stuck
theorem rq{B:Type}{x:Res B}{k:B->OutD}{D:Ends}{Z:DL.D->Prop}(h:nG X g i C a dx pl m' G D (qo x k)):fin x (fun y=>nG X g i C a dx pl m' G D (k y)) Z:=by cases x with
|ok a=>exact h
|exc e=>exact(h).elim
|stuck=>exact h
def mC(p:D->FQ)(f1 f2:dW):dW:=fun r w=>qo (p w.1 r) fun c=>if c=true then f1 r w else f2 r w
theorem oO{q:D->FQ}(d:∀g' B,jI X g' i C B->SQ X g' m c (q B))(h:ik X g i C m sts f1 m')(f:ik X g i C m sts' f2 m'):kG X g i C m (.If c sts sts' pos) (mC q f1 f2) m':=by
 have e:PT X c (fun L H Q=>∃g' B,jI X g' i C B/\tQ X g' m _ L H Q):=fun b s L H Q I y=>(by obtain⟨g',B,k,z⟩:=y;exact d g' B k b s L H Q I z);refine PS.imp (yf e h f) fun D L H u=>?_;obtain⟨a,Y,U,r,w,G,s,z⟩:=u;refine ⟨_,w.1,s.kept,r,G,s.toH,cC (rq z) fun c z Z j M=>?_⟩
 have N:=s.after (s.toH.grow M) s.mi;cases c with
|true=>show(if true=true then _ else _);exact⟨a,Y,U,r,w,Z,N,z.gle M.ge⟩
|false=>show(if false=true then _ else _);exact⟨a,Y,U,r,w,Z,N,z.gle M.ge⟩
def sI(fe:D->FE):dW:=fun r w=>qo (fe w.1 r) fun d=>.nx r (d,w.2)
theorem Vg{fe:D->FE}(f:Nb g m i)(P:Cls X.K C)(q:iu X.K C "kept")(A:X.N[i]? = some x)(t:gz X.env.scope x)(u:∀g' Z,jI X g' i C Z->SE X g' m e (fe Z))(y:(x==("__debug__" : Str))=false:=by decide)(B:(x==("__classdict__" : Str))=false:=by decide)(hs:Xq e (some (.Attribute (.Name x p) "kept" pos')) pos.line X.env=pure false:=by rfl):kG X g i C m (.Assign [.Attribute (.Name x p) "kept" pos'] e pos) (sI fe) m:=by
 have E:PE X e (fun c H Q=>∃g' Z,jI X g' i C Z/\tE X g' m _ c H Q):=fun o s c H Q I g=>(by obtain⟨g',Z,k,z⟩:=g;exact u g' Z k o s c H Q I z);refine PS.imp (qQ (gD A t y B) E hs) fun D c H p=>?_;obtain⟨a,O,pl,r,w,G,s,z⟩:=p;refine ⟨_,w.1,s.kept,r,G,s.toH,cC (rq z) fun d z v R H' h l=>?_⟩
 have Y:=s.after (s.toH.grow h) s.mi;obtain⟨kv,J,T⟩:=Y.ob.ob;obtain⟨M,L,U⟩:=Y.ob.ne;refine⟨_,Y.me,a,C,O,_,rfl,J,P,q,by show 2<1000;decide,z c R _ h.ge (Y.chg f (fun b f=>bZ fun z=>f (by simp[z])) ⟨⟨v,cP,l⟩,by rw[bZ (X6 M)];exact Y.ob.od,?_,Y.ob.un⟩)⟩;obtain⟨j,F,n⟩:=Y.ob.ls;exact⟨j,by rw[bZ (X6 L)];exact F,n⟩
end
theorem zJ{B v:V}:Yy ("past" : Str) [(("kept" : Str),B),(("past" : Str),v)]=some v:=by rw[Yy,show(("past" : Str)==("kept"))=false by decide];simp[Yy]
def lG(H:Hp)(fp:List Addr):Hp:=fun b=>if b∈fp then none else H b
variable{j:Nat}{ms:List Md}{es:List Expr}{p1 p2 p3 apos cpos:Pos}{y mt:Str}
section
variable{p4:Pos}{x:Str}
def yc:dW:=fun r w=>if w.2.length<sizeLine then .nx r (w.1,w.2++[w.1])else .stuck
theorem Ux(d:Nb g m i)(p:Cls X.K C)(A:iu X.K C "kept")(y:iu X.K C "past")(l:X.N[i]? = some x)(j:gz X.env.scope x)(k:(x==("__debug__" : Str))=false:=by decide)(U:(x==("__classdict__" : Str))=false:=by decide)(I:Xb (.Name x p1) "past" X.env (eval (.Name x p1) X.env)=eval (.Name x p1) X.env:=by rfl)(E:Xb (.Name x p3) "kept" X.env (eval (.Name x p3) X.env)=eval (.Name x p3) X.env:=by rfl)(M:Xb (.Attribute (.Name x p1) "past" p2) "append" X.env (eval (.Attribute (.Name x p1) "past" p2) X.env)=eval (.Attribute (.Name x p1) "past" p2) X.env:=by rfl)(Z:((backTo cpos (i_ [.Attribute (.Name x p3) "kept" p4] X.env)).all (fun x=>! x.1)&&(Y4 cpos (X7 [] X.env)).all (fun x=>x.1.isSome)&&decide ([Expr.Attribute (.Name x p3) "kept" p4].length+([]:List ç).length+(if ([]:List ç).isEmpty then 0 else 1)<30))=true:=by rfl)(L:(apos.endLine==cpos.line)=true:=by rfl)(Y:i_ [.Attribute (.Name x p3) "kept" p4] X.env=(false,eval (.Attribute (.Name x p3) "kept" p4) X.env)::i_ [] X.env:=by rfl)(B:(backTo cpos (i_ [] X.env)).any (·.1)=false:=by rfl)(hs:Xq (.Call (.Attribute (.Attribute (.Name x p1) "past" p2) "append" apos) [.Attribute (.Name x p3) "kept" p4] [] cpos) none pos.line X.env=pure false:=by rfl):kG X g i C m (.Expr (.Call (.Attribute (.Attribute (.Name x p1) "past" p2) "append" apos) [.Attribute (.Name x p3) "kept" p4] [] cpos) pos) yc m:=by
 refine PS.imp (rC (yp PySem.F.plainAttrs_list PySem.F.slot_list_append PySem.F.type_list_append fw (pD (gD l j k U) I) (i6 (pD (gD l j k U) E) ka Y) M Z L Y B) hs) fun D t H g=>?_;obtain⟨a,o,v,r,w,G,s,q⟩:=g;obtain⟨c,e,h⟩:=s.ob.ob;obtain⟨u,n,f⟩:=s.ob.ls;obtain⟨P,J,O⟩:=s.ob.ne;unfold yc at q;split at q
 .have hx:=Paired.length f;refine⟨_,s.me,a,C,o,_,_,rfl,e,p,y,zJ,.inl ⟨rfl,_,cL.of n⟩,_,s.me,a,C,o,_,c,rfl,e,p,A,(by simp[Yy]),v,u,c,rfl,rfl,n,by omega,?_⟩;refine q t G _ (bX.refl G) (s.chg d (fun b d=>bZ fun z=>d (by simp[z])) ⟨⟨c,by rw[bZ J];exact e,h⟩,by rw[bZ O];exact s.ob.od,⟨_,cP,Paired.snoc f h⟩,s.ob.un⟩)
 .exact q.elim
def yo:dW:=fun r w=>if w.2.isEmpty=true then .stuck else .nx r w
theorem Ms{sts:List Stmt}(cl:Cls X.K C)(np:iu X.K C "past")(hN:X.N[i]? = some x)(hv:gz X.env.scope x)(hd:(x==("__debug__" : Str))=false:=by decide)(B:(x==("__classdict__" : Str))=false:=by decide)(b1:Xb (.Name x p1) "past" X.env (eval (.Name x p1) X.env)=eval (.Name x p1) X.env:=by rfl)(he:∀whole,isTrue (.Attribute (.Name x p1) "past" p2) X.env whole=(do let v <-whole;Zu (Expr.Attribute (.Name x p1) "past" p2).pos;YF [v] (truthy v)):=by intro _;rfl):kG X g i C m (.If (.UnaryOp .Not (.Attribute (.Name x p1) "past" p2) p3) sts [] pos) yo m:=by
 have hF:d6 X sts (fun _ _ _=>False):=fun pz s σ H D I q=>q.elim;refine PS.imp (yf (EA (Hy (pD (gD hN hv hd B) b1) he)) hF rD) fun D σ H k=>?_;obtain⟨a,dx,pl,r,w,G,s,q⟩:=k;obtain⟨kv,e1,r1⟩:=s.ob.ob;obtain⟨xs,e2,r2⟩:=s.ob.ls;unfold yo at q;split at q
 .exact q.elim
 .have hx:xs.isEmpty=false:=by
   have:=Paired.length r2
   grind
  refine⟨_,s.me,a,C,dx,_,_,rfl,e1,cl,np,zJ,! xs.isEmpty,.inl ⟨xs,cL.of e2,rfl⟩,?_⟩;show(if (!!xs.isEmpty)=true then _ else _);rw[hx,Q_e (by decide)];exact q σ G H (bX.refl G) s
def ye:dW:=fun r w=>match w.2.getLast? with
|some d=>.nx r (d,w.2.dropLast)
|none=>.stuck
theorem QD{L B:Type}{F:L->B->Prop}{l:List L}{r:List B}{b:B}(h:Paired F l r)(e:r.getLast? = some b):∃a,l[l.length-1]? = some a/\F a b:=by rw[List.getLast?_eq_getElem?]at e;obtain⟨a,M,f1⟩:=DL.Paired.get h e;exact⟨a,by rw[Paired.length h];exact M,f1⟩
theorem Mt(c:Nb g m i)(u:Cls X.K C)(J:iu X.K C "kept")(I:iu X.K C "past")(l:X.N[i]? = some x)(j:gz X.env.scope x)(k:(x==("__debug__" : Str))=false:=by decide)(M:(x==("__classdict__" : Str))=false:=by decide)(P:Xb (.Name x p1) "past" X.env (eval (.Name x p1) X.env)=eval (.Name x p1) X.env:=by rfl)(L:Xb (.Attribute (.Name x p1) "past" p2) "pop" X.env (eval (.Attribute (.Name x p1) "past" p2) X.env)=eval (.Attribute (.Name x p1) "past" p2) X.env:=by rfl)(B:(apos.endLine==cpos.line)=true:=by rfl)(hs:Xq (.Call (.Attribute (.Attribute (.Name x p1) "past" p2) "pop" apos) [] [] cpos) (some (.Attribute (.Name x p) "kept" pos')) pos.line X.env=pure false:=by rfl):kG X g i C m (.Assign [.Attribute (.Name x p) "kept" pos'] (.Call (.Attribute (.Attribute (.Name x p1) "past" p2) "pop" apos) [] [] cpos) pos) ye m:=by
 refine PS.imp (qQ (gD l j k M) (Ew PySem.F.plainAttrs_list PySem.F.slot_list_pop PySem.F.type_list_pop Mr (pD (gD l j k M) P) L B) hs) fun D v H g=>?_;obtain⟨a,t,E,r,w,G,s,q⟩:=g;obtain⟨R,o,Q⟩:=s.ob.ob;obtain⟨h,n,e⟩:=s.ob.ls;obtain⟨Z,U,Y⟩:=s.ob.ne;unfold ye at q;split at q
 .rename_i d hd';obtain⟨y,O,A⟩:=QD e hd';refine⟨_,s.me,a,C,t,_,_,rfl,o,u,I,zJ,.inl ⟨rfl,_,cL.of n⟩,E,h,y,rfl,rfl,n,O,?_⟩;refine⟨_,s.me,a,C,t,_,rfl,by rw[bZ U];exact o,u,J,by show 2<1000;decide,?_⟩;have f:cW X.K G h.dropLast w.2.dropLast:=by rw[Ē,Ē,Paired.length e];exact Paired.tk _ e
  refine q v G _ (bX.refl G) (s.chg c (fun b c=>?_) ⟨⟨y,cP,A⟩,by rw[bZ (X6 Z),bZ Y];exact s.ob.od,⟨_,by rw[bZ (X6 U),cP],f⟩,s.ob.un⟩);rw[bZ fun z=>c (by simp[z]),bZ fun z=>c (by simp[z])]
 .exact q.elim
abbrev lw:=DW->List D->Option (D×DW)
def VA(K:W.Frag)(C:Addr)(ms:List Md)(F:lw):Sp:=fun vs H Q _=>∃G a dx pl w us ds,vs=.ref a::us/\cA K G H/\DkR K G H C a dx pl w/\ArgsOk K G H ms us ds /\∃d w',F w ds=some (d,w')/\∀v G' H',Grow K G (lG H [a,dx,pl]) G' H'->DkR K G' H' C a dx pl w'->RG K G' v d->Q v H'
theorem SD.call(s:SD X g i C a dx pl m r w G σ H)(U:Nb g m i)(N:Grow X.K G (lG H [a,dx,pl]) G' H')(d:DkR X.K G' H' C a dx pl w'):SD X g i C a dx pl m r w' G' σ H':=by
 have f:∀b,b∉[a,dx,pl]->lG H [a,dx,pl] b=H b:=fun b z=>Q_e z;have Z:∀b∈[a,dx,pl],(gY g H [a,dx,pl] i a).h0 b≠none:=fun b U=>by show(if b∈[a,dx,pl]then H b else g.h0 b)≠_;rw[Q_d U];exact s.ob.isS b U
 have k:∀b,b∉[a,dx,pl]->(gY g H' [a,dx,pl] i a).h0 b=g.h0 b:=fun b U=>by show(if b∈[a,dx,pl]then H' b else g.h0 b)=_;rw[Q_e U]
 have B:∀b,b∉[a,dx,pl]->(gY g H [a,dx,pl] i a).h0 b=g.h0 b:=fun b U=>by show(if b∈[a,dx,pl]then H b else g.h0 b)=_;rw[Q_e U]
 have L:∀b,b∉[a,dx,pl]->g.h0 b≠none->lG H [a,dx,pl] b≠none:=fun b z h=>by rw[f b z];cases e:g.h0 b with
 |none=>exact Q_f e h
 |some o=>rw[s.si.old b o (by rw[B b z];exact e)];simp
 refine⟨d,s.h0,⟨N.ok,fun b o e=>?_,fun b d e=>N.ge b d (s.si.ge b d e),fun b e=>?_,s.si.lm,s.si.lr,fun j d M Y=>?_,fun j d M Y=>?_,fun j d M Y=>?_,s.si.dis,s.si.lk⟩,s.mi⟩
 .by_cases z:b∈[a,dx,pl]
  .have:(gY g H' [a,dx,pl] i a).h0 b=H' b:=by show(if b∈[a,dx,pl]then H' b else g.h0 b)=_;rw[Q_d z]
   grind
  .rw[k b z]at e;exact N.he b o (by rw[f b z];exact s.si.old b o (by rw[B b z];exact e))
 .by_cases z:b∈[a,dx,pl]
  .rw[d.un b z];have M:=s.si.gf b (Z b z);rw[s.ob.un b z]at M;exact M
  .rw[k b z]at e;exact(N.gf b (L b z e)).trans (s.si.gf b (by rw[B b z];exact e))
 .obtain⟨v,q1,q2⟩:=s.si.sh j d M Y;exact⟨v,q1,q2.mono N.ge⟩
 .obtain⟨c,q1,q2,q3⟩:=s.si.ow j d M Y;have z:=fun z=>Z c z q3;have p:lG H [a,dx,pl] c≠none:=by rw[f c z];exact q2.ob.isS
  exact⟨c,q1,⟨by rw[N.gf c p];exact q2.un,q2.ob.mono N.ge fun u n=>N.he c u (by rw[f c z];exact n)⟩,by grind⟩
 .by_cases hji:j=i
  .subst hji;have l:=(s.si.lk j _ (by show(if j=j then _ else _)=_;rw[Q_d rfl]) s.mi).2 d M;cases l
  .obtain⟨v,ev⟩:=U j hji Y;have l:=(s.si.lk j (v,none) (by show(if j=i then _ else _)=_;grind) Y).2 d M;cases l
end
theorem SD.grown(s:SD X g i C a dx pl m r w G σ H):Grow X.K g.gh g.h0 G H:=by have B:∀b,g.h0 b≠none->b∉[a,dx,pl]:=fun b h z=>h (s.h0 b z);have L:∀b,g.h0 b≠none->(gY g H [a,dx,pl] i a).h0 b=g.h0 b:=fun b h=>Q_e (B b h);exact⟨s.si.gok,fun b o e=>s.si.old b o (by grind),s.si.ge,fun b h=>s.si.gf b (by rw[L b h];exact h)⟩
theorem Qi{N:List Str}{ms:List Md}{us:List V}{ds:List D}(m:cA X.K G H)(r:DkR X.K G H C a dx pl w)(rs:ArgsOk X.K G H ms us ds)(g:ms.length+1<=N.length):SD X ⟨G,lG H [a,dx,pl],fun _=>none⟩ 0 C a dx pl (iz N.length (.bw::ms)) (none::(ds.map some++r_ (N.length-(ds.length+1)) none)) w G (L2.bO N (.ref a::us)) H:=by
 have s0:=wf m (.bw (.inl (.scl .non)) rs) (by simpa using g);have p:(L2.bO N (.ref a::us)).length=(L2.bO N (.non::us)).length:=by unfold L2.bO;simp
 have B:∀i,i≠0->(L2.bO N (.ref a::us))[i]? = (L2.bO N (.non::us))[i]?:=fun i U=>by
  obtain⟨j,rfl⟩:∃j,i=j+1:=⟨i-1,by omega⟩
  unfold L2.bO;simp
 have M:∀i d,(none::(ds.map some++r_ _ none))[i]? = some (some d)->i≠0/\(cQ N.length (.non::ds))[i]? = some (some d):=fun i d h=>by cases i with
 |zero=>simp at h
 |succ j=>unfold cQ;simpa using h
 have n:gY ⟨G,lG H [a,dx,pl],fun _=>none⟩ H [a,dx,pl] 0 a=⟨G,H,fun j=>if j=0 then some (some (V.ref a),none)else none⟩:=by
  unfold gY lG;congr 1
  grind
 refine⟨r,fun b l=>Q_d l,?_,by unfold iz;simp⟩;rw[n];refine⟨s0.gok,s0.old,s0.ge,s0.gf,by exact s0.lm,?_,fun i d h L=>?_,fun i d h L=>?_,fun i d h L=>?_,fun i j c d e Y U k=>?_,fun i o h L=>?_⟩
 .rw[p,<-s0.lr];unfold cQ;simp
 .obtain⟨z,q⟩:=M i d h;rw[B i z];exact s0.sh i d q L
 .obtain⟨z,q⟩:=M i d h;rw[B i z];exact s0.ow i d q L
 .obtain⟨z,q⟩:=M i d h;rw[B i z];exact s0.bw i d q L
 .obtain⟨z,q⟩:=M i d U;obtain⟨Z,f⟩:=M j e k;rw[B i z,B j Z];exact s0.dis i j c d e Y q f
 .have h:(if i=0 then some _ else none)=some o:=h;split at h
  .rename_i U;subst U;cases h;exact⟨by unfold L2.bO;simp,fun d h=>by simp at h⟩
  .cases h
def ky:OutD->Option (D×DW)
|.nx _ w=>some (.non,w)
|.rt d w=>some (d,w)
|.stuck=>none
def gH(n:Nat)(ds:List D):aL:=none::(ds.map some++r_ (n-(ds.length+1)) none)
variable{P:E_}{mg:Str->Option a_}{base:Heap}
section
variable{w:P_}
structure CalleeT(P:E_)(w:P_)(K:W.Frag)(mg:Str->Option a_)(base:Heap)(mt:Str)(ps:List Str)(k:Nat)(C:Addr)(ms:List Md)(F:lw):Prop where
 ex:Cls K C/\∃f fd,Meth K C mt f/\iZ K fd ps []/\FnOk P w K mg base f8 k f fd ps (VA K C ms F)
theorem Hu{t i U:Str}{st:Stmt}{N Z:List Str}{k:Nat}{ms:List Md}{fs:dW}{m':List Md}(A:MethAt K t i U st)(J:XN K t C)(S:FnScope N Z (aA st))(j:ms.length+1=Z.length)(hb:∀(kV n pm:a_)(an:Option Addr)(Y ct:a_)(us:List a_),us.length=Z.length->Zi (W.fnOf i U (bH st) (aS st) (aA st) .none kV n pm an Y ct) ⟨us,[]⟩=pure (Z.zip us))(B:∀(f:Addr)(Y:a_)(A:V_)(M:List Env)(s:e_)(H:Hp)(g:GE)(E:XK),Room k (A.deeper (YK U (aA st) s.heap.objs.size f Y)) ->ik (d4 f8 P w K mg base N U (aA st) f Y A M s H E).nox g 0 C (iz N.length (.bw::ms)) (aS st) fs m'):CalleeT P w K mg base i Z (k+1) C ms fun z ds=>ky (fs (gH N.length ds) z):=by
 obtain⟨C',f,fd,hC,cl,me,F⟩:=A.ex;have:=hC C J;subst this;exact⟨cl,f,fd,me,F.binds hb,(by
    refine F.ok S (fun T H Q E k=>by obtain⟨G,a,m,c,z,us,ds,hv,u,x,b,q⟩:=k;rw[hv,S_,b.len.1];exact j) fun Y A M s H T Q E hr h=>?_;obtain⟨G,a,m,c,z,us,ds,rfl,u,x,b,d,I,e,q⟩:=h;have hpl:Z.length<=N.length:=by have:=Q_g YZ S.pre;rw[WY]at this;omega
    replace e:ky (fs (gH N.length ds) z)=some (d,I):=e;refine⟨_,(B f) Y A M s H ⟨G,lG H [a,m,c],fun _=>none⟩ E hr,a,m,c,gH N.length ds,z,G,Qi u x b (by omega),?_⟩;cases l:fs (gH N.length ds) z with
   |nx r' R=>rw[l]at e;cases e;exact fun y p o le r=>q .non p o r.grown r.ob (.scl .non)
   |rt d' R=>rw[l]at e;cases e;exact fun v p o le O L X=>q v p o O L X
   |stuck=>rw[l]at e;cases e)⟩
end
variable{ps:List Str}
section
variable{k:Nat}{x fn:Str}{F:lw}
theorem yu{B v:V}(M:(mt==("kept" : Str))=false)(L:(mt==("past" : Str))=false):Yy mt [(("kept" : Str),B),(("past" : Str),v)]=none:=by grind
theorem SD.setv(s:SD X g i C a dx pl m r w G σ H)(B:j≠i){v:V}{d:D}(L:RG X.K G v d):SD X g i C a dx pl (m.set j .sh) (r.set j (some d)) w G (σ.set j (some v)) H:=⟨s.ob,s.h0,s.si.set j L,by rw[f_ B];exact s.mi⟩
def yE(F:lw):dW:=fun r w=>match F w []with
|some (_,w')=>.nx r w'
|none=>.stuck
theorem Nv{L:Sem Bool}(c:CalleeT X.prog X.w X.K X.mg X.base mt ps k C [] F)(o:Room k X.A)(u:Nb g m i)(y:X.N[i]? = some x)(l:gz X.env.scope x)(t:(x==("__debug__" : Str))=false:=by decide)(B:(x==("__classdict__" : Str))=false:=by decide)(h:(mt==("kept" : Str))=false:=by decide)(e:(mt==("past" : Str))=false:=by decide)(n:eval (.Call (.Attribute (.Name x p) mt apos) [] [] cpos) X.env=(do
   let ov <-eval (.Name x p) X.env
   Zu apos.atName
   let(f,first) <-YF [ov] (ZB ov mt L)
   ó cpos f first (backTo cpos (i_ [] X.env)) (Y4 cpos (X7 [] X.env))):=by rfl)(hs:Xq (.Call (.Attribute (.Name x p) mt apos) [] [] cpos) none pos.line X.env=pure false:=by rfl):kG X g i C m (.Expr (.Call (.Attribute (.Name x p) mt apos) [] [] cpos) pos) (yE F) m:=by obtain⟨O,f,fd,j,P,E⟩:=c.ex;refine PS.imp (rC (Qs (gD y l t B) O j E o P .nil mR n) hs) fun D Z H k=>?_;obtain⟨a,Y,L,r,w,G,s,q⟩:=k;obtain⟨kv,I,r1⟩:=s.ob.ob;unfold yE at q;cases M:F w []with
|none=>rw[M]at q;exact q.elim
|some z=>obtain⟨d,b⟩:=z;rw[M]at q;refine⟨_,s.me,a,Y,_,rfl,I,yu h e,G,a,Y,L,w,[],[],rfl,s.si.gok,s.ob,.nil,d,b,M,fun v R Q U J T=>q Z R Q U.ge (s.call u U J)⟩
def EW(j:Nat)(fl:D->aL->Res (List D))(F:lw):dW:=fun r w=>qo (fl w.1 r) fun ds=>match F w ds with
|some (d,w')=>.nx (r.set j (some d)) w'
|none=>.stuck
theorem Nw{h:Sem Bool}(j:Nat){E:D->aL->Res (List D)}(c:CalleeT X.prog X.w X.K X.mg X.base mt ps k C ms F)(hr:Room k X.A)(n:j≠i)(hb:Nb g m i)(hN:X.N[i]? = some x)(hv:gz X.env.scope x)(B:X.N.Nodup)(L:X.N[j]? = some y)(hy:jY X.env.scope y)(ha:∀g' Y,jI X g' i C Y->jX X g' m (e::es) ms (E Y))(hd:(x==("__debug__" : Str))=false:=by decide)(M:(x==("__classdict__" : Str))=false:=by decide)(n1:(mt==("kept" : Str))=false:=by decide)(n2:(mt==("past" : Str))=false:=by decide)(U:i_ (e::es) X.env=(false,eval e X.env)::i_ es X.env:=by rfl)(l:(backTo cpos (i_ es X.env)).any (·.1)=false:=by rfl)(ht:eval (.Call (.Attribute (.Name x p) mt apos) (e::es) [] cpos) X.env=(do
   let ov <-eval (.Name x p) X.env
   Zu apos.atName
   let(f,first) <-YF [ov] (ZB ov mt h)
   ó cpos f first (backTo cpos (i_ (e::es) X.env)) (Y4 cpos (X7 [] X.env))):=by rfl)(hs:Xq (.Call (.Attribute (.Name x p) mt apos) (e::es) [] cpos) (some (.Name y pos')) pos.line X.env=pure false:=by rfl)(hf:X.fn y=true\/X.env.scope.names.lookup y=some .local:=by first|exact .inl rfl|exact .inr rfl|assumption):kG X g i C m (.Assign [.Name y pos'] (.Call (.Attribute (.Name x p) mt apos) (e::es) [] cpos) pos) (EW j E F) (m.set j .sh):=by obtain⟨cl,f,fd,me,bd,fo⟩:=c.ex;have hA:PA X _ (fun Z H Q=>∃g' Y,jI X g' i C Y/\CC X g' m ms _ Z H Q):=fun pos pz s Z H Q I y=>(by obtain⟨g',Y,k,z⟩:=y;exact ha g' Y k pos pz s Z H Q I z);refine PS.imp (uX B L hy (Gu (gD hN hv hd M) cl me fo hr bd .nil mR hA U l ht) hs hf) fun D Z H j=>?_;obtain⟨a,J,h,r,w,G,s,q⟩:=j;obtain⟨kv,e1,r1⟩:=s.ob.ob;refine⟨_,s.me,a,J,_,rfl,e1,yu n1 n2,_,w.1,s.kept,r,G,s.toH,cC (rq q) fun O q R G1 H1 b rs=>?_⟩;have u:=s.after (s.toH.grow b) s.mi;cases o:F w O with
|none=>rw[o]at q;exact q.elim
|some z=>obtain⟨d,P⟩:=z;rw[o]at q;refine⟨G1,a,J,h,w,R,O,by simp,b.ok,u.ob,rs,d,P,o,fun v G' H' t dk T=>q _ G' H' (bX.trans b.ge t.ge) ((u.call hb t dk).setv n T)⟩
end
theorem cA.own{K:W.Frag}{G:GH}{H:Hp}{b x:Addr}(L:cA K G H)(e:H b=some (.own x)):G b=none:=by cases h:G b with
|none=>rfl
|some d=>
  have rd:∀{u:HO},Rd H b u->u=.own x\/∃o B,(HO.own x)=.frz o B:=fun r=>by
   rcases r with r|⟨o,r⟩
   .grind
   grind
  cases L b d h with
 |lst r _=>grind
 |tup r _=>grind
 |dic r _=>rw[e]at r;cases r
 |exc r _ _=>rw[e]at r;cases r
 |fld r _=>rw[e]at r;cases r
 |ins r _ _=>rw[e]at r;cases r
def LV(X:Cx)(g:GE)(m:List Md)(C:Addr)(kd:D):TS:=fun D σ H=>∃r G x dx,NI X g m x C dx r [] G σ H/\∀G' H' pl,bX G G'->Grow X.K g.gh g.h0 G' H'->g.h0 pl=none->DkR X.K G' H' C x dx pl (kd,[])->D.nx σ H'
variable{kd:D}
section
variable{fe:FE}{x0:Str}{p' p2' pos2 lpos:Pos}
theorem MN(P:Cls X.K C)(nk:iu X.K C "kept")(np:iu X.K C "past")(O:X.N[0]? = some x0)(E:gz X.env.scope x0)(he:∀r,∃f:FE,SE X g m e f/\f r=.ok kd)(hl:SO X g m (.List [] lpos) fun _=>.ok (.lst []))(F:(x0==("__debug__" : Str))=false:=by decide)(Y:(x0==("__classdict__" : Str))=false:=by decide)(hs:Xq e (some (.Attribute (.Name x0 p) "kept" p')) pos.line X.env=pure false:=by rfl)(IO:Xq (.List [] lpos) (some (.Attribute (.Name x0 p2) "past" p2')) pos2.line X.env=pure false:=by rfl):d6 X [.Assign [.Attribute (.Name x0 p) "kept" p'] e pos,.Assign [.Attribute (.Name x0 p2) "past" p2'] (.List [] lpos) pos2] (LV X g m C kd):=by
 have hA:PE X e (fun i H Q=>∃f:FE,SE X g m e f/\tE X g m f i H Q):=fun pz s i H Q I p=>(by obtain⟨f,h,q⟩:=p;exact h pz s i H Q I q);refine d6.imp (pT (qQ (gD O E F Y) hA hs) (pT (qQ (gD O E F Y) hl IO) rD)) fun D i H W=>?_;obtain⟨r,G,x,j,a,q⟩:=W;obtain⟨f,hf,ef⟩:=he r;refine⟨f,hf,r,G,a.si,?_⟩;rw[ef];intro v w H1 k r1;obtain⟨fs,A,rf⟩:=a.ob;cases rf;have Z:=k.he _ _ A;have R:w x=none:=by rw[k.gf x (by rw[A];simp)];exact a.gx
 have Id:=k.he _ _ a.od;have M:j≠x:=fun z=>by grind
 refine⟨_,a.me,x,C,j,[],rfl,Z,P,nk,by decide,?_⟩;have B:SI X g m r w i (aV H1 x (.ins C j (L2.putF ("kept") v []))):=(a.si.grow k).ins Z a.hx R;refine⟨r,w,B,fun b n u d l y=>?_⟩;have T:u x=some (.ins C j [(("kept"),v)]):=d.he _ _ cP;refine⟨_,a.me,x,C,j,_,rfl,T,P,np,by show 1<1000;decide,?_⟩;have hb:b≠x:=fun z=>by rw[z,cP]at l;cases l
 have ep:L2.putF ("past") (V.ref b) [(("kept"),v)]=[(("kept" : Str),v),(("past"),V.ref b)]:=by show(if ("kept")=("past" : Str)then _ else _)=_;rfl
 have U:n x=none:=by rw[d.gf x (by rw[cP];simp)];exact R
 have KK:SI X g m r n i (aV u x (.ins C j (L2.putF ("past") (V.ref b) [(("kept"),v)]))):=(B.grow d).ins T a.hx U;have L:=d.he _ _ (by rw[bZ M];exact Id);obtain⟨t,eb,rb⟩:∃t,u b=some _/\cW X.K n t []:=by cases y.ob with
 |lst r s=>exact⟨_,r,s⟩
 refine q n _ b (bX.trans k.ge d.ge) KK.grown ?_ ⟨⟨v,by rw[cP,ep],r1.mono d.ge⟩,by rw[bZ M];exact L,⟨t,by rw[bZ hb];exact eb,rb⟩,fun c J=>?_⟩
 .cases e0:g.h0 b with
 |none=>rfl
 |some o=>rw[B.old b o e0]at l;cases l
 .simp  at J;rcases J with rfl|rfl|rfl
  .exact U
  .exact(B.grow d).gok.own L
  .exact y.un
end
def CM(K:W.Frag)(C:Addr)(kd:D):Sp:=fun vs H Q _=>∃G H1 x dx,H=aV (aV H1 dx (.own x)) x (.ins C dx [])/\H1 x=none/\H1 dx=none/\dx≠x/\vs=[.ref x]/\cA K G H1 /\∀G' H' pl,Grow K G H1 G' H'->H1 pl=none->DkR K G' H' C x dx pl (kd,[])->Q .non H'
structure CalleeI(P:E_)(w:P_)(K:W.Frag)(mg:Str->Option a_)(base:Heap)(x:Str)(ps:List Str)(k:Nat)(C:Addr)(kd:D):Prop where
 ex:∃f fd,mg x=some (.ref C)/\Mk K C f/\iZ K fd ps []/\FnOk P w K mg base f8 k f fd ps (CM K C kd)
section
variable{w:P_}
theorem Os{x j Z:Str}{st:Stmt}{N c:List Str}{k:Nat}{l:D}(A:MakeAt K mg x j Z st)(R:∀d,XN K j d->d=C)(S:FnScope N c (aA st))(e:1=c.length)(O:∀(kV i t:a_)(an:Option Addr)(b ct:a_)(us:List a_),us.length=c.length->Zi (W.fnOf "__init__" Z (bH st) (aS st) (aA st) .none kV i t an b ct) ⟨us,[]⟩=pure (c.zip us))(B:∀(f:Addr)(b:a_)(A:V_)(Y:List Env)(s:e_)(H:Hp)(g:GE)(E:XK),Room k (A.deeper (YK Z (aA st) s.heap.objs.size f b)) ->d6 (d4 f8 P w K mg base N Z (aA st) f b A Y s H E).nox (aS st) (LV (d4 f8 P w K mg base N Z (aA st) f b A Y s H E).nox g (iz N.length [.sh]) C l)):CalleeI P w K mg base x c (k+1) C l:=by
 obtain⟨d,f,fd,T,o,cl,v,F⟩:=A.ex;have:=R d o;subst this;refine⟨f,fd,T,v,F.binds O,F.ok S (fun r H Q E k=>by obtain⟨G,n,a,m,_,_,_,_,y,_⟩:=k;rw[y];exact e) fun b A Y s H r Q E z h=>?_⟩;obtain⟨G,n,a,m,rfl,M,L,U,rfl,X,q⟩:=h;have I:c.length<=N.length:=by have:=Q_g YZ S.pre;rw[WY]at this;omega
 refine⟨_,B f b A Y s _ ⟨G,n,fun _=>none⟩ E z,_,G,a,m,Hk (ms:=[]) (us:=[]) (ds:=[]) X .nil (by simp;omega) M L U,?_⟩;exact fun G' H' u le p J dk=>q G' H' u p J dk
end
section
variable{k:Nat}{x:Str}
theorem SI.toD(s:SI X g m r G σ H)(q:Grow X.K G H G' H')(J:DkR X.K G' H' C a dx pl w)(I:∀b∈[a,dx,pl],H b=none)(hi:i<m.length):SD X g i C a dx pl (m.set i .bw) (r.set i none) w G' (σ.set i (some (V.ref a))) H':=by
 have t:=s.grow q;have M:∀b,H b≠none->b∉[a,dx,pl]:=fun b h z=>h (I b z);have U:∀b∈[a,dx,pl],g.h0 b=none:=fun b p=>by cases e:g.h0 b with
 |none=>rfl
 |some o=>have:=s.old b o e;grind
 have gn:∀b∈[a,dx,pl],g.gh b=none:=fun b p=>by cases e:g.gh b with
 |none=>rfl
 |some d=>have:=s.ge b d e;rw[s.gok.isN (I b p)]at this;cases this
 have y:∀b,b∉[a,dx,pl]->(gY g H' [a,dx,pl] i a).h0 b=g.h0 b:=fun b p=>Q_e p;have T:∀b,b∈[a,dx,pl]->(gY g H' [a,dx,pl] i a).h0 b=H' b:=fun b p=>Q_d p;have n:∀{j:Nat}{x:Md},i≠j->(m.set i .bw)[j]? = some x->m[j]? = some x:=fun h e=>by grind
 have Z:i<σ.length:=by rw[<-s.lm];exact hi
 have B:∀{j:Nat}{d:D},(r.set i none)[j]? = some (some d)->i≠j/\r[j]? = some (some d):=fun{j d} h=>by grind
 refine⟨J,U,⟨q.ok,fun b o e=>?_,t.ge,fun b e=>?_,by simpa using s.lm,by simpa using s.lr,fun j d N c=>?_,fun j d N c=>?_,fun j d N c=>?_,fun j l b d e Y N c P O E A=>?_,fun j o k R=>?_⟩,by grind⟩
 .by_cases z:b∈[a,dx,pl]
  .grind
  .rw[y b z]at e;exact t.old b o e
 .by_cases z:b∈[a,dx,pl]
  .rw[J.un b z];exact(gn b z).symm
  .rw[y b z]at e;exact t.gf b e
 .obtain⟨hij,N⟩:=B N;rw[f_ hij];exact t.sh j d N (n hij c)
 .obtain⟨hij,N⟩:=B N;obtain⟨b,u,f,F⟩:=s.ow j d N (n hij c);have z:=M b f.ob.isS;rw[f_ hij];exact⟨b,u,f.mono q,by rw[y b z];exact F⟩
 .obtain⟨hij,N⟩:=B N;obtain⟨v,u,f⟩:=s.bw j d N (n hij c);rw[f_ hij];refine⟨v,u,?_⟩;rcases f with f|⟨b,rfl,f,F⟩
  .exact .inl (f.mono q.ge)
  .exact .inr ⟨b,rfl,f.mono q,by grind⟩
 .obtain⟨hij,N⟩:=B N;obtain⟨L,c⟩:=B c;rw[f_ hij]at E;rw[f_ L]at A;exact s.dis j l b d e Y N c (n hij P) (n L O) E A
 .by_cases hij:i=j
  .subst hij;have k:(if i=i then some _ else g.hd i)=some o:=k;rw[Q_d rfl]at k;exact⟨by grind,fun d h=>Q_f rfl (B h).1⟩
  .have k:(if j=i then some _ else g.hd j)=some o:=k;rw[Q_e (X6 hij)]at k;obtain⟨l1,Q⟩:=s.lk j o k (n hij R);exact⟨by grind,fun d h=>Q d (B h).2⟩
end
inductive OutL where
 |nx (r:aL) (w w':DW)|rt (d:D)|stuck
abbrev FL:=aL->DW->DW->OutL
structure SL(X:Cx)(g:GE)(i i':Nat)(C a dx pl a' dx' pl':Addr)(m:List Md)(r:aL)(w w':DW)(G0:GH)(H0:Hp)(G:GH)(σ:L2.St)(H:Hp):Prop where
 sd:SD X (hG g G0 H0 [a',dx',pl'] i' a') i C a dx pl m r w G σ H
 dk:DkR X.K G0 H0 C a' dx' pl' w'
 h0:∀b∈[a',dx',pl'],g.h0 b=none
 gr:Grow X.K g.gh g.h0 G0 H0
 mi:m[i']? = some .bw
def gX:List D->Option D
|[.int i]=>if i.natAbs<2^1000 then some (.str (Å i))else none
|_=>none
theorem k6{X:Cx}{g:GE}{m:List Md}{e:Expr}{L:List Expr}{U:aL->Res (List D)}{B p:Pos}(b:Gl X "str")(a:X.mg "str" = none)(f:iF X g m (e::L) U)(c:i_ (e::L) X.env=(false,eval e X.env)::i_ L X.env:=by rfl)(M:(backTo B (i_ L X.env)).any (·.1)=false:=by rfl) :
  SE X g m (.Call (.Name "str" p) (e::L) [] B) (fC U gX):=hX (by
     intro G H h j d Q N Y e q;unfold gX at e;split at e
     .split at e
      .rename_i i hi;cases e;cases Y with
      |cons Z t=>
        cases t;refine⟨i,by rw[Z.int N],?_,q _ G H (Grow.refl N) (.scl (.str _))⟩;by_cases z:i.natAbs=0
        .rw[z];decide
        .exact Þ ((ZU z).mpr hi) (by decide)
      .cases e
     .cases e) (nu Tk b a rfl f (by decide) (rfl) c M)
def sV(d:D):Option D:=(iJ d).map fun b=>.bl (! b)
theorem zb{X:Cx}{g:GE}{m:List Md}{a:Expr}{i:FE}{N:Pos}(l:SB X g m a i):SE X g m (.UnaryOp .Not a N) (f1 i sV):=by intro f s Y H Q I ⟨r,G,j,q⟩;refine UnaryOp_ (bQ (l f s Y H _ I ⟨r,G,j,cC (cB q) fun d M v t U Z B=>?_⟩) fun v k z=>by obtain⟨x,U,o,B,M⟩:=z;exact not_of (bQ (Fg f k Y U x v _ o B M) fun c u y=>by obtain⟨p,n,L⟩:=y;exact ⟨.bl (! c),p,n,rfl,L⟩));obtain⟨w,e,L⟩:=dz M;unfold sV at e;cases h:iJ d with
|none=>rw[h]at e;cases e
|some b=>rw[h]at e;cases e;exact⟨b,GU Z.ok B h,L _ t U Z (.scl (.bl _))⟩
structure QAt(P:E_)(w:P_)(K:W.Frag)(mg:Str->Option a_)(x:Str)(tab:List (Str×Str)):Prop where
 ex:∃a f,mg x=some (.ref a)/\(a==Yj)=false/\(∀h:Heap,K.In h->h.MapOf (jk P w) a f) /\∀s,match tab.lookup s with
  |some n=>∃b,mg n=some (.ref b)/\f (.inr s)=some (.ref b)
  |none=>f (.inr s)=none
section
variable{a:Expr}{fa:FE}{fl:aL->Res (List D)}{k:Nat}{x:Str}{tab:List (Str×Str)}
def tt(tab:List (Str×Str))(f:FE):FQ:=fun r=>(f r).bind fun d=>match d with
|.str s=>.ok (tab.lookup s).isSome
|_=>.stuck
theorem DV(q:QAt X.prog X.w X.K X.mg x tab)(o:SE X g m a fa)(j:Gl X x:=by rfl)(i:XM .In (.Name x p)=false:=by rfl)(l:(x==("__debug__" : Str))=false:=by decide):SQ X g m (.Compare a [.In] [.Name x p] pos) (tt tab fa):=by
 obtain⟨b,f,J,F,E,C⟩:=q.ex;have e:cX X (Xm .In) (fun y z H Q=>∃s,y=.str s/\z=.ref b/\Q (.bl (tab.lookup s).isSome) H):=by intro R s L H y z v u Q I Y U h;obtain⟨t,rfl,rfl,q⟩:=h;obtain⟨M,rfl⟩:=Y;cases(U);refine wpAny_in_of (k:=.inr t) (wn t M) F (E _ I.kIn) ⟨_,H,I.tok _,?_,q⟩;have:=C t;cases h:tab.lookup t with
 |none=>rw[h]at this;rw[this];rfl
 |some n=>rw[h]at this;obtain⟨c,_,A⟩:=this;rw[A];rfl
 refine PT.imp (Gx e o (vN (v:=.ref b) j J rfl l) i) fun L H Q w=>?_;obtain⟨r,G,N,z⟩:=w;refine ⟨r,G,N,?_⟩
 refine cC (cB z) fun d z v P O B Z=>?_;cases d with
|str s=>exact⟨s,Z.str B.ok,rfl,_,rfl,z P O B⟩
|_=>exact(z).elim
def qu(F:Str->Option (List D->Res D))(fa:FE)(fl:aL->Res (List D)):FE:=fun r=>(fa r).bind fun d=>match d with
|.str s=>(match F s with
 |some f=>(fl r).bind fun ds=>qq (f ds)
 |none=>.stuck)
|_=>.stuck
theorem sM{F:Str->Option (List D->Res D)}(q:QAt X.prog X.w X.K X.mg x tab)(hc:∀s f,F s=some f->∃n,tab.lookup s=some n/\Callee X.prog X.w X.K X.mg X.base n ps [] k false ms f)(hr:Room k X.A)(ha:SE X g m a fa)(hA:jX X g m (e::es) ms fl)(hg:Gl X x:=by rfl)(hs:vF a:=by intro _ _;rfl)(hd:(x==("__debug__" : Str))=false:=by decide)(he:i_ (e::es) X.env=(false,eval e X.env)::i_ es X.env:=by rfl)(E:(backTo pos (i_ es X.env)).any (·.1)=false:=by rfl)(ht:eval (.Call (.Subscript (.Name x p) a p2) (e::es) [] pos) X.env=(do ó pos (<-eval (.Subscript (.Name x p) a p2) X.env) [] (backTo pos (i_ (e::es) X.env)) (Y4 pos (X7 [] X.env))):=by rfl):SE X g m (.Call (.Subscript (.Name x p) a p2) (e::es) [] pos) (qu F fa fl):=by
 obtain⟨b,f,e1,e2,e3,e4⟩:=q.ex;have hx:kK X (fun y z H Q=>∃s n c,y=.ref b/\z=.str s/\tab.lookup s=some n/\X.mg n=some (.ref c)/\Q (.ref c) H):=by intro j l C s i H y z v u Q I ry rz h hs;obtain⟨t,n,c,rfl,rfl,M,U,q⟩:=h;obtain⟨tk,rfl⟩:=rz;cases(ry);have hm:=e3 _ I.kIn;have:=e4 t;rw[M]at this;obtain⟨c',L,O⟩:=this;rw[U]at L;cases L;exact Ã hm.typeIs PySem.F.slot_dict_getitem.lookup (wpAny_getItem_of (wn t tk) hm O ⟨.ref c,H,I.tok _,rfl,q⟩) hs
 intro C s i H Q I ⟨r,G,si,z⟩;unfold qu at z;refine d_ (bQ (DQ hx (vN (v:=.ref b) hg e1 rfl hd) ha hs C s i H (fun v Z=>∃t n c Y,Grow X.K G H Y Z/\fa r=.ok (.str t)/\tab.lookup t=some n/\X.mg n=some (.ref c)/\v=.ref c) I ⟨r,G,si,?_⟩) fun u s1 ⟨v,Z,I1,o,t,n,c,Y,N,ef,hn,J,ev⟩=>?_)
 .cases ed:fa r with
 |ok d=>rw[ed]at z;intro v Y Z N r1;cases d with
  |str t=>cases B:F t with
   |none=>simp only[Res.bind,B]at z;exact z.elim
   |some P=>obtain⟨n,M,U⟩:=hc t P B;obtain⟨c,fd,L,_⟩:=U.ex;exact⟨t,n,c,rfl,r1.str N.ok,M,L,t,n,c,Y,N,rfl,M,L,rfl⟩
  |_=>exact(z).elim
 |exc y=>rw[ed]at z;exact z
 |stuck=>rw[ed]at z;exact z
 .subst ev;cases(o);rw[ef]at z;cases B:F t with
 |none=>simp only[Res.bind,B]at z;exact z.elim
 |some P=>obtain⟨n',M,U⟩:=hc t P B;rw[hn]at M;cases M;obtain⟨c',fd,L,O,h5,h6⟩:=U.ex;rw[J]at L;cases L;refine W.callWith_K I1.ok.mod.kin O (bQ (hA pos C s1 i Z _ I1 ⟨r,Y,si.grow N,?_⟩) fun us s2 w=>by obtain⟨vs,H2,I2,rr,q2⟩:=w;exact ⟨I2.kIn,vB h6 hr h5 .nil mR I2 rr q2⟩) he E;cases R:fl r with
  |ok zs=>simp only[Res.bind,B,R]at z;intro vs G2 H2 T rs;have:=Av (ro:=false) T.ok rs .nil (by rw[T_];exact cC (wl z (yS _)) fun d k v G3 H3 w3 o=>k v G3 H3 ((N.trans T).trans w3) o);simpa using this
  |exc x=>simp only[Res.bind,B,R]at z;exact(z).grow N
  |stuck=>simp only[Res.bind,B,R]at z;exact z.elim
end
end DL
namespace DL
open PySem PySem.Spec PyProof.Rows L2 PySem.W PySem.Calls
theorem Callee.up{P:E_}{w:P_}{K:W.Frag}{M:Str->Option a_}{B:Heap}{x:Str}{L:List Str}{j k:Nat}{ro:Bool}{ms:List Md}{F:List D->Res D}(c:Callee P w K M B x L [] j ro ms F)(h:j<=k):Callee P w K M B x L [] k ro ms F:=by obtain⟨f,a,Z,Y,U,N⟩:=c.ex;exact⟨f,a,Z,Y,U,N.mono h⟩
theorem Callee.lent2{P:E_}{w:P_}{K:W.Frag}{M:Str->Option a_}{B:Heap}{x:Str}{L:List Str}{k:Nat}{ro:Bool}{F:List D->Res D}(c:Callee P w K M B x L [] k ro [.bw,.bw] F):Callee P w K M B x L [] k ro [.bw,.sh] F:=by obtain⟨f,g,d,b,a,Z⟩:=c.ex;refine⟨f,g,d,b,a,Z.imp fun i H Q E ⟨G,h,e,N,q⟩=>⟨G,h,e,?_,q⟩⟩;cases N with
|bw Y t=>cases t with
 |sh U t=>cases t;exact .bw Y (.bw U.rb .nil)
end DL
namespace DL
open PySem PySem.Spec PyProof.Rows L2
abbrev QT:=Str×Tok×Str×Addr
def kn(w:P_)(t:QT):Z_:=⟨hashStr w t.1,.str t.1 t.2.1,.ref t.2.2.2⟩
theorem N7(w:P_)(s:Str):∀B:List QT,(∃t∈B,(B.map fun t=>(t.1,t.2.2.1)).lookup s=some t.2.2.1/\((B.map (kn w)).find? fun e=>jF (.inr s) e.key).map (·.val)=some (.ref t.2.2.2))\/((B.map fun t=>(t.1,t.2.2.1)).lookup s=none/\((B.map (kn w)).find? fun e=>jF (.inr s) e.key).map (·.val)=none):=by
 intro B
 induction B with
|nil=>grind
|cons t B L=>
  rw[s_,XR,s_,WW];have e:jF (.inr s) (kn w t).key=(s==t.1):=by
   show(t.1==s)=(s==t.1)
   grind
  rw[e];cases h:s==t.1 with
 |true=>exact .inl ⟨t,j_,rfl,rfl⟩
 |false=>grind
theorem LH{P:E_}{w:P_}{K:W.Frag}{h:Heap}{U:Str->Option a_}{x:Str}{a:Addr}{M:Array Z_}{n:Nat}(L:List QT)(b:K.In h)(G:h.Ns U_ U)(z:W.nsIn K U_ x=some (some (.ref a)))(l:K.lookup a=some ⟨.type "dict",none,.dict M n,#[]⟩)(d:M.toList=L.map (kn w))(hs:(a==Yj)=false)(c:kN (fun t:QT=>W.nsIn K U_ t.2.2.1=some (some (.ref t.2.2.2))) L):QAt P w K U x (L.map fun t=>(t.1,t.2.2.1)):=by
 refine⟨a,findBy jF M,W.mg_of b G z,hs,fun i B=>⟨_,M,n,B _ _ l,⟨rfl,rfl,rfl⟩,rfl,fun e N=>?_,fun _=>rfl⟩,fun s=>?_⟩
 .have N:=Array.mem_toList_iff.mpr N;rw[d]at N;obtain⟨t,_,rfl⟩:=m_.mp N;exact⟨.inr t.1,wn t.1 t.2.1,rfl⟩
 .have q:=N7 w s L;have g:findBy jF M (.inr s)=((L.map (kn w)).find? fun e=>jF (.inr s) e.key).map (·.val):=by
   unfold findBy
   grind
  rcases q with⟨t,f,Z,Y⟩|⟨Z,Y⟩
  .rw[Z];exact⟨t.2.2.2,W.mg_of b G (c.mem t f),g.trans Y⟩
  grind
end DL
namespace DL
open PySem PySem.Spec PyProof.Rows L2 PySem.W PySem.Calls
def iR:D->Option Str
|.int i=>if i.natAbs<2^1000 then some (Å i)else none
|.str x=>if x.length<=1000 then some x else none
|_=>none
abbrev FJ:=aL->Option Str
def C2:FJ:=fun _=>some Yr
def oI(a:Str)(f:FJ):FJ:=fun r=>(f r).map (a++·)
def mw(fe:FE)(f:FJ):FJ:=fun r=>match fe r with
|.ok (.str y)=>if y.length<=1001 then(f r).map (y++·)else none
|_=>none
def tw(f:FJ):FE:=fun r=>match f r with
|some z=>if z.length<=100000 then .ok (.str z)else .stuck
|none=>.stuck
def SJ(X:Cx)(g:GE)(m:List Md)(ps:List Expr)(f:FJ):Prop:=∀(pz:List (Addr×Obj))(s:e_)(σ:L2.St)(H:Hp)(out:Str)(Q:a_->e_->Prop)(r:aL)(G:GH),Inv X pz σ H s->SI X g m r G σ H ->(∃z,f r=some z/\out.length+z.length<=1000000/\∀t s' G' H',Grow X.K G H G' H'->Inv X pz σ H' s'->Q (.str (out++z) t) s')->K_ (G_ X.prog X.w) X.A (joinParts out (ð ps X.env)) Q X.xe s
section
variable{X:Cx}{g:GE}{m:List Md}{ps:List Expr}{f:FJ}{pos p:Pos}{v₁ v₂:Expr}{x:Str}
theorem Dm:SJ X g m [] C2:=fun U s N H B Q r G I L k=>by
 obtain⟨z,e,Y,q⟩:=k
 cases e;have M:B.length<=sizeLine:=by rw[H_];omega
 have:=q s.toks { s with toks:=s.toks+1 } G H (Grow.refl L.gok) (I.tok _);exact joinParts_nil this M
theorem Dn{a:Str}{j:Nat}(c:SJ X g m ps f)(hs:ð (.Constant (.str a) j p::ps) X.env=eval (.Constant (.str a) j p) X.env::ð ps X.env:=by rfl):SJ X g m (.Constant (.str a) j p::ps) (oI a f):=fun L s B H b Q r G I N j=>by
 obtain⟨z,e,d,q⟩:=j
 obtain⟨y,k,rfl⟩:=Ym.mp e;rw[F_]at d;rw[hs];refine joinParts_cons (bQ (Ex (X:=X) (x:=a) L s B H (fun v M=>v=.str a/\M=H) I ⟨rfl,rfl⟩) fun u U f=>?_);obtain⟨v,M,l,Z,h,i⟩:=f;subst h i;obtain⟨t,rfl⟩:=(show ∃t,u=Value.str a t from Z)
 refine⟨by rw[F_,H_];omega,c L U B _ _ Q r G l N ⟨y,k,by rw[F_];omega,fun t Y A o w n=>?_⟩⟩;rw[Yh];exact q t Y A o w n
def tF(fe:FE):FE:=f1 fe fun d=>(iR d).map .str
theorem qL{e:Expr}{fe:FE}(i:SB X g m e fe):SE X g m (.FormattedValue e (-1) none pos) (tF fe):=by
 intro h s b H Q I ⟨r,G,c,q⟩;refine FormattedValue_plain (bQ (i h s b H (fun v L=>∃d y M,iR d=some y/\Grow X.K G H M L/\RB X.K M L v d/\Q (.str y) L) I ⟨r,G,c,cC (cB q) fun d f v M L N U=>?_⟩) fun u n ⟨v,L,a,Z,d,y,M,B,N,U,q⟩=>?_)
 .obtain⟨d',e,q2⟩:=dz f;obtain⟨y,B,rfl⟩:=Ym.mp e;exact⟨d,y,M,B,N,U,q2 _ M L N (.scl (.str _))⟩
 .unfold iR at B;split at B
  .split at B
   .rename_i k hk;cases B;have Y:=U.int N.ok;subst Y;obtain⟨t,rfl⟩:=(Z)
    refine formatField_int_small ?_ ⟨.str _,L,a.tok _,⟨_,rfl⟩,q⟩;by_cases z:k.natAbs=0
    .rw[z];decide
    .exact Þ ((ZU z).mpr hk) (by decide)
   .cases B
  .split at B
   .cases B;have Y:=U.str N.ok;subst Y;obtain⟨t,rfl⟩:=(Z)
    exact formatField_str (fun l j=>⟨.str _,L,a.tok _,⟨_,rfl⟩,q⟩) (by rw[H_];omega)
   .cases B
  .cases B
theorem t8{e:Expr}{fe:FE}(n:SE X g m e fe)(k:SJ X g m ps f)(hs:ð (e::ps) X.env=eval e X.env::ð ps X.env:=by rfl):SJ X g m (e::ps) (mw fe f):=fun a s Y H j Q r G I Z e=>by obtain⟨z,B,l,q⟩:=e;unfold mw at B;cases M:fe r with
|ok d=>cases d with
 |str y=>
   simp only[M]at B;split at B
   .rename_i hy;obtain⟨b,p,rfl⟩:=Ym.mp B;rw[F_]at l;rw[hs];refine joinParts_cons (bQ (n a s Y H (fun v U=>∃N,Grow X.K G H N U/\v=.str y) I ⟨r,G,Z,?_⟩) fun u F ⟨v,U,x,h,N,L,o⟩=>?_)
    .rw[M];exact fun v N U L i=>⟨N,L,i.str L.ok⟩
    .subst o;obtain⟨t,rfl⟩:=(show ∃t,u=Value.str y t from h)
     refine⟨by rw[F_,H_];omega,k a _ Y U _ Q r N x (Z.grow L) ⟨b,p,by rw[F_];omega,fun t c E C w A=>?_⟩⟩;rw[Yh];exact q t c E C (L.trans w) A
   .cases B
 |_=>simp only[M]at B;cases B
|exc _=>simp only[M]at B;cases B
|stuck=>simp only[M]at B;cases B
theorem Mz{r:aL}{q:D->Prop}{y:D->Prop}(h:fin (tw f r) q y):∃z,f r=some z/\z.length<=100000/\q (.str z):=by unfold tw at h;cases e:f r with
|none=>rw[e]at h;exact h.elim
|some z=>
  rw[e]at h;by_cases B:z.length<=100000
  .simp only[Q_d B]at h;exact⟨z,rfl,B,h⟩
  .simp only[Q_e B]at h;exact h.elim
theorem sL(h:SJ X g m (B::v₂::ps) f)(hs:ð (B::v₂::ps) X.env=eval B X.env::eval v₂ X.env::ð ps X.env:=by rfl):SE X g m (.JoinedStr (B::v₂::ps) pos) (tw f):=by intro U s M H Q I ⟨r,G,N,q⟩;obtain⟨z,e,b,q⟩:=Mz q;exact h U s M H Yr _ r G I N ⟨z,e,by show 0+_<=_;omega,fun t a Z L w Y=>⟨.str z,L,Y,⟨t,by rw[Str.empty_append]⟩,q _ Z L w (.scl (.str _))⟩⟩
theorem Vf{e:Expr}{fe:FE}(M:SE X g m e fe):SE X g m (.JoinedStr [e] pos) fe:=fun L s B H Q I h=>JoinedStr_one (M L s B H Q I h)
end
end DL
namespace DL
open PySem PySem.Spec PyProof.Rows L2
section
variable{X:Cx}{g:GE}{i j k:Nat}{C a dx pl:Addr}{m ms m':List Md}{r:aL}{w:DW}{G G':GH}{σ:L2.St}{H H':Hp}{e iter tg:Expr}{es:List Expr}{p apos cpos pos pos' pc:Pos}{x y mt xc:Str}{ps:List Str}{F:lw}{sts:List Stmt}{s1:dW}
def ph(ft:FT)(body:dW):List D->dW
|[],r,w=>.nx r w
|d::ds,r,w=>match ft d r with
 |some r1=>(match body r1 w with
  |.nx r' w'=>ph ft body ds r' w'
  |o=>o)
 |none=>.stuck
def yH(fi:FI)(ft:FT)(body:dW):dW:=fun r w=>qo (fi r) fun ds=>ph ft body ds r w
theorem MM(hp:Y_ (G_ X.prog X.w) X.A X.env X.xe)(hc:X.calm=true){fi:FI}{ft:FT}(hi:∀g',iU X g' m tg iter fi)(hg:∀g',SG X g' m tg ft m)(hb:ik X g i C m sts s1 m)(hs:∀x,W9 iter X.env x=pure x:=by intro _;rfl):kG X g i C m (.For tg iter sts [] pos) (yH fi ft s1) m:=by
 have Z:PI X tg iter (fun o H R=>∃g',tI X g' m fi o H R):=fun pz s o H R I V=>(by obtain⟨g',q⟩:=V;exact hi g' pz s o H R I q);have BT:PG X tg (fun v o H Q=>∃g',tG X g' m m ft v o H Q):=fun pz s o H v u Q I F W=>(by obtain⟨g',q⟩:=W;exact (hg g').2 pz s o H v u Q I F q);refine PS.imp (qR hp hc Z BT hb hs) fun D o H A=>?_;obtain⟨a,O,K,r,w,G,s,q⟩:=A;refine ⟨_,r,G,s.toH,cC (rq q) fun l q J G0 H0 w0 Y=>?_⟩
 refine⟨fun n z h E=>∃p f c,SD X g i C a O K m p f c h E/\bX G0 c/\n<=l.length/\z=l.length-n/\nG X g i C a O K m c D (ph ft s1 (l.drop n) p f),⟨l.length,r,w,G0,s.after (s.toH.grow w0) s.mi,bX.refl G0,Xe _,rfl,q.gle w0.ge⟩,?_⟩
 rintro n z σ1 P ⟨r1,w1,T,N,j,hn,rfl,b⟩
 by_cases k:n<l.length
 .have hd:=Xa k;rw[hd]at b;unfold ph at b;refine .inr ⟨Y.go T P n j N.si.gok k,fun h E=>∃p f c,SD X g i C a O K m p f c h E/\bX G0 c/\nG X g i C a O K m c D _,fun h E S=>by obtain⟨p,f,c,sd',t,q'⟩:=S;exact ⟨_,by omega,p,f,c,sd',t,k,rfl,q'⟩,fun x E y=>?_⟩;obtain⟨c,f,F⟩:=Y.yld T P n x E l[n] j N.si.gok y (k_ k);have t:=j.trans f.ge;have L:=N.after (N.toH.grow f) N.mi;cases M:ft l[n] r1 with
 |none=>simp only[M]at b;exact b.elim
 |some r2=>simp only[M]at b;refine⟨_,r1,c,l[n],L.toH,F,r2,M,fun σ2 Cl=>?_⟩;refine⟨a,O,K,r2,w1,c,L.after Cl L.mi,?_⟩;cases eb:s1 r2 w1 with
  |nx p w2=>simp only[eb]at b;exact fun σ3 G3 H3 B U=>⟨p,w2,G3,U,t.trans B,b.gle (bX.trans f.ge B)⟩
  |rt d w2=>simp only[eb]at b;exact fun v G3 H3 B wg dk F=>b v G3 H3 (bX.trans f.ge B) wg dk F
  |stuck=>simp only[eb]at b;exact b
 .have e:n=l.length:=by omega
  subst e;rw[Yf]at b;exact .inl ⟨Y.stop T P j N.si.gok,b σ1 T P (bX.refl _) N⟩
def m3(fl:D->aL->Res (List D))(F:lw):dW:=fun r w=>qo (fl w.1 r) fun ds=>match F w ds with
|some (_,w')=>.nx r w'
|none=>.stuck
theorem FH{Z:Sem Bool}{n:D->aL->Res (List D)}(c:CalleeT X.prog X.w X.K X.mg X.base mt ps k C ms F)(hr:Room k X.A)(hb:Nb g m i)(hN:X.N[i]? = some x)(T:gz X.env.scope x)(ha:∀g' M,jI X g' i C M->jX X g' m (e::es) ms (n M))(hd:(x==("__debug__" : Str))=false:=by decide)(B:(x==("__classdict__" : Str))=false:=by decide)(P:(mt==("kept" : Str))=false:=by decide)(O:(mt==("past" : Str))=false:=by decide)(L:i_ (e::es) X.env=(false,eval e X.env)::i_ es X.env:=by rfl)(b:(backTo cpos (i_ es X.env)).any (·.1)=false:=by rfl)(ht:eval (.Call (.Attribute (.Name x p) mt apos) (e::es) [] cpos) X.env=(do
   let ov <-eval (.Name x p) X.env
   Zu apos.atName
   let(f,first) <-YF [ov] (ZB ov mt Z)
   ó cpos f first (backTo cpos (i_ (e::es) X.env)) (Y4 cpos (X7 [] X.env))):=by rfl)(hs:Xq (.Call (.Attribute (.Name x p) mt apos) (e::es) [] cpos) none pos.line X.env=pure false:=by rfl):kG X g i C m (.Expr (.Call (.Attribute (.Name x p) mt apos) (e::es) [] cpos) pos) (m3 n F) m:=by obtain⟨cl,f,fd,R,bd,fo⟩:=c.ex;have hA:PA X _ (fun U H Q=>∃g' M,jI X g' i C M/\CC X g' m ms _ U H Q):=fun pos J s U H Q I n=>(by obtain⟨g',M,k,z⟩:=n;exact ha g' M k pos J s U H Q I z);refine PS.imp (rC (Gu (gD hN T hd B) cl R fo hr bd .nil mR hA L b ht) hs) fun D U H e=>?_;obtain⟨a,o,Z,r,w,G,s,q⟩:=e;obtain⟨kv,e1,r1⟩:=s.ob.ob;refine⟨_,s.me,a,o,_,rfl,e1,yu P O,_,w.1,s.kept,r,G,s.toH,cC (rq q) fun t q y G1 H1 Y E=>?_⟩;have l:=s.after (s.toH.grow Y) s.mi;cases h:F w t with
|none=>rw[h]at q;exact q.elim
|some z=>obtain⟨d,u⟩:=z;rw[h]at q;refine⟨G1,a,o,Z,w,y,t,by simp,Y.ok,l.ob,E,d,u,h,fun v G' H' j dk rv=>q _ G' H' (bX.trans Y.ge j.ge) (l.call hb j dk)⟩
def qD(i:Nat)(kd:D)(f:dW):FS:=fun r=>match f (r.set i none) (kd,[])with
|.rt d _=>.rt d
|_=>.stuck
theorem OX{j:D}{f:dW}(Z:i<m.length)(I:m'.length=m.length)(c:CalleeI X.prog X.w X.K X.mg X.base xc ps k C j)(F:Room (k+1) X.A)(B:X.N.Nodup)(P:X.N[i]? = some y)(z:jY X.env.scope y)(h:ik X g i C (m.set i .bw) sts f m')(J:Gl X xc:=by rfl)(L:(xc==("__debug__" : Str))=false:=by decide)(hs:Xq (.Call (.Name xc pc) [] [] cpos) (some (.Name y pos')) pos.line X.env=pure false:=by rfl)(O:X.fn y=true\/X.env.scope.names.lookup y=some .local:=by first|exact .inl rfl|exact .inr rfl|assumption):il X g false [] m (.Assign [.Name y pos'] (.Call (.Name xc pc) [] [] cpos) pos::sts) (qD i j f) m':=by obtain⟨fa,fd,Q,u,bd,R⟩:=c.ex;refine⟨I,d6.imp (pT (uX B P z (Qr u R F J Q bd .nil mR L) hs O) h) fun D σ H k=>?_⟩;obtain⟨r,G,a,q⟩:=k;intro x l E M U;refine⟨G,H,x,l,rfl,E,M,U,rfl,a.gok,fun G1 H1 t o hp T=>⟨rfl,?_⟩⟩;have p:=a.toD o T (fun b hb=>by grind) Z;refine⟨x,l,t,_,_,G1,p,?_⟩;unfold qD at q;cases e:f _ _ with
|nx _ _=>rw[e]at q;exact q.elim
|rt d w2=>rw[e]at q;exact fun v G' H' le n Y s=>q v G' H' n s
|stuck=>rw[e]at q;exact q.elim
end
end DL
section
namespace L2
open PySem PySem.Spec PyProof.Rows
theorem du{B:YH}{x:Str}(h:(match B.names.lookup x with|some .local=>true|some .cell=>true|_=>false)=true):jY B x:=by
 revert h;unfold jY;split <;> intro h
 .exact .inl (by assumption)
 .exact .inr (by assumption)
 .cases h
theorem cN{B:YH}{x:Str}(h:(match B.names.lookup x with|some .local=>true|some .cell=>true|some .free=>true|_=>false)=true):gz B x:=by
 revert h;unfold gz;split <;> intro h
 .exact .inl (by assumption)
 .exact .inr (.inl (by assumption))
 .exact .inr (.inr (by assumption))
 .cases h
theorem bD{N P:List Str}{B:YH}(h:(decide (B.kind=.function) && ! B.isCoroutine && ! B.isGenerator&&decide N.Nodup&&decide (N.take P.length=P)&&(P.all fun x=>match B.names.lookup x with|some .local=>true|some .cell=>true|_=>false)&&B.names.all fun y=>decide (y.2≠.free))=true:=by decide+kernel):FnScope N P B:=by simp only[Q_,Q_i,Bool.not_eq_true',WZ]at h;obtain⟨⟨⟨⟨⟨⟨a,b⟩,c⟩,d⟩,e⟩,f⟩,k⟩:=h;exact⟨a,b,c,d,e,fun x L=>du (f x L),k⟩
end L2
namespace DL
open PySem PySem.Spec PyProof.Rows L2
section
variable{X:Cx}{g:GE}{m mb ms:List Md}{e a b:Expr}{es:List Expr}{f fa fb:FE}{x:Str}{p pos pos':Pos}{ro:Bool}{fl:aL->Res (List D)}{k:Nat}{ps:List Str}{F:List D->Res D}
theorem bE(h:SE X g m e f):SB X g m e f:=SE.toB h
theorem iB{i:Int}{j:Nat}:SB X g m (.Constant (.int i) j pos) fun _=>.ok (.int i):=bE uO
theorem xB(B:X.A.units+1<Yp)(M:SB X g m a fa)(L:SB X g m b fb)(hs:vF b:=by intro _ _;rfl):SB X g m (.Subscript a b pos) (f2 fa fb bV):=bE (d9 B M L hs)
theorem cF(i:Nat)(a:X.N.Nodup)(Z:SE X g m e f)(hi:X.N[i]? = some x:=by rfl)(U:jY X.env.scope x:=by exact du rfl)(hs:Xq e (some (.Name x pos')) pos.line X.env=pure false:=by rfl)(Y:X.fn x=true\/X.env.scope.names.lookup x=some .local:=by first|exact .inl rfl|exact .inr rfl|assumption):SS X g ro mb m (.Assign [.Name x pos'] e pos) (aR m i f) (m.set i .sh):=by
     have L:(m.set i .sh).length=m.length:=by simp
     refine⟨L,PS.imp (uX a hi U Z hs Y) fun D h H ⟨r,G,B,q⟩=>⟨r,G,B,?_⟩⟩;exact cC (iH B L q) fun d q v c b w M=>q _ c b w.ge ((B.grow w).set i M)
theorem c7(i:Nat)(M:X.N.Nodup)(hi:X.N[i]? = some x:=by rfl)(B:jY X.env.scope x:=by exact du rfl)(L:X.fn x=true\/X.env.scope.names.lookup x=some .local:=by first|exact .inl rfl|exact .inr rfl|assumption):SG X g m (.Name x pos) (bC i) (m.set i .sh):=E8 i M hi B L
theorem aQ(c:Callee X.prog X.w X.K X.mg X.base x ps [] k false ms F)(Y:jX X g m (e::es) ms fl)(M:Room k X.A:=by exact Room.mono ‹_› (by decide))(N:Gl X x:=by rfl)(B:(x==("__debug__" : Str))=false:=by decide)(U:i_ (e::es) X.env=(false,eval e X.env)::i_ es X.env:=by rfl)(L:(backTo pos (i_ es X.env)).any (·.1)=false:=by rfl):SE X g m (.Call (.Name x p) (e::es) [] pos) (bM fl [] F):=MH c M Y (by simp) N .nil .nil B U L
end
theorem bK{P:E_}{w:P_}{K:W.Frag}{Z:Str->Option a_}{U:Heap}{x:Str}{st:Stmt}{N Y:List Str}{k:Nat}{ro:Bool}{ms:List Md}{fs:FS}{m':List Md}(A:DefAt K Z x st)(S:FnScope N Y (aA st))(B:∀{f:Addr}{L:a_}{A:V_}{M:List Env}{s:e_}{H:Hp}{g:GE}{E:XK},Room k (A.deeper (YK x (aA st) s.heap.objs.size f L))->(A.deeper (YK x (aA st) s.heap.objs.size f L)).units+1<Yp ->il (d4 f8 P w K Z U N x (aA st) f L A M s H E).nox g ro [] (iz N.length ms) (aS st) fs m')(a:ms.length=Y.length:=by rfl)(h:∀(kV b d:a_)(j:Option Addr)(L i:a_)(us:List a_),us.length=Y.length->Zi (W.fnOf x x (bH st) (aS st) (aA st) .none kV b d j L i) ⟨us,[]⟩=pure (Y.zip us):=by intro _ _ _ _ _ _ us e;rcases us with _|⟨_,_|⟨_,_|⟨_,_|⟨_,_|⟨_,_|⟨_,_|⟨_,_⟩⟩⟩⟩⟩⟩⟩ <;> first|(exfalso;revert e;simp;done)|kernel_rfl):Callee P w K Z U x Y [] (k+1) ro ms fun ds=>dI ro (fs (cQ N.length ds)):=Mq A S a h fun f L A M s H g E c=>B c (lB c)
end DL
end
namespace DL
open PySem PySem.Spec PyProof.Rows L2
section
variable{X:Cx}{g:GE}{m mb:List Md}{elt iter tg:Expr}{ifs:List Expr}{fi:FI}{q:FQ}{fe:FE}{scope:YH}{pos pos' spos:Pos}{ro:Bool}{y:Str}
theorem xF{X:Cx}{s0:e_}{M:Hp}{N':List Str}{B:YH}{L:List (Str×Addr)}{C:Addr}{fp:List Addr}(h:N'.Nodup):(eY X s0 M N' B L C fp).N.Nodup:=h
theorem fD(N':List Str)(cap:List Nat)(Z:X.N.Nodup)(hi:gQ X g m tg iter fi)(a:∀{s0 M L C fp g'},SE (eY X s0 M N' scope L C fp) g' (bJ 1 cap m) elt fe)(hq:∀{s0 M L C fp g'},lu (eY X s0 M N' scope L C fp) g' (bJ 1 cap m) ifs q:=by exact uZ)(B:X.calm=true:=by rfl)(U:q9 X.env.scope X.N scope N' 1 cap=true:=by kernel_rfl)(Y:∀s0 M L C fp g',SG (eY X s0 M N' scope L C fp) g' (bJ 1 cap m) tg (bC 0) (bJ 1 cap m):=by exact fun _ _ _ _ _ _=>c7 0 (xF (by decide+kernel)))(hs:∀x,W9 iter X.env x=pure x:=by intro _;rfl):SO X g m (.ListComp elt [⟨tg,iter,ifs,0⟩] scope pos) (cZ 1 cap fi (bC 0) q fe):=yU Z B (wk rfl rfl U) hi Y (qV (by decide)) (by omega) (by omega) hs
theorem qp(N':List Str)(cap:List Nat)(Z:X.N.Nodup)(hi:gQ X g m tg iter fi)(c:∀{s0 M L C fp g'},SE (eY X s0 M N' scope L C fp) g' (bJ 2 cap m) elt fe)(hq:∀{s0 M L C fp g'},lu (eY X s0 M N' scope L C fp) g' (bJ 2 cap m) ifs q:=by exact uZ)(B:X.calm=true:=by rfl)(U:q9 X.env.scope X.N scope N' 2 cap=true:=by kernel_rfl)(Y:∀s0 M L C fp g',SG (eY X s0 M N' scope L C fp) g' (bJ 2 cap m) tg (gy (de (bC 0) (de (bC 1) gB))) (bJ 2 cap m):=by exact fun _ _ _ _ _ _=>j5 rfl (fu (c7 0 (xF (by decide+kernel))) (fu (c7 1 (xF (by decide+kernel))) j4)))(hs:∀x,W9 iter X.env x=pure x:=by intro _;rfl):SO X g m (.ListComp elt [⟨tg,iter,ifs,0⟩] scope pos) (cZ 2 cap fi (gy (de (bC 0) (de (bC 1) gB))) q fe):=
 yU Z B (wk rfl rfl U) hi Y (MA (IG (qV (by decide)) (IG (qV (by decide)) (fun a r b e=>by cases a with
   |nil=>cases e;exact⟨rfl,fun _ _=>rfl⟩
   |cons _ _=>cases e)))) (by omega) (by omega) hs
theorem sc1(i:Nat)(N':List Str)(cap:List Nat)(c:X.N.Nodup)(hi:gQ X g m tg iter fi)(d:∀{s0 Y U C fp g'},SE (eY X s0 Y N' scope U C fp) g' (bJ 1 cap m) elt fe)(hq:∀{s0 Y U C fp g'},lu (eY X s0 Y N' scope U C fp) g' (bJ 1 cap m) ifs q:=by exact uZ)(B:X.calm=true:=by rfl)(a:X.N[i]? = some y:=by rfl)(M:X.env.scope.names.lookup y=some .local:=by rfl)(Z:q9 X.env.scope X.N scope N' 1 cap=true:=by kernel_rfl)(b:∀s0 Y U C fp g',SG (eY X s0 Y N' scope U C fp) g' (bJ 1 cap m) tg (bC 0) (bJ 1 cap m):=by exact fun _ _ _ _ _ _=>c7 0 (xF (by decide+kernel)))(L:Xq (.ListComp elt [⟨tg,iter,ifs,0⟩] scope pos) (some (.Name y pos')) spos.line X.env=pure true:=by rfl)(hs:∀x,W9 iter X.env x=pure x:=by intro _;rfl):SS X g ro mb m (.Assign [.Name y pos'] (.ListComp elt [⟨tg,iter,ifs,0⟩] scope pos) spos) (aR m i (cZ 1 cap fi (bC 0) q fe)) (m.set i .ow):=RD i c B a M (wk rfl rfl Z) hi b (qV (by decide)) (by omega) (by omega) L hs
end
end DL
section
namespace Rg
theorem nr{L:Type}[DecidableEq L]:∀{l m:List L},l.Nodup->(∀x∈l,x∈m)->l.length<=m.length
|[],_,_,_=>Xe _
|a::l,m,M,U=>by
  have B:=XH.mp M;have Y:=nr (m:=m.erase a) B.2 fun x N=>by grind
  grind
theorem wF{B:Type}(p:B->Bool)(l:List B):(l.filter p).length+(l.filter fun x=>! p x).length=l.length:=by induction l with
|nil=>rfl
|cons a l L=>grind
theorem r6{B:Type}{p:B->Bool}{l:List B}(h:l.Nodup):(l.filter p).Nodup:=List.Pairwise.filter p h
structure S where
 line:List Nat
 things:List Nat
section
variable(W:Nat->List Nat)(O:Nat->Option Nat)
def best(row things:List Nat):Nat:=(row.find? fun x=>decide (x∈things)).getD 0
def eh(s:S)(h:Nat):Nat:=best (W h) s.things
def pt(s:S)(x:Nat):Nat:=(s.line.find? fun h=>decide (O h=some x)).getD (s.line.headD 0)
def nxt(s:S)(h:Nat):Nat:=pt O s (eh W s h)
def minus(s:S)(C:List Nat):S:=⟨s.line.filter fun h=>decide (h∉C),s.things.filter fun x=>decide (x∉C.map (eh W s))⟩
def it{α:Type}(f:α->α):Nat->α->α
|0,x=>x
|n+1,x=>it f n (f x)
theorem kS{B:Type}(f:B->B):∀(a b:Nat)(x:B),it f (a+b) x=it f b (it f a x)
|0,b,x=>by rw[Zx];rfl
|a+1,b,x=>by rw[Nat.add_right_comm];exact kS f a b _
theorem pI{B:Type}(f:B->B)(n:Nat)(x:B):it f (n+1) x=f (it f n x):=kS f n 1 x
theorem yF{B:Type}(f:B->B){p:Nat}{x:B}(h:it f p x=x):∀k,it f (p*k) x=x
|0=>rfl
|k+1=>by rw[Nat.mul_succ,kS,yF f h k,h]
structure Ok(s:S):Prop where
 nl:s.line.Nodup
 nt:s.things.Nodup
 le:s.line.length<=s.things.length
 row:∀h∈s.line,∀x∈s.things,x∈W h
 inj:∀h k x,O h=some x->O k=some x->h=k
 own:∀h∈s.line,∀x,O h=some x->x∈s.things
structure Cyc(s:S)(C:List Nat):Prop where
 sub:∀h∈C,h∈s.line
 cl:∀h∈C,nxt W O s h∈C
 per:∀h∈C,∃k,it (nxt W O s) (k+1) h=h
variable{W O}
theorem zf{L B:List Nat}(h:∃x∈L,x∈B):best L B∈B:=by unfold best;cases e:L.find? fun x=>decide (x∈B)with
|none=>grind
|some x=>grind
theorem Ad{L B t':List Nat}(hs:∀x∈t',x∈B)(U:best L B∈t')(N:best L B∈L):best L t'=best L B:=by unfold best at *;cases e:L.find? fun x=>decide (x∈B)with
|none=>grind
|some x=>
  obtain⟨M,a,Z,rfl,Y⟩:=List.find?_eq_some_iff_append.mp e
  grind
theorem Pq{L B:List Nat}(h:∃x∈L,x∈B):best L B∈L:=by unfold best;cases e:L.find? fun x=>decide (x∈B)with
|none=>grind
|some x=>grind
variable{s:S}
theorem Ok.some_thing(k:Ok W O s){h:Nat}(L:h∈s.line):∃x∈W h,x∈s.things:=by have N:=Yn L;have M:=B_ N k.le;obtain⟨x,B⟩:=List.exists_mem_of_length_pos M;exact⟨x,k.row h L x B,B⟩
theorem Ok.tgt_mem(k:Ok W O s){h:Nat}(B:h∈s.line):eh W s h∈s.things:=zf (k.some_thing B)
theorem Ok.tgt_row(k:Ok W O s){h:Nat}(B:h∈s.line):eh W s h∈W h:=Pq (k.some_thing B)
theorem Nh{x:Nat}(h:s.line≠[]):pt O s x∈s.line:=by unfold pt;cases e:s.line.find? fun h=>decide (O h=some x)with
|none=>cases q:s.line with
 |nil=>exact Q_f q h
 |cons a l=>simp[List.headD]
|some y=>grind
theorem uY(k:Ok W O s){h x:Nat}(L:h∈s.line)(B:O h=some x):pt O s x=h:=by unfold pt;cases e:s.line.find? fun h=>decide (O h=some x)with
|none=>grind
|some y=>have:=Zp e;simp  at this;exact k.inj y h x this B
theorem yT{h:Nat}(B:s.line≠[]):nxt W O s h∈s.line:=Nh B
theorem Cyc.it_mem{C:List Nat}(c:Cyc W O s C){h:Nat}(B:h∈C):∀n,it (nxt W O s) n h∈C:=by
 intro n
 induction n generalizing h with
|zero=>exact B
|succ n L=>exact L (c.cl h B)
theorem N0{B:Type}{f:B->B}{x y:B}{a b:Nat}(U:it f (a+1) x=x)(N:it f (b+1) y=y)(e:f x=f y):x=y:=by
 have M:=yF f U (b+1);have L:=yF f N (a+1);rw[Ý]at L;have Y:(a+1)*(b+1)=1+(a*b+a+b):=by rw[ā,Nat.mul_add];omega
 rw[Y,kS]at M L;have Z:it f 1 x=it f 1 y:=e;rw[Z]at M;rw[<-M,L]
theorem Cyc.out{C E:List Nat}(c:Cyc W O s C)(e:Cyc W O s E){h:Nat}(M:h∈C)(L:h∉E):nxt W O s h∉E:=by intro z;obtain⟨k,B⟩:=c.per h M;exact L (by rw[<-B];exact e.it_mem z k)
theorem O1{C E:List Nat}(c:Cyc W O s C)(e:Cyc W O s E){h k:Nat}(L:h∈C)(B:k∈E)(q:eh W s h=eh W s k):h=k:=by obtain⟨a,N⟩:=c.per h L;obtain⟨b,M⟩:=e.per k B;exact N0 N M (by unfold nxt;rw[q])
theorem rH(k:Ok W O s){C E:List Nat}(c:Cyc W O s C)(e:Cyc W O s E){h:Nat}(L:h∈E)(Y:h∉C):eh W (minus W s C) h=eh W s h:=by
 have B:=e.sub h L;refine Ad (fun x M=>(n_.mp M).1) ?_ (k.tgt_row B);refine n_.mpr ⟨k.tgt_mem B,?_⟩;simp only[Q_i];intro z;obtain⟨Z,U,N⟩:=m_.mp z;have:=O1 c e U L N
 grind
theorem w6{p:Nat->Bool}:∀{l:List Nat}{a:Nat},l.headD 0=a->l≠[]->p a=true->(l.filter p).headD 0=a
|[],_,_,h,_=>Q_f rfl h
|b::l,a,e,_,B=>by grind
theorem Hl(k:Ok W O s){C E:List Nat}(c:Cyc W O s C)(e:Cyc W O s E){h:Nat}(M:h∈E)(Y:h∉C):nxt W O (minus W s C) h=nxt W O s h:=by unfold nxt;rw[rH k c e M Y];have a:=e.sub h M;have B:=Xp a;have U:pt O s _∉C:=e.out c M Y;unfold pt at *;show((s.line.filter fun h=>decide _).find? _).getD _=_;cases q:s.line.find? fun k=>decide (O k=some _)with
|none=>rw[q]at U;have:(s.line.filter fun h=>decide (h∉C)).find? _=none:=Yo.mpr fun y L=>Yo.mp q y (n_.mp L).1;rw[this];exact w6 rfl B (by simpa using U)
|some y=>have L:=Zp q;simp  at L;cases Z:(s.line.filter fun h=>decide (h∉C)).find? _ with
 |none=>grind
 |some z=>have N:=Zp Z;simp  at N;exact k.inj z y _ N L
theorem qZ(k:Ok W O s){C:List Nat}(c:Cyc W O s C):Ok W O (minus W s C) where
 nl:=r6 k.nl
 nt:=r6 k.nt
 le:=by
  have L:=wF (fun h=>decide (h∉C)) s.line;have M:=wF (fun x=>decide (x∉C.map (eh W s))) s.things;have U:(s.things.filter fun x=>! decide (x∉C.map (eh W s))).length<=((s.line.filter fun h=>! decide (h∉C)).map (eh W s)).length:=by refine nr (r6 k.nt) fun x B=>?_;obtain⟨_,B⟩:=n_.mp B;simp only[decide_not,Bool.not_not,Q_i]at B;obtain⟨h,L,M⟩:=m_.mp B;exact m_.mpr ⟨h,n_.mpr ⟨c.sub h L,by simpa using L⟩,M⟩
  rw[h_]at U;have:=k.le;show(s.line.filter _).length<=(s.things.filter _).length;omega
 row:=fun h N x B=>k.row h (n_.mp N).1 x (n_.mp B).1
 inj:=k.inj
 own:=fun h N x B=>by obtain⟨L,M⟩:=n_.mp N;simp  at M;refine n_.mpr ⟨k.own h L x B,?_⟩;simp only[Q_i];intro z;obtain⟨b,Z,Y⟩:=m_.mp z;have:=c.cl b Z;unfold nxt at this;rw[Y,uY k L B]at this;exact M this
def less(E C:List Nat):List Nat:=E.filter fun h=>decide (h∉C)
theorem kg{E C:List Nat}{h:Nat}:h∈less E C↔h∈E/\h∉C:=by simp[less,List.mem_filter]
theorem HV(k:Ok W O s){C E:List Nat}(c:Cyc W O s C)(e:Cyc W O s E):Cyc W O (minus W s C) (less E C):=by
 have N:∀n h,h∈less E C->it (nxt W O (minus W s C)) n h=it (nxt W O s) n h:=by
  intro n
  induction n with
 |zero=>intro h _;rfl
 |succ n U=>intro h M;obtain⟨B,L⟩:=kg.mp M;show it _ n _=it _ n _;rw[Hl k c e B L];exact U _ (kg.mpr ⟨e.cl h B,e.out c B L⟩)
 refine⟨fun h M=>?_,fun h M=>?_,fun h M=>?_⟩
 .obtain⟨B,L⟩:=kg.mp M;exact n_.mpr ⟨e.sub h B,by simpa using L⟩
 .obtain⟨B,L⟩:=kg.mp M;rw[Hl k c e B L];exact kg.mpr ⟨e.cl h B,e.out c B L⟩
 .obtain⟨B,L⟩:=kg.mp M;obtain⟨n,Y⟩:=e.per h B
  grind
theorem pX{p q:Nat->Bool}{l:List Nat}(h:∀x∈l,p x=q x):l.filter p=l.filter q:=by induction l with
|nil=>rfl
|cons a l B=>grind
theorem J5(k:Ok W O s){C E:List Nat}(c:Cyc W O s C)(e:Cyc W O s E):minus W (minus W s C) (less E C)=minus W s (C++E):=by
 have U:(minus W (minus W s C) (less E C)).line=(minus W s (C++E)).line:=by show((s.line.filter _).filter _)=s.line.filter _;rw[ZJ];refine pX fun x _=>?_;by_cases M:x∈C <;> by_cases L:x∈E <;> simp[kg,M,L]
 have N:(minus W (minus W s C) (less E C)).things=(minus W s (C++E)).things:=by
  show((s.things.filter _).filter _)=s.things.filter _;rw[ZJ];refine pX fun x _=>?_;have B:x∈(less E C).map (eh W (minus W s C))↔∃h,h∈E/\h∉C/\eh W s h=x:=by
   rw[m_];constructor
   .rintro⟨h,hh,q⟩
    obtain⟨a,b⟩:=kg.mp hh;exact⟨h,a,b,by rw[<-q,rH k c e a b]⟩
   .rintro⟨h,a,b,q⟩
    exact⟨h,kg.mpr ⟨a,b⟩,by rw[rH k c e a b];exact q⟩
  grind
 cases Z:minus W _ _;cases Y:minus W s _
 grind
theorem R5(k:Ok W O s){C E:List Nat}(c:Cyc W O s C)(e:Cyc W O s E):minus W (minus W s C) (less E C)=minus W (minus W s E) (less C E):=by
 rw[J5 k c e,J5 k e c];unfold minus
 grind
inductive TTC(W:Nat->List Nat)(O:Nat->Option Nat)(a:Nat->Nat):S->Prop where
 |nil {s:S}:s.line=[]->TTC W O a s
 |step {s:S} (C:List Nat):Cyc W O s C->(∀h∈C,a h=eh W s h)->TTC W O a (minus W s C)->TTC W O a s
theorem zg{a:Nat->Nat}(t:TTC W O a s):∀(k:Ok W O s){E:List Nat},Cyc W O s E->TTC W O a (minus W s E)/\∀h∈E,a h=eh W s h:=by induction t with
|nil Y=>
  intro k E e;refine⟨.nil (by unfold minus;rw[Y];rfl),fun h B=>?_⟩;have:=e.sub h B
  grind
|step C c L t M=>
  intro k E e;obtain⟨U,N⟩:=M (qZ k c) (HV k c e);refine⟨.step _ (HV k e c) (fun h B=>?_) (by rw[<-R5 k c e];exact U),fun h B=>?_⟩
  .obtain⟨z1,z2⟩:=kg.mp B;rw[rH k e c z1 z2];exact L h z1
  .by_cases hc:h∈C
   .exact L h hc
   .rw[N h (kg.mpr ⟨B,hc⟩),rH k c e B hc]
end
end Rg
end
section
namespace Rg
section
variable{W:Nat->List Nat}{O:Nat->Option Nat}{s:S}{a:Nat->Nat}
theorem Cp(t:TTC W O a s)(k:Ok W O s):∀h∈s.line,a h∈s.things:=by induction t with
|nil U=>grind
|step C c N t M=>
  intro h B;by_cases L:h∈C
  .rw[N h L];exact k.tgt_mem B
  .exact(n_.mp (M (qZ k c) h (n_.mpr ⟨B,by simpa using L⟩))).1
theorem Ey{f:Nat->Nat}{l:List Nat}(L:∀h∈l,f h∈l){x:Nat}(Y:x∈l):∃i j,i<j/\j<=l.length/\it f i x=it f j x:=by
 have N:∀i,it f i x∈l:=by
  intro i
  induction i with
 |zero=>exact Y
 |succ i U=>rw[pI];exact L _ U
 by_cases M:((g_ (l.length+1)).map fun i=>it f i x).Nodup
 .have:=nr M (m:=l) fun y Z=>by grind
  grind
 .apply X2;intro h;apply M;rw[List.nodup_iff_pairwise_ne]at *;rw[List.pairwise_map];refine ő (fun b a B e=>?_) List.pairwise_lt_range;exact h ⟨_,_,B,by grind,e⟩
theorem least{P:Nat->Prop}:(∃n,P n)->∃n,P n/\∀k,k<n->¬ P k:=by
 rintro⟨n,L⟩
 induction n using Nat.strongRecOn with
|_ n B=>grind
theorem Fw{B:Type}(f:B->B)(a b:Nat)(x:B):it f a (it f b x)=it f b (it f a x):=by rw[<-kS,<-kS,Nat.add_comm]
theorem RZ{f:Nat->Nat}{l:List Nat}(N:∀h∈l,f h∈l)(L:l≠[]):∃z p,z∈l/\0<p/\p<=l.length/\it f p z=z/\∀i,0<i->i<p->z<it f i z:=by
 have U:∀x∈l,∀i,it f i x∈l:=by
  intro x Z i
  induction i with
 |zero=>exact Z
 |succ i m=>rw[pI];exact N _ m
 obtain⟨x,Z⟩:=X3 l L;obtain⟨i,j,c,_,e⟩:=Ey N Z;obtain⟨z,⟨a,k,n⟩,B⟩:=least (P:=fun z=>z∈l/\∃k,it f (k+1) z=z) ⟨it f i x,U x Z i,j-i-1,by rw[<-kS,show i+(j-i-1+1)=j by omega];exact e.symm⟩;obtain⟨p,b,M⟩:=least (P:=fun p=>it f (p+1) z=z) ⟨k,n⟩;have o:∀i,z<=it f i z:=fun i=>by have:=B (it f i z);apply X2;intro h;exact this (by omega) ⟨U z a i,p,by rw[Fw,b]⟩
 have d:∀i,0<i->i<p+1->it f i z≠z:=fun i Y g q=>M (i-1) (by omega) (by rw[show i-1+1=i by omega];exact q);refine⟨z,p+1,a,Nat.succ_pos _,?_,b,fun i Y g=>by have:=o i;have:=d i Y g;omega⟩;obtain⟨i,j,c,r,e⟩:=Ey N a;apply X2;intro h;have:it f (p+1-j+i) z=z:=by
  have Y:it f (p+1-j) (it f j z)=z:=by rw[<-kS,show j+(p+1-j)=p+1 by omega];exact b
  rw[<-e,<-kS]at Y;rw[Nat.add_comm];exact Y
 exact d _ (by omega) (by omega) this
def jD(f:Nat->Nat)(n first:Nat):Nat->List Nat->Nat->Option (List Nat)
|0,_,_=>none
|k+1,ring,hand=>if first<hand/\ring.length<n then jD f n first k (ring++[hand]) (f hand)else if hand=first then some ring else none
def nK(f:Nat->Nat)(n first:Nat):Option (List Nat):=jD f n first (n+1) [first] (f first)
def jT(f:Nat->Nat)(x n:Nat):List Nat:=(g_ n).map fun i=>it f i x
theorem Hx(f:Nat->Nat)(x n:Nat):jT f x (n+1)=jT f x n++[it f n x]:=by unfold jT;rw[YT,WX];rfl
theorem Go(f:Nat->Nat)(x n:Nat):(jT f x n).length=n:=by simp[jT]
theorem Sk{f:Nat->Nat}{n B:Nat}:∀{k i:Nat}{r:List Nat},jD f n B k (jT f B i) (it f i B)=some r->∃j,i<=j/\r=jT f B j/\it f j B=B:=by
 intro k
 induction k with
|zero=>intro i r h;cases h
|succ k L=>
  intro i r h;unfold jD at h;split at h
  .rw[<-Hx,<-pI f]at h
   grind
  grind
theorem J6{f:Nat->Nat}{n B:Nat}{r:List Nat}(h:nK f n B=some r):∃j,0<j/\r=jT f B j/\it f j B=B:=by
 have L:jD f n B _ (jT f B 1) _=some r:=h
 obtain⟨j,N,M⟩:=Sk L
 grind
theorem SK{f:Nat->Nat}{n z p:Nat}(a:p<=n)(B:it f p z=z)(U:∀i,0<i->i<p->z<it f i z):∀{k i:Nat},0<i->i<=p->p<k+i->jD f n z k (jT f z i) (it f i z)=some (jT f z p):=by
 intro k
 induction k with
|zero=>intro i L Z Y;omega
|succ k M=>
  intro i L Z Y;unfold jD;by_cases N:i=p
  .subst N;rw[Q_e (by rw[B];omega),Q_d B]
  .rw[Q_d ⟨U i L (by omega),by rw[Go];omega⟩,<-Hx,<-pI f];exact M (by omega) (by omega) (by omega)
def jc(W:Nat->List Nat)(O:Nat->Option Nat)(s:S):List (List Nat):=s.line.filterMap fun h=>nK (nxt W O s) s.line.length h
theorem Gf{C:List Nat}(c:∀h,h∈C->∃r∈jc W O s,h∈r)(B:∀r∈jc W O s,∀h∈r,h∈C):Cyc W O s C:=by
 have M:∀r∈jc W O s,∃x j,x∈s.line/\0<j/\r=jT (nxt W O s) x j/\it (nxt W O s) j x=x:=fun r L=>by obtain⟨x,N,k⟩:=Xh.mp L;obtain⟨j,g,f,e⟩:=J6 k;exact⟨x,j,N,g,f,e⟩
 have d:∀x∈s.line,∀i,it (nxt W O s) i x∈s.line:=by
  intro x U i
  induction i with
 |zero=>exact U
 |succ i l=>rw[pI];exact yT (Xp U)
 refine⟨fun h Y=>?_,fun h Y=>?_,fun h Y=>?_⟩
 .obtain⟨r,L,N⟩:=c h Y;obtain⟨x,j,U,a,rfl,Z⟩:=M r L;obtain⟨i,_,rfl⟩:=m_.mp N;exact d x U i
 .obtain⟨r,L,N⟩:=c h Y;obtain⟨x,j,U,a,rfl,Z⟩:=M r L;obtain⟨i,b,rfl⟩:=m_.mp N;have b:=p_.mp b;refine B _ L _ ?_;rw[<-pI (nxt W O s)];by_cases q:i+1=j
  .rw[q,Z];exact m_.mpr ⟨0,p_.mpr a,rfl⟩
  .exact m_.mpr ⟨i+1,p_.mpr (by omega),rfl⟩
 .obtain⟨r,L,N⟩:=c h Y;obtain⟨x,j,U,a,rfl,Z⟩:=M r L;obtain⟨i,b,rfl⟩:=m_.mp N;exact⟨j-1,by rw[show j-1+1=j by omega,Fw,Z]⟩
theorem R8(B:s.line≠[]):jc W O s≠[]:=by obtain⟨z,p,Y,U,N,M,L⟩:=RZ (fun h Z=>yT B) B;exact Xp (Xh.mpr ⟨z,Y,(by exact SK N M L (by omega) U (by omega))⟩)
def gone(W:Nat->List Nat)(O:Nat->Option Nat)(s:S):List Nat:=(jc W O s).flatten
theorem HN:Cyc W O s (gone W O s):=Gf (fun h B=>XS.mp B) (fun r L h B=>XS.mpr ⟨r,L,B⟩)
theorem Ge{f:Nat->Nat}{n x:Nat}{r:List Nat}(h:nK f n x=some r):r≠[]:=by
 obtain⟨j,B,rfl,_⟩:=J6 h;have:=Go f x j
 grind
theorem FY(B:s.line≠[]):gone W O s≠[]:=by have h:=R8 (W:=W) (O:=O) B;cases q:jc W O s with
|nil=>exact Q_f q h
|cons r t=>
  have L:r∈jc W O s:=by grind
  obtain⟨x,_,M⟩:=Xh.mp L;unfold gone;rw[q,List.flatten_cons];intro z;exact Ge M (List.append_eq_nil_iff.mp z).1
theorem QN(L:s.line≠[]):(minus W s (gone W O s)).line.length<s.line.length:=by have h:=FY (W:=W) (O:=O) L;obtain⟨x,M⟩:=X3 _ h;have B:=(HN).sub x M;have:=wF (fun h=>decide (h∉gone W O s)) s.line;have N:0<(s.line.filter fun h=>! decide (h∉gone W O s)).length:=Yn (n_.mpr ⟨B,by simpa using M⟩);show(s.line.filter _).length<_;omega
def deal(W:Nat->List Nat)(O:Nat->Option Nat):Nat->S->Nat->Nat
|0,_,_=>0
|n+1,s,h=>if h∈gone W O s then eh W s h else deal W O n (minus W s (gone W O s)) h
theorem Rf{b:Nat->Nat}(t:TTC W O a s):(∀h∈s.line,b h=a h)->TTC W O b s:=by induction t with
|nil N=>exact fun _=>.nil N
|@step s C c M t L=>exact fun e=>.step C c (fun h B=>by rw[e h (c.sub h B)];exact M h B) (L fun h B=>e h (n_.mp B).1)
theorem Cq:∀(n:Nat)(s:S),s.line.length<n->TTC W O (deal W O n s) s:=by
 intro n
 induction n with
|zero=>omega
|succ n M=>
  intro s h;by_cases L:s.line=[]
  .exact .nil L
  .have hlt:=QN (W:=W) (O:=O) L;refine .step _ HN (fun h B=>?_) (Rf (M _ (by omega)) fun h B=>?_)
   .show(if h∈gone W O s then _ else _)=_;rw[Q_d B]
   .have:=(n_.mp B).2;simp  at this;show(if h∈gone W O s then _ else _)=_;rw[Q_e this]
end
end Rg
end
section
namespace Rg
section
variable{W W':Nat->List Nat}{O:Nat->Option Nat}{s:S}{a b:Nat->Nat}
theorem Hf{l:List Nat}{h:Nat}(L:l.Nodup):l.erase h=l.filter fun x=>decide (x≠h):=by induction l with
|nil=>rfl
|cons b l B=>
  by_cases q:b=h
  .subst q;rw[List.erase_cons_head,Yi,Q_e (by simp)];symm;rw[List.filter_eq_self]
   grind
  grind
end
end Rg
end
section
namespace Rg
section
variable(W:Nat->List Nat)(d:Nat->Nat)
def served(hands things:List Nat):List Nat:=hands.filter fun h=>decide (best (W h) things=d h)
def oR:Nat->List Nat->List Nat->List Nat->Option (List Nat)
|0,_,_,_=>none
|k+1,hands,things,order=>if hands=[]then some order else match served W d hands things with
 |[]=>none
 |s::_=>oR k (hands.erase s) (things.erase (d s)) (order++[s])
def nI:List Nat->List Nat->Prop
|[],_=>True
|h::l,T=>best (W h) T=d h/\nI l (T.erase (d h))
def jn:List Nat->List Nat->Nat->Nat
|[],_=>fun _=>0
|h::l,T=>fun x=>if x=h then best (W h) T else jn l (T.erase (best (W h) T)) x
variable{W d}
theorem IZ{d':Nat->Nat}:∀{o T:List Nat},(∀x∈o,d x=d' x)->nI W d o T->nI W d' o T
|[],_,_,_=>trivial
|h::l,T,e,s=>by have B:=e h j_;exact⟨by rw[<-B];exact s.1,by rw[<-B];exact IZ (fun x L=>e x (l_ _ L)) s.2⟩
theorem xM:∀(o T:List Nat),o.Nodup->nI W (jn W o T) o T
|[],_,_=>trivial
|h::l,T,L=>by
  have B:=XH.mp L;have e:jn W (h::l) T h=best (W h) T:=by simp[jn]
  refine⟨e.symm,?_⟩;refine IZ (fun x M=>?_) (xM l _ B.2);have:x≠h:=by grind
  simp[jn,this]
theorem Eg:∀{k:Nat}{B T L o:List Nat},oR W d k B T L=some o->∃M,o=L++M/\M.Perm B/\nI W d M T
|0,_,_,_,_,h=>(nomatch h)
|k+1,B,T,L,o,h=>by
  unfold oR at h;by_cases e:B=[]
  .rw[Q_d e]at h;cases h;exact⟨[],by simp,by rw[e],trivial⟩
  .rw[Q_e e]at h;cases q:served W d B T with
  |nil=>rw[q]at h;cases h
  |cons s t=>
    rw[q]at h;have N:s∈served W d B T:=by rw[q];exact j_
    obtain⟨Y,U⟩:=n_.mp N;obtain⟨M,b,a,Z⟩:=Eg h;exact⟨s::M,by rw[b];simp,(List.Perm.cons s a).trans (List.perm_cons_erase Y).symm,by simpa using U,Z⟩
end
end Rg
end
section
namespace Rg
end Rg
end
section
namespace Rg
section
variable{W:Nat->List Nat}{O:Nat->Option Nat}{s:S}{a:Nat->Nat}
structure Chain(W:Nat->List Nat)(O:Nat->Option Nat)(s:S)(A:List Nat):Prop where
 nd:A.Nodup
 sub:∀h∈A,h∈s.line
 hd:∀h l,A=h::l->s.line.headD 0=h
 nx:∀(i:Nat) h l,A[i]? = some h->A[i+1]? = some l->O l=some (eh W s h)
theorem MJ:Chain W O s []:=⟨ģ,fun _ h=>(nomatch h),fun _ _ h=>(nomatch h),fun i h l e=>by simp at e⟩
theorem MK(B:s.line≠[]):Chain W O s [s.line.headD 0]:=by refine⟨by simp,fun h L=>?_,fun h l e=>by cases e;rfl,fun i h l N M=>by simp at M⟩;have:=w_.mp L;cases e:s.line with
|nil=>exact Q_f e B
|cons b t=>grind
variable{A:List Nat}
theorem Chain.at(c:Chain W O s A){i h:Nat}(e:A[i]? = some h):h∈A:=Xj e
theorem Chain.nxt(c:Chain W O s A)(k:Ok W O s){i h l:Nat}(L:A[i]? = some h)(B:A[i+1]? = some l):Rg.nxt W O s h=l:=uY k (c.sub l (c.at B)) (c.nx i h l L B)
theorem Chain.walk(c:Chain W O s A)(k:Ok W O s):∀(t:Nat){j h l:Nat},A[j]? = some h->A[j+t]? = some l->it (Rg.nxt W O s) t h=l
|0,j,h,l,L,B=>by rw[Nat.add_zero,L]at B;exact WU B
|t+1,j,h,l,L,B=>by have N:j+(t+1)<A.length:=(c_.mp B).1;have M:A[j+1]? = some A[j+1]:=k_ (by omega);show it _ t (Rg.nxt W O s h)=l;rw[c.nxt k L M];exact c.walk k t M (by rw[show j+1+t=j+(t+1)by omega];exact B)
theorem rO{i h:Nat}(L:h∈A.drop i):∃j,i<=j/\A[j]? = some h:=by obtain⟨j,B⟩:=Xl L;rw[XD]at B;exact⟨i+j,by omega,B⟩
theorem vV{i j h:Nat}(B:i<=j)(e:A[j]? = some h):h∈A.drop i:=by refine Xj (i:=j-i) ?_;rw[XD,show i+(j-i)=j by omega];exact e
theorem Chain.cyc(c:Chain W O s A)(k:Ok W O s){i z f:Nat}(N:A[A.length-1]? = some z)(M:A[i]? = some f)(e:Rg.nxt W O s z=f):Cyc W O s (A.drop i):=by
 have B:i<A.length:=(c_.mp M).1;refine⟨fun h L=>c.sub h (Yz L),fun h L=>?_,fun h L=>?_⟩
 .obtain⟨j,h1,h2⟩:=rO L;have Z:j<A.length:=(c_.mp h2).1;by_cases q:j+1<A.length
  .have e3:A[j+1]? = some A[j+1]:=k_ q;rw[c.nxt k h2 e3];exact vV (by omega) e3
  .have:j=A.length-1:=by omega
   subst this;rw[N]at h2;cases h2;rw[e];exact vV (o_ _) M
 .obtain⟨j,h1,h2⟩:=rO L;have Z:j<A.length:=(c_.mp h2).1;refine⟨A.length-i-1,?_⟩;have Y:=c.walk k (A.length-1-j) h2 (l:=z) (by rw[show j+(A.length-1-j)=A.length-1 by omega];exact N);have U:=c.walk k (j-i) M (l:=h) (by rw[show i+(j-i)=j by omega];exact h2);rw[show A.length-i-1+1=(A.length-1-j)+((j-i)+1)by omega,kS,Y];show it _ (j-i) (Rg.nxt W O s z)=h;rw[e];exact U
theorem Chain.apart(c:Chain W O s A){i j h l:Nat}(a:A[i]? = some h)(Z:A[j]? = some l)(e:h=l):i=j:=by
 subst e;have Y:=(c_.mp a)
 have U:=(c_.mp Z)
 obtain⟨N,L⟩:=Y;obtain⟨M,B⟩:=U;have:=List.pairwise_iff_getElem.mp c.nd;rcases Nat.lt_trichotomy i j with z|z|z
 .exact Q_f (L.trans B.symm) (this i j N M z)
 .exact z
 .exact Q_f (B.trans L.symm) (this j i M N z)
theorem Chain.take(c:Chain W O s A){M:S}(i:Nat)(Y:∀(j:Nat) h,j<i->A[j]? = some h->h∈M.line)(Z:∀h l,A=h::l->0<i->M.line.headD 0=h)(N:∀(j:Nat) h l,j+1<i->A[j]? = some h->A[j+1]? = some l->eh W M h=eh W s h):Chain W O M (A.take i):=by
 refine⟨c.nd.sublist (ZP _ _),fun h U=>?_,fun h l e=>?_,fun j h l L B=>?_⟩
 .obtain⟨j,hj⟩:=Xl U;rw[XE]at hj;split at hj
  .rename_i q;exact Y j h q hj
  .cases hj
 .cases i with
 |zero=>cases e
 |succ i=>cases A with
  |nil=>cases e
  |cons b t=>cases e;exact Z _ _ rfl (by omega)
 .rw[XE]at L B;split at L
  .split at B
   .rename_i q1 q2;rw[N j h l q2 L B];exact c.nx j h l L B
   .cases B
  .cases L
theorem LK(t:TTC W O a s)(k:Ok W O s)(c:Chain W O s A){i z f:Nat}(m:A[A.length-1]? = some z)(U:A[i]? = some f)(p:O f=some (eh W s z)):Ok W O (minus W s (A.drop i))/\TTC W O a (minus W s (A.drop i))/\Chain W O (minus W s (A.drop i)) (A.take i)/\(∀h∈A.drop i,a h=eh W s h)/\Cyc W O s (A.drop i):=by
 have M:=c.cyc k m U (uY k (c.sub f (c.at U)) p);obtain⟨g,d⟩:=zg t k M;have B:∀(j:Nat) h,j<i->A[j]? = some h->h∉A.drop i:=fun j h L e q=>by obtain⟨v,w,r⟩:=rO q;have:=c.apart e r rfl;omega
 refine⟨qZ k M,g,c.take i (fun j h L e=>n_.mpr ⟨c.sub h (c.at e),by simpa using B j h L e⟩) (fun h l e o=>?_) (fun j h l L Y N=>?_),d,M⟩
 .have e0:A[0]? = some h:=by rw[e];rfl
  exact w6 (c.hd h l e) (Xp (c.sub h (c.at e0))) (by simpa using B 0 h o e0)
 .have hh:=c.sub h (c.at Y);refine Ad (fun x n=>(n_.mp n).1) (n_.mpr ⟨k.tgt_mem hh,?_⟩) (k.tgt_row hh);simp only[Q_i];intro q;obtain⟨u,b,Z⟩:=m_.mp q;have:Rg.nxt W O s u=l:=uY k (c.sub l (c.at N)) (by rw[c.nx j h l Y N];exact Q_g some Z.symm);exact B (j+1) l L N (this▸M.cl u b)
theorem UM(t:TTC W O a s)(k:Ok W O s)(c:Chain W O s A){z:Nat}(f:A[A.length-1]? = some z)(y:∀h∈s.line,O h≠some (eh W s z)):Ok W O (minus W s [z])/\TTC W O a (minus W s [z])/\Chain W O (minus W s [z]) (A.take (A.length-1))/\a z=eh W s z:=by
 have M:=c.sub z (c.at f);have N:A.length-1<A.length:=(c_.mp f).1;have Y:s.line≠[]:=Xp M;have U:s.line.find? (fun h=>decide _)=none:=Yo.mpr fun h g=>by simpa using y h g
 have Cl:Rg.nxt W O s z=s.line.headD 0:=by unfold Rg.nxt pt;rw[U];rfl
 have E:A[0]? = some (s.line.headD 0):=by cases e:A with
 |nil=>rw[e]at N;simp at N
 |cons b r=>rw[c.hd b r e];rfl
 have X:Cyc W O s A:=by have:=c.cyc k f E Cl;rwa[Y5]at this
 obtain⟨v,F⟩:=zg t k X;have BT:=F z (c.at f);have G:Ok W O (minus W s [z]):=by
  refine⟨r6 k.nl,r6 k.nt,?_,fun h g x o=>k.row h (n_.mp g).1 x (n_.mp o).1,k.inj,fun h g x o=>?_⟩
  .have e1:(minus W s [z]).line=s.line.erase z:=by rw[Hf k.nl];exact pX fun x _=>by simp
   have n:(minus W s [z]).things=s.things.erase (eh W s z):=by rw[Hf k.nt];exact pX fun x _=>by simp
   rw[e1,n,Yd M,Yd (k.tgt_mem M)];have:=k.le;omega
  .have hl:=(n_.mp g).1;refine n_.mpr ⟨k.own h hl x o,?_⟩;simp
   rintro rfl
   exact y h hl o
 have L:∀(j:Nat) h,j<A.length-1->A[j]? = some h->h≠z:=fun j h d e q=>by have:=c.apart e f q;omega
 have p:∀(j:Nat) h,j<A.length-1->A[j]? = some h->eh W (minus W s [z]) h=eh W s h:=fun j h d e1=>by have g:=c.sub h (c.at e1);have n:A[j+1]? = some A[j+1]:=k_ (by omega);refine Ad (fun x o=>(n_.mp o).1) (n_.mpr ⟨k.tgt_mem g,?_⟩) (k.tgt_row g);simp;intro q;exact y _ (c.sub _ (c.at n)) (by rw[c.nx j h _ e1 n];exact Q_g some q)
 have H:=by
  refine c.take _ (fun j h d e=>n_.mpr ⟨c.sub h (c.at e),by simpa using L j h d e⟩) (fun h l e Q=>?_) (fun j h l d e1 n=>p j h (by omega) e1);have T:A[0]? = some h:=by rw[e];rfl
  exact w6 (c.hd h l e) Y (by simpa using L 0 h Q T)
 refine⟨G,?_,H,BT⟩;by_cases q:A.length-1=0
 .have e:A=[z]:=by cases e:A with
  |nil=>rw[e]at N;simp at N
  |cons b r=>rw[e]at q f;simp at q;subst q;simp at f;rw[f]
  rw[e]at v;exact v
 .have tl:(A.take (A.length-1)).length=A.length-1:=by rw[WY];omega
  have K:(A.take (A.length-1))[(A.take (A.length-1)).length-1]? = some A[A.length-2]:=by rw[tl,XE,Q_d (by omega),k_ (by omega)];congr 1
  have n:A[A.length-2]? = some A[A.length-2]:=k_ (by omega);have J:=c.nx (A.length-2) _ z n (by rw[show A.length-2+1=A.length-1 by omega];exact f);have P:(A.take (A.length-1))[0]? = some (s.line.headD 0):=by rw[XE,Q_d (by omega)];exact E
  have w:(minus W s [z]).line.headD 0=s.line.headD 0:=w6 rfl Y (by simpa using L 0 _ (by omega) E);have R:Rg.nxt W O (minus W s [z]) A[A.length-2]=s.line.headD 0:=by
   unfold Rg.nxt pt;have:(minus W s [z]).line.find? (fun h=>decide (O h=some (eh W (minus W s [z]) A[A.length-2])))=none:=Yo.mpr fun h g=>by rw[p (A.length-2) _ (by omega) n];have m:=n_.mp g;simp only[Q_i];intro e;have:=k.inj h z _ e J;subst this;simpa using m.2
   rw[this];exact w
  have Z:=H.cyc G K P R;rw[Y5]at Z;have B:∀h,h∈A.take (A.length-1)->∃j,j<A.length-1/\A[j]? = some h:=fun h m=>by
   obtain⟨j,d⟩:=Xl m;rw[XE]at d;split at d
   .rename_i q2;exact⟨j,q2,d⟩
   .cases d
  have mA:∀h,h∈A↔h∈A.take (A.length-1)\/h=z:=fun h=>by
   constructor
   .intro m;obtain⟨j,d⟩:=Xl m;have Id:=(c_.mp d).1;by_cases I:j<A.length-1
    .left;refine Xj (i:=j) ?_;rw[XE,Q_d I];exact d
    .have:j=A.length-1:=by omega
     subst this;rw[f]at d;cases d;exact .inr rfl
   .rintro(m|rfl)
    .exact Zk m
    .exact c.at f
  refine .step (A.take (A.length-1)) Z (fun h m=>?_) ?_
  .obtain⟨j,j1,j2⟩:=B h m;rw[p j h j1 j2];exact F h (c.at j2)
  .have e:minus W (minus W s [z]) (A.take (A.length-1))=minus W s A:=by
    unfold minus;simp only[S.mk.injEq,ZJ];refine⟨pX fun h _=>?_,pX fun x _=>?_⟩
    .rw[WV];simp only[Q_,Q_i,w_];rw[mA h];constructor
     .rintro⟨q1,q2⟩ (q3|q3)
      .exact q1 q3
      .exact q2 q3
     .exact fun q1=>⟨fun q2=>q1 (.inl q2),fun q2=>q1 (.inr q2)⟩
    .rw[WV];simp only[Q_,Q_i,s_,W8,w_];constructor
     .rintro⟨q1,q2⟩ q3
      obtain⟨h,C,u⟩:=m_.mp q3;rcases(mA h).mp C with h3|h3
      .obtain⟨j,j1,j2⟩:=B h h3;exact q1 (m_.mpr ⟨h,h3,by have:=p j h j1 j2;unfold minus at this;simp only[s_,W8,w_]at this;rw[this];exact u⟩)
      .subst h3;exact q2 u.symm
     .intro q1;refine⟨fun q2=>?_,fun q2=>q1 (m_.mpr ⟨z,c.at f,q2.symm⟩)⟩;obtain⟨h,C,u⟩:=m_.mp q2;obtain⟨j,j1,j2⟩:=B h C;have:=p j h j1 j2;unfold minus at this;simp only[s_,W8,w_]at this;rw[this]at u;exact q1 (m_.mpr ⟨h,c.at j2,u⟩)
   rw[e];exact v
theorem UR(c:Chain W O s A){z l:Nat}(N:A[A.length-1]? = some z)(a:l∈s.line)(Z:l∉A)(f:O l=some (eh W s z)):Chain W O s (A++[l]):=by
 have B:A.length-1<A.length:=(c_.mp N).1;refine⟨List.nodup_append.mpr ⟨c.nd,by simp,fun x Y y U=>by rw[w_.mp U];rintro rfl;exact Z Y⟩,fun h d=>?_,fun h r e=>?_,fun i h m M L=>?_⟩
 .rcases W5.mp d with q|q
  .exact c.sub h q
  .rw[w_.mp q];exact a
 .cases eA:A with
 |nil=>rw[eA]at B;simp at B
 |cons b t=>rw[eA]at e;cases e;exact c.hd _ _ eA
 .by_cases q:i+1<A.length
  .rw[J_ (by omega)]at M L;exact c.nx i h m M L
  .have hi:i+1<(A++[l]).length:=(c_.mp L).1;simp at hi;have:i=A.length-1:=by omega
   subst this;rw[J_ (by omega),N]at M;cases M;rw[W0 (by omega),show A.length-1+1-A.length=0 by omega]at L;cases L;exact f
end
end Rg
end
section
namespace Rg
end Rg
end
section
namespace Rg
end Rg
end
section
namespace Fq
theorem Hi(a:Int)(b:Nat):YU a b=YU b (a%(b:Int)):=by
 refine ĭ (Int.dvd_gcd (X9 _ _) ?_) (Int.dvd_gcd ?_ (Za _ _))
 .rw[Int.emod_def];exact Int.dvd_sub (Za _ _) (ĵ (X9 a b) (ĳ _ _))
 .have h:=Int.mul_ediv_add_emod a b;rw[<-h];exact Int.dvd_add (ĵ (Za _ _) (ĳ _ _)) (by rw[h];exact X9 _ _)
theorem zD(t:Int){b:Nat}(h:0<b):0<YU t b:=Ĭ fun z=>by simp_all
def low(t:Int)(b:Nat):Int×Nat:=(t/(YU t b:Int),b/YU t b)
def DS(a b:Int×Nat):Int×Nat:=low (a.1*b.2+b.1*a.2) (a.2*b.2)
def Same(a b:Int×Nat):Prop:=a.1*(b.2:Int)=b.1*(a.2:Int)
theorem FC(t:Int){b:Nat}(h:0<b):YU (low t b).1 ((low t b).2:Nat)=1:=by have:=Int.gcd_ediv_gcd_ediv_gcd (zD t h);unfold low;simp_all
theorem zK(t:Int){b:Nat}(h:0<b):0<(low t b).2:=by have B:=Ĳ.mp (X9 t b);exact Nat.div_pos (Į h B) (zD t h)
theorem Ap(t:Int)(b:Nat):Same (low t b) (t,b):=by
 unfold Same low;have U:=Za t b;have N:=X9 t b;obtain⟨x,L⟩:=U;obtain⟨y,B⟩:=N;generalize M:(YU t b:Int)=g at L B;rw[Int.natCast_ediv,M];by_cases z:g=0
 .simp_all
 .rw[L,B,Z4 _ z,Z4 _ z]
  grind
structure Bd(k:Nat)(a:Int×Nat):Prop where
 pos:0<a.2
 bot:a.2<2^k
 top:a.1.natAbs<2^k
theorem Bd.low{k:Nat}{t:Int}{b:Nat}(h:0<b)(L:b<2^k)(B:t.natAbs<2^k):Bd k (low t b):=⟨zK t h,ZG ((fun t b=>Ù _ _) t b) L,ZG ((fun t b=>Int.natAbs_ediv_le_natAbs _ _) t b) B⟩
theorem pS{k l:Nat}{a b:Int×Nat}(L:Bd k a)(B:Bd l b):0<a.2*b.2/\a.2*b.2<2^(k+l):=⟨YA L.pos B.pos,(by rw[Nat.pow_add];exact Nat.mul_lt_mul'' L.bot B.bot)⟩
def yt(a b:Int×Nat):Bool:=decide (a.1*(b.2:Int)<b.1*(a.2:Int))
end Fq
end
section
namespace Rg
theorem Ec{N:Type}(f:N->Nat)(L:List N):∀P:List Nat,P.Nodup->(P.map fun t=>L.countP fun o=>decide (f o=t)).sum=L.countP fun o=>decide (f o∈P)
|[],_=>by simp
|t::P,U=>by
  have B:=XH.mp U;rw[s_,W6,Ec f L P B.2];clear U
  induction L with
 |nil=>rfl
 |cons o L Y=>
   rw[YG,YG,YG,<-Y];by_cases M:f o=t
   .have h2:f o∉P:=by rw[M];exact B.1
    simp[M,B.1];omega
   .by_cases h2:f o∈P
    .simp[M,h2];omega
    .simp[M,h2]
end Rg
namespace Fq
def W(N:Nat)(a:Int×Nat)(S:Nat):Prop:=0<a.2/\a.1*(N:Int)=(S:Int)*(a.2:Int)
end Fq
end
section
namespace Fq
theorem rY{t u:Int}{b d:Nat}(U:0<b)(N:0<d)(h:t*(d:Int)=u*(b:Int)):low t b=low u d:=by
 have k:(low t b).1*(b)=t*((low t b).2):=Ap t b;have j:(low u d).1*(d)=u*((low u d).2):=Ap u d;have i:=FC t U;have g:=FC u N;have l:=zK u N;generalize low t b=p at *;generalize low u d=q at *;have M:p.1*(q.2)=q.1*(p.2):=by
  have L:((b*d):Int)≠0:=by have:=YA U N;omega
  refine YB L ?_
  grind
 have B:=by have:=Q_g Int.natAbs M;rw[Ĵ,Ĵ,YX,YX]at this;exact this
 have Z:Nat.Coprime p.2 p.1.natAbs:=by
  have:Nat.gcd p.1.natAbs p.2=1:=i
  grind
 have Y:Nat.Coprime q.2 q.1.natAbs:=by
  have:Nat.gcd q.1.natAbs q.2=1:=g
  grind
 have f:=Z.dvd_of_dvd_mul_left (by rw[B];exact Zb _ _);have c:=Y.dvd_of_dvd_mul_left (by rw[<-B];exact Zb _ _);have e:=ĭ f c;have a:=by rw[e]at M;exact YB (by omega) M
 exact Prod.ext a e
def DD:Nat:=420^7
theorem dj:0<DD:=by decide
theorem LP:DD<2^61:=by decide
def Qd(z:Int):Int×Nat:=low z DD
theorem li(z:Int):(Qd z).1*(DD:Int)=z*((Qd z).2:Int):=Ap z DD
theorem lL(z:Int):0<(Qd z).2:=zK z dj
theorem NP(a b:Int):DS (Qd a) (Qd b)=Qd (a+b):=by
 have L:=li a;have B:=li b;refine rY (YA (lL a) (lL b)) dj ?_
 grind
def Ep(a b:Int×Nat):Int×Nat:=low (a.1*b.2-b.1*a.2) (a.2*b.2)
theorem PJ(a b:Int):Ep (Qd a) (Qd b)=Qd (a-b):=by
 have L:=li a;have B:=li b;refine rY (YA (lL a) (lL b)) dj ?_
 grind
def ze(a b:Int×Nat):Int×Nat:=low (a.1*b.1) (a.2*b.2)
theorem Pk(c:Int)(a:Int):ze (c,1) (Qd a)=Qd (c*a):=by
 have B:=li a;refine rY (YA (Nat.one_pos) (lL a)) dj ?_
 grind
theorem UN{c:Nat}{a:Nat}(B:0<c)(h:c∣a):ze (Qd a) (1,c)=Qd ((a/c:Nat):Int):=by
 have L:=li (a);refine rY (YA (lL _) B) dj ?_;obtain⟨k,rfl⟩:=h;rw[Ħ k B,Int.mul_one,L,YS,YS]
 grind
theorem NO(a b:Int):yt (Qd a) (Qd b)=decide (a<b):=by
 have c:=li a;have Z:=li b;have Y:=lL a;have U:=lL b;have B:(0:Int)<((Qd a).2)*((Qd b).2):=by have:=YA Y U;omega
 have L:(0)<(DD:Int):=by have:=dj;omega
 unfold yt;rw[WV,Q_h,Q_h];have N:(Qd a).1*((Qd b).2)*(DD)=a*(((Qd a).2)*((Qd b).2)):=by grind
 have M:(Qd b).1*((Qd a).2)*(DD)=b*(((Qd a).2)*((Qd b).2)):=by grind
 constructor
 .intro h;have:=Zy h L;rw[N,M]at this;exact ZK this (Int.le_of_lt B)
 .intro h;have:=Zy h B;rw[<-N,<-M]at this;exact ZK this (Int.le_of_lt L)
theorem UO{a b:Int}(h:Qd a=Qd b):a=b:=by have B:=li a;have L:=li b;rw[h]at B;have:=lL b;exact YB (by omega) (B.symm.trans L)
theorem sY(t:Int):low t 1=(t,1):=by
 unfold low;have:YU t (1)=1:=by simp
 simp
theorem UY(c:Nat):low 1 c=(1,c):=by
 unfold low;have:YU 1 (c)=1:=by simp
 simp
theorem mM:Qd 0=(0,1):=by rw[<-sY 0];exact rY dj (by decide) (rfl)
theorem lx{a:Nat}(h:a<=DD):Bd 61 (Qd (a:Int)):=Bd.low dj LP (by have:=LP;omega)
end Fq
namespace Et
open Rg
def fN:List Nat->Nat
|[]=>0
|x::l=>l.foldl (fun m y=>if y<m then y else m) x
theorem zC:∀(l:List Nat)(m:Nat),l.foldl (fun m y=>if y<m then y else m) m<=m/\(∀y∈l,l.foldl (fun m y=>if y<m then y else m) m<=y)/\(l.foldl (fun m y=>if y<m then y else m) m=m\/l.foldl (fun m y=>if y<m then y else m) m∈l)
|[],m=>⟨o_ _,fun _ h=>(nomatch h),.inl rfl⟩
|y::l,m=>by
  rw[X5];obtain⟨M,L,B⟩:=zC l (if y<m then y else m)
  grind
theorem Pa{l:List Nat}{y:Nat}(h:y∈l):fN l<=y:=by cases l with
|nil=>cases h
|cons x l=>
  obtain⟨L,B,_⟩:=zC l x;rcases I_.mp h with rfl|h
  .exact L
  .exact B y h
theorem QE{l:List Nat}(h:l≠[]):fN l∈l:=by cases l with
|nil=>exact Q_f rfl h
|cons x l=>
  obtain⟨_,_,B⟩:=zC l x;rcases B with B|B
  .show l.foldl _ x∈_;simp_all
  .exact l_ _ B
variable(W:Nat->List Nat)(n:Nat)
def tgs(T:List Nat):List Nat:=(g_ n).map fun h=>best (W h) T
def fB(T:List Nat)(a:Nat->Nat):Nat:=fN ((tgs W n T).map fun x=>a x/(tgs W n T).count x)
def f6(T:List Nat)(a:Nat->Nat)(x:Nat):Nat:=a x-(tgs W n T).count x*fB W n T a
def eO(T:List Nat)(a:Nat->Nat):List Nat:=T.filter fun x=>decide (f6 W n T a x≠0)
def eat:Nat->List Nat->(Nat->Nat)->List (List Nat×Nat×List Nat)
|0,_,_=>[]
|k+1,T,a=>if T=[]then[]else(tgs W n T,fB W n T a,T.filter fun x=>decide (x∉eO W n T a))::eat k (eO W n T a) (f6 W n T a)
structure Ok(T:List Nat)(a:Nat->Nat):Prop where
 nd:T.Nodup
 lt:∀x∈T,x<n
 pos:∀x∈T,0<a x
 dv:∀x∈T,420^T.length∣a x
variable{W n}
variable{T:List Nat}{a:Nat->Nat}
structure Rw(W:Nat->List Nat)(n:Nat):Prop where
 n1:1<=n
 n7:n<=7
 has:∀h x,h<n->x<n->x∈W h
theorem Ff(R:Rw W n)(S:Ok n T a)(L:T≠[]){h:Nat}(B:h<n):best (W h) T∈T:=by have M:=W4.mpr L;exact zf ⟨T[0],R.has h _ B (S.lt _ (Xc _)),Xc _⟩
theorem eD:(tgs W n T).length=n:=by unfold tgs;simp
theorem dg(R:Rw W n)(S:Ok n T a)(L:T≠[]){x:Nat}(h:x∈tgs W n T):x∈T:=by obtain⟨k,B,rfl⟩:=m_.mp h;exact Ff R S L (p_.mp B)
theorem EY(x:Nat):(tgs W n T).count x<=n:=by have:=YC (a:=x) (l:=tgs W n T);rw[eD]at this;exact this
theorem E1{c:Nat}(L:1<=c)(B:c<=7):c∣420:=by match c,L,B with
|1,_,_=>decide
|2,_,_=>decide
|3,_,_=>decide
|4,_,_=>decide
|5,_,_=>decide
|6,_,_=>decide
|7,_,_=>decide
theorem gP(R:Rw W n)(S:Ok n T a)(M:T≠[]){x:Nat}(B:x∈tgs W n T):(tgs W n T).count x∣a x/\0<(tgs W n T).count x:=by
 have N:=Ę.mpr B;have Z:=EY (W:=W) (n:=n) (T:=T) x;have Y:=W4.mpr M;have L:=S.dv x (dg R S M B);obtain⟨k,U⟩:∃k,T.length=k+1:=⟨T.length-1,by omega⟩
 rw[U,Ā]at L;exact⟨Zg (E1 N (by have:=R.n7;omega)) (Zg (Zb _ _) L),N⟩
theorem M2(x:Nat)(B:x∈tgs W n T):fB W n T a<=a x/(tgs W n T).count x:=Pa (m_.mpr ⟨x,B,rfl⟩)
theorem gF(x:Nat):(tgs W n T).count x*fB W n T a<=a x:=by
 by_cases B:x∈tgs W n T
 .have h1:=M2 (a:=a) x B;have L:=ī ((tgs W n T).count x) h1;exact O_ L (Nat.mul_div_le _ _)
 grind
theorem iM(R:Rw W n):∃x∈tgs W n T,fB W n T a=a x/(tgs W n T).count x:=by
 have B:(tgs W n T).map (fun x=>a x/(tgs W n T).count x)≠[]:=by
  intro e;have L:=Q_g YZ e;rw[h_,eD]at L;have M:=R.n1
  grind
 obtain⟨x,L,M⟩:=m_.mp (QE B);exact⟨x,L,M.symm⟩
theorem M1(R:Rw W n)(S:Ok n T a)(M:T≠[]):420^(T.length-1)∣fB W n T a:=by
 obtain⟨x,Z,d⟩:=iM R;have e:=W4.mpr M;have Y:=S.dv x (dg R S M Z);obtain⟨f,B⟩:=gP R S M Z;have L:=E1 B (by have:=EY (W:=W) (n:=n) (T:=T) x;have:=R.n7;omega);obtain⟨k,U⟩:∃k,T.length=k+1:=⟨T.length-1,by omega⟩
 rw[U,Ā]at Y;obtain⟨q,b⟩:=Y;obtain⟨m,N⟩:=L;rw[d,U,Nat.add_sub_cancel,b];generalize(tgs W n T).count x=c at *;refine⟨m*q,?_⟩;rw[N];have:420^k*(c*m)*q=c*(420^k*(m*q)):=by grind
 rw[<-N]at this ⊢;rw[this,Ħ _ B]
theorem gK(R:Rw W n)(S:Ok n T a)(L:T≠[]):(eO W n T a).length<T.length:=by
 obtain⟨x,M,Y⟩:=iM R;obtain⟨U,B⟩:=gP R S L M;have N:=dg R S L M;have Z:f6 W n T a x=0:=by unfold f6;rw[Y,Nat.mul_div_cancel' U,Nat.sub_self]
 refine Nat.lt_of_le_of_ne (Xz _ _) fun e=>?_;have:=List.length_filter_eq_length_iff.mp e x N;simp[Z]at this
theorem Ok.next(R:Rw W n)(S:Ok n T a)(M:T≠[]):Ok n (eO W n T a) (f6 W n T a) where
 nd:=S.nd.sublist ĕ
 lt:=fun x L=>S.lt x (n_.mp L).1
 pos:=fun x L=>Ĭ (by simpa using(n_.mp L).2)
 dv:=fun x L=>by have B:=(n_.mp L).1;have N:=gK R S M;have Y:420^(T.length-1)∣a x:=Zg (Ú 420 (by omega)) (S.dv x B);have U:420^(T.length-1)∣(tgs W n T).count x*fB W n T a:=Zg (M1 R S M) (Zb _ _);exact Zg (Ú 420 (by omega)) (Nat.dvd_sub Y U)
def shr(ms:List (List Nat×Nat×List Nat))(h x:Nat):Nat:=(ms.map fun p=>if p.1.getD h 0=x then p.2.1 else 0).sum
def lV(ms:List (List Nat×Nat×List Nat)):Nat:=(ms.map fun p=>p.2.1).sum
theorem fG(p:List Nat×Nat×List Nat)(ms)(h x:Nat):shr (p::ms) h x=(if p.1.getD h 0=x then p.2.1 else 0)+shr ms h x:=by unfold shr;grind
theorem dE(p:List Nat×Nat×List Nat)(ms):lV (p::ms)=p.2.1+lV ms:=by unfold lV;rw[s_,W6]
theorem vS{B:Type}(f g:B->Nat):∀l:List B,(l.map fun x=>f x+g x).sum=(l.map f).sum+(l.map g).sum
|[]=>rfl
|x::l=>by rw[s_,s_,s_,W6,W6,W6,vS f g l];omega
theorem GO(s:Nat)(p:Nat->Nat)(x:Nat):∀l:List Nat,(l.map fun h=>if p h=x then s else 0).sum=(l.map p).count x*s
|[]=>by simp
|h::l=>by
  rw[s_,W6,GO s p x l,s_,List.count_cons]
  grind
theorem GQ(s y:Nat):∀l:List Nat,l.Nodup->(l.map fun x=>if y=x then s else 0).sum=if y∈l then s else 0
|[],_=>rfl
|x::l,L=>by
  have B:=XH.mp L;rw[s_,W6,GQ s y l B.2]
  grind
theorem Ed{h:Nat}(B:h<n):(tgs W n T).getD h 0=best (W h) T:=by unfold tgs;rw[R_,A_,Xf B];rfl
theorem O0:(g_ n).map (fun h=>(tgs W n T).getD h 0)=tgs W n T:=by unfold tgs;refine W3 fun h B=>?_;exact Ed (W:=W) (T:=T) (p_.mp B)
theorem OZ(B:List Nat):∀T:List Nat,T.Nodup->(∀x∈B,x∈T)->(T.map fun x=>B.count x).sum=B.length:=by
 intro T N M;have:=Rg.Ec id B T N;have e:(T.map fun x=>B.count x)=T.map fun t=>B.countP fun o=>decide (id o=t):=by
  refine W3 fun x _=>?_;rw[List.count_eq_countP]
  grind
 rw[e,this];exact List.countP_eq_length.mpr fun y L=>by simpa using M y L
theorem GP(s:Nat)(f:Nat->Nat):∀l:List Nat,(l.map fun x=>f x*s).sum=(l.map f).sum*s
|[]=>by simp
|x::l=>by rw[s_,W6,GP s f l,s_,W6,ā]
theorem AS(f:Nat->Nat):∀l:List Nat,((l.filter fun x=>decide (f x≠0)).map f).sum=(l.map f).sum
|[]=>rfl
|x::l=>by
  rw[Yi];by_cases h:f x=0
  .rw[Q_e (by simpa using h),AS f l,s_,W6,h];omega
  .rw[Q_d (by simpa using h),s_,W6,AS f l,s_,W6]
theorem IR{B:Type}(c:Nat):∀l:List B,(l.map fun _=>c).sum=l.length*c
|[]=>by simp
|_::l=>by rw[s_,W6,IR c l,S_,ā];omega
theorem rK{B:Type}:∀l:List B,(l.map fun _=>0).sum=0
|[]=>rfl
|_::l=>by rw[s_,W6,rK l]
theorem gO(R:Rw W n):∀(k:Nat)(T:List Nat)(a:Nat->Nat),Ok n T a->T.length<=k ->(∀x,((g_ n).map fun h=>shr (eat W n k T a) h x).sum=if x∈T then a x else 0)/\n*lV (eat W n k T a)=(T.map a).sum /\(∀h,h<n->((g_ n).map fun x=>shr (eat W n k T a) h x).sum=lV (eat W n k T a))
|0,T,a,S,c=>by
  have:T=[]:=List.length_eq_zero_iff.mp (by omega);subst this;refine⟨fun x=>?_,?_,fun h N=>?_⟩
  .show((g_ n).map fun h=>0).sum=_;rw[rK];simp
  .show n*0=_;simp
  .exact rK _
|k+1,T,a,S,c=>by
  by_cases M:T=[]
  .subst M;refine⟨fun x=>?_,?_,fun h N=>?_⟩
   .show((g_ n).map fun h=>0).sum=_;rw[rK];simp
   .show n*0=_;simp
   .exact rK _
  .have hlt:=gK R S M;obtain⟨b,Z,Y⟩:=gO R k _ _ (S.next R M) (by omega);have e:eat W n (k+1) T a=(tgs W n T,fB W n T a,T.filter fun x=>decide (x∉eO W n T a))::eat W n k (eO W n T a) (f6 W n T a):=by show(if T=[]then[]else _)=_;rw[Q_e M]
   rw[e];refine⟨fun x=>?_,?_,fun h N=>?_⟩
   .have e1:(g_ n).map (fun h=>shr ((tgs W n T,fB W n T a,T.filter fun x=>decide (x∉eO W n T a))::eat W n k (eO W n T a) (f6 W n T a)) h x)=(g_ n).map fun h=>(if (tgs W n T).getD h 0=x then fB W n T a else 0)+shr _ h x:=W3 fun h _=>fG _ _ _ _;rw[e1,vS,b x,GO,O0];have B:=gF (W:=W) (n:=n) (T:=T) (a:=a) x;by_cases L:x∈T
    .rw[Q_d L];by_cases U:x∈eO W n T a
     .rw[Q_d U];unfold f6;omega
     .rw[Q_e U];have:=X2 fun z=>U (n_.mpr ⟨L,by simpa using z⟩);unfold f6 at this;omega
    .rw[Q_e L,Q_e (show x∉eO W n T a from fun z=>L (n_.mp z).1)];have:=List.count_eq_zero.mpr fun z=>L (dg R S M z);rw[this];simp
   .rw[dE,Nat.mul_add,Z];have f:((eO W n T a).map _).sum=(T.map _).sum:=AS _ _;have d:(T.map a).sum=(T.map fun x=>f6 W n T a x+(tgs W n T).count x*fB W n T a).sum:=by congr 1;refine W3 fun x _=>?_;have B:=gF (W:=W) (n:=n) (T:=T) (a:=a) x;unfold f6;omega
    rw[f,d,vS,GP,OZ _ T S.nd (fun x L=>dg R S M L),eD]
    grind
   .have e1:(g_ n).map (fun x=>shr ((tgs W n T,fB W n T a,T.filter fun x=>decide (x∉eO W n T a))::eat W n k _ _) h x)=(g_ n).map fun x=>(if best _ T=x then fB W n T a else 0)+shr (eat W n k (eO W n T a) (f6 W n T a)) h x:=W3 fun x _=>by rw[fG];rw[Ed N]
    rw[e1,vS,Y h N,GQ _ _ _ Xd,Q_d (p_.mpr (S.lt _ (Ff R S M N))),dE]
theorem Ok.init(R:Rw W n):Ok n (g_ n) fun _=>Fq.DD:=⟨Xd,fun x B=>p_.mp B,fun _ _=>Fq.dj,fun _ _=>by rw[Y6];exact Ú 420 R.n7⟩
theorem mI(R:Rw W n){k:Nat}(B:n<=k):lV (eat W n k (g_ n) fun _=>Fq.DD)=Fq.DD:=by
 have h:=(gO R k _ _ (Ok.init R) (by simpa using B)).2.1;have e:((g_ n).map fun _=>Fq.DD).sum=n*Fq.DD:=by rw[IR,Y6]
 rw[e]at h;exact Nat.eq_of_mul_eq_mul_left R.n1 h
end Et
end
namespace Law
open PySem PySem.Spec PyProof.Rows L2 DL
abbrev gv(i:Nat):DL.FE:=fun r=>DL.ie r i
abbrev ci(i:Int):DL.FE:=fun _=>.ok (.int i)
abbrev q0:List DL.Md:=[.bw,.bw]
abbrev dH:List DL.Md:=[.bw,.sh]
abbrev fg:List DL.Md:=[.bw,.bw,.sh,.sh]
abbrev fI:List DL.Md:=[.bw,.bw,.ow,.sh,.sh]
abbrev gt:List DL.Md:=[.bw,.bw,.bw,.sh,.sh,.ow,.ow,.sh,.sh,.sh]
abbrev gs:List DL.Md:=[.sh,.bw,.bw,.ow,.sh,.sh]
abbrev gJ:List DL.Md:=[.sh,.sh]
abbrev iP:List DL.Md:=[.sh,.sh,.sh]
abbrev iO:List DL.Md:=[.sh,.bw]
abbrev ju:List DL.Md:=[.bw,.bw,.bw]
abbrev jt:List DL.Md:=[.bw,.bw,.bw,.bw,.bw,.sh,.sh,.sh]
abbrev js:List DL.Md:=[.bw,.bw,.ow,.ow,.ow,.ow]
abbrev jr:List DL.Md:=[.bw,.sh,.sh]
abbrev ku:List DL.Md:=[.bw,.bw,.bw,.sh,.sh,.ow,.sh,.sh,.sh]
abbrev kt:List DL.Md:=[.sh,.bw,.ow,.sh]
abbrev kr:List DL.Md:=[.bw,.ow,.sh]
abbrev ko:List DL.Md:=[.bw,.bw,.bw,.bw,.bw,.bw,.sh,.ow,.ow]
abbrev mh:List DL.Md:=[.bw,.bw,.bw,.sh]
abbrev mf:List DL.Md:=[.sh,.bw,.bw,.ow,.sh]
abbrev ma:List DL.Md:=[.bw,.bw,.ow,.ow,.ow,.sh]
abbrev l9:List DL.Md:=[.bw,.sh,.sh,.sh,.sh,.sh]
abbrev l7:List DL.Md:=[.sh,.sh,.ow,.sh,.sh,.ow,.sh]
abbrev oE:List DL.Md:=[.bw,.sh,.sh,.sh,.sh]
abbrev oC:List DL.Md:=[.bw,.bw,.ow,.ow,.sh]
abbrev oB:List DL.Md:=[.bw,.ow,.sh,.ow,.sh,.sh,.sh]
abbrev oA:List DL.Md:=[.bw,.bw,.bw,.ow,.sh,.sh,.sh,.sh]
abbrev oy:List DL.Md:=[.bw,.sh,.sh,.ow,.sh,.sh]
abbrev sS:List DL.Md:=[.bw,.bw,.bw,.ow,.sh,.ow,.ow,.sh,.sh,.sh]
abbrev sR:List DL.Md:=[.bw,.bw,.bw,.bw,.ow,.ow,.sh,.sh]
abbrev sQ:List DL.Md:=[.bw,.bw,.bw,.ow,.ow,.ow,.sh,.sh,.sh]
theorem dh{X:Cx}{g:GE}{m:List Md}{a:Expr}{i:Str}{j}{p q r:Pos}{f:FE}(h:SB X g m a f)(e:i_ [a] X.env=[(false,eval a X.env)])(z:(q.endLine==r.line)=true):SE X g m (.Call (.Attribute (.Constant (.str i) j p) "join" q) [a] [] r) (fM "str" (fun _=>.ok (.str i)) (aH f aE) ip):=dY PySem.F.plainAttrs_str PySem.F.slot_str_join PySem.F.type_str_join zM zF (bE da) (bB h bF e) (by rfl) (by rw[e];rfl) z e (by rfl)
theorem Dq{B:Type}(us:List B)(h:us.length=1):∃L,us=[L]:=by match us,h with
|[_],_=>exact⟨_,rfl⟩
theorem yq{B:Type}(us:List B)(h:us.length=2):∃M L,us=[M,L]:=by match us,h with
|[_,_],_=>exact⟨_,_,rfl⟩
theorem yr{B:Type}(us:List B)(h:us.length=3):∃N M L,us=[N,M,L]:=by match us,h with
|[_,_,_],_=>exact⟨_,_,_,rfl⟩
theorem UX{B:Type}(us:List B)(h:us.length=4):∃U N M L,us=[U,N,M,L]:=by match us,h with
|[_,_,_,_],_=>exact⟨_,_,_,_,rfl⟩
def top(i:Nat):Stmt:=PySem.Challenge.pw_ringtrade_k45_answers_of_the_desk.main.body.getD i (.Pass ⟨0,0,0,0⟩)
def rc:Str->Bool:=fun nm=>(["Kept"]:List Str).contains nm
def qM:Str->Bool:=fun nm=>(["Kept"]:List Str).contains nm
def vE:Str->Bool:=fun nm=>(["Kept"]:List Str).contains nm
def xS:Str->Bool:=fun nm=>(["Desk"]:List Str).contains nm
def xT:Str->Bool:=fun nm=>(["Desk"]:List Str).contains nm
abbrev nR:Stmt:=vI (top 108) 0
structure Txt(K:W.Frag)(mg:Str->Option a_):Prop where
 a:mg "len" = none
 i:mg "isinstance" = none
 r:mg "bool" = none
 m:mg "int" = none
 k:mg "enumerate" = none
 d:mg "tuple" = none
 f:mg "list" = none
 b:mg "range" = none
 l:mg "zip" = none
 s:mg "all" = none
 e:mg "str" = none
 q:mg "min" = none
 t:mg "sorted" = none
 u:mg "abs" = none
 v:mg "set" = none
 w:∃t,mg "MOST_HANDS" = some (.int 7 t)
 x:∃t,mg "MOST_THINGS" = some (.int 8 t)
 g:∃t,mg "LETTERS" = some (.str "ABCDEFGH" t)
 y:∃t,mg "FIGURES" = some (.str "0123456" t)
 z:∃t,mg "MOST_HANDS_IN_LOTS" = some (.int 5 t)
 n:∃a,mg "NOUGHT" = some (.ref a)/\KC K a (.tup [.int 0,.int 1])
 aa:∃a,mg "ONE" = some (.ref a)/\KC K a (.tup [.int 1,.int 1])
 ab:DefAt K mg "refuse_too_many_rows" (top 19)
 ac:DefAt K mg "is_whole" (top 14)
 ad:DefAt K mg "is_below" (top 15)
 ae:DefAt K mg "first_wrong" (top 16)
 af:DefAt K mg "are_unlike" (top 17)
 ag:DefAt K mg "has_each_once" (top 18)
 ah:DefAt K mg "wishes_of" (top 20)
 ai:DefAt K mg "things_in" (top 21)
 aj:DefAt K mg "owns_of" (top 24)
 ak:DefAtD K mg "order_of" (top 25) [Value.none]
 al:DefAt K mg "word_text" (top 28)
 am:DefAt K mg "row_text" (top 29)
 an:DefAt K mg "rows_text" (top 30)
 ao:DefAt K mg "is_starred" (top 31)
 ap:DefAt K mg "letter_in" (top 32)
 aq:DefAt K mg "is_word" (top 33)
 ar:DefAt K mg "is_part" (top 34)
 as:DefAt K mg "row_in" (top 35)
 au:DefAt K mg "own_in" (top 36)
 av:DefAt K mg "rows_read" (top 37)
 aw:DefAt K mg "things_text" (top 39)
 ax:DefAt K mg "pair_text" (top 40)
 ay:DefAt K mg "ring_text" (top 41)
 az:DefAt K mg "round_text" (top 42)
 a0:DefAt K mg "rounds_text" (top 43)
 a1:DefAt K mg "deed_text" (top 44)
 a2:DefAt K mg "deeds_text" (top 45)
 a3:DefAt K mg "order_text" (top 46)
 a4:DefAt K mg "share_text" (top 47)
 a5:DefAt K mg "shares_text" (top 48)
 a6:DefAt K mg "best_left" (top 50)
 a7:DefAt K mg "owner_left" (top 51)
 a8:DefAt K mg "ones_behind" (top 52)
 a9:DefAt K mg "got_in" (top 53)
 ba:DefAt K mg "dealing_of" (top 54)
 bb:DefAt K mg "ring_of_askers" (top 56)
 bc:DefAt K mg "next_deed" (top 57)
 bd:DefAt K mg "pairs_of" (top 58)
 be:DefAtD K mg "asked" (top 59) [Value.none]
 bf:DefAt K mg "hand_pointed_at" (top 96)
 bg:DefAt K mg "ring_from" (top 97)
 bh:DefAt K mg "rings_of_round" (top 98)
 bi:DefAtD K mg "rounds" (top 99) [Value.none]
 bj:DefAtD K mg "by_rings" (top 100) [Value.none]
 bk:DefAtD K mg "by_order" (top 93) [Value.none]
 bl:DefAt K mg "order_behind" (top 94)
 bm:DefAt K mg "greatest_divisor" (top 63)
 bn:DefAt K mg "fraction" (top 64)
 bo:DefAt K mg "plus" (top 65)
 bp:DefAt K mg "minus" (top 66)
 bq:DefAt K mg "times" (top 67)
 br:DefAt K mg "less" (top 68)
 bs:DefAt K mg "least" (top 69)
 bt:DefAt K mg "time_until_one_is_gone" (top 71)
 bu:DefAt K mg "left_after" (top 72)
 bv:DefAt K mg "not_gone" (top 73)
 bw:DefAt K mg "meals_of" (top 74)
 bx:DefAt K mg "shares_of" (top 75)
 bz:DefAt K mg "log_of" (top 76)
 b0:DefAt K mg "is_square" (top 22)
 b1:DefAt K mg "refuse_unless_square" (top 23)
 b2:DefAt K mg "eaten" (top 77)
 b3:DefAt K mg "refuse_too_many_for_lots" (top 103)
 b4:DefAt K mg "all_orders" (top 104)
 b5:DefAt K mg "shares_in" (top 105)
 b6:DefAt K mg "lot" (top 106)
 b7:DefAt K mg "refuse_unless" (top 80)
 b8:DefAt K mg "words_in" (top 81)
 b9:DefAt K mg "text_in" (top 82)
 ca:DefAt K mg "number_in" (top 83)
 cb:DefAt K mg "numbers_in" (top 84)
 cc:DefAt K mg "unlike_in" (top 85)
 cd:DefAt K mg "figures_of" (top 86)
 ce:DefAt K mg "letters_of" (top 87)
 cf:DefAt K mg "hand_in" (top 88)
 cg:DefAt K mg "order_in" (top 90)
 ch:DefAt K mg "dealing_in" (top 91)
 j:gW K "order" vE
 h:gW K "owns" qM
 c:gW K "wishes" rc
 ci:MakeAt K mg "Kept" "Kept" "Kept.__init__" nR
 cj:DefAt K mg "kept_of_text" (top 109)
 ck:DefAt K mg "after_rows" (top 110)
 cl:DefAt K mg "after_order" (top 114)
 cm:DefAt K mg "answer_rings" (top 115)
 cn:DefAt K mg "answer_asks" (top 116)
 co:DefAt K mg "answer_deal" (top 117)
 cp:DefAt K mg "answer_by" (top 118)
 cq:DefAt K mg "answer_of" (top 119)
 cr:DefAt K mg "answer_lot" (top 120)
 cs:DefAt K mg "answer_eat" (top 121)
 ct:DefAt K mg "_law_cell" (top 126)
 cu:DefAt K mg "_law_row" (top 127)
 cv:DefAt K mg "_law_wishes" (top 128)
 cw:DefAt K mg "_law_owns" (top 129)
 cx:DefAt K mg "_law_text" (top 130)
 cy:DefAt K mg "_law_letters" (top 131)
 cz:DefAt K mg "_law_ring" (top 132)
 c0:DefAt K mg "_law_steps" (top 133)
 c1:DefAt K mg "_law_shares" (top 134)
 c2:DefAt K mg "_law_behind" (top 135)
 c3:DefAt K mg "_law_asks" (top 136)
 o:gW K "kept" xS
 p:gW K "past" xT
abbrev sC:List Str:=["rows"]
def bN(b:Bool)(N:List Str)(B:FS):List D->Res D:=fun ds=>dI b (B (cQ N.length ds))
theorem cR{b:Bool}{N:List Str}{B:FS}{n:Nat}{ds:List D}{d:D}(h:B (cQ n ds)=.rt d)(L:n=N.length:=by rfl):bN b N B ds=.ok d:=by subst L;show dI b (B (cQ N.length ds))=_;rw[h];cases b <;> rfl
abbrev UT(nm:Str)(ps:List Str)(n:Nat)(m:List Md)(N:List Str):={B:FS // ∀{P w K mg base} (T:Txt K mg),Callee P w K mg base nm ps [] n false m (bN false N B)}
def xu:UT "refuse_too_many_rows" sC 1 [Md.bw] sC:=⟨_,fun T=>
 bK (m':=[Md.bw]) T.ab bD fun hr hu1=>(aG (cD (SW.toQ (gI (jq (bE (dB (by rfl) T.a (bB (aB 0) bF))) iB) (mT (km (bE (dB (by rfl) T.a (bB (aB 0) bF))) (bE (zq (by rfl) T.w)))))) (aG jM
   aM)
   aM)
   aM)⟩
def Uo:=bN false sC xu.1
abbrev AY:List Str:=["value"]
def wL:UT "is_whole" AY 1 [Md.bw] AY:=⟨_,fun T=>
 bK (m':=[Md.bw]) T.ac bD fun hr hu1=>(aG (aZ (pb (qH "int" "int" rfl (NF _) (by rfl) T.i (by rfl) T.m (aB 0)) (pd (UA (qH "bool" "bool" rfl (O8 _) (by rfl) T.i (by rfl) T.r (aB 0))))))
   aM)⟩
def Rq:=bN false AY wL.1
abbrev AX:List Str:=["value","bound"]
def wK:UT "is_below" AX 2 q0 AX:=⟨_,fun T=>
 bK (m':=q0) T.ad bD fun hr hu1=>(aG (aZ (pb (aQ (wL.2 T) (aD (aB 0) aO)) (pd (Qe U5 yn U3 U4 iB (aB 0) (aB 1)))))
   aM)⟩
def wG:=bN false AX wK.1
abbrev BH:List Str:=["numbers","bound","ahead","place","number"]
abbrev om:List Str:=["numbers","bound"]
theorem xi:FnScope BH om (aA (top 16)):=bD
abbrev Ls:FS:=(aI (eV fI (kF (fQ (di (bM (aH (gv 4) (aH (gv 1) aE)) [] wG))) (cK (f2 (gv 4) (gv 2) gN))) (aI (dG fI (gv 3)) bR) bR) (aI (putF fI 2 (gv 4) (fun _=>Res.ok (D.bl true))) bR))
def K0:UT "first_wrong" om 3 q0 BH:=⟨_,fun T=>
 bK (m':=fI) T.ae xi fun hr hu1=>(aG (dU 2 xi.nd (by rfl) (du rfl) kU)
   (aG (m7 z_ rfl (F0 (by rfl) T.k (nB 0)) (j5 rfl (fu (c7 3 xi.nd) (fu (c7 4 xi.nd) j4))) (aG (cD (SW.toQ (gI (jg (ga (bE (aQ (wK.2 T) (aD (aB 4) (aD (aB 1) aO)))))) (mT (l6 hu1 (aB 4) (aB 2))))) (aG (aZ (v_ 3))
   aM)
   aM)
   (aG (kP 2 hu1 rfl (by rfl) (cN rfl) (aB 4) lX)
   aM)))
   (aG (aZ (dB (by rfl) T.a (bB (aB 0) bF)))
   aM)))⟩
def TB:=bN false BH K0.1
def Th:UT "are_unlike" om 4 q0 om:=⟨_,fun T=>
 bK (m':=q0) T.af bD fun hr hu1=>have hu64:=hr.units;(aG (aZ (gG hu64 (bE (aQ (K0.2 T) (aD (aB 0) (aD (aB 1) aO)))) (bE (dB (by rfl) T.a (bB (aB 0) bF)))))
   aM)⟩
def xt:UT "has_each_once" om 5 q0 om:=⟨_,fun T=>
 bK (m':=q0) T.ag bD fun hr hu1=>have hu64:=hr.units;(aG (aZ (pb (gG hu64 (bE (dB (by rfl) T.a (bB (aB 0) bF))) (aB 1)) (pd (aQ (Th.2 T) (aD (aB 0) (aD (aB 1) aO))))))
   aM)⟩
def Lq:=bN false om xt.1
abbrev A9:List Str:=["rows","things","hand","row"]
theorem sg:FnScope A9 sC (aA (top 20)):=bD
abbrev TU:FS:=(aI (eV [.sh,.sh,.sh,.sh] (fQ (di (bM (aH (gv 3) (aH (gv 1) aE)) [] Lq))) (aI (fun _=>Out.stuck) bR) bR) bR)
def JD:UT "wishes_of" sC 6 [Md.sh] A9:=⟨_,fun T=>
 bK (m':=[.sh,.sh,.sh,.sh]) T.ah sg fun hr hu1=>(aG (jL (aQ (xu.2 T) (aD (aB 0) aO)))
   (aG (cF 1 sg.nd (dB (by rfl) T.a (bB (xB hu1 (aB 0) iB) bF)))
   (aG (cD (SW.toQ (gI (jq (aB 1) (bE (dB (by rfl) T.a (bB (aB 0) bF)))) (mT (km (aB 1) (bE (zq (by rfl) T.x)))))) (aG jM
   aM)
   aM)
   (aG (iW z_ rfl (Fc (by rfl) T.k (v_ 0)) (j5 rfl (fu (c7 2 sg.nd) (fu (c7 3 sg.nd) j4))) (aG (cD (jg (ga (bE (aQ (xt.2 T) (aD (aB 3) (aD (aB 1) aO)))))) (aG jM
   aM)
   aM)
   aM))
   (aG (aZ (iI (by rfl) T.d (bB (SO.toB (fD ["row"] [] sg.nd (dq (aB 0)) (iI (by rfl) T.d (bB (aB 0) bF)))) bF)))
   aM)))))⟩
def Sz:=bN false A9 JD.1
abbrev gl:List Str:=["wishes"]
def kh:UT "things_in" gl 1 [Md.bw] gl:=⟨_,fun T=>
 bK (m':=[Md.bw]) T.ai bD fun hr hu1=>(aG (aZ (dB (by rfl) T.a (bB (xB hu1 (aB 0) iB) bF)))
   aM)⟩
def qa:=bN false gl kh.1
abbrev IK:List Str:=["wishes","things","ahead","hand","thing"]
abbrev JT:List Str:=["wishes","things"]
theorem wE:FnScope IK JT (aA (top 24)):=bD
abbrev SF:FS:=(aI (eV fI (cK (f2 (gv 4) (fun _=>Res.ok D.non) mB)) (aI (eV fI (kF (fQ (di (bM (aH (gv 4) (aH (bM (aH (gv 0) aE) [] qa) aE)) [] wG))) (cK (f2 (gv 4) (gv 2) gN))) (aI (fun _=>Out.stuck) bR) bR) (aI (putF fI 2 (gv 4) (fun _=>Res.ok (D.bl true))) bR)) bR) bR)
def PX:UT "owns_of" JT 3 q0 IK:=⟨_,fun T=>
 bK (m':=fI) T.aj wE fun hr hu1=>have hu64:=hr.units;(aG (cD (l5 hu64 (bE (dB (by rfl) T.a (bB (aB 1) bF))) (bE (dB (by rfl) T.a (bB (aB 0) bF)))) (aG jM
   aM)
   aM)
   (aG (dU 2 wE.nd (by rfl) (du rfl) kU)
   (aG (m7 z_ rfl (F0 (by rfl) T.k (nB 1)) (j5 rfl (fu (c7 3 wE.nd) (fu (c7 4 wE.nd) j4))) (aG (cD (DX (aB 4) (bE iX)) (aG (cD (SW.toQ (gI (jg (ga (bE (aQ (wK.2 T) (aD (aB 4) (aD (bE (aQ (kh.2 T) (aD (aB 0) aO))) aO)))))) (mT (l6 hu1 (aB 4) (aB 2))))) (aG jM
   aM)
   aM)
   (aG (kP 2 hu1 rfl (by rfl) (cN rfl) (aB 4) lX)
   aM))
   aM)
   aM))
   (aG (aZ (iI (by rfl) T.d (bB (aB 1) bF)))
   aM))))⟩
abbrev n5:List Str:=["wishes","order"]
theorem SM:FnScope n5 n5 (aA (top 25)):=bD
def qc:UT "order_of" n5 6 q0 n5:=⟨_,fun T=>
 rn (ds:=[]) (k:=5) (m':=q0) T.ak SM rfl 2 rfl (fun _ _ _ _ _ _ _ us hl=>by obtain⟨u0,u1,rfl⟩:=yq us hl;exact⟨_,rfl,rfl⟩) fun f cdv A outer s H g E hr=>
 have hu1:=lB hr;have hu64:=hr.units
 (aG (cD (kl (aB 1) (bE iX)) (aG (aZ (SO.toE (pM rfl (by rfl) T.f (by rfl) T.b (bB (bE (dB (by rfl) T.a (bB (aB 0) bF))) bF))))
   aM)
   aM)
   (aG (cD (jg (ga (bE (aQ (xt.2 T) (aD (aB 1) (aD (bE (dB (by rfl) T.a (bB (aB 0) bF))) aO)))))) (aG jM
   aM)
   aM)
   (aG (aZ (SO.toE (yV (by rfl) T.f (bB (aB 1) bF))))
   aM)))⟩
def wH:=bN false n5 qc.1
abbrev Ba:List Str:=["thing","own","letter"]
abbrev KZ:List Str:=["thing","own"]
theorem Kp:FnScope Ba KZ (aA (top 28)):=bD
def JE:UT "word_text" KZ 1 q0 Ba:=⟨_,fun T=>
 bK (m':=[.bw,.bw,.sh]) T.al Kp fun hr hu1=>have hu64:=hr.units;(aG (cF 2 Kp.nd (d9 hu1 (bE (nh (by rfl) T.g)) (aB 0)))
   (aG (aZ (mX (dQ hu64 (aB 0) (aB 1)) (dM (aB 2) (bE da)) (v_ 2)))
   aM))⟩
def JS:=bN false Ba JE.1
abbrev rT:List Str:=["row","own"]
theorem Kc:FnScope rT rT (aA (top 29)):=bD
def Jb:UT "row_text" rT 2 q0 rT:=⟨_,fun T=>
 bK (m':=q0) T.am Kc fun hr hu1=>(aG (aZ (@dh _ _ _ _ _ _ _ _ _ _ (SO.toB (fD ["thing","own"] [1] Kc.nd (dq (aB 0)) (aQ (JE.2 T) (aD (aB 0) (aD (aB 1) aO))))) rfl rfl))
   aM)⟩
def Jt:=bN false rT Jb.1
abbrev sv:List Str:=["wishes","owns"]
theorem Kn:FnScope sv sv (aA (top 30)):=bD
def Bl:UT "rows_text" sv 3 gJ sv:=⟨_,fun T=>
 bK (m':=gJ) T.an Kn fun hr hu1=>(aG (aZ (@dh _ _ _ _ _ _ _ _ _ _ (SO.toB (qp ["row","own"] [] Kn.nd (iU.toC (t0 (by rfl) T.l (v_ 0) (v_ 1))) (aQ (Jb.2 T) (aD (aB 0) (aD (aB 1) aO))))) rfl rfl))
   aM)⟩
def JQ:=bN false sv Bl.1
abbrev ny:List Str:=["word"]
def so:UT "is_starred" ny 1 [Md.bw] ny:=⟨_,fun T=>
 bK (m':=[Md.bw]) T.ao bD fun hr hu1=>(aG (aZ (dY PySem.F.plainAttrs_str PySem.F.slot_str_endswith PySem.F.type_str_endswith Ov Nz (aB 0) (bB (bE da) bF)))
   aM)⟩
def wO:=bN false ny so.1
def wZ:UT "letter_in" ny 2 [Md.sh] ny:=⟨_,fun T=>
 bK (m':=[Md.sh]) T.ap bD fun hr hu1=>(aG (aZ (mX (ga (bE (aQ (so.2 T) (aD (aB 0) aO)))) (yi (aB 0) g6 (g9 (bE (yg iB)))) (v_ 0)))
   aM)⟩
def JO:=bN false ny wZ.1
abbrev Ay:List Str:=["word","letter"]
theorem Jo:FnScope Ay ny (aA (top 33)):=bD
def Iu:UT "is_word" ny 3 [Md.sh] Ay:=⟨_,fun T=>
 bK (m':=gJ) T.aq Jo fun hr hu1=>have hu64:=hr.units;(aG (cF 1 Jo.nd (aQ (wZ.2 T) (aW (v_ 0) aO)))
   (aG (aZ (pb (gG hu64 (bE (dB (by rfl) T.a (bB (aB 1) bF))) iB) (pd (sK hu1 (aB 1) (bE (nh (by rfl) T.g))))))
   aM))⟩
def PP:=bN false Ay Iu.1
abbrev Ax:List Str:=["words","starred"]
abbrev jQ:List Str:=["words"]
theorem AO:FnScope Ax jQ (aA (top 34)):=bD
def Ir:UT "is_part" jQ 4 [Md.bw] Ax:=⟨_,fun T=>
 bK (m':=[.bw,.ow]) T.ar AO fun hr hu1=>(aG (sc1 1 ["word"] [] AO.nd (dq (aB 0)) (v_ 0) (hq:=(kY (ga (bE (aQ (so.2 T) (aD (aB 0) aO)))))))
   (aG (aZ (pb (sJ (bE (dB (by rfl) T.a (bB (aB 1) bF))) iB) (pd (Ve rfl (by rfl) T.s (bB (SO.toB (fD ["word"] [] AO.nd (dq (aB 0)) (aQ (Iu.2 T) (aW (v_ 0) aO)))) bF)))))
   aM))⟩
def HY:=bN false Ax Ir.1
theorem IY:FnScope jQ jQ (aA (top 35)):=bD
def Hb:UT "row_in" jQ 3 [Md.bw] jQ:=⟨_,fun T=>
 bK (m':=[Md.bw]) T.as IY fun hr hu1=>(aG (aZ (SO.toE (fD ["word"] [] IY.nd (dq (aB 0)) (dY PySem.F.plainAttrs_str PySem.F.slot_str_index PySem.F.type_str_index zN zv (bE (nh (by rfl) T.g)) (bB (bE (aQ (wZ.2 T) (aW (v_ 0) aO))) bF)))))
   aM)⟩
def GY:=bN false jQ Hb.1
abbrev z8:List Str:=["words","word"]
theorem IX:FnScope z8 jQ (aA (top 36)):=bD
abbrev wI:FS:=(aI (eV dH (di (bM (aH (gv 1) aE) [] wO)) (aI (dG dH (fM "str" (fun _=>Res.ok (D.str "ABCDEFGH")) (aH (bM (aH (gv 1) aE) [] JO) aE) qK)) bR) bR) bR)
def Ha:UT "own_in" jQ 3 [Md.bw] z8:=⟨_,fun T=>
 bK (m':=dH) T.au IX fun hr hu1=>(aG (za z_ rfl (dq (aB 0)) (fun _=>(c7 1 IX.nd)) (fun _=>(aG (cD (ga (bE (aQ (so.2 T) (aD (aB 1) aO)))) (aG (aZ (dY PySem.F.plainAttrs_str PySem.F.slot_str_index PySem.F.type_str_index zN zv (bE (nh (by rfl) T.g)) (bB (bE (aQ (wZ.2 T) (aW (v_ 1) aO))) bF)))
   aM)
   aM)
   aM)))
   (aG (aZ iX)
   aM))⟩
def GX:=bN false z8 Ha.1
abbrev BD:List Str:=["text","parts","at","words","wishes"]
abbrev xj:List Str:=["text"]
theorem oh:FnScope BD xj (aA (top 37)):=bD
abbrev TM:FS:=(aI (eV oE (fQ (di (bM (aH (gv 3) aE) [] HY))) (aI (fun _=>Out.stuck) bR) bR) bR)
def Bk:UT "rows_read" xj 7 [Md.bw] BD:=⟨_,fun T=>
 bK (m':=oE) T.av oh fun hr hu1=>(aG (cD (jg (ga (bE (qH "str" "str" rfl (zI _) (by rfl) T.i (by rfl) T.e (aB 0))))) (aG jM
   aM)
   aM)
   (aG (sc1 1 ["part"] [] oh.nd (dq (bE (dY PySem.F.plainAttrs_str PySem.F.slot_str_split PySem.F.type_str_split Ar An (aB 0) (bB (bE da) bF)))) (dY PySem.F.plainAttrs_str PySem.F.slot_str_split PySem.F.type_str_split Ar An (aB 0) (bB (bE da) bF)))
   (aG (jH 1 rfl (iW z_ rfl (Fc (by rfl) T.k (v_ 1)) (j5 rfl (fu (c7 2 oh.nd) (fu (c7 3 oh.nd) j4))) (aG (cD (jg (ga (bE (aQ (Ir.2 T) (aD (aB 3) aO))))) (aG jM
   aM)
   aM)
   aM)))
   (aG (cF 4 oh.nd (aQ (JD.2 T) (aW (SO.toE (fD ["words"] [] oh.nd (dq (aB 1)) (aQ (Hb.2 T) (aD (aB 0) aO)))) aO)))
   (aG (aZ (gb (bP (v_ 4) (bP (aQ (PX.2 T) (aD (aB 4) (aD (SO.toB (fD ["words"] [] oh.nd (dq (aB 1)) (aQ (Ha.2 T) (aD (aB 0) aO)))) aO))) bS))))
   aM)))))⟩
def Sx:=bN false BD Bk.1
abbrev sB:List Str:=["things"]
theorem Li:FnScope sB sB (aA (top 39)):=bD
def B8:UT "things_text" sB 1 [Md.bw] sB:=⟨_,fun T=>
 bK (m':=[Md.bw]) T.aw Li fun hr hu1=>(aG (aZ (@dh _ _ _ _ _ _ _ _ _ _ (SO.toB (fD ["thing"] [] Li.nd (dq (aB 0)) (d9 hu1 (bE (nh (by rfl) T.g)) (aB 0)))) rfl rfl))
   aM)⟩
def TH:=bN false sB B8.1
abbrev BB:List Str:=["hand","thing","letter"]
abbrev KS:List Str:=["hand","thing"]
theorem Kl:FnScope BB KS (aA (top 40)):=bD
def Jz:UT "pair_text" KS 1 q0 BB:=⟨_,fun T=>
 bK (m':=[.bw,.bw,.sh]) T.ax Kl fun hr hu1=>(aG (cF 2 Kl.nd (d9 hu1 (bE (nh (by rfl) T.g)) (aB 1)))
   (aG (aZ (sL (t8 (qL (aB 0)) (Dn (t8 (qL (aB 2)) Dm)))))
   aM))⟩
def JP:=bN false BB Jz.1
abbrev su:List Str:=["ring"]
theorem Km:FnScope su su (aA (top 41)):=bD
def Bj:UT "ring_text" su 2 [Md.bw] su:=⟨_,fun T=>
 bK (m':=[Md.bw]) T.ay Km fun hr hu1=>(aG (aZ (@dh _ _ _ _ _ _ _ _ _ _ (SO.toB (qp ["hand","thing"] [] Km.nd (dq (aB 0)) (aQ (Jz.2 T) (aD (aB 0) (aD (aB 1) aO))))) rfl rfl))
   aM)⟩
def Bt:=bN false su Bj.1
abbrev og:List Str:=["rings"]
theorem KJ:FnScope og og (aA (top 42)):=bD
def BV:UT "round_text" og 3 [Md.bw] og:=⟨_,fun T=>
 bK (m':=[Md.bw]) T.az KJ fun hr hu1=>(aG (aZ (@dh _ _ _ _ _ _ _ _ _ _ (SO.toB (fD ["ring"] [] KJ.nd (dq (aB 0)) (aQ (Bj.2 T) (aD (aB 0) aO)))) rfl rfl))
   aM)⟩
def J4:=bN false og BV.1
abbrev xk:List Str:=["told"]
theorem Lg:FnScope xk xk (aA (top 43)):=bD
def K2:UT "rounds_text" xk 4 [Md.bw] xk:=⟨_,fun T=>
 bK (m':=[Md.bw]) T.a0 Lg fun hr hu1=>(aG (aZ (@dh _ _ _ _ _ _ _ _ _ _ (SO.toB (fD ["rings"] [] Lg.nd (dq (aB 0)) (aQ (BV.2 T) (aD (aB 0) aO)))) rfl rfl))
   aM)⟩
abbrev By:List Str:=["deed","ring"]
abbrev sj:List Str:=["deed"]
theorem Kk:FnScope By sj (aA (top 44)):=bD
def Bg:UT "deed_text" sj 3 [Md.bw] By:=⟨_,fun T=>
 bK (m':=dH) T.a1 Kk fun hr hu1=>have hu64:=hr.units;(aG (cF 1 Kk.nd (mX (dQ hu64 (xB hu1 (aB 0) iB) (bE da)) (d9 hu1 (aB 0) iB) (gb (bP (lD (aB 0) (g9 iB) g6) bS))))
   (aG (aZ (dM (bE (dM (xB hu1 (aB 0) iB) (bE da))) (bE (aQ (Bj.2 T) (aD (aB 1) aO)))))
   aM))⟩
def JN:=bN false By Bg.1
abbrev wP:List Str:=["deeds"]
theorem KF:FnScope wP wP (aA (top 45)):=bD
def Kw:UT "deeds_text" wP 4 [Md.bw] wP:=⟨_,fun T=>
 bK (m':=[Md.bw]) T.a2 KF fun hr hu1=>(aG (aZ (@dh _ _ _ _ _ _ _ _ _ _ (SO.toB (fD ["deed"] [] KF.nd (dq (aB 0)) (aQ (Bg.2 T) (aD (aB 0) aO)))) rfl rfl))
   aM)⟩
abbrev sm:List Str:=["order"]
theorem KH:FnScope sm sm (aA (top 46)):=bD
def BS:UT "order_text" sm 1 [Md.bw] sm:=⟨_,fun T=>
 bK (m':=[Md.bw]) T.a3 KH fun hr hu1=>(aG (aZ (mX (kl (aB 0) (bE iX)) da (@dh _ _ _ _ _ _ _ _ _ _ (bE (dM (SO.toB (dX (bP da bS))) (SO.toB (fD ["hand"] [] KH.nd (dq (aB 0)) (k6 (by rfl) T.e (bB (aB 0) bF)))))) rfl rfl)))
   aM)⟩
def S0:=bN false sm BS.1
abbrev sn:List Str:=["top","bottom"]
def Kg:UT "share_text" sn 1 q0 sn:=⟨_,fun T=>
 bK (m':=q0) T.a4 bD fun hr hu1=>have hu64:=hr.units;(aG (aZ (mX (dQ hu64 (aB 1) iB) (Vf (qL (aB 0))) (sL (t8 (qL (aB 0)) (Dn (t8 (qL (aB 1)) Dm))))))
   aM)⟩
def Kq:=bN false sn Kg.1
abbrev oi:List Str:=["shares"]
theorem Lh:FnScope oi oi (aA (top 48)):=bD
def xl:UT "shares_text" oi 2 [Md.bw] oi:=⟨_,fun T=>
 bK (m':=[Md.bw]) T.a5 Lh fun hr hu1=>(aG (aZ (@dh _ _ _ _ _ _ _ _ _ _ (SO.toB (qp ["top","bottom"] [] Lh.nd (dq (aB 0)) (aQ (Kg.2 T) (aD (aB 0) (aD (aB 1) aO))))) rfl rfl))
   aM)⟩
def TD:=bN false oi xl.1
abbrev ss:List Str:=["row","things"]
theorem Kj:FnScope ss ss (aA (top 50)):=bD
def qb:UT "best_left" ss 1 q0 ss:=⟨_,fun T=>
 bK (m':=q0) T.a6 Kj fun hr hu1=>(aG (aZ (d9 hu1 (SO.toB (fD ["thing","things"] [1] Kj.nd (dq (aB 0)) (v_ 0) (hq:=(kY (l6 hu1 (aB 0) (aB 1)))))) iB))
   aM)⟩
def jP:=bN false ss qb.1
abbrev BN:List Str:=["owns","line","thing","hand"]
abbrev xf:List Str:=["owns","line","thing"]
theorem KI:FnScope BN xf (aA (top 51)):=bD
abbrev xb:FS:=(aI (eV mh (cK (f2 (f2 (gv 0) (gv 3) bV) (gv 2) eqD)) (aI (dG mh (gv 3)) bR) bR) bR)
def BU:UT "owner_left" xf 1 ju BN:=⟨_,fun T=>
 bK (m':=mh) T.a7 KI fun hr hu1=>have hu64:=hr.units;(aG (za z_ rfl (dq (aB 1)) (fun _=>(c7 3 KI.nd)) (fun _=>(aG (cD (dQ hu64 (xB hu1 (aB 0) (aB 3)) (aB 2)) (aG (aZ (v_ 3))
   aM)
   aM)
   aM)))
   (aG (aZ iX)
   aM))⟩
def J3:=bN false BN BU.1
abbrev BI:List Str:=["hands"]
def K1:UT "ones_behind" BI 1 [Md.bw] BI:=⟨_,fun T=>
 bK (m':=[Md.bw]) T.a8 bD fun hr hu1=>(aG (aZ (pE (bE (lD (aB 0) (g9 iB) g6)) (bE (lD (aB 0) g6 (g9 iB)))))
   aM)⟩
def TC:=bN false BI K1.1
abbrev zZ:List Str:=["rings","got","ring","hand","thing"]
theorem rQ:FnScope zZ og (aA (top 53)):=bD
abbrev Ju:FS:=(aI (putF [.bw,.ow,.sh,.sh,.sh] 1 (gv 3) (gv 4)) bR)
abbrev Rt:FS:=(aI (j6 [.bw,.ow,.sh,.sh,.sh] (bI cS (gv 2)) (gy (de (bC 3) (de (bC 4) gB))) Ju) bR)
def vY:UT "got_in" og 1 [Md.bw] zZ:=⟨_,fun T=>
 bK (m':=oE) T.a9 rQ fun hr hu1=>(aG (dU 1 rQ.nd (by rfl) (du rfl) kU)
   (aG (m7 z_ rfl (pA (nB 0)) (c7 2 rQ.nd) (aG (iW z_ rfl (pj (v_ 2)) (j5 rfl (fu (c7 3 rQ.nd) (fu (c7 4 rQ.nd) j4))) (aG (kP 1 hu1 rfl (by rfl) (cN rfl) (aB 3) (v_ 4))
   aM))
   aM))
   (aG (jH 1 rfl (aZ (v_ 1)))
   aM)))⟩
def vW:=bN false zZ vY.1
abbrev sk:List Str:=["got"]
theorem KB:FnScope sk sk (aA (top 54)):=bD
def wQ:UT "dealing_of" sk 1 [Md.bw] sk:=⟨_,fun T=>
 bK (m':=[Md.bw]) T.ba KB fun hr hu1=>(aG (aZ (iI (by rfl) T.d (bB (SO.toB (fD ["hand","got"] [0] KB.nd (iU.toC (lj (by rfl) T.b (bB (bE (dB (by rfl) T.a (bB (aB 0) bF))) bF))) (d9 hu1 (aB 1) (aB 0)))) bF)))
   aM)⟩
def SX:=bN false sk wQ.1
abbrev Cc:List Str:=["owns","askers","turn","hands"]
abbrev Lw:List Str:=["owns","askers"]
theorem xo:FnScope Cc Lw (aA (top 56)):=bD
def Cf:UT "ring_of_askers" Lw 2 q0 Cc:=⟨_,fun T=>
 bK (m':=fg) T.bb xo fun hr hu1=>(aG (cF 2 xo.nd (dY PySem.F.plainAttrs_list PySem.F.slot_list_index PySem.F.type_list_index Ig II (aB 1) (bB (bE (MT rfl (by rfl) T.q (bB (aB 1) bF))) bF)))
   (aG (cF 3 xo.nd (pE (bE (lD (aB 1) (g9 (aB 2)) g6)) (bE (lD (aB 1) g6 (g9 (aB 2))))))
   (aG (aZ (iI (by rfl) T.d (bB (SO.toB (qp ["hand","behind","owns"] [0] xo.nd (iU.toC (t0 (by rfl) T.l (v_ 3) (aQ (K1.2 T) (aD (aB 3) aO)))) (gb (bP (v_ 0) (bP (d9 hu1 (aB 2) (aB 1)) bS))))) bF)))
   aM)))⟩
def Uf:=bN false Cc Cf.1
abbrev Bz:List Str:=["wishes","owns","line","things","askers","hand","thing","owner"]
abbrev KR:List Str:=["wishes","owns","line","things","askers"]
theorem wU:FnScope Bz KR (aA (top 57)):=bD
def Bi:UT "next_deed" KR 3 [.bw,.bw,.bw,.bw,.bw] Bz:=⟨_,fun T=>
 bK (m':=jt) T.bc wU fun hr hu1=>have hu64:=hr.units;(aG (cF 5 wU.nd (d9 hu1 (aB 4) (bE (yg iB))))
   (aG (cF 6 wU.nd (aQ (qb.2 T) (aD (xB hu1 (aB 0) (aB 5)) (aD (aB 3) aO))))
   (aG (cF 7 wU.nd (aQ (BU.2 T) (aD (aB 1) (aD (aB 2) (aD (aB 6) aO)))))
   (aG (cD (SW.toQ (gI (kl (aB 7) (bE iX)) (mT (dQ hu64 (aB 7) (aB 5))))) (aG (aZ (gb (bP da (bP (v_ 5) (bP (v_ 6) bS)))))
   aM)
   aM)
   (aG (cD (nM hu1 (aB 7) (aB 4)) (aG (aZ (gb (bP da (bP (v_ 7) (bP (v_ 6) bS)))))
   aM)
   aM)
   (aG (aZ (gb (bP da (bP (aQ (Cf.2 T) (aD (aB 1) (aD (bE (lD (aB 4) (g9 (bE (dY PySem.F.plainAttrs_list PySem.F.slot_list_index PySem.F.type_list_index Ig II (aB 4) (bB (aB 7) bF)))) g6)) aO))) bS))))
   aM))))))⟩
def nw:=bN false Bz Bi.1
def AJ:UT "pairs_of" sj 1 [Md.bw] sj:=⟨_,fun T=>
 bK (m':=[Md.bw]) T.bd bD fun hr hu1=>have hu64:=hr.units;(aG (cD (dQ hu64 (xB hu1 (aB 0) iB) (bE da)) (aG (aZ (gb bS))
   aM)
   aM)
   (aG (aZ (mX (dQ hu64 (xB hu1 (aB 0) iB) (bE da)) (d9 hu1 (aB 0) iB) (gb (bP (lD (aB 0) (g9 iB) g6) bS))))
   aM))⟩
def Js:=bN false sj AJ.1
abbrev zk:List Str:=["wishes","owns","order","line","things","askers","told","deed","got","taken"]
abbrev pW:List Str:=["wishes","owns","order"]
theorem jO:FnScope zk pW (aA (top 59)):=bD
abbrev PU:FQ:=(di (gv 3))
abbrev IJ:FS:=(aI (eV gt (fQ (di (gv 5))) (aI (aR gt 5 (jv (aH (f2 (gv 3) (ci 0) bV) aE))) bR) bR) (aI (aR gt 7 (bM (aH (gv 0) (aH (gv 1) (aH (gv 3) (aH (gv 4) (aH (gv 5) aE))))) [] nw)) (aI (cJ "list" gt 6 (aH (gv 7) aE) appD) (aI (eV gt (cK (f2 (f2 (gv 7) (ci 0) bV) (fun _=>Res.ok (D.str "ahead")) eqD)) (aI (cJ "list" gt 5 (aH (f2 (gv 7) (ci 1) bV) aE) appD) bR) bR) (aI (aR gt 8 (bM (aH (jv (aH (bM (aH (gv 7) aE) [] Js) aE)) aE) [] vW)) (aI (aR gt 9 (f1 (gv 8) uP)) (aI (aR gt 3 (cZ 1 [8] (bI cS (gv 3)) (bC 0) (cK (f2 (gv 0) (gv 1) eG)) (gv 0))) (aI (aR sS 5 (cZ 1 [8] (bI cS (gv 5)) (bC 0) (cK (f2 (gv 0) (gv 1) eG)) (gv 0))) (aI (aR sS 4 (cZ 1 [9] (bI cS (gv 4)) (bC 0) (cK (f2 (gv 0) (gv 1) eG)) (gv 0))) bR)))))))))
def vG:UT "asked" pW 7 ju zk:=⟨_,fun T=>
 rn (ds:=[]) (k:=6) (m':=[.bw,.bw,.bw,.sh,.sh,.ow,.sh,.sh,.sh,.sh]) T.be jO rfl 3 rfl (fun _ _ _ _ _ _ _ us hl=>by obtain⟨u0,u1,u2,rfl⟩:=yr us hl;exact⟨_,rfl,rfl⟩) fun f cdv A outer s H g E hr=>
 have hu1:=lB hr;have hu64:=hr.units
 (aG (cF 3 jO.nd (aQ (qc.2 T) (aD (aB 0) (aD (aB 2) aO))))
   (aG (cF 4 jO.nd (SO.toE (pM rfl (by rfl) T.f (by rfl) T.b (bB (bE (aQ (kh.2 T) (aD (aB 0) aO))) bF))))
   (aG (dU 5 jO.nd (by rfl) (du rfl) (dX bS))
   (aG (dU 6 jO.nd (by rfl) (du rfl) (dX bS))
   (aG (pN 64 z_ (ga (aB 3)) (pZ (m':=[.bw,.bw,.bw,.sh,.ow,.ow,.ow,.sh,.sh,.sh]) 4 (pZ (m':=[.bw,.bw,.bw,.ow,.ow,.ow,.ow,.sh,.sh,.sh]) 3 (aG (cD (jg (ga (aB 5))) (aG (dU 5 jO.nd (by rfl) (du rfl) (dX (bP (d9 hu1 (aB 3) iB) bS)))
   aM)
   aM)
   (aG (cF 7 jO.nd (aQ (Bi.2 T) (aD (aB 0) (aD (aB 1) (aD (aB 3) (aD (aB 4) (aD (aB 5) aO)))))))
   (aG (eQ 6 rfl PySem.F.plainAttrs_list PySem.F.slot_list_append PySem.F.type_list_append fw fY (by rfl) (cN rfl) (bP (v_ 7) bS))
   (aG (cD (dQ hu64 (xB hu1 (aB 7) iB) (bE da)) (aG (eQ 5 rfl PySem.F.plainAttrs_list PySem.F.slot_list_append PySem.F.type_list_append fw fY (by rfl) (cN rfl) (bP (d9 hu1 (aB 7) iB) bS))
   aM)
   aM)
   (aG (cF 8 jO.nd (aQ (vY.2 T) (aD (SO.toB (dX (bP (aQ (AJ.2 T) (aD (aB 7) aO)) bS))) aO)))
   (aG (cF 9 jO.nd (SO.toE (Er rfl (by rfl) T.f (aB 8))))
   (aG (sc1 3 ["hand","got"] [8] jO.nd (dq (aB 3)) (v_ 0) (hq:=(kY (nM hu1 (aB 0) (aB 1)))))
   (aG (sc1 5 ["hand","got"] [8] jO.nd (dq (aB 5)) (v_ 0) (hq:=(kY (nM hu1 (aB 0) (aB 1)))))
   (aG (sc1 4 ["thing","taken"] [9] jO.nd (dq (aB 4)) (v_ 0) (hq:=(kY (nM hu1 (aB 0) (aB 1)))))
   aM))))))))) rfl) rfl))
   (aG (jH 6 rfl (aZ (v_ 6)))
   aM))))))⟩
def zh:=bN false zk vG.1
abbrev Ca:List Str:=["owns","line","thing","owner"]
theorem Lz:FnScope Ca xf (aA (top 96)):=bD
def LA:UT "hand_pointed_at" xf 2 ju Ca:=⟨_,fun T=>
 bK (m':=mh) T.bf Lz fun hr hu1=>(aG (cF 3 Lz.nd (aQ (BU.2 T) (aD (aB 0) (aD (aB 1) (aD (aB 2) aO)))))
   (aG (aZ (mX (kl (aB 3) (bE iX)) (d9 hu1 (aB 1) iB) (v_ 3)))
   aM))⟩
def B9:=bN false Ca LA.1
abbrev BC:List Str:=["first","targets","behind","ring","hand"]
abbrev KU:List Str:=["first","targets","behind"]
theorem wV:FnScope BC KU (aA (top 97)):=bD
abbrev Ts:FQ:=(ig (cK (f2 (gv 4) (gv 0) mG)) (cK (f2 (fC (aH (gv 3) aE) lenD) (fC (aH (gv 1) aE) lenD) mq)))
abbrev TK:FS:=(aI (cJ "list" mf 3 (aH (jU (aH (gv 4) (aH (f2 (gv 1) (gv 4) bV) aE))) aE) appD) (aI (aR mf 4 (f2 (gv 2) (gv 4) bV)) bR))
def JA:UT "ring_from" KU 1 [.sh,.bw,.bw] BC:=⟨_,fun T=>
 bK (m':=mf) T.bg wV fun hr hu1=>have hu64:=hr.units;(aG (dU 3 wV.nd (by rfl) (du rfl) (dX (bP (gb (bP (v_ 0) (bP (d9 hu1 (aB 1) (aB 0)) bS))) bS)))
   (aG (cF 4 wV.nd (d9 hu1 (aB 2) (aB 0)))
   (aG (pN 64 z_ (SW.toQ (DU (km (aB 4) (aB 0)) (EC (jq (bE (dB (by rfl) T.a (bB (aB 3) bF))) (bE (dB (by rfl) T.a (bB (aB 1) bF))))))) (aG (eQ 3 rfl PySem.F.plainAttrs_list PySem.F.slot_list_append PySem.F.type_list_append fw fY (by rfl) (cN rfl) (bP (gb (bP (v_ 4) (bP (d9 hu1 (aB 1) (aB 4)) bS))) bS))
   (aG (cF 4 wV.nd (d9 hu1 (aB 2) (aB 4)))
   aM)))
   (aG (aZ (mX (dQ hu64 (aB 4) (aB 0)) (iI (by rfl) T.d (bB (aB 3) bF)) iX))
   aM))))⟩
def Sw:=bN false BC JA.1
abbrev Cd:List Str:=["wishes","owns","line","things","targets","behind","hand","walks"]
abbrev Lx:List Str:=["wishes","owns","line","things"]
theorem qj:FnScope Cd Lx (aA (top 98)):=bD
abbrev Um:FS:=(aI (putF sR 4 (gv 6) (bM (aH (f2 (gv 0) (gv 6) bV) (aH (gv 3) aE)) [] jP)) (aI (putF sR 5 (gv 6) (bM (aH (gv 1) (aH (gv 2) (aH (f2 (gv 4) (gv 6) bV) aE))) [] B9)) bR))
def Cg:UT "rings_of_round" Lx 3 [.bw,.bw,.bw,.bw] Cd:=⟨_,fun T=>
 bK (m':=[.bw,.bw,.bw,.bw,.ow,.ow,.sh,.ow]) T.bh qj fun hr hu1=>(aG (dU 4 qj.nd (by rfl) (du rfl) kU)
   (aG (dU 5 qj.nd (by rfl) (du rfl) kU)
   (aG (m7 z_ rfl (pA (nB 2)) (c7 6 qj.nd) (aG (kP 4 hu1 rfl (by rfl) (cN rfl) (aB 6) (aQ (qb.2 T) (aD (xB hu1 (aB 0) (aB 6)) (aD (aB 3) aO))))
   (aG (kP 5 hu1 rfl (by rfl) (cN rfl) (aB 6) (aQ (LA.2 T) (aD (aB 1) (aD (aB 2) (aD (xB hu1 (aB 4) (aB 6)) aO)))))
   aM)))
   (aG (sc1 7 ["hand","targets","behind"] [4,5] qj.nd (dq (aB 2)) (aQ (JA.2 T) (aW (v_ 0) (aD (aB 1) (aD (aB 2) aO)))))
   (aG (aZ (SO.toE (Ph hr (by rfl) T.t (bB (SO.toB (fD ["ring"] [] qj.nd (dq (aB 7)) (v_ 0) (hq:=(kY (DX (aB 0) (bE iX)))))) bF))))
   aM)))))⟩
def Ln:=bN false Cd Cg.1
abbrev z9:List Str:=["wishes","owns","order","line","things","told","rings","got","taken"]
theorem lR:FnScope z9 pW (aA (top 99)):=bD
abbrev Rx:FQ:=(di (gv 3))
abbrev Rv:FS:=(aI (aR ku 6 (bM (aH (gv 0) (aH (gv 1) (aH (gv 3) (aH (gv 4) aE)))) [] Ln)) (aI (aR ku 7 (bM (aH (gv 6) aE) [] vW)) (aI (aR ku 8 (f1 (gv 7) uP)) (aI (aR ku 3 (cZ 1 [7] (bI cS (gv 3)) (bC 0) (cK (f2 (gv 0) (gv 1) eG)) (gv 0))) (aI (aR [.bw,.bw,.bw,.ow,.sh,.ow,.sh,.sh,.sh] 4 (cZ 1 [8] (bI cS (gv 4)) (bC 0) (cK (f2 (gv 0) (gv 1) eG)) (gv 0))) (aI (cJ "list" sQ 5 (aH (gv 6) aE) appD) bR))))))
def rN:UT "rounds" pW 7 ju z9:=⟨_,fun T=>
 rn (ds:=[]) (k:=6) (m':=[.bw,.bw,.bw,.sh,.sh,.sh,.sh,.sh,.sh]) T.bi lR rfl 3 rfl (fun _ _ _ _ _ _ _ us hl=>by obtain⟨u0,u1,u2,rfl⟩:=yr us hl;exact⟨_,rfl,rfl⟩) fun f cdv A outer s H g E hr=>
 have hu1:=lB hr;have hu64:=hr.units
 (aG (cF 3 lR.nd (aQ (qc.2 T) (aD (aB 0) (aD (aB 2) aO))))
   (aG (cF 4 lR.nd (SO.toE (pM rfl (by rfl) T.f (by rfl) T.b (bB (bE (aQ (kh.2 T) (aD (aB 0) aO))) bF))))
   (aG (dU 5 lR.nd (by rfl) (du rfl) (dX bS))
   (aG (pN 64 z_ (ga (aB 3)) (pZ (m':=[.bw,.bw,.bw,.sh,.ow,.ow,.sh,.sh,.sh]) 4 (pZ (m':=sQ) 3 (aG (cF 6 lR.nd (aQ (Cg.2 T) (aD (aB 0) (aD (aB 1) (aD (aB 3) (aD (aB 4) aO))))))
   (aG (cF 7 lR.nd (aQ (vY.2 T) (aD (aB 6) aO)))
   (aG (cF 8 lR.nd (SO.toE (Er rfl (by rfl) T.f (aB 7))))
   (aG (sc1 3 ["hand","got"] [7] lR.nd (dq (aB 3)) (v_ 0) (hq:=(kY (nM hu1 (aB 0) (aB 1)))))
   (aG (sc1 4 ["thing","taken"] [8] lR.nd (dq (aB 4)) (v_ 0) (hq:=(kY (nM hu1 (aB 0) (aB 1)))))
   (aG (eQ 5 rfl PySem.F.plainAttrs_list PySem.F.slot_list_append PySem.F.type_list_append fw fY (by rfl) (cN rfl) (bP (v_ 6) bS))
   aM)))))) rfl) rfl))
   (aG (jH 5 rfl (aZ (v_ 5)))
   aM)))))⟩
def vX:=bN false z9 rN.1
abbrev AV:List Str:=["wishes","owns","order","got","rings"]
theorem Bq:FnScope AV pW (aA (top 100)):=bD
abbrev Tn:FS:=(aI (cJ "dict" [.bw,.bw,.bw,.ow,.sh] 3 (aH (bM (aH (gv 4) aE) [] vW) aE) updD) bR)
def wJ:UT "by_rings" pW 8 ju AV:=⟨_,fun T=>
 rn (ds:=[]) (k:=7) (m':=[.bw,.bw,.bw,.ow,.sh]) T.bj Bq rfl 3 rfl (fun _ _ _ _ _ _ _ us hl=>by obtain⟨u0,u1,u2,rfl⟩:=yr us hl;exact⟨_,rfl,rfl⟩) fun f cdv A outer s H g E hr=>
 have hu1:=lB hr;have hu64:=hr.units
 (aG (dU 3 Bq.nd (by rfl) (du rfl) kU)
   (aG (iW z_ rfl (pj (aQ (rN.2 T) (aD (aB 0) (aD (aB 1) (aD (aB 2) aO))))) (c7 4 Bq.nd) (aG (eQ 3 rfl PySem.F.plainAttrs_dict PySem.F.slot_dict_update PySem.F.type_dict_update Rc NJ (by rfl) (cN rfl) (bP (aQ (vY.2 T) (aD (aB 4) aO)) bS))
   aM))
   (aG (aZ (aQ (wQ.2 T) (aD (aB 3) aO)))
   aM)))⟩
def wA:=bN false AV wJ.1
abbrev AU:List Str:=["wishes","order","things","got","hand"]
theorem wY:FnScope AU n5 (aA (top 93)):=bD
abbrev Tl:FS:=(aI (putF oC 3 (gv 4) (bM (aH (f2 (gv 0) (gv 4) bV) (aH (gv 2) aE)) [] jP)) (aI (cJ "list" oC 2 (aH (f2 (gv 3) (gv 4) bV) aE) remD) bR))
def rV:UT "by_order" n5 7 q0 AU:=⟨_,fun T=>
 rn (ds:=[]) (k:=6) (m':=oC) T.bk wY rfl 2 rfl (fun _ _ _ _ _ _ _ us hl=>by obtain⟨u0,u1,rfl⟩:=yq us hl;exact⟨_,rfl,rfl⟩) fun f cdv A outer s H g E hr=>
 have hu1:=lB hr;have hu64:=hr.units
 (aG (dU 2 wY.nd (by rfl) (du rfl) (pM rfl (by rfl) T.f (by rfl) T.b (bB (bE (aQ (kh.2 T) (aD (aB 0) aO))) bF)))
   (aG (dU 3 wY.nd (by rfl) (du rfl) kU)
   (aG (iW z_ rfl (pj (aQ (qc.2 T) (aD (aB 0) (aD (aB 1) aO)))) (c7 4 wY.nd) (aG (kP 3 hu1 rfl (by rfl) (cN rfl) (aB 4) (aQ (qb.2 T) (aD (xB hu1 (aB 0) (aB 4)) (aD (aB 2) aO))))
   (aG (eQ 2 rfl PySem.F.plainAttrs_list PySem.F.slot_list_remove PySem.F.type_list_remove AA yN (by rfl) (cN rfl) (bP (d9 hu1 (aB 3) (aB 4)) bS))
   aM)))
   (aG (aZ (aQ (wQ.2 T) (aD (aB 3) aO)))
   aM))))⟩
def AT:=bN false AU rV.1
abbrev B1:List Str:=["wishes","dealing","hands","things","order","served"]
abbrev Lo:List Str:=["wishes","dealing"]
theorem sx:FnScope B1 Lo (aA (top 94)):=bD
abbrev Ce:FQ:=(di (gv 2))
abbrev Cb:FS:=(aI (aR ma 5 (cZ 1 [3,1,0] (bI cS (gv 2)) (bC 0) (cK (f2 (bM (aH (f2 (gv 3) (gv 0) bV) (aH (gv 1) aE)) [] jP) (f2 (gv 2) (gv 0) bV) eqD)) (gv 0))) (aI (eV js (fQ (di (gv 5))) (aI (dG js (fun _=>Res.ok D.non)) bR) bR) (aI (cJ "list" js 4 (aH (f2 (gv 5) (ci 0) bV) aE) appD) (aI (cJ "list" js 2 (aH (f2 (gv 5) (ci 0) bV) aE) remD) (aI (cJ "list" js 3 (aH (f2 (gv 1) (f2 (gv 5) (ci 0) bV) bV) aE) remD) bR)))))
def qd:UT "order_behind" Lo 2 q0 B1:=⟨_,fun T=>
 bK (m':=[.bw,.bw,.ow,.ow,.sh,.sh]) T.bl sx fun hr hu1=>have hu64:=hr.units;(aG (dU 2 sx.nd (by rfl) (du rfl) (pM rfl (by rfl) T.f (by rfl) T.b (bB (bE (dB (by rfl) T.a (bB (aB 0) bF))) bF)))
   (aG (dU 3 sx.nd (by rfl) (du rfl) (pM rfl (by rfl) T.f (by rfl) T.b (bB (bE (aQ (kh.2 T) (aD (aB 0) aO))) bF)))
   (aG (dU 4 sx.nd (by rfl) (du rfl) (dX bS))
   (aG (pN 64 z_ (ga (aB 2)) (pZ (m':=js) 5 (aG (sc1 5 ["hand","things","dealing","wishes"] [3,1,0] sx.nd (dq (aB 2)) (v_ 0) (hq:=(kY (dQ hu64 (bE (aQ (qb.2 T) (aD (xB hu1 (aB 3) (aB 0)) (aD (aB 1) aO)))) (xB hu1 (aB 2) (aB 0))))))
   (aG (cD (jg (ga (aB 5))) (aG (aZ iX)
   aM)
   aM)
   (aG (eQ 4 rfl PySem.F.plainAttrs_list PySem.F.slot_list_append PySem.F.type_list_append fw fY (by rfl) (cN rfl) (bP (d9 hu1 (aB 5) iB) bS))
   (aG (eQ 2 rfl PySem.F.plainAttrs_list PySem.F.slot_list_remove PySem.F.type_list_remove AA yN (by rfl) (cN rfl) (bP (d9 hu1 (aB 5) iB) bS))
   (aG (eQ 3 rfl PySem.F.plainAttrs_list PySem.F.slot_list_remove PySem.F.type_list_remove AA yN (by rfl) (cN rfl) (bP (d9 hu1 (aB 1) (xB hu1 (aB 5) iB)) bS))
   aM))))) rfl))
   (aG (jH 4 rfl (aZ (v_ 4)))
   aM)))))⟩
def xa:=bN false B1 qd.1
abbrev Cm:List Str:=["one","other","rest"]
abbrev LB:List Str:=["one","other"]
theorem xp:FnScope Cm LB (aA (top 63)):=bD
abbrev xr:FQ:=(cK (f2 (gv 1) (ci 0) neD))
abbrev xq:FS:=(aI (aR iP 2 (f2 (gv 0) (gv 1) cO)) (aI (aR iP 0 (gv 1)) (aI (aR iP 1 (gv 2)) bR)))
def Ly:UT "greatest_divisor" LB 1 gJ Cm:=⟨_,fun T=>
 bK (m':=iP) T.bm xp fun hr hu1=>have hu64:=hr.units;(aG (pN 1000 z_ (l5 hu64 (aB 1) iB) (aG (cF 2 xp.nd (iG (aB 0) (aB 1)))
   (aG (cF 0 xp.nd (v_ 1))
   (aG (cF 1 xp.nd (v_ 2))
   aM))))
   (aG (aZ (Vd (by rfl) T.u (bB (aB 0) bF)))
   aM))⟩
def Ul:=bN false Cm Ly.1
abbrev AW:List Str:=["top","bottom","divisor"]
theorem Br:FnScope AW sn (aA (top 64)):=bD
def n6:UT "fraction" sn 2 gJ AW:=⟨_,fun T=>
 bK (m':=iP) T.bn Br fun hr hu1=>have hu64:=hr.units;(aG (cD (SW.toQ (gI (jg (ga (bE (aQ (wL.2 T) (aD (aB 0) aO))))) (gI (jg (ga (bE (aQ (wL.2 T) (aD (aB 1) aO))))) (mT (dQ hu64 (aB 1) iB))))) (aG jM
   aM)
   aM)
   (aG (cF 2 Br.nd (aQ (Ly.2 T) (aW (v_ 0) (aW (v_ 1) aO))))
   (aG (cD (jq (aB 1) iB) (aG (cF 2 Br.nd (yg (aB 2)))
   aM)
   aM)
   (aG (aZ (gb (bP (GW (aB 0) (aB 2)) (bP (GW (aB 1) (aB 2)) bS))))
   aM))))⟩
def rS:=bN false AW n6.1
abbrev jJ:List Str:=["a","b"]
def yD:UT "plus" jJ 3 q0 jJ:=⟨_,fun T=>
 bK (m':=q0) T.bo bD fun hr hu1=>(aG (aZ (aQ (n6.2 T) (aW (dM (bE (k0 (xB hu1 (aB 0) iB) (xB hu1 (aB 1) iB))) (bE (k0 (xB hu1 (aB 1) iB) (xB hu1 (aB 0) iB)))) (aW (k0 (xB hu1 (aB 0) iB) (xB hu1 (aB 1) iB)) aO))))
   aM)⟩
def uS:=bN false jJ yD.1
def Fm:UT "minus" jJ 3 q0 jJ:=⟨_,fun T=>
 bK (m':=q0) T.bp bD fun hr hu1=>(aG (aZ (aQ (n6.2 T) (aW (UC (bE (k0 (xB hu1 (aB 0) iB) (xB hu1 (aB 1) iB))) (bE (k0 (xB hu1 (aB 1) iB) (xB hu1 (aB 0) iB)))) (aW (k0 (xB hu1 (aB 0) iB) (xB hu1 (aB 1) iB)) aO))))
   aM)⟩
def zi:=bN false jJ Fm.1
def zT:UT "times" jJ 3 q0 jJ:=⟨_,fun T=>
 bK (m':=q0) T.bq bD fun hr hu1=>(aG (aZ (aQ (n6.2 T) (aW (k0 (xB hu1 (aB 0) iB) (xB hu1 (aB 1) iB)) (aW (k0 (xB hu1 (aB 0) iB) (xB hu1 (aB 1) iB)) aO))))
   aM)⟩
def re:=bN false jJ zT.1
def EV:UT "less" jJ 1 q0 jJ:=⟨_,fun T=>
 bK (m':=q0) T.br bD fun hr hu1=>(aG (aZ (sJ (bE (k0 (xB hu1 (aB 0) iB) (xB hu1 (aB 1) iB))) (bE (k0 (xB hu1 (aB 1) iB) (xB hu1 (aB 0) iB)))))
   aM)⟩
def yA:=bN false jJ EV.1
abbrev zo:List Str:=["shares","told","share"]
theorem we:FnScope zo oi (aA (top 69)):=bD
abbrev PR:FS:=(aI (eV jr (di (bM (aH (gv 2) (aH (gv 1) aE)) [] yA)) (aI (aR jr 1 (gv 2)) bR) bR) bR)
def Fl:UT "least" oi 2 [Md.bw] zo:=⟨_,fun T=>
 bK (m':=jr) T.bs we fun hr hu1=>(aG (cF 1 we.nd (d9 hu1 (aB 0) iB))
   (aG (za z_ rfl (dq (aB 0)) (fun _=>(c7 2 we.nd)) (fun _=>(aG (cD (ga (bE (aQ (EV.2 T) (aD (aB 2) (aD (aB 1) aO))))) (aG (cF 1 we.nd (v_ 2))
   aM)
   aM)
   aM)))
   (aG (aZ (v_ 1))
   aM)))⟩
def NN:=bN false zo Fl.1
abbrev sD:List Str:=["left","targets"]
theorem LF:FnScope sD sD (aA (top 71)):=bD
def Ck:UT "time_until_one_is_gone" sD 4 q0 sD:=⟨_,fun T=>
 bK (m':=q0) T.bt LF fun hr hu1=>(aG (aZ (aQ (Fl.2 T) (aD (SO.toB (fD ["thing","left","targets"] [0,1] LF.nd (dq (aB 1)) (aQ (zT.2 T) (aD (xB hu1 (aB 1) (aB 0)) (aD (bE (aQ (n6.2 T) (aW uO (aW (dY PySem.F.plainAttrs_list PySem.F.slot_list_count PySem.F.type_list_count Az Aw (aB 2) (bB (aB 0) bF)) aO)))) aO))))) aO)))
   aM)⟩
def LC:=bN false sD Ck.1
abbrev BM:List Str:=["left","targets","span","after","thing","bites"]
abbrev La:List Str:=["left","targets","span"]
theorem xm:FnScope BM La (aA (top 72)):=bD
abbrev Uc:FS:=(aI (aR gs 5 (bM (aH (fM "list" (gv 1) (aH (gv 4) aE) pw) (aH (ci 1) aE)) [] rS)) (aI (putF gs 3 (gv 4) (bM (aH (f2 (gv 0) (gv 4) bV) (aH (bM (aH (gv 5) (aH (gv 2) aE)) [] re) aE)) [] zi)) bR))
def Kx:UT "left_after" La 4 [.sh,.bw,.bw] BM:=⟨_,fun T=>
 bK (m':=[.sh,.bw,.bw,.sh,.sh,.sh]) T.bu xm fun hr hu1=>(aG (dU 3 xm.nd (by rfl) (du rfl) kU)
   (aG (EG z_ rfl (v_ 0) (fun _=>(c7 4 xm.nd)) (fun _=>(aG (cF 5 xm.nd (aQ (n6.2 T) (aW (dY PySem.F.plainAttrs_list PySem.F.slot_list_count PySem.F.type_list_count Az Aw (aB 1) (bB (aB 4) bF)) (aW uO aO))))
   (aG (kP 3 hu1 rfl (by rfl) (cN rfl) (aB 4) (aQ (Fm.2 T) (aD (xB hu1 (aB 0) (aB 4)) (aD (bE (aQ (zT.2 T) (aD (aB 5) (aD (aB 2) aO)))) aO))))
   aM))))
   (aG (jH 3 rfl (aZ (v_ 3)))
   aM)))⟩
def J2:=bN false BM Kx.1
abbrev A0:List Str:=["left","told","thing"]
abbrev Kt:List Str:=["left"]
theorem Bs:FnScope A0 Kt (aA (top 73)):=bD
abbrev Tq:FS:=(aI (eV [.sh,.ow,.sh] (cK (f2 (f2 (gv 0) (gv 2) bV) (fun _=>Res.ok (D.tup [D.int 0,D.int 1])) neD)) (aI (putF [.sh,.ow,.sh] 1 (gv 2) (f2 (gv 0) (gv 2) bV)) bR) bR) bR)
def Ja:{B // ∀{P w K U N} (T:Txt K U),Callee P w K U N "not_gone" Kt [] 1 true [Md.sh] (bN true A0 B)}:=⟨_,fun T=>
 bK (m':=[.sh,.ow,.sh]) T.bv Bs fun Y L=>have M:=Y.units;(aG (dU 1 Bs.nd (by rfl) (du rfl) kU)
   (aG (EG z_ rfl (v_ 0) (fun _=>(c7 2 Bs.nd)) (fun _=>(aG (cD (l5 M (xB L (aB 0) (aB 2)) (bE (vP (by rfl) T.n))) (aG (kP 1 L rfl (by rfl) (cN rfl) (aB 2) (d9 L (aB 0) (aB 2)))
   aM)
   aM)
   aM)))
   (aG (MU 1 rfl (by rfl) (cN rfl))
   aM)))⟩
def Rp:=Ja.1
def Jr:=bN true A0 Rp
abbrev AZ:List Str:=["wishes","left","thing","told","targets","span","after"]
theorem lP:FnScope AZ gl (aA (top 74)):=bD
abbrev Tr:FQ:=(di (gv 1))
abbrev To:FS:=(aI (putF [.bw,.ow,.sh,.sh,.sh,.sh,.sh] 1 (gv 2) (fun _=>Res.ok (D.tup [D.int 1,D.int 1]))) bR)
abbrev Tp:FS:=(aI (aR oB 4 (cZ 1 [1] (bI cS (gv 0)) (bC 0) (fun _=>Res.ok true) (bM (aH (gv 0) (aH (gv 1) aE)) [] jP))) (aI (aR [.bw,.ow,.sh,.ow,.ow,.sh,.sh] 5 (bM (aH (gv 1) (aH (gv 4) aE)) [] LC)) (aI (aR [.bw,.sh,.sh,.ow,.ow,.sh,.sh] 6 (bM (aH (gv 1) (aH (gv 4) (aH (gv 5) aE))) [] J2)) (aI (aR [.bw,.sh,.sh,.ow,.ow,.sh,.sh] 1 (mn (bM (aH (gv 6) aE) [] Jr))) (aI (cJ "list" oB 3 (aH (jU (aH (gv 4) (aH (gv 5) (aH (fC (aH (cZ 1 [1] (bI nO (gv 6)) (bC 0) (cK (f2 (gv 0) (gv 1) eG)) (gv 0)) aE) tupD) aE)))) aE) appD) bR)))))
def AI:UT "meals_of" gl 5 [Md.bw] AZ:=⟨_,fun T=>
 bK (m':=[.bw,.ow,.sh,.sh,.sh,.sh,.sh]) T.bw lP fun hr hu1=>(aG (dU 1 lP.nd (by rfl) (du rfl) kU)
   (aG (iW z_ rfl (lj (by rfl) T.b (bB (bE (aQ (kh.2 T) (aD (aB 0) aO))) bF)) (c7 2 lP.nd) (aG (kP 1 hu1 rfl (by rfl) (cN rfl) (aB 2) (vP (by rfl) T.aa))
   aM))
   (aG (dU 3 lP.nd (by rfl) (du rfl) (dX bS))
   (aG (pN 64 z_ (ga (aB 1)) (aG (sc1 4 ["row","left"] [1] lP.nd (dq (aB 0)) (aQ (qb.2 T) (aD (aB 0) (aD (aB 1) aO))))
   (aG (cF 5 lP.nd (aQ (Ck.2 T) (aD (aB 1) (aD (aB 4) aO))))
   (aG (jH 1 rfl (cF 6 lP.nd (aQ (Kx.2 T) (aW (v_ 1) (aD (aB 4) (aD (aB 5) aO))))))
   (aG (dU 1 lP.nd (by rfl) (du rfl) (Nu (dds:=[]) (Ja.2 T) (hr.mono (by decide)) (aW (v_ 6) aO)))
   (aG (jH 4 rfl (eQ 3 rfl PySem.F.plainAttrs_list PySem.F.slot_list_append PySem.F.type_list_append fw fY (by rfl) (cN rfl) (bP (gb (bP (v_ 4) (bP (v_ 5) (bP (iI (by rfl) T.d (bB (SO.toB (fD ["thing","left"] [1] lP.nd (NC (v_ 6)) (v_ 0) (hq:=(kY (nM hu1 (aB 0) (aB 1)))))) bF)) bS)))) bS)))
   aM))))))
   (aG (jH 3 rfl (aZ (v_ 3)))
   aM)))))⟩
def Rr:=bN false AZ AI.1
abbrev JV:List Str:=["wishes","hand","meals","shares","targets","span","gone","thing"]
abbrev KY:List Str:=["wishes","hand","meals"]
theorem qi:FnScope JV KY (aA (top 75)):=bD
abbrev TR:FS:=(aI (aR oA 7 (f2 (gv 4) (gv 1) bV)) (aI (putF oA 3 (gv 7) (bM (aH (f2 (gv 3) (gv 7) bV) (aH (gv 5) aE)) [] uS)) bR))
def JC:UT "shares_of" KY 4 ju JV:=⟨_,fun T=>
 bK (m':=oA) T.bx qi fun hr hu1=>(aG (dU 3 qi.nd (by rfl) (du rfl) (ym (dX (bP (vP (by rfl) T.n) bS)) (bE (aQ (kh.2 T) (aD (aB 0) aO)))))
   (aG (m7 z_ rfl (pA (nB 2)) (j5 rfl (fu (c7 4 qi.nd) (fu (c7 5 qi.nd) (fu (c7 6 qi.nd) j4)))) (aG (cF 7 qi.nd (d9 hu1 (aB 4) (aB 1)))
   (aG (kP 3 hu1 rfl (by rfl) (cN rfl) (aB 7) (aQ (yD.2 T) (aD (xB hu1 (aB 3) (aB 7)) (aD (aB 5) aO))))
   aM)))
   (aG (aZ (iI (by rfl) T.d (bB (aB 3) bF)))
   aM)))⟩
abbrev z7:List Str:=["meals","log","now","targets","span","gone"]
abbrev Jv:List Str:=["meals"]
theorem n9:FnScope z7 Jv (aA (top 76)):=bD
abbrev Ru:FS:=(aI (aR [.bw,.ow,.sh,.sh,.sh,.sh] 2 (bM (aH (gv 2) (aH (gv 4) aE)) [] uS)) (aI (cJ "list" [.bw,.ow,.sh,.sh,.sh,.sh] 1 (aH (jU (aH (gv 2) (aH (gv 5) aE))) aE) appD) bR))
def Ac:UT "log_of" Jv 4 [Md.bw] z7:=⟨_,fun T=>
 bK (m':=l9) T.bz n9 fun hr hu1=>(aG (dU 1 n9.nd (by rfl) (du rfl) (dX bS))
   (aG (cF 2 n9.nd (vP (by rfl) T.n))
   (aG (m7 z_ rfl (pA (nB 0)) (j5 rfl (fu (c7 3 n9.nd) (fu (c7 4 n9.nd) (fu (c7 5 n9.nd) j4)))) (aG (cF 2 n9.nd (aQ (yD.2 T) (aD (aB 2) (aD (aB 4) aO))))
   (aG (eQ 1 rfl PySem.F.plainAttrs_list PySem.F.slot_list_append PySem.F.type_list_append fw fY (by rfl) (cN rfl) (bP (gb (bP (v_ 2) (bP (v_ 5) bS))) bS))
   aM)))
   (aG (jH 1 rfl (aZ (v_ 1)))
   aM))))⟩
def PH:=bN false z7 Ac.1
def Bh:UT "is_square" gl 2 [Md.bw] gl:=⟨_,fun T=>
 bK (m':=[Md.bw]) T.b0 bD fun hr hu1=>have hu64:=hr.units;(aG (aZ (gG hu64 (bE (aQ (kh.2 T) (aD (aB 0) aO))) (bE (dB (by rfl) T.a (bB (aB 0) bF)))))
   aM)⟩
def Sv:=bN false gl Bh.1
def Cj:UT "refuse_unless_square" gl 3 [Md.bw] gl:=⟨_,fun T=>
 bK (m':=[Md.bw]) T.b1 bD fun hr hu1=>(aG (cD (jg (ga (bE (aQ (Bh.2 T) (aD (aB 0) aO))))) (aG jM
   aM)
   aM)
   aM)⟩
abbrev zm:List Str:=["wishes","meals","table"]
theorem wd:FnScope zm gl (aA (top 77)):=bD
def vH:UT "eaten" gl 6 [Md.bw] zm:=⟨_,fun T=>
 bK (m':=jr) T.b2 wd fun hr hu1=>(aG (jL (aQ (Cj.2 T) (aD (aB 0) aO)))
   (aG (cF 1 wd.nd (aQ (AI.2 T) (aD (aB 0) aO)))
   (aG (cF 2 wd.nd (iI (by rfl) T.d (bB (SO.toB (fD ["hand","wishes","meals"] [0,1] wd.nd (iU.toC (lj (by rfl) T.b (bB (bE (dB (by rfl) T.a (bB (aB 0) bF))) bF))) (aQ (JC.2 T) (aD (aB 1) (aD (aB 0) (aD (aB 2) aO)))))) bF)))
   (aG (aZ (gb (bP (v_ 2) (bP (aQ (Ac.2 T) (aD (aB 1) aO)) bS))))
   aM))))⟩
def vM:=bN false zm vH.1
def Cn:UT "refuse_too_many_for_lots" gl 1 [Md.bw] gl:=⟨_,fun T=>
 bK (m':=[Md.bw]) T.b3 bD fun hr hu1=>(aG (cD (km (bE (dB (by rfl) T.a (bB (aB 0) bF))) (bE (zq (by rfl) T.z))) (aG jM
   aM)
   aM)
   aM)⟩
abbrev BL:List Str:=["many","orders","number","longer","order","place"]
abbrev K9:List Str:=["many"]
theorem oj:FnScope BL K9 (aA (top 104)):=bD
abbrev K6:FS:=(aI (cJ "list" oy 3 (aH (f2 (f2 (oM (gv 4) (fun _=>Res.ok none) (jd (gv 5))) (jv (aH (gv 2) aE)) addE) (oM (gv 4) (jd (gv 5)) (fun _=>Res.ok none)) addE) aE) appD) bR)
abbrev K7:FS:=(aI (j6 oy (jz iN (aH (f2 (gv 2) (ci 1) addA) aE)) (bC 5) K6) bR)
abbrev Ub:FS:=(aI (aR l9 3 (jv aE)) (aI (j6 oy (bI cS (gv 1)) (bC 4) K7) (aI (aR l9 1 (gv 3)) bR)))
def BP:UT "all_orders" K9 1 [Md.bw] BL:=⟨_,fun T=>
 bK (m':=l9) T.b4 oj fun hr hu1=>(aG (cF 1 oj.nd (SO.toE (dX (bP (SO.toE (dX bS)) bS))))
   (aG (iW z_ rfl (lj (by rfl) T.b (bB (aB 0) bF)) (c7 2 oj.nd) (aG (dU 3 oj.nd (by rfl) (du rfl) (dX bS))
   (aG (iW z_ rfl (pj (v_ 1)) (c7 4 oj.nd) (aG (iW z_ rfl (lj (by rfl) T.b (bB (bE (dM (aB 2) iB)) bF)) (c7 5 oj.nd) (aG (eQ 3 rfl PySem.F.plainAttrs_list PySem.F.slot_list_append PySem.F.type_list_append fw fY (by rfl) (cN rfl) (bP (pE (bE (pE (bE (lD (aB 4) g6 (g9 (aB 5)))) (SO.toB (dX (bP (v_ 2) bS))))) (bE (lD (aB 4) (g9 (aB 5)) g6))) bS))
   aM))
   aM))
   (aG (jH 3 rfl (cF 1 oj.nd (v_ 3)))
   aM))))
   (aG (aZ (v_ 1))
   aM)))⟩
def JY:=bN false BL BP.1
abbrev A7:List Str:=["dealings","things","table","hand","got"]
abbrev KW:List Str:=["dealings","things"]
theorem qh:FnScope A7 KW (aA (top 105)):=bD
abbrev TQ:FS:=(aI (aR fI 4 (cZ 1 [3] (bI cS (gv 0)) (bC 0) (fun _=>Res.ok true) (f2 (gv 0) (gv 1) bV))) (aI (cJ "list" fI 2 (aH (fC (aH (cZ 1 [0,4] (jz iN (aH (gv 1) aE)) (bC 0) (fun _=>Res.ok true) (bM (aH (fM "list" (gv 2) (aH (gv 0) aE) pw) (aH (fC (aH (gv 1) aE) lenD) aE)) [] rS)) aE) tupD) aE) appD) bR))
def JB:UT "shares_in" KW 3 q0 A7:=⟨_,fun T=>
 bK (m':=fI) T.b5 qh fun hr hu1=>(aG (dU 2 qh.nd (by rfl) (du rfl) (dX bS))
   (aG (iW z_ rfl (lj (by rfl) T.b (bB (bE (dB (by rfl) T.a (bB (xB hu1 (aB 0) iB) bF))) bF)) (c7 3 qh.nd) (aG (cF 4 qh.nd (SO.toE (fD ["dealing","hand"] [3] qh.nd (dq (aB 0)) (d9 hu1 (aB 0) (aB 1)))))
   (aG (eQ 2 rfl PySem.F.plainAttrs_list PySem.F.slot_list_append PySem.F.type_list_append fw fY (by rfl) (cN rfl) (bP (iI (by rfl) T.d (bB (SO.toB (fD ["thing","dealings","got"] [0,4] qh.nd (iU.toC (lj (by rfl) T.b (bB (aB 1) bF))) (aQ (n6.2 T) (aW (dY PySem.F.plainAttrs_list PySem.F.slot_list_count PySem.F.type_list_count Az Aw (aB 2) (bB (aB 0) bF)) (aW (dB (by rfl) T.a (bB (aB 1) bF)) aO))))) bF)) bS))
   aM)))
   (aG (aZ (iI (by rfl) T.d (bB (aB 2) bF)))
   aM)))⟩
def Sy:=bN false A7 JB.1
abbrev xZ:List Str:=["wishes","dealings"]
theorem EL:FnScope xZ gl (aA (top 106)):=bD
def uE:UT "lot" gl 8 [Md.bw] xZ:=⟨_,fun T=>
 bK (m':=[.bw,.ow]) T.b6 EL fun hr hu1=>(aG (jL (aQ (Cn.2 T) (aD (aB 0) aO)))
   (aG (sc1 1 ["order","wishes"] [0] EL.nd (dq (bE (aQ (BP.2 T) (aD (bE (dB (by rfl) T.a (bB (aB 0) bF))) aO)))) (aQ (rV.2 T) (aD (aB 1) (aD (aB 0) aO))))
   (aG (aZ (aQ (JB.2 T) (aD (aB 1) (aD (bE (aQ (kh.2 T) (aD (aB 0) aO))) aO))))
   aM)))⟩
def uK:=bN false xZ uE.1
abbrev Ci:List Str:=["fits"]
def jR:UT "refuse_unless" Ci 1 [Md.bw] Ci:=⟨_,fun T=>
 bK (m':=[Md.bw]) T.b7 bD fun hr hu1=>(aG (cD (jg (ga (aB 0))) (aG jM
   aM)
   aM)
   aM)⟩
def Lr:=bN false Ci jR.1
abbrev A3:List Str:=["line"]
def AK:UT "words_in" A3 2 [Md.bw] A3:=⟨_,fun T=>
 bK (m':=[Md.bw]) T.b8 bD fun hr hu1=>(aG (jL (aQ (jR.2 T) (aD (bE (qH "str" "str" rfl (zI _) (by rfl) T.i (by rfl) T.e (aB 0))) aO)))
   (aG (aZ (dY PySem.F.plainAttrs_str PySem.F.slot_str_split PySem.F.type_str_split Ar An (aB 0) (bB (bE da) bF)))
   aM))⟩
def lQ:=bN false A3 AK.1
def Iv:UT "text_in" jQ 2 [Md.bw] jQ:=⟨_,fun T=>
 bK (m':=[Md.bw]) T.b9 bD fun hr hu1=>(aG (jL (aQ (jR.2 T) (aD (aB 0) aO)))
   (aG (aZ (@dh _ _ _ _ _ _ _ _ _ _ (aB 0) rfl rfl))
   aM))⟩
def PQ:=bN false jQ Iv.1
abbrev BA:List Str:=["word","signs"]
def Jy:UT "number_in" BA 2 q0 BA:=⟨_,fun T=>
 bK (m':=q0) T.ca bD fun hr hu1=>have hu64:=hr.units;(aG (jL (aQ (jR.2 T) (aD (bE (pb (gG hu64 (bE (dB (by rfl) T.a (bB (aB 0) bF))) iB) (pd (sK hu1 (aB 0) (aB 1))))) aO)))
   (aG (aZ (dY PySem.F.plainAttrs_str PySem.F.slot_str_index PySem.F.type_str_index zN zv (aB 1) (bB (aB 0) bF)))
   aM))⟩
def wC:=bN false BA Jy.1
abbrev oa:List Str:=["words","signs"]
theorem KG:FnScope oa oa (aA (top 84)):=bD
def wS:UT "numbers_in" oa 3 gJ oa:=⟨_,fun T=>
 bK (m':=gJ) T.cb KG fun hr hu1=>have hu64:=hr.units;(aG (jL (aQ (jR.2 T) (aD (bE (gG hu64 (bE (dB (by rfl) T.a (bB (aB 0) bF))) (bE (dB (by rfl) T.a (bB (aB 1) bF))))) aO)))
   (aG (aZ (SO.toE (qp ["word","told"] [] KG.nd (iU.toC (t0 (by rfl) T.l (v_ 0) (v_ 1))) (aQ (Jy.2 T) (aD (aB 0) (aD (aB 1) aO))))))
   aM))⟩
def SZ:=bN false oa wS.1
abbrev A8:List Str:=["words","signs","numbers"]
theorem Ko:FnScope A8 oa (aA (top 85)):=bD
def sw:UT "unlike_in" oa 4 gJ A8:=⟨_,fun T=>
 bK (m':=iP) T.cc Ko fun hr hu1=>have hu64:=hr.units;(aG (cF 2 Ko.nd (aQ (wS.2 T) (aW (v_ 0) (aW (v_ 1) aO))))
   (aG (jL (aQ (jR.2 T) (aD (bE (gG hu64 (bE (Qf rfl (by rfl) T.a (by rfl) T.v (aB 2))) (bE (dB (by rfl) T.a (bB (aB 2) bF))))) aO)))
   (aG (aZ (v_ 2))
   aM)))⟩
def JR:=bN false A8 sw.1
def wR:UT "figures_of" gl 1 [Md.bw] gl:=⟨_,fun T=>
 bK (m':=[Md.bw]) T.cd bD fun hr hu1=>(aG (aZ (yi (bE (nh (by rfl) T.y)) g6 (g9 (bE (dB (by rfl) T.a (bB (aB 0) bF))))))
   aM)⟩
def SY:=bN false gl wR.1
def Ti:UT "letters_of" gl 2 [Md.bw] gl:=⟨_,fun T=>
 bK (m':=[Md.bw]) T.ce bD fun hr hu1=>(aG (aZ (yi (bE (nh (by rfl) T.g)) g6 (g9 (bE (aQ (kh.2 T) (aD (aB 0) aO))))))
   aM)⟩
abbrev nv:List Str:=["words","wishes"]
def wv:UT "hand_in" nv 4 iO nv:=⟨_,fun T=>
 bK (m':=iO) T.cf bD fun hr hu1=>(aG (aZ (d9 hu1 (bE (aQ (wS.2 T) (aW (v_ 0) (aW (SO.toE (dX (bP (aQ (wR.2 T) (aD (aB 1) aO)) bS))) aO)))) iB))
   aM)⟩
def PN:=bN false nv wv.1
def wM:UT "order_in" nv 5 iO nv:=⟨_,fun T=>
 bK (m':=iO) T.cg bD fun hr hu1=>(aG (aZ (aQ (sw.2 T) (aW (v_ 0) (aW (SO.toE (ym (dX (bP (aQ (wR.2 T) (aD (aB 1) aO)) bS)) (bE (dB (by rfl) T.a (bB (aB 1) bF))))) aO))))
   aM)⟩
def Rs:=bN false nv wM.1
def Kv:UT "dealing_in" nv 5 iO nv:=⟨_,fun T=>
 bK (m':=iO) T.ch bD fun hr hu1=>(aG (aZ (iI (by rfl) T.d (bB (bE (aQ (sw.2 T) (aW (v_ 0) (aW (SO.toE (ym (dX (bP (aQ (Ti.2 T) (aD (aB 1) aO)) bS)) (bE (dB (by rfl) T.a (bB (aB 1) bF))))) aO)))) bF)))
   aM)⟩
abbrev wq:List Str:=["self","wishes","owns","order"]
theorem Sl:FnScope wq wq (aA nR):=bD
def HX:FN:=(mH "wishes" (gv 1) (mH "owns" (gv 2) (mH "order" (gv 3) (fun _ ds=>Res.ok ds))))
def HZ:tY:=fun ds=>HX (none::(ds.map some++r_ (wq.length-(ds.length+1)) none)) []
variable{P:E_}{w:P_}{K:W.Frag}{mg:Str->Option a_}{base:Heap}
theorem Ji(T:Txt K mg):CalleeN P w K mg base "Kept" "Kept" wq [] 1 iP HZ:=by refine Ot (k:=0) (fn:=HX) T.ci Sl rfl (fun _ _ _ _ _ _ U Z=>by obtain⟨i,e,d,b,rfl⟩:=UX U Z;kernel_rfl) fun C B f a A L s H g E N=>?_;have Y:=lB N;have M:=N.units;exact(yQ (T.c "Kept" C rfl B).1 (T.c "Kept" C rfl B).2 rfl (cN rfl) (v_ 1) (yQ (T.h "Kept" C rfl B).1 (T.h "Kept" C rfl B).2 rfl (cN rfl) (v_ 2) (yQ (T.j "Kept" C rfl B).1 (T.j "Kept" C rfl B).2 rfl (cN rfl) (v_ 3) U0)))
abbrev B0:List Str:=["text","read"]
theorem Lm:FnScope B0 xj (aA (top 109)):=bD
def BW:UT "kept_of_text" xj 8 [Md.bw] B0:=⟨_,fun T=>
 bK (m':=dH) T.cj Lm fun hr hu1=>(aG (cF 1 Lm.nd (aQ (Bk.2 T) (aD (aB 0) aO)))
   (aG (aZ (EJ (dds:=[]) (Ji T) (hr.mono (by decide)) (aW (d9 hu1 (aB 1) iB) (aW (d9 hu1 (aB 1) iB) (aW iX aO)))))
   aM))⟩
def w9:=bN false B0 BW.1
abbrev eR:List Str:=["kept","words"]
def BO:UT "after_rows" eR 9 q0 eR:=⟨_,fun T=>
 bK (m':=q0) T.ck bD fun hr hu1=>(aG (aZ (aQ (BW.2 T) (aD (bE (aQ (Iv.2 T) (aD (aB 1) aO))) aO)))
   aM)⟩
def JX:=bN false eR BO.1
def B5:UT "after_order" eR 6 dH eR:=⟨_,fun T=>
 bK (m':=dH) T.cl bD fun hr hu1=>(aG (aZ (EJ (dds:=[]) (Ji T) (hr.mono (by decide)) (aW (fW T.c (aB 0)) (aW (fW T.h (aB 0)) (aW (aQ (wM.2 T) (aW (v_ 1) (aD (bE (fW T.c (aB 0))) aO))) aO)))))
   aM)⟩
def Tz:=bN false eR B5.1
def B2:UT "answer_rings" eR 8 q0 eR:=⟨_,fun T=>
 bK (m':=q0) T.cm bD fun hr hu1=>(aG (jL (aQ (jR.2 T) (aD (bE (zb (aB 1))) aO)))
   (aG (aZ (aQ (K2.2 T) (aD (bE (aQ (rN.2 T) (aD (bE (fW T.c (aB 0))) (aD (bE (fW T.h (aB 0))) (aD (bE (fW T.j (aB 0))) aO))))) aO)))
   aM))⟩
def Lj:=bN false eR B2.1
def B6:UT "answer_asks" eR 8 q0 eR:=⟨_,fun T=>
 bK (m':=q0) T.cn bD fun hr hu1=>(aG (jL (aQ (jR.2 T) (aD (bE (zb (aB 1))) aO)))
   (aG (aZ (aQ (Kw.2 T) (aD (bE (aQ (vG.2 T) (aD (bE (fW T.c (aB 0))) (aD (bE (fW T.h (aB 0))) (aD (bE (fW T.j (aB 0))) aO))))) aO)))
   aM))⟩
def K4:=bN false eR B6.1
def B7:UT "answer_deal" eR 9 q0 eR:=⟨_,fun T=>
 bK (m':=q0) T.co bD fun hr hu1=>(aG (jL (aQ (jR.2 T) (aD (bE (zb (aB 1))) aO)))
   (aG (aZ (aQ (B8.2 T) (aD (bE (aQ (wJ.2 T) (aD (bE (fW T.c (aB 0))) (aD (bE (fW T.h (aB 0))) (aD (bE (fW T.j (aB 0))) aO))))) aO)))
   aM))⟩
def K5:=bN false eR B7.1
def Be:UT "answer_by" eR 8 dH eR:=⟨_,fun T=>
 bK (m':=dH) T.cp bD fun hr hu1=>(aG (aZ (aQ (B8.2 T) (aD (bE (aQ (rV.2 T) (aD (bE (fW T.c (aB 0))) (aD (bE (aQ (wM.2 T) (aW (v_ 1) (aD (bE (fW T.c (aB 0))) aO)))) aO)))) aO)))
   aM)⟩
def JL:=bN false eR Be.1
def Bf:UT "answer_of" eR 6 dH eR:=⟨_,fun T=>
 bK (m':=dH) T.cq bD fun hr hu1=>(aG (aZ (aQ (BS.2 T) (aD (bE (aQ (qd.2 T) (aD (bE (fW T.c (aB 0))) (aD (bE (aQ (Kv.2 T) (aW (v_ 1) (aD (bE (fW T.c (aB 0))) aO)))) aO)))) aO)))
   aM)⟩
def JM:=bN false eR Bf.1
abbrev qe:List Str:=["kept","words","hand"]
theorem KA:FnScope qe eR (aA (top 120)):=bD
def BR:UT "answer_lot" eR 9 dH qe:=⟨_,fun T=>
 bK (m':=jr) T.cr KA fun hr hu1=>(aG (cF 2 KA.nd (aQ (wv.2 T) (aW (v_ 1) (aD (bE (fW T.c (aB 0))) aO))))
   (aG (aZ (aQ (xl.2 T) (aD (xB hu1 (bE (aQ (uE.2 T) (aD (bE (fW T.c (aB 0))) aO))) (aB 2)) aO)))
   aM))⟩
def J0:=bN false qe BR.1
theorem Kz:FnScope qe eR (aA (top 121)):=bD
def BQ:UT "answer_eat" eR 7 dH qe:=⟨_,fun T=>
 bK (m':=jr) T.cs Kz fun hr hu1=>(aG (cF 2 Kz.nd (aQ (wv.2 T) (aW (v_ 1) (aD (bE (fW T.c (aB 0))) aO))))
   (aG (aZ (aQ (xl.2 T) (aD (xB hu1 (xB hu1 (bE (aQ (vH.2 T) (aD (bE (fW T.c (aB 0))) aO))) iB) (aB 2)) aO)))
   aM))⟩
def JZ:=bN false qe BQ.1
abbrev JU:List Str:=["_law_script","_law_k","_law_cell_here","_law_stirred"]
abbrev KO:List Str:=["_law_script","_law_k"]
theorem wT:FnScope JU KO (aA (top 126)):=bD
def JI:FS:=(aI (aR fg 2 (ci 0)) (aI (eV fg (cK (f2 (gv 1) (fC (aH (gv 0) aE) lenD) mq)) (aI (aR fg 2 (f2 (f2 (gv 0) (gv 1) bV) (f2 (ci 10) (ci 60) kx) cO)) bR) bR) (aI (eV fg (ig (cK (f2 (fC (aH (gv 0) aE) lenD) (ci 0) mG)) (cK (f2 (f2 (f2 (gv 0) (ci 0) bV) (ci 2) cO) (ci 0) eqD))) (aI (dG fg (gv 2)) bR) bR) (aI (aR fg 3 (f2 (f2 (f2 (f2 (f2 (f2 (f2 (gv 2) (f2 (f2 (ci 7) (gv 1) eI) (gv 1) eI) addA) (f2 (ci 13) (gv 1) eI) addA) (ci 5) addA) (ci 48271) eI) (ci 2147483647) cO) (ci 69621) eI) (ci 1000000007) cO)) (aI (dG fg (f2 (f2 (f2 (f2 (f2 (gv 3) (ci 1) addA) (ci 40692) eI) (ci 2147483629) cO) (ci 39373) eI) (ci 999999937) cO)) bR)))))
def jS:List D->Res D:=fun ds=>dI false (JI (cQ JU.length ds))
theorem nz(T:Txt K mg):Callee P w K mg base "_law_cell" KO [] 1 false q0 jS:=
 bK (m':=fg) T.ct wT fun M L=>have B:=M.units;(aG (cF 2 wT.nd uO)
   (aG (cD (jq (aB 1) (bE (dB (by rfl) T.a (bB (aB 0) bF)))) (aG (cF 2 wT.nd (iG (xB L (aB 0) (aB 1)) (bE (UB iB iB))))
   aM)
   aM)
   (aG (cD (SW.toQ (DU (km (bE (dB (by rfl) T.a (bB (aB 0) bF))) iB) (EC (dQ B (bE (iG (xB L (aB 0) iB) iB)) iB)))) (aG (aZ (v_ 2))
   aM)
   aM)
   (aG (cF 3 wT.nd (iG (bE (mY (bE (iG (bE (mY (bE (dM (bE (dM (bE (dM (aB 2) (bE (mY (bE (mY iB (aB 1))) (aB 1))))) (bE (mY iB (aB 1))))) iB)) iB)) iB)) iB)) iB))
   (aG (aZ (iG (bE (mY (bE (iG (bE (mY (bE (dM (aB 3) iB)) iB)) iB)) iB)) iB))
   aM)))))
abbrev Jw:List Str:=["_law_cell_here","_law_m","_law_row_here","_law_thing"]
abbrev Ks:List Str:=["_law_cell_here","_law_m"]
theorem wX:FnScope Jw Ks (aA (top 127)):=bD
abbrev Kr:FS:=(aI (cJ "list" kt 2 (aH (f2 (gv 0) (f2 (gv 3) (ci 1) addA) cO) (aH (gv 3) aE)) insD) (aI (aR kt 0 (f2 (gv 0) (f2 (gv 3) (ci 1) addA) je)) bR))
def Ro:FS:=(aI (aR [.sh,.bw,.sh,.sh] 2 (jv aE)) (aI (j6 kt (jz iN (aH (gv 1) aE)) (bC 3) Kr) (aI (dG kt (fC (aH (gv 2) aE) tupD)) bR)))
def n4:List D->Res D:=fun ds=>dI false (Ro (cQ Jw.length ds))
theorem wW(T:Txt K mg):Callee P w K mg base "_law_row" Ks [] 1 false iO n4:=
 bK (m':=kt) T.cu wX fun L B=>(aG (dU 2 wX.nd (by rfl) (du rfl) (dX bS))
   (aG (iW z_ rfl (lj (by rfl) T.b (bB (aB 1) bF)) (c7 3 wX.nd) (aG (eQ 2 rfl PySem.F.plainAttrs_list PySem.F.slot_list_insert PySem.F.type_list_insert Rb L9 (by rfl) (cN rfl) (bP (iG (aB 0) (bE (dM (aB 3) iB))) (bP (v_ 3) bS)))
   (aG (cF 0 wX.nd (pF (aB 0) (bE (dM (aB 3) iB))))
   aM)))
   (aG (aZ (iI (by rfl) T.d (bB (aB 2) bF)))
   aM)))
abbrev sA:List Str:=["_law_script","_law_at","_law_n","_law_m"]
theorem Lf:FnScope sA sA (aA (top 128)):=bD
def B4:UT "_law_wishes" sA 2 [.bw,.bw,.bw,.bw] sA:=⟨_,fun T=>
 bK (m':=[.bw,.bw,.bw,.bw]) T.cv Lf fun hr hu1=>(aG (aZ (iI (by rfl) T.d (bB (SO.toB (fD ["_law_hand","_law_m","_law_script","_law_at"] [3,0,1] Lf.nd (iU.toC (lj (by rfl) T.b (bB (aB 2) bF))) (aQ (wW T) (aW (aQ (nz T) (aD (aB 2) (aD (bE (dM (aB 3) (aB 0))) aO))) (aD (aB 1) aO))))) bF)))
   aM)⟩
def K3:=bN false sA B4.1
abbrev Bv:List Str:=["_law_cell_here","_law_n","_law_m","_law_owns_here","_law_hand","_law_thing"]
abbrev KP:List Str:=["_law_cell_here","_law_n","_law_m"]
theorem sf:FnScope Bv KP (aA (top 129)):=bD
abbrev KL:FS:=(aI (aR gs 5 (f2 (gv 0) (f2 (gv 2) (ci 1) addA) cO)) (aI (aR gs 0 (f2 (gv 0) (f2 (gv 2) (ci 1) addA) je)) (aI (eV gs (kF (cK (f2 (gv 5) (gv 2) eqD)) (cK (f2 (gv 5) (gv 3) gN))) (aI (cJ "list" gs 3 (aH (fun _=>Res.ok D.non) aE) appD) bR) (aI (cJ "list" gs 3 (aH (gv 5) aE) appD) bR)) bR)))
def Bb:UT "_law_owns" KP 1 [.sh,.bw,.bw] Bv:=⟨_,fun T=>
 bK (m':=gs) T.cw sf fun hr hu1=>have hu64:=hr.units;(aG (dU 3 sf.nd (by rfl) (du rfl) (dX bS))
   (aG (iW z_ rfl (lj (by rfl) T.b (bB (aB 1) bF)) (c7 4 sf.nd) (aG (cF 5 sf.nd (iG (aB 0) (bE (dM (aB 2) iB))))
   (aG (cF 0 sf.nd (pF (aB 0) (bE (dM (aB 2) iB))))
   (aG (cD (SW.toQ (gI (dQ hu64 (aB 5) (aB 2)) (mT (l6 hu1 (aB 5) (aB 3))))) (aG (eQ 3 rfl PySem.F.plainAttrs_list PySem.F.slot_list_append PySem.F.type_list_append fw fY (by rfl) (cN rfl) (bP iX bS))
   aM)
   (aG (eQ 3 rfl PySem.F.plainAttrs_list PySem.F.slot_list_append PySem.F.type_list_append fw fY (by rfl) (cN rfl) (bP (v_ 5) bS))
   aM))
   aM))))
   (aG (aZ (iI (by rfl) T.d (bB (aB 3) bF)))
   aM)))⟩
def JK:=bN false Bv Bb.1
abbrev Bx:List Str:=["_law_wishes_here","_law_owns_here","_law_parts","_law_row_here","_law_own","_law_words","_law_thing"]
abbrev KQ:List Str:=["_law_wishes_here","_law_owns_here"]
theorem qg:FnScope Bx KQ (aA (top 130)):=bD
abbrev KM:FS:=(aI (cJ "list" l7 5 (aH (f2 (f2 (fun _=>Res.ok (D.str "ABCDEFGH")) (gv 6) bV) (f2 (fun _=>Res.ok (D.str "*")) (fC (aH (f2 (gv 6) (gv 4) eqD) aE) pk) o7) addA) aE) appD) bR)
abbrev TJ:FS:=(aI (aR [.sh,.sh,.ow,.sh,.sh,.sh,.sh] 5 (jv aE)) (aI (j6 l7 (bI cS (gv 3)) (bC 6) KM) (aI (cJ "list" l7 2 (aH (fM "str" (fun _=>Res.ok (D.str " ")) (aH (gv 5) aE) ip) aE) appD) bR)))
def Jx:UT "_law_text" KQ 1 gJ Bx:=⟨_,fun T=>
 bK (m':=[.sh,.sh,.ow,.sh,.sh,.sh,.sh]) T.cx qg fun hr hu1=>have hu64:=hr.units;(aG (dU 2 qg.nd (by rfl) (du rfl) (dX bS))
   (aG (iW z_ rfl (t0 (by rfl) T.l (v_ 0) (v_ 1)) (j5 rfl (fu (c7 3 qg.nd) (fu (c7 4 qg.nd) j4))) (pZ (m':=l7) 5 (aG (dU 5 qg.nd (by rfl) (du rfl) (dX bS))
   (aG (iW z_ rfl (pj (v_ 3)) (c7 6 qg.nd) (aG (eQ 5 rfl PySem.F.plainAttrs_list PySem.F.slot_list_append PySem.F.type_list_append fw fY (by rfl) (cN rfl) (bP (dM (xB hu1 (bE da) (aB 6)) (bE (EK (bE da) (bE (EI (by rfl) T.m (bB (bE (gG hu64 (aB 6) (aB 4))) bF)))))) bS))
   aM))
   (aG (eQ 2 rfl PySem.F.plainAttrs_list PySem.F.slot_list_append PySem.F.type_list_append fw fY (by rfl) (cN rfl) (bP (@dh _ _ _ _ _ _ _ _ _ _ (aB 5) rfl rfl) bS))
   aM))) rfl))
   (aG (aZ (@dh _ _ _ _ _ _ _ _ _ _ (aB 2) rfl rfl))
   aM)))⟩
def A6:=bN false Bx Jx.1
abbrev sy:List Str:=["_law_things"]
theorem Ll:FnScope sy sy (aA (top 131)):=bD
def xg:UT "_law_letters" sy 1 [Md.bw] sy:=⟨_,fun T=>
 bK (m':=[Md.bw]) T.cy Ll fun hr hu1=>(aG (aZ (@dh _ _ _ _ _ _ _ _ _ _ (SO.toB (fD ["_law_thing"] [] Ll.nd (dq (aB 0)) (d9 hu1 (bE da) (aB 0)))) rfl rfl))
   aM)⟩
def T9:=bN false sy xg.1
abbrev sr:List Str:=["_law_ring_here"]
theorem Ki:FnScope sr sr (aA (top 132)):=bD
def Bc:UT "_law_ring" sr 1 [Md.bw] sr:=⟨_,fun T=>
 bK (m':=[Md.bw]) T.cz Ki fun hr hu1=>(aG (aZ (@dh _ _ _ _ _ _ _ _ _ _ (SO.toB (qp ["_law_hand","_law_thing"] [] Ki.nd (dq (aB 0)) (dM (bE (dM (bE (k6 (by rfl) T.e (bB (aB 0) bF))) (bE da))) (xB hu1 (bE da) (aB 1))))) rfl rfl))
   aM)⟩
def wB:=bN false sr Bc.1
abbrev BK:List Str:=["_law_steps_here","_law_texts","_law_step"]
abbrev K8:List Str:=["_law_steps_here"]
theorem BY:FnScope BK K8 (aA (top 133)):=bD
abbrev Ua:FS:=(aI (eV kr (cK (f2 (f2 (gv 2) (ci 0) bV) (fun _=>Res.ok (D.str "ring")) eqD)) (aI (cJ "list" kr 1 (aH (f2 (fun _=>Res.ok (D.str "ring ")) (bM (aH (f2 (gv 2) (ci 1) bV) aE) [] wB) addA) aE) appD) bR) (aI (cJ "list" kr 1 (aH (f2 (f2 (f2 (f2 (f2 (gv 2) (ci 0) bV) (fun _=>Res.ok (D.str " ")) addA) (fC (aH (f2 (gv 2) (ci 1) bV) aE) gX) addA) (fun _=>Res.ok (D.str " ")) addA) (f2 (fun _=>Res.ok (D.str "ABCDEFGH")) (f2 (gv 2) (ci 2) bV) bV) addA) aE) appD) bR)) bR)
def Ku:UT "_law_steps" K8 2 [Md.bw] BK:=⟨_,fun T=>
 bK (m':=kr) T.c0 BY fun hr hu1=>have hu64:=hr.units;(aG (dU 1 BY.nd (by rfl) (du rfl) (dX bS))
   (aG (m7 z_ rfl (pA (nB 0)) (c7 2 BY.nd) (aG (cD (dQ hu64 (xB hu1 (aB 2) iB) (bE da)) (aG (eQ 1 rfl PySem.F.plainAttrs_list PySem.F.slot_list_append PySem.F.type_list_append fw fY (by rfl) (cN rfl) (bP (dM (bE da) (bE (aQ (Bc.2 T) (aD (xB hu1 (aB 2) iB) aO)))) bS))
   aM)
   (aG (eQ 1 rfl PySem.F.plainAttrs_list PySem.F.slot_list_append PySem.F.type_list_append fw fY (by rfl) (cN rfl) (bP (dM (bE (dM (bE (dM (bE (dM (xB hu1 (aB 2) iB) (bE da))) (bE (k6 (by rfl) T.e (bB (xB hu1 (aB 2) iB) bF))))) (bE da))) (xB hu1 (bE da) (xB hu1 (aB 2) iB))) bS))
   aM))
   aM))
   (aG (aZ (@dh _ _ _ _ _ _ _ _ _ _ (aB 1) rfl rfl))
   aM)))⟩
def SV:=bN false BK Ku.1
abbrev BG:List Str:=["_law_shares_here","_law_texts","_law_top","_law_bottom"]
abbrev Lv:List Str:=["_law_shares_here"]
theorem xh:FnScope BG Lv (aA (top 134)):=bD
abbrev T8:FS:=(aI (cJ "list" [.bw,.ow,.sh,.sh] 1 (aH (f2 (fC (aH (gv 2) aE) gX) (f2 (f2 (fun _=>Res.ok (D.str "/")) (fC (aH (gv 3) aE) gX) addA) (fC (aH (f2 (gv 3) (ci 1) mG) aE) pk) o7) addA) aE) appD) bR)
def B3:UT "_law_shares" Lv 1 [Md.bw] BG:=⟨_,fun T=>
 bK (m':=[.bw,.ow,.sh,.sh]) T.c1 xh fun hr hu1=>(aG (dU 1 xh.nd (by rfl) (du rfl) (dX bS))
   (aG (m7 z_ rfl (pA (nB 0)) (j5 rfl (fu (c7 2 xh.nd) (fu (c7 3 xh.nd) j4))) (aG (eQ 1 rfl PySem.F.plainAttrs_list PySem.F.slot_list_append PySem.F.type_list_append fw fY (by rfl) (cN rfl) (bP (dM (bE (k6 (by rfl) T.e (bB (aB 2) bF))) (bE (EK (bE (dM (bE da) (bE (k6 (by rfl) T.e (bB (aB 3) bF))))) (bE (EI (by rfl) T.m (bB (bE (CN (aB 3) iB)) bF)))))) bS))
   aM))
   (aG (aZ (@dh _ _ _ _ _ _ _ _ _ _ (aB 1) rfl rfl))
   aM)))⟩
def BE:=bN false BG B3.1
abbrev BF:List Str:=["_law_wishes_here","_law_dealing","_law_order"]
abbrev Lu:List Str:=["_law_wishes_here","_law_dealing"]
theorem BX:FnScope BF Lu (aA (top 135)):=bD
def BJ:UT "_law_behind" Lu 3 q0 BF:=⟨_,fun T=>
 bK (m':=[.bw,.bw,.sh]) T.c2 BX fun hr hu1=>(aG (cF 2 BX.nd (aQ (qd.2 T) (aD (aB 0) (aD (aB 1) aO))))
   (aG (cD (kl (aB 2) (bE iX)) (aG (aZ da)
   aM)
   aM)
   (aG (aZ (@dh _ _ _ _ _ _ _ _ _ _ (bE (dM (SO.toB (dX (bP da bS))) (SO.toB (fD ["_law_hand"] [] BX.nd (dq (aB 2)) (k6 (by rfl) T.e (bB (aB 0) bF)))))) rfl rfl))
   aM)))⟩
def Tx:=bN false BF BJ.1
abbrev Bu:List Str:=["_law_wishes_here","_law_owns_here","_law_kept","_law_order","_law_dealing","_law_hand","_law_n","_law_rows","_law_found"]
abbrev KN:List Str:=["_law_wishes_here","_law_owns_here","_law_kept","_law_order","_law_dealing","_law_hand"]
theorem se:FnScope Bu KN (aA (top 136)):=bD
def wD:UT "_law_asks" KN 9 [.bw,.bw,.bw,.bw,.bw,.bw] Bu:=⟨_,fun T=>
 bK (m':=[.bw,.bw,.bw,.bw,.bw,.bw,.sh,.ow,.sh]) T.c3 se fun hr hu1=>have hu64:=hr.units;(aG (cF 6 se.nd (dB (by rfl) T.a (bB (aB 0) bF)))
   (aG (sc1 7 ["_law_row_here"] [] se.nd (dq (bE (aQ (rN.2 T) (aD (aB 0) (aD (aB 1) (aD (aB 2) aO)))))) (dY PySem.F.plainAttrs_str PySem.F.slot_str_join PySem.F.type_str_join zM zF (bE da) (bB (SO.toB (fD ["_law_ring_here"] [] (show List.Nodup (["_law_row_here"]:List Str)by decide+kernel) (dq (aB 0)) (aQ (Bc.2 T) (aD (aB 0) aO)))) bF)))
   (aG (dU 8 se.nd (by rfl) (du rfl) (dX (bP (gb (bP da (bP (@dh _ _ _ _ _ _ _ _ _ _ (aB 7) rfl rfl) bS))) bS)))
   (aG (eQ 8 rfl PySem.F.plainAttrs_list PySem.F.slot_list_append PySem.F.type_list_append fw fY (by rfl) (cN rfl) (bP (gb (bP da (bP (aQ (Ku.2 T) (aD (bE (aQ (vG.2 T) (aD (aB 0) (aD (aB 1) (aD (aB 2) aO))))) aO)) bS))) bS))
   (aG (eQ 8 rfl PySem.F.plainAttrs_list PySem.F.slot_list_append PySem.F.type_list_append fw fY (by rfl) (cN rfl) (bP (gb (bP da (bP (aQ (xg.2 T) (aD (bE (aQ (wJ.2 T) (aD (aB 0) (aD (aB 1) (aD (aB 2) aO))))) aO)) bS))) bS))
   (aG (eQ 8 rfl PySem.F.plainAttrs_list PySem.F.slot_list_append PySem.F.type_list_append fw fY (by rfl) (cN rfl) (bP (gb (bP (@dh _ _ _ _ _ _ _ _ _ _ (bE (dM (SO.toB (dX (bP da bS))) (SO.toB (fD ["_law_one"] [] se.nd (dq (aB 3)) (k6 (by rfl) T.e (bB (aB 0) bF)))))) rfl rfl) (bP (aQ (xg.2 T) (aD (bE (aQ (rV.2 T) (aD (aB 0) (aD (aB 3) aO)))) aO)) bS))) bS))
   (aG (eQ 8 rfl PySem.F.plainAttrs_list PySem.F.slot_list_append PySem.F.type_list_append fw fY (by rfl) (cN rfl) (bP (gb (bP (dM (bE da) (bE (aQ (xg.2 T) (aD (aB 4) aO)))) (bP (aQ (BJ.2 T) (aD (aB 0) (aD (aB 4) aO))) bS))) bS))
   (aG (cD (jq (aB 6) iB) (aG (eQ 8 rfl PySem.F.plainAttrs_list PySem.F.slot_list_append PySem.F.type_list_append fw fY (by rfl) (cN rfl) (bP (gb (bP (dM (bE da) (bE (k6 (by rfl) T.e (bB (aB 5) bF)))) (bP (aQ (B3.2 T) (aD (xB hu1 (bE (aQ (uE.2 T) (aD (aB 0) aO))) (aB 5)) aO)) bS))) bS))
   aM)
   aM)
   (aG (cD (dQ hu64 (bE (dB (by rfl) T.a (bB (xB hu1 (aB 0) iB) bF))) (aB 6)) (aG (eQ 8 rfl PySem.F.plainAttrs_list PySem.F.slot_list_append PySem.F.type_list_append fw fY (by rfl) (cN rfl) (bP (gb (bP (dM (bE da) (bE (k6 (by rfl) T.e (bB (aB 5) bF)))) (bP (aQ (B3.2 T) (aD (xB hu1 (xB hu1 (bE (aQ (vH.2 T) (aD (aB 0) aO))) iB) (aB 5)) aO)) bS))) bS))
   aM)
   aM)
   (aG (jH 8 rfl (aZ (v_ 8)))
   aM))))))))))⟩
def JJ:=bN false Bu wD.1
abbrev mP:Stmt:=vI (top 124) 2
abbrev lK:List Str:=["self"]
theorem Ol:FnScope lK lK (aA mP):=bD
def EQ:dW:=bU yo (bU ye ji)
def yB:lw:=fun z ds=>ky (EQ (gH lK.length ds) z)
variable{C:Addr}
theorem OA(T:Txt K mg)(B:XN K "Desk" C)(A:MethAt K "Desk" "undo" "Desk.undo" mP):CalleeT P w K mg base "undo" lK 1 C [] yB:=by
 refine Hu (k:=0) (fs:=EQ) (m':=[Md.bw]) A B Ol rfl (fun _ _ _ _ _ _ U Z=>by obtain⟨c,rfl⟩:=Dq U Z;kernel_rfl) fun f b A L s H g E d=>?_;have M:=T.o "Desk" C rfl B;have N:=T.p "Desk" C rfl B;have Y:Nb g [Md.bw] 0:=yk fun j a=>by rcases j with _|j <;> simp at a ⊢
 exact fq (Ms M.1 N.2 rfl (cN rfl)) (fq (Mt Y M.1 M.2 N.2 rfl (cN rfl)) kQ)
abbrev mO:Stmt:=vI (top 124) 1
abbrev ER:List Str:=["self","line","words","first","changed"]
abbrev Ai:List Str:=["self","line"]
theorem vQ:FnScope ER Ai (aA mO):=bD
abbrev iL:List (Str×Str):=[("rings","answer_rings"),("asks","answer_asks"),("deal","answer_deal"),("by","answer_by"),("of","answer_of"),("lot","answer_lot"),("eat","answer_eat")]
abbrev jm:List (Str×Str):=[("rows","after_rows"),("own","after_own"),("none","after_none"),("order","after_order")]
def vL:Str->Option (List D->Res D):=fun s=>if s = "rings" then some Lj else if s = "asks" then some K4 else if s = "deal" then some K5 else if s = "by" then some JL else if s = "of" then some JM else if s = "lot" then some J0 else if s = "eat" then some JZ else none
def vK:Str->Option (List D->Res D):=fun s=>if s = "rows" then some JX else if s = "order" then some Tz else none
abbrev j9:List Md:=[.bw,.sh,.sh,.sh,.sh]
def uR:dW:=bU (c8 fun _=>aR j9 2 (bM (aH (gv 1) aE) [] lQ))
 (bU (c8 fun _=>aR j9 3 (f2 (gv 2) (ci 0) bV))
 (bU (mC (fun _=>tt iL (gv 3)) (bU (c8 fun kd=>dG j9 (qu vL (gv 3) (aH (fun _=>.ok kd) (aH (fP (gv 2) (jd (ci 1)) (fun _=>Res.ok none)) aE)))) ji) ji)
 (bU (mC (fun _=>tt jm (gv 3))
  (bU (c8 fun kd=>aR j9 4 (qu vK (gv 3) (aH (fun _=>.ok kd) (aH (fP (gv 2) (jd (ci 1)) (fun _=>Res.ok none)) aE)))) (bU yc (bU (sI fun _=>(gv 4)) ji)))
  (bU (c8 fun _=>o6 j9 (bM (aH (f2 (gv 2) (jv (aH (fun _=>Res.ok (D.str "undo")) aE)) eqD) aE) [] Lr)) (bU (yE yB) ji)))
 (bU (c8 fun kd=>dG j9 (bM (aH (f1 (fun _=>.ok kd) (iS rc "wishes")) (aH (f1 (fun _=>.ok kd) (iS qM "owns")) aE)) [] JQ)) ji))))
def fX:lw:=fun z ds=>ky (uR (gH ER.length ds) z)
theorem Oz(T:Txt K mg)(Z:XN K "Desk" C)(A:MethAt K "Desk" "tell" "Desk.tell" mO)(l:QAt P w K mg "QUESTIONS" iL)(i:QAt P w K mg "CHANGES" jm)(B:CalleeT P w K mg base "undo" lK 1 C [] yB):CalleeT P w K mg base "tell" Ai 10 C [.sh] fX:=by
 refine Hu (k:=9) (fs:=uR) (m':=j9) A Z vQ rfl (fun _ _ _ _ _ _ m r=>by obtain⟨z,y,rfl⟩:=yq m r;kernel_rfl) fun f x A a s H g E Y=>?_;have d:=lB Y;have U:=Y.units;have L:=T.o "Desk" C rfl Z;have q:=T.p "Desk" C rfl Z;have b:Nb g j9 0:=yk fun j t=>by rcases j with _|_|_|_|_|j <;> simp[j9]at t ⊢
 have v:∀s f,vL s=some f->∃n,iL.lookup s=some n/\Callee P w K mg base n eR [] 9 false dH f:=fun s f h=>by
  unfold vL at h;split at h
  .rename_i e;subst e;cases h;exact⟨_,rfl,((B2.2 T).lent2).up (by decide)⟩
  split at h
  .rename_i e;subst e;cases h;exact⟨_,rfl,((B6.2 T).lent2).up (by decide)⟩
  split at h
  .rename_i e;subst e;cases h;exact⟨_,rfl,(B7.2 T).lent2⟩
  split at h
  .rename_i e;subst e;cases h;exact⟨_,rfl,(Be.2 T).up (by decide)⟩
  split at h
  .rename_i e;subst e;cases h;exact⟨_,rfl,(Bf.2 T).up (by decide)⟩
  split at h
  .rename_i e;subst e;cases h;exact⟨_,rfl,(BR.2 T)⟩
  split at h
  .rename_i e;subst e;cases h;exact⟨_,rfl,(BQ.2 T).up (by decide)⟩
  .cases h
 have u:∀s f,vK s=some f->∃n,jm.lookup s=some n/\Callee P w K mg base n eR [] 9 false dH f:=fun s f h=>by
  unfold vK at h;split at h
  .rename_i e;subst e;cases h;exact⟨_,rfl,(BO.2 T).lent2⟩
  split at h
  .rename_i e;subst e;cases h;exact⟨_,rfl,(B5.2 T).up (by decide)⟩
  .cases h
 refine fq (jE (mb:=[]) (fun N M k=>cF 2 vQ.nd (aQ (AK.2 T) (aD (aB 1) aO))) rfl) ?_;refine fq (jE (mb:=[]) (fun N M k=>cF 3 vQ.nd (d9 d (aB 2) iB)) rfl) ?_;refine fq (oO (fun N M k=>DV l (v_ 3)) (fq (jE (mb:=[]) (fun N M k=>aZ (sM l v Y (v_ 3) (aD (bE (vC k rfl L.1 L.2 rfl (cN rfl))) (aW (qI (aB 2) (g9 iB) g6) aO)))) rfl) kQ) kQ) ?_;refine fq (oO (fun N M k=>DV i (v_ 3)) (fq (jE (mb:=[]) (fun N M k=>cF 4 vQ.nd (sM i u Y (v_ 3) (aD (bE (vC k rfl L.1 L.2 rfl (cN rfl))) (aW (qI (aB 2) (g9 iB) g6) aO)))) rfl) (fq (Ux b L.1 L.2 q.2 rfl (cN rfl)) (fq (Vg b L.1 L.2 rfl (cN rfl) fun N M k=>v_ 4) kQ)))
  (fq (jE (mb:=[]) (fun N M k=>jL (aQ (jR.2 T) (aD (bE (gG U (aB 2) (SO.toB (dX (bP da bS))))) aO))) rfl) (fq (Nv B (Y.mono (by decide)) b rfl (cN rfl)) kQ))) ?_
 exact fq (jE (mb:=[]) (fun N M k=>aZ (aQ (Bl.2 T) (aW (fW T.c (bE (vC k rfl L.1 L.2 rfl (cN rfl)))) (aW (fW T.h (bE (vC k rfl L.1 L.2 rfl (cN rfl)))) aO)))) rfl) kQ
abbrev mZ:Stmt:=vI (top 124) 0
theorem RE:FnScope lK lK (aA mZ):=bD
theorem Q5{C:Addr}{M:D}(T:Txt K mg)(L:XN K "Desk" C)(b:∀U,XN K "Desk" U->U=C)(A:MakeAt K mg "Desk" "Desk" "Desk.__init__" mZ)(h:w9 [.str "A*"]=.ok M):CalleeI P w K mg base "Desk" lK 9 C M:=by refine Os (k:=8) A b RE rfl (fun _ _ _ _ _ _ Y a=>by obtain⟨d,rfl⟩:=Dq Y a;kernel_rfl) fun f c A B s H g E e=>?_;have N:=T.o "Desk" C rfl L;have Z:=T.p "Desk" C rfl L;refine MN N.1 N.2 Z.2 rfl (cN rfl) (fun r=>⟨_,aQ (BW.2 T) (aD (bE da) aO),?_⟩) (dX bS);show qq (w9 [.str "A*"])=_;rw[h];rfl
abbrev pr:Stmt:=top 137
abbrev uL:List Str:=["_law_script","_law_first","_law_n","_law_m","_law_wishes_here","_law_owns_here","_law_kept","_law_order","_law_desk","_law_dealing","_law_asks_here","_law_cut","_law_line","_law_due","_law_heard"]
abbrev zj:List Str:=["_law_script"]
theorem hJ:FnScope uL zj (aA pr):=bD
abbrev nW:List Md:=[.sh,.sh,.sh,.sh,.sh,.sh,.sh,.sh,.sh,.sh,.sh,.sh,.sh,.sh,.sh]
abbrev j7:List Md:=[.sh,.sh,.sh,.sh,.sh,.sh,.sh,.sh,.bw,.sh,.sh,.sh,.sh,.sh,.sh]
def qz:dW:=bU (EW 14 (fun _=>aH (gv 12) aE) fX)
 (bU (c8 fun _=>eV j7 (kF (fQ (di (f1 (gv 14) (oJ "str")))) (cK (f2 (gv 14) (gv 13) neD))) (aI (dG j7 (fun _=>Res.ok (D.bl false))) bR) bR) ji)
def qy:dW:=bU (m3 (fun _=>aH (f2 (fun _=>Res.ok (D.str "rows ")) (bM (aH (gv 4) (aH (gv 5) aE)) [] A6) addA) aE) fX)
 (bU (mC (fun _=>cK (f2 (f2 (f2 (gv 1) (ci 42) je) (ci 2) cO) (ci 1) eqD))
  (bU (c8 fun _=>aR j7 6 (fC (aH (bM (aH (bM (aH (gv 0) (aH (ci 3) aE)) [] jS) (aH (gv 2) aE)) [] n4) aE) o8))
   (bU (m3 (fun _=>aH (fM "str" (fun _=>Res.ok (D.str " ")) (aH (f2 (jv (aH (fun _=>Res.ok (D.str "order")) aE)) (cZ 1 [] (bI cS (gv 6)) (bC 0) (fun _=>Res.ok true) (fC (aH (gv 0) aE) gX)) addA) aE) ip) aE) fX) ji)) ji)
 (bU (c8 fun _=>aR j7 9 (fP (bM (aH (bM (aH (gv 0) (aH (ci 5) aE)) [] jS) (aH (gv 3) aE)) [] n4) (fun _=>Res.ok none) (jd (gv 2))))
 (bU (c8 fun _=>aR j7 10 (bM (aH (gv 4) (aH (gv 5) (aH (gv 6) (aH (gv 7) (aH (gv 9) (aH (f2 (bM (aH (gv 0) (aH (ci 6) aE)) [] jS) (gv 2) cO) aE)))))) [] JJ))
 (bU (c8 fun _=>aR j7 11 (f2 (f2 (bM (aH (gv 0) (aH (ci 6) aE)) [] jS) (ci 7) je) (fC (aH (gv 10) aE) lenD) cO))
 (bU (yH (bI cS (f2 (f2 (fP (gv 10) (jd (gv 11)) (fun _=>Res.ok none)) (fP (gv 10) (fun _=>Res.ok none) (jd (gv 11))) addE) (gv 10) addE)) (gy (de (bC 12) (de (bC 13) gB))) qz)
 (bU (c8 fun _=>dG j7 (fun _=>Res.ok (D.bl true))) ji))))))
def uQ(kd:D):FS:=aI (aR nW 1 (bM (aH (gv 0) (aH (ci 1) aE)) [] jS)) (aI (aR nW 2 (f2 (ci 1) (f2 (gv 1) (ci 7) cO) addA)) (aI (aR nW 3 (fC (aH (ci 8) (aH (f2 (gv 2) (f2 (f2 (f2 (gv 1) (ci 7) je) (ci 3) cO) (f2 (f2 (gv 1) (ci 21) je) (ci 2) cO) eI) addA) aE)) minD))
 (aI (aR nW 4 (bM (aH (gv 0) (aH (ci 7) (aH (gv 2) (aH (gv 3) aE)))) [] K3)) (aI (aR nW 5 (bM (aH (bM (aH (gv 0) (aH (ci 2) aE)) [] jS) (aH (gv 2) (aH (gv 3) aE))) [] JK)) (aI (aR nW 6 (fun _=>Res.ok D.non))
 (aI (aR nW 7 (fC (aH (bM (aH (bM (aH (gv 0) (aH (ci 4) aE)) [] jS) (aH (gv 2) aE)) [] n4) aE) o8)) (qD 8 kd qy)))))))
def yz(kd:D):List D->Res D:=fun ds=>dI false (uQ kd (cQ uL.length ds))
theorem Oy{N:Heap}{w:P_}{K:W.Frag}{c:Str->Option a_}{P:E_}{C:Addr}{U:D}(T:Txt K c){h:Addr}{m:Xv}(A:Fun K "law" "law" pr h m)(B:CalleeT P w K c N "tell" Ai 10 C [.sh] fX)(L:CalleeI P w K c N "Desk" lK 9 C U):FnOk P w K c N f8 11 h m zj (nE K false [Md.sh] (yz U)):=by
 refine E5 (k:=10) (fs:=uQ U) (m':=j7) A hJ rfl fun l A Z s H g E b=>?_;have n:=lB b;have Y:=b.units;have d:∀M,Nb M j7 8:=fun M=>yk fun j o=>by rcases j with _|_|_|_|_|_|_|_|_|_|_|_|_|_|_|j <;> simp[j7]at o ⊢
 refine aG (cF 1 hJ.nd (aQ (nz T) (aD (aB 0) (aD iB aO)))) ?_;refine aG (cF 2 hJ.nd (dM iB (bE (iG (aB 1) iB)))) ?_;refine aG (cF 3 hJ.nd (Uz rfl (by rfl) T.q (bB iB (bB (bE (dM (aB 2) (bE (mY (bE (iG (bE (pF (aB 1) iB)) iB)) (bE (iG (bE (pF (aB 1) iB)) iB)))))) bF)))) ?_;refine aG (cF 4 hJ.nd (aQ (B4.2 T) (aD (aB 0) (aD iB (aD (aB 2) (aD (aB 3) aO)))))) ?_;refine aG (cF 5 hJ.nd (aQ (Bb.2 T) (aW (aQ (nz T) (aD (aB 0) (aD iB aO))) (aD (aB 2) (aD (aB 3) aO))))) ?_;refine aG (cF 6 hJ.nd iX) ?_;refine aG (cF 7 hJ.nd (SO.toE (yV (by rfl) T.f (bB (bE (aQ (wW T) (aW (aQ (nz T) (aD (aB 0) (aD iB aO))) (aD (aB 2) aO)))) bF)))) ?_;refine OX (by decide) rfl L (b.mono (by decide)) hJ.nd rfl (du rfl) ?_;refine fq (FH B b (d _) rfl (cN rfl) fun M U k=>aW (dM (bE da) (bE (aQ (Jx.2 T) (aW (v_ 4) (aW (v_ 5) aO))))) aO) ?_;refine fq (oO (fun M U k=>dQ Y (bE (iG (bE (pF (aB 1) iB)) iB)) iB) (fq (jE (mb:=[]) (fun M U k=>cF 6 hJ.nd (SO.toE (yV (by rfl) T.f (bB (bE (aQ (wW T) (aW (aQ (nz T) (aD (aB 0) (aD iB aO))) (aD (aB 2) aO)))) bF)))) rfl)
  (fq (FH B b (d _) rfl (cN rfl) fun M U k=>aW (dY PySem.F.plainAttrs_str PySem.F.slot_str_join PySem.F.type_str_join zM zF (bE da) (bB (bE (dM (SO.toB (dX (bP da bS))) (SO.toB (yU (X:=(d4 f8 P w K c N uL "law" (aA pr) h l A Z s H E).nox) (N':=["_law_one"]) (nl:=1) (cap:=[]) hJ.nd rfl (wk (osc:=(aA pr)) (ON:=uL) rfl rfl (by decide+kernel)) (dq (aB 6)) (fun _ _ _ _ _ _=>(E8 0 (show List.Nodup (["_law_one"]:List Str)by decide+kernel) (by rfl) (du rfl))) (qV (by decide)) (fun _ _ _ _ _ _=>uZ) (fun _ _ _ _ _ _=>(k6 (by rfl) T.e (bB (aB 0) bF))))))) bF)) aO) kQ)) kQ) ?_
 refine fq (jE (mb:=[]) (fun M U k=>cF 9 hJ.nd (qI (bE (aQ (wW T) (aW (aQ (nz T) (aD (aB 0) (aD iB aO))) (aD (aB 3) aO)))) g6 (g9 (aB 2)))) rfl) ?_;refine fq (jE (mb:=[]) (fun M U k=>cF 10 hJ.nd (aQ (wD.2 T) (aD (aB 4) (aD (aB 5) (aD (aB 6) (aD (aB 7) (aD (aB 9) (aD (bE (iG (bE (aQ (nz T) (aD (aB 0) (aD iB aO)))) (aB 2))) aO)))))))) rfl) ?_;refine fq (jE (mb:=[]) (fun M U k=>cF 11 hJ.nd (iG (bE (pF (bE (aQ (nz T) (aD (aB 0) (aD iB aO)))) iB)) (bE (dB (by rfl) T.a (bB (aB 10) bF))))) rfl) ?_;refine fq (MM z_ rfl (fun M=>pj (pE (bE (pE (bE (qI (aB 10) (g9 (aB 11)) g6)) (bE (qI (aB 10) g6 (g9 (aB 11)))))) (aB 10))) (fun M=>j5 rfl (fu (c7 12 hJ.nd) (fu (c7 13 hJ.nd) j4))) ?_) ?_
 .refine fq (Nw 14 B b (by decide) (d _) rfl (cN rfl) hJ.nd rfl (du rfl) fun M U k=>aW (v_ 12) aO) ?_;exact fq (jE (mb:=[]) (fun M U k=>cD (SW.toQ (gI (jg (ga (bE (qH "str" "str" rfl (zI _) (by rfl) T.i (by rfl) T.e (aB 14))))) (mT (l5 Y (aB 14) (aB 13))))) (aG (aZ lX) aM) aM) rfl) kQ
 .exact fq (jE (mb:=[]) (fun M U k=>aZ lX) rfl) kQ
end Law
namespace Law
open PySem L2 DL
abbrev nD(k:Nat):D:=.int (k:Int)
abbrev LN(l:List Nat):D:=.lst (l.map nD)
abbrev TN(l:List Nat):D:=.tup (l.map nD)
def oD:Option Nat->D
|none=>.non
|some k=>nD k
abbrev WD(rows:List (List Nat)):D:=.tup (rows.map TN)
abbrev OD(owns:List (Option Nat)):D:=.tup (owns.map oD)
theorem ou{ds:List D}(h:ds.length<=1000):sz ds=some ds:=Q_d (O_ h (by decide))
@[simp] theorem addA_int(a b:Int):addA (.int a) (.int b)=some (.int (a+b)):=rfl
theorem GC{a b:Int}(h:jC a b):eI (.int a) (.int b)=some (.int (a*b)):=by rw[eI,intsC_int,Q_d h]
theorem GB{a b:Int}(h:0<b):cO (.int a) (.int b)=some (.int (a%b)):=by rw[cO,intsC_int,Q_d h]
theorem PF{a b:Int}(h:mN a b):je (.int a) (.int b)=some (.int (a/b)):=by rw[je,intsC_int,Q_d h]
theorem aN{L B:FS}{r r':aL}(h:L r=.nx r'):aI L B r=B r':=by unfold aI;rw[h]
theorem aU{B L:FS}{r:aL}{d:D}(h:B r=.rt d):aI B L r=.rt d:=by unfold aI;rw[h]
theorem bL{m:List Md}{i:Nat}{f:FE}{r:aL}{d:D}(h:f r=.ok d):aR m i f r=.nx (r.set i (some d)):=by unfold aR;rw[h];rfl
theorem aX{m:List Md}{f:FE}{r:aL}{d:D}(h:f r=.ok d):dG m f r=.rt d:=by unfold dG;rw[h];rfl
theorem qG{m:List Md}{p:FQ}{L B:FS}{r:aL}{b:Bool}(h:p r=.ok b):eV m p L B r=if b=true then L r else B r:=by unfold eV;rw[h];rfl
theorem dR{m:List Md}{p:FQ}{B L:FS}{r:aL}(h:p r=.ok true):eV m p B L r=B r:=by rw[qG h,Q_d rfl]
theorem cG{m:List Md}{p:FQ}{L B:FS}{r:aL}(h:p r=.ok false):eV m p L B r=B r:=by rw[qG h,Q_e y_]
theorem mW{p:FQ}{f f':FE}{r:aL}(h:p r=.ok true):qr p f f' r=f r:=by unfold qr;rw[h];rfl
theorem mV{p:FQ}{f f':FE}{r:aL}(h:p r=.ok false):qr p f f' r=f' r:=by unfold qr;rw[h];rfl
theorem iy{B:aL->Res (List D)}{r:aL}{ds:List D}(h:B r=.ok ds)(L:ds.length<=1000):jU B r=.ok (.tup ds):=by unfold jU;rw[h,bind_ok,ou L];rfl
theorem iw{B:aL->Res (List D)}{r:aL}{ds:List D}(h:B r=.ok ds)(L:ds.length<=1000):jv B r=.ok (.lst ds):=by unfold jv;rw[h,bind_ok,ou L];rfl
theorem iC{ds:List D}{d:D}(h:ds.length<=1000):appD (.lst ds) [d]=some (.lst (ds++[d])):=by show(if ds.length<sizeLine then some _ else none)=_;rw[Q_d (by rw[H_];omega)]
theorem aP{L:aL->Res (List D)}{dds B:List D}{F:List D->Res D}{r:aL}{d:D}(N:L r=.ok B)(M:F (B++dds)=.ok d):bM L dds F r=.ok d:=by unfold bM;rw[N,bind_ok,M];rfl
theorem dO{f:FE}{k:D->Option D}{r:aL}{a d:D}(L:f r=.ok a)(B:k a=some d):f1 f k r=.ok d:=by unfold f1;rw[L,bind_ok,B];rfl
theorem aJ{f f':FE}{k:D->D->Option D}{r:aL}{a b d:D}(M:f r=.ok a)(L:f' r=.ok b)(B:k a b=some d):f2 f f' k r=.ok d:=by unfold f2;rw[M,bind_ok,L,bind_ok,B];rfl
theorem bY{B:aL->Res (List D)}{k:List D->Option D}{r:aL}{ds:List D}{d:D}(M:B r=.ok ds)(L:k ds=some d):fC B k r=.ok d:=by unfold fC;rw[M,bind_ok,L];rfl
theorem aC{f:FE}{B:aL->Res (List D)}{r:aL}{d:D}{ds:List D}(M:f r=.ok d)(L:B r=.ok ds):aH f B r=.ok (d::ds):=by unfold aH;rw[M,bind_ok,L];rfl
theorem aF{r:aL}:aE r=.ok []:=rfl
theorem cI{f:FE}{r:aL}{b:Bool}(h:f r=.ok (.bl b)):cK f r=.ok b:=by unfold cK;rw[h];rfl
theorem fA{f:FE}{r:aL}{d:D}{b:Bool}(h:f r=.ok d)(B:iJ d=some b):di f r=.ok b:=by unfold di;rw[h,bind_ok,B];rfl
theorem jj{p:FQ}{r:aL}{b:Bool}(h:p r=.ok b):fQ p r=.ok (! b):=by unfold fQ;rw[h];rfl
theorem yb{p q:FQ}{r:aL}(h:p r=.ok true):ig p q r=q r:=by unfold ig;rw[h];rfl
theorem LQ{p q:FQ}{r:aL}(h:p r=.ok false):ig p q r=.ok false:=by unfold ig;rw[h];rfl
theorem sT{p q:FQ}{r:aL}(h:p r=.ok true):kF p q r=.ok true:=by unfold kF;rw[h];rfl
theorem fJ{p q:FQ}{r:aL}(h:p r=.ok false):kF p q r=q r:=by unfold kF;rw[h];rfl
theorem qX{f f':FE}{r:aL}(h:f r=.ok (.bl true)):lU f f' r=f' r:=by unfold lU;rw[h];rfl
theorem eu{m:List Md}{fi:FI}{ft:FT}{b:FS}{r:aL}{ds:List D}(h:fi r=.ok ds):j6 m fi ft b r=bA ft b ds r:=by unfold j6;rw[h];rfl
theorem dD{f:FE}{r:aL}{d:D}{ds:List D}(h:f r=.ok d)(B:cS d=some ds):bI cS f r=.ok ds:=by unfold bI;rw[h,bind_ok,B];rfl
theorem eS{ft:FT}{b:FS}{r:aL}:bA ft b [] r=.nx r:=by rfl
theorem eq{ft:FT}{b:FS}{r r1 r':aL}{d:D}{ds:List D}(L:ft d r=some r1)(B:b r1=.nx r'):bA ft b (d::ds) r=bA ft b ds r':=by
 conv=>lhs;unfold bA
 simp only[L,B]
theorem E6{ft:FT}{b:FS}{r r1:aL}{d v:D}{ds:List D}(L:ft d r=some r1)(B:b r1=.rt v):bA ft b (d::ds) r=.rt v:=by
 conv=>lhs;unfold bA
 simp only[L,B]
theorem rF{m:List Md}{p:FQ}{b:FS}{n:Nat}{r:aL}(h:p r=.ok false):gj m p b (n+1) r=.nx r:=by unfold gj;rw[h];rfl
theorem pP{m:List Md}{p:FQ}{b:FS}{n:Nat}{r r':aL}(h:p r=.ok true)(B:b r=.nx r'):gj m p b (n+1) r=gj m p b n r':=by
 conv=>lhs;unfold gj
 rw[h,onE_ok,Q_d rfl,B]
theorem gc{T:String}{m:List Md}{i:Nat}{L:aL->Res (List D)}{B:D->List D->Option D}{r:aL}{d d':D}{ds:List D}(Y:r[i]? = some (some d))(U:Ct T d=true)(N:L r=.ok ds)(M:B d ds=some d'):cJ T m i L B r=.nx (r.set i (some d')):=by unfold cJ;rw[Y];simp only[U,Q_k,N,onE_ok,M]
theorem kW{m:List Md}{i:Nat}{L B:FE}{r:aL}{d k v d':D}(Y:r[i]? = some (some d))(U:B r=.ok v)(N:L r=.ok k)(M:ff d k v=some d'):DL.putF m i L B r=.nx (r.set i (some d')):=by unfold DL.putF;rw[U,onE_ok];simp only[Y,N,onE_ok,M]
theorem Nr{M L fc:FE}{k B:D->D->Option D}{r:aL}{x y w d:D}(a:M r=.ok x)(Z:L r=.ok y)(Y:k x y=some (.bl true))(U:fc r=.ok w)(N:B y w=some d):yJ M L fc k B r=.ok d:=by unfold yJ;rw[a,bind_ok,Z,bind_ok,Y,opt_some,bind_ok];rw[U,bind_ok,N];rfl
theorem QU{ft:FT}{q:FQ}{fe:FE}{B:aL}:iY ft q fe B []=.ok []:=by rfl
theorem IA{ft:FT}{q:FQ}{fe:FE}{M:aL}{L:Type}(e:L->D)(B:L->Bool)(g:L->D):∀(l:List L),(∀a∈l,∃r1,ft (e a) M=some r1/\q r1=.ok (B a)/\(B a=true->fe r1=.ok (g a)))->iY ft q fe M (l.map e)=.ok ((l.filter B).map g)
|[],_=>QU
|a::l,h=>by
  obtain⟨r1,c,Z,Y⟩:=h a j_;have N:=IA e B g l fun b U=>h b (l_ _ U);rw[s_]
  conv=>lhs;unfold iY
  rw[c,opt_some,bind_ok,Z,bind_ok];cases k:B a with
 |true=>rw[Q_d rfl,Y k,bind_ok,N,bind_ok,Yi,Q_d k];rfl
 |false=>simp_all
theorem dC{nl:Nat}{cap:List Nat}{fi:FI}{ft:FT}{q:FQ}{fe:FE}{r:aL}{L:Type}{l:List L}(e:L->D)(B:L->Bool)(g:L->D)(N:fi r=.ok (l.map e))(M:l.length<=1000)(h:∀a∈l,∃r1,ft (e a) (c9 nl cap r)=some r1/\q r1=.ok (B a)/\(B a=true->fe r1=.ok (g a))):cZ nl cap fi ft q fe r=.ok (.lst ((l.filter B).map g)):=by unfold cZ;rw[N,bind_ok,ou (by simpa using M),opt_some,bind_ok,IA e B g l h,noXL_ok,bind_ok]
theorem UW(k:Nat):L1 (.int 0) (nD k)=some (.bl true):=by show some (D.bl _)=_;rw[Q_c (YY k)]
theorem mQ(a b:Nat):mq (nD a) (nD b)=some (.bl (decide (a<b))):=by show some _=_;simp
theorem pi(a b:Nat):mG (nD a) (nD b)=some (.bl (decide (b<a))):=by show some _=_;simp
theorem j3(a b:Nat):eqD (nD a) (nD b)=some (.bl (decide (a=b))):=by
 unfold eqD;rw[eqB_int];show some _=_;have:((a)==(b:Int))=decide (a=b):=by rw[WV,beq_iff_eq,Q_h];exact Ķ
 rw[this]
theorem cY{B:FS}{n:Nat}{ds:List D}{d:D}(h:B (cQ n ds)=.rt d):dI false (B (cQ n ds))=.ok d:=by rw[h];rfl
abbrev kI(k:Nat):bG:=Sum.inl (k:Int)
theorem vD(B:List (Nat×D))(k:Nat):fm (B.map fun p=>(kI p.1,p.2)) (kI k)=decide (k∈B.map (·.1)):=by
 unfold fm;rw[Zv,WV,Zc,Q_h,m_]
 grind
theorem Al(B:List (Nat×D))(k:Nat)(d:D)(h:k∉B.map (·.1)):fj (B.map fun p=>(kI p.1,p.2)) (kI k) d=(B++[(k,d)]).map fun p=>(kI p.1,p.2):=by unfold fj;have e:((B.map fun p=>(kI p.1,p.2)).any fun L=>decide _)=decide _:=vD B k;rw[e,Q_b h,Q_e y_,WX];rfl
@[simp] theorem e_skip(r:aL):bR r=.nx r:=rfl
@[simp] theorem e_tupL(ds:List D):tupD [.lst ds]=some (.tup ds):=rfl
@[simp] theorem e_valsD(B:List (bG×D)):uP (.dic B)=some (.lst (B.map (·.2))):=rfl
theorem eZ{ds:List D}{i:Nat}{d:D}(h:ds[i]? = some d):bV (.tup ds) (nD i)=some d:=by have B:=(c_.mp h).1;show gU ds _=some d;unfold gU i7;rw[Q_d (YY i),Q_d (by omega)];simpa using h
theorem qA{ds:List D}{i:Nat}{d:D}(h:ds[i]? = some d):bV (.lst ds) (nD i)=some d:=by have B:=(c_.mp h).1;show gU ds _=some d;unfold gU i7;rw[Q_d (YY i),Q_d (by omega)];simpa using h
@[simp] theorem ixA_L0(d:D)(ds:List D):bV (.lst (d::ds)) (.int 0)=some d:=qA rfl
@[simp] theorem ixA_T0(d:D)(ds:List D):bV (.tup (d::ds)) (.int 0)=some d:=eZ rfl
theorem t6{B:List (bG×D)}{k:Nat}{d:D}(h:cM B (kI k)=some d):bV (.dic B) (nD k)=some d:=h
theorem tU(l:List Nat)(k:Nat):(l.map nD).any (fun y=>eqs y (nD k))=decide (k∈l):=by
 rw[Zv,WV,Zc,Q_h];constructor
 .rintro⟨x,h1,h2⟩
  have:(((x))==(k:Int))=true:=h2
  grind
 .intro h;exact⟨k,h,by show(((k):Int)==(k))=true;simp⟩
theorem uJ(l:List Nat):(l.map nD).all dm=true:=by rw[WZ];intro x B;obtain⟨k,_,rfl⟩:=m_.mp B;rfl
theorem Vm(l:List Nat)(k:Nat):gN (nD k) (LN l)=some (.bl (decide (k∈l))):=by show(if dm _=true/\(l.map nD).all dm=true then some _ else none).map D.bl=_;rw[Q_d ⟨rfl,uJ l⟩,tU];rfl
theorem yR(l:List Nat)(k:Nat):eG (nD k) (LN l)=some (.bl (! decide (k∈l))):=by show(if dm _=true/\(l.map nD).all dm=true then some _ else none).map _=_;rw[Q_d ⟨rfl,uJ l⟩,tU];rfl
theorem Kh(k b:Nat):wG [nD k,nD b]=.ok (.bl (decide (k<b))):=by
 refine cR (n:=2) ?_
 dsimp only[wK]
 refine aU (aX ?_);exact(qX (aP (aC (d:=nD k) rfl aF) ((fun k=>rfl) k))).trans (Nr rfl rfl (UW k) rfl (mQ k b))
theorem jN{B:Type}(f:B->D)(l:List B):lenD [.tup (l.map f)]=some (nD l.length):=by show some _=_;rw[h_]
theorem iA{B:Type}(f:B->D)(l:List B):lenD [.lst (l.map f)]=some (nD l.length):=by show some _=_;rw[h_]
theorem HU{B:Type}(f:B->bG×D)(l:List B):lenD [.dic (l.map f)]=some (nD l.length):=by show some _=_;rw[h_]
theorem nj(n:Nat):eqD (nD n) (nD n)=some (.bl true):=by
 have e:=j3 n n
 grind
theorem EE(n:Nat):fH 0 n=(g_ n).map nD:=by unfold fH;simp_all
theorem Pc(j:Int):uB [.int j]=if-(2^62)<=j/\j<2^62/\j.toNat<=sizeLine then some (.lst (fH 0 j.toNat))else none:=rfl
theorem pK{n:Nat}(h:n<=1000):uB [nD n]=some (LN (g_ n)):=by
 have B:(n:Int).toNat<=sizeLine:=by rw[Xg,H_];omega
 rw[Pc,Q_d ⟨by omega,by omega,B⟩,Xg,EE]
theorem Ob(j:Int):iN [.int j]=if-(2^62)<=j/\j<2^62 then some (fH 0 j.toNat)else none:=rfl
theorem kZ{n:Nat}(h:n<=1000):iN [nD n]=some ((g_ n).map nD):=by rw[Ob,Q_d ⟨by omega,by omega⟩,Xg,EE]
theorem lc{B:aL->Res (List D)}{k:List D->Option (List D)}{r:aL}{ds L:List D}(N:B r=.ok ds)(M:k ds=some L):jz k B r=.ok L:=by unfold jz;rw[N,bind_ok,M];rfl
theorem JH{p:Nat->Bool}:∀(l:List Nat),l.find? p=(l.filter p).head?
|[]=>rfl
|a::l=>by grind
theorem Du(o:Option Nat)(x:Nat):eqD (oD o) (nD x)=some (.bl (decide (o=some x))):=by cases o with
|none=>unfold eqD oD;simp
|some k=>show eqD (nD k) _=_;rw[j3];simp
def own(owns:List (Option Nat))(h:Nat):Option Nat:=(owns[h]?).join
theorem Ev{owns:List (Option Nat)}{h:Nat}(B:h<owns.length):(owns.map oD)[h]? = some (oD (own owns h)):=by
 unfold own
 grind
theorem rZ{B:List Nat}{rest:List (List Nat)}:qa [WD (B::rest)]=.ok (nD B.length):=by refine cY ?_;exact aU (aX (bY (aC (aJ rfl rfl (ixA_T0 _ _)) aF) (jN _ _)))
theorem HF{L B:List Nat}(h:∃x∈L,x∈B)(U:L.length<=1000):jP [TN L,LN B]=.ok (nD (Rg.best L B)):=by
 refine cY ?_;have M:(cZ 1 [1] (bI cS (gv 0)) (bC 0) (cK (f2 (gv 0) (gv 1) gN)) (gv 0)) [some (TN L),some (LN B)]=.ok (LN (L.filter fun x=>decide (x∈B))):=by
  refine dC nD _ nD rfl U fun a _=>⟨_,rfl,?_,fun _=>rfl⟩
  exact cI (aJ rfl rfl (Vm _ _))
 have Y:∃t,(L.filter fun x=>decide (x∈B))=Rg.best L B::t:=by unfold Rg.best;rw[JH];cases e:L.filter fun x=>decide (x∈B)with
 |nil=>
   obtain⟨x,b,Z⟩:=h;have:x∈L.filter fun x=>decide _:=n_.mpr ⟨b,by simpa using Z⟩
   grind
 |cons a t=>exact⟨t,rfl⟩
 obtain⟨t,N⟩:=Y;rw[N]at M;exact aU (aX (aJ M rfl (ixA_L0 _ _)))
abbrev jh(pre:List Nat):D:=.dic ((pre.map fun k=>(k,D.bl true)).map fun p=>(kI p.1,p.2))
theorem FX(b:Nat)(L:D):∀(B pre:List Nat)(x y:Option D),(pre++B).Nodup->(∀k∈B,k<b)->(pre++B).length<=1000 ->∃U N,bA (gy (de (bC 3) (de (bC 4) gB))) Ls (eM pre.length (B.map nD)) [some L,some (nD b),some (jh pre),x,y]=.nx [some L,some (nD b),some (jh (pre++B)),U,N]
|[],pre,x,y,_,_,_=>⟨x,y,by rw[T_];exact eS⟩
|k::B,pre,x,y,f,c,Z=>by
  obtain⟨U,N,Y⟩:=FX b L B (pre++[k]) (some (nD pre.length)) (some (nD k)) (by simpa using f) (fun j g=>c j (l_ _ g)) (by simpa using Z);refine⟨U,N,?_⟩;rw[show(pre++[k]).length=pre.length+1 by simp]at Y;rw[show pre++k::B=(pre++[k])++B by simp,<-Y];refine eq rfl ?_;have i:gN (nD k) (jh pre)=some (.bl false):=by
   show(some (fm _ (kI k))).map D.bl=_;rw[vD,t_]
   grind
  have h:ff (jh pre) (nD k) (.bl true)=some (jh (pre++[k])):=by show(if _ then some (D.dic (fj _ (kI k) (.bl true)))else none)=_;rw[Q_d (by rw[h_,h_,H_];simp at Z;omega),Al _ _ _ (by grind)];simp
  have l:decide (k<b)=true:=Q_c (c k j_);unfold Ls;have M:(kF (fQ (di (bM (aH (gv 4) (aH (gv 1) aE)) [] wG))) (cK (f2 (gv 4) (gv 2) gN))) [some L,some (nD b),some (jh pre),some (nD pre.length),some (nD k)]=.ok false:=by have e:=Kh k b;rw[l]at e;rw[fJ (jj (fA (b:=true) (aP (aC (d:=nD k) rfl (aC (d:=nD b) rfl aF)) e) rfl))];exact cI (aJ (a:=nD k) (b:=jh pre) rfl rfl i)
  refine(aN (qG M)).trans ?_;exact aN (kW (d:=jh pre) (k:=nD k) rfl rfl rfl h)
theorem Ui{l:List Nat}{b:Nat}(B:l.Nodup)(M:∀k∈l,k<b)(L:l.length<=1000):TB [LN l,nD b]=.ok (nD l.length):=by obtain⟨U,N,h⟩:=FX b _ l [] none none B M L;refine cY ?_;refine(aN ((eu rfl).trans h)).trans ?_;exact aU (aX (bY (aC rfl aF) (iA _ _)))
theorem Gi{l:List Nat}{n:Nat}(B:l.Nodup)(L:∀k∈l,k<n)(N:l.length=n)(M:n<=1000):Lq [LN l,nD n]=.ok (.bl true):=by
 refine cR (n:=2) ?_
 dsimp only[xt]
 subst N;refine aU (aX ?_);rw[qX (aJ (a:=nD l.length) (b:=nD l.length) (bY (aC (d:=LN l) rfl aF) (iA _ _)) rfl (nj _))];exact aP (aC (d:=LN l) rfl (aC (d:=nD l.length) rfl aF)) ((fun B L M=>by refine cY ?_;exact aU (aX (aJ (aP (aC rfl (aC rfl aF)) (Ui B L M)) (bY (aC rfl aF) (iA _ _)) (nj _)))) B L M)
theorem Im{rows:List (List Nat)}{l:List Nat}(B:l.Nodup)(M:∀k∈l,k<rows.length)(L:l.length=rows.length)(N:rows.length<=1000):wH [WD rows,LN l]=.ok (LN l):=by
 refine cR (n:=2) ?_
 dsimp only[qc]
 refine(aN ((qG (b:=false) (jj (b:=true) (fA (aP (aC (d:=LN l) rfl (aC (bY (aC (d:=WD rows) rfl aF) (jN _ _)) aF)) (Gi B M L N)) rfl))).trans rfl)).trans ?_;exact aU (aX (bY (aC (d:=LN l) rfl aF) rfl))
theorem FZ(owns:List (Option Nat))(line:List Nat)(x:Nat):∀(l:List Nat)(y:Option D),(∀h∈l,h<owns.length) ->(match l.find? (fun h=>decide (own owns h=some x))with
  |some h=>bA (bC 3) xb (l.map nD) [some (OD owns),some (LN line),some (nD x),y]=.rt (nD h)
  |none=>∃L,bA (bC 3) xb (l.map nD) [some (OD owns),some (LN line),some (nD x),y]=.nx [some (OD owns),some (LN line),some (nD x),L])
|[],y,_=>⟨y,eS⟩
|h::l,y,B=>by have c:(cK (f2 (f2 (gv 0) (gv 3) bV) (gv 2) eqD)) [some _,some (LN line),some (nD x),some _]=.ok _:=cI (aJ (aJ rfl rfl (eZ (Ev (B h j_)))) rfl (Du _ _));rw[WW];cases e:decide (own owns h=some x)with
 |true=>rw[e]at c;refine E6 rfl ?_;exact aU ((dR c).trans (aU (aX rfl)))
 |false=>
   rw[e]at c;have U:=FZ owns line x l (some (nD h)) fun k M=>B k (l_ _ M);have N:bA (bC 3) xb _ [some _,some _,some _,y]=bA _ xb (l.map nD) [some _,some _,some _,some _]:=eq rfl ((aN (cG c)).trans rfl)
   grind
theorem Io{owns:List (Option Nat)}{line:List Nat}{x:Nat}(B:∀h∈line,h<owns.length):J3 [OD owns,LN line,nD x]=.ok (oD (line.find? fun h=>decide (own owns h=some x))):=by refine cY ?_;have h:=FZ owns line x line none B;cases e:line.find? fun h=>decide (own owns h=some x)with
|some k=>rw[e]at h;exact aU ((eu rfl).trans h)
|none=>rw[e]at h;obtain⟨L,h⟩:=h;exact(aN ((eu rfl).trans h)).trans (aU (aX rfl))
theorem Dk(o:Option Nat):tm (oD o) .non=some (.bl (decide (o=none))):=by cases o <;> rfl
theorem Sg{owns:List (Option Nat)}{line:List Nat}{x:Nat}(L:∀h∈line,h<owns.length)(B:line≠[]):B9 [OD owns,LN line,nD x]=.ok (nD ((line.find? fun h=>decide (own owns h=some x)).getD (line.headD 0))):=by refine cY ?_;refine(aN (bL (aP (aC rfl (aC rfl (aC rfl aF))) (Io L)))).trans ?_;refine aU (aX ?_);have c:=cI (aJ (f:=gv 3) (f':=fun _=>Res.ok D.non) (r:=[some (OD owns),some (LN line),some (nD x),some _]) rfl rfl (Dk (line.find? fun h=>decide (own owns h=some x))));cases e:line.find? fun h=>decide (own owns h=some x)with
|some k=>rw[e,Q_b (by simp)]at c;exact(mV c).trans rfl
|none=>rw[e,Q_c rfl]at c;refine(mW c).trans ?_;cases line with
 |nil=>exact Q_f rfl B
 |cons a l=>exact aJ rfl rfl (ixA_L0 _ _)
abbrev KD(kvs:List (Nat×Nat)):D:=.dic (kvs.map fun p=>(kI p.1,nD p.2))
abbrev FD(l:List Nat)(f:Nat->Nat):List (Nat×Nat):=l.map fun h=>(h,f h)
theorem wm:∀{B:List (Nat×Nat)}{h:Nat}{f:Nat->Nat},(∀p∈B,p.2=f p.1)->h∈B.map (·.1)->cM (B.map fun p=>(kI p.1,nD p.2)) (kI h)=some (nD (f h))
|[],_,_,_,L=>by cases L
|p::B,h,f,M,L=>by
  by_cases e:p.1=h
  .have:=M p j_;subst e;simp[cM,WW,this]
  .have hh':h∈B.map (·.1):=by grind
   have N:=wm (fun q U=>M q (l_ _ U)) hh';have Y:cM ((p::B).map fun p=>(kI p.1,nD p.2)) (kI h)=cM (B.map fun p=>(kI p.1,nD p.2)) (kI h):=by
    simp only[cM,s_]
    grind
   rw[Y];exact N
theorem qT{l:List Nat}{f:Nat->Nat}{h:Nat}(L:h∈l):bV (KD (FD l f)) (nD h)=some (nD (f h)):=t6 (wm (fun p B=>by grind) (by grind))
def putN(kvs:List (Nat×Nat))(k v:Nat):List (Nat×Nat):=if k∈kvs.map (·.1)then kvs.map fun p=>if p.1=k then(p.1,v)else p else kvs++[(k,v)]
theorem tu(B:List (Nat×Nat))(k:Nat):((B.map fun p=>(kI p.1,nD p.2)).any fun L=>decide (L.1=kI k))=decide (k∈B.map (·.1)):=by
 rw[Zv,WV,Zc,Q_h,m_]
 grind
theorem EB(B:List (Nat×Nat))(k v:Nat):fj (B.map fun p=>(kI p.1,nD p.2)) (kI k) (nD v)=(putN B k v).map fun p=>(kI p.1,nD p.2):=by
 unfold fj putN;rw[tu];by_cases h:k∈B.map (·.1)
 .rw[Q_c h,Q_d rfl,Q_d h,t_,t_];refine W3 fun p _=>?_
  grind
 grind
theorem Q9(B:List (Nat×Nat))(k v j:Nat):j∈(putN B k v).map (·.1)↔j∈B.map (·.1)\/j=k:=by
 unfold putN
 grind
theorem Qw{B:List (Nat×Nat)}{k v:Nat}{f:Nat->Nat}(h:∀p∈B,p.2=f p.1)(M:v=f k):∀p∈putN B k v,p.2=f p.1:=by
 intro p L;unfold putN at L
 grind
theorem uV{B:List (Nat×Nat)}{k v:Nat}(L:B.length<=1000):ff (KD B) (nD k) (nD v)=some (KD (putN B k v)):=by show(if (B.map fun p=>(kI p.1,nD p.2)).length<sizeLine then some _ else none)=_;rw[Q_d (by rw[h_,H_];omega),EB]
structure GI(t:Nat->Nat)(kvs:List (Nat×Nat))(L:List Nat):Prop where
 nd:(kvs.map (·.1)).Nodup
 val:∀p∈kvs,p.2=t p.1
 key:∀h,h∈kvs.map (·.1)↔h∈L
theorem N6{B:List (Nat×Nat)}{k v:Nat}(h:(B.map (·.1)).Nodup):((putN B k v).map (·.1)).Nodup:=by
 unfold putN
 grind
theorem GI.put{t:Nat->Nat}{B:List (Nat×Nat)}{L:List Nat}(g:GI t B L)(k:Nat):GI t (putN B k (t k)) (L++[k]):=⟨N6 g.nd,Qw g.val rfl,fun h=>by rw[Q9,g.key];simp⟩
theorem GI.len{t:Nat->Nat}{B:List (Nat×Nat)}{L line:List Nat}(g:GI t B L)(hs:∀h∈L,h∈line):B.length<=line.length:=by have:=Rg.nr g.nd fun h M=>hs h ((g.key h).mp M);simpa using this
theorem GI.congr{t t':Nat->Nat}{B:List (Nat×Nat)}{L:List Nat}(g:GI t B L)(h:∀x∈L,t' x=t x):GI t' B L:=⟨g.nd,fun p M=>by rw[g.val p M,h p.1 ((g.key _).mp (m_.mpr ⟨p,M,rfl⟩))],g.key⟩
theorem GI.mem{t:Nat->Nat}{B:List (Nat×Nat)}{L M:List Nat}(g:GI t B L)(h:∀x,x∈L↔x∈M):GI t B M:=⟨g.nd,g.val,fun x=>(g.key x).trans (h x)⟩
theorem GI.nil(t:Nat->Nat):GI t [] []:=⟨by simp,fun _ B=>(nomatch B),fun h=>by simp⟩
theorem eU{B:Type}(l:List B):l.filter (fun _=>true)=l:=Ė.mpr fun _ _=>rfl
theorem GI.full{t:Nat->Nat}{B:List (Nat×Nat)}{L:List Nat}{n:Nat}(g:GI t B L)(h:∀x,x∈L↔x<n):B.length=n:=by have U:=g.len fun x M=>p_.mpr ((h x).mp M);have N:=Rg.nr Xd fun x M=>(g.key x).mpr ((h x).mpr (p_.mp M));simp at U N;omega
def Wr(rows:List (List Nat))(h:Nat):List Nat:=(rows[h]?).getD []
theorem vA{rows:List (List Nat)}{h:Nat}(B:h<rows.length):(rows.map TN)[h]? = some (TN (Wr rows h)):=by rw[A_];unfold Wr;rw[k_ B];rfl
theorem Hz{B:List (Nat×Nat)}{k v:Nat}(h:k∉B.map (·.1)):putN B k v=B++[(k,v)]:=by unfold putN;rw[Q_e h]
theorem Ld{a:Nat->Nat}{B:List (Nat×Nat)}{L:List Nat}{n:Nat}(g:GI a B L)(h:∀x,x∈L↔x<n)(U:n<=60):SX [KD B]=.ok (TN ((g_ n).map a)):=by
 have N:=g.full h;refine cR (n:=1) ?_
 dsimp only[wQ]
 refine aU (aX (bY (aC (dC (l:=g_ n) nD (fun _=>true) (fun h=>nD (a h)) (lc (ds:=[nD n]) (aC (bY (aC (d:=KD B) rfl aF) (by rw[HU,N])) aF) (kZ (by omega))) (by simp;omega) fun x M=>⟨[some (nD x),some (KD B)],rfl,rfl,fun _=>aJ (a:=KD B) (b:=nD x) rfl rfl (t6 (wm g.val ((g.key x).mpr ((h x).mpr (p_.mp M)))))⟩) aF) ?_));rw[eU,e_tupL];show some (D.tup _)=some (D.tup _);rw[t_];rfl
abbrev jG(t:Nat->Nat)(h:Nat):D:=.tup [nD h,nD (t h)]
abbrev dL(t:Nat->Nat)(ring:List Nat):D:=.tup (ring.map (jG t))
def lJ(t:Nat->Nat):Option (List Nat)->D
|some ring=>dL t ring
|none=>.non
section
variable{t f:Nat->Nat}{line:List Nat}{first:Nat}(hcl:∀h∈line,f h∈line)(hn:line.length<=60)
include hcl hn
theorem N9:∀(j:Nat)(M:List Nat)(N:Nat),N∈line->M.length<=line.length->line.length<j+M.length ->∃L B,gj mf Ts TK j [some (nD first),some (KD (FD line t)),some (KD (FD line f)),some (.lst (M.map (jG t))),some (nD N)]=.nx [some (nD first),some (KD (FD line t)),some (KD (FD line f)),some (.lst (L.map (jG t))),some (nD B)] /\∀k,line.length<k+M.length->Rg.jD f line.length first k M N=if B=first then some L else none:=by
 intro j
 induction j with
|zero=>grind
|succ j b=>
  intro M N a h g;have U:(cK (f2 (gv 4) (gv 0) mG)) [some (nD first),some (KD (FD line t)),some (KD (FD line f)),some (.lst (M.map (jG t))),some (nD N)]=.ok _:=cI (aJ rfl rfl (pi _ _));have Z:(cK (f2 (fC (aH (gv 3) aE) lenD) (fC (aH (gv 1) aE) lenD) mq)) [some (nD first),some (KD (FD line t)),some (KD (FD line f)),some (.lst (M.map (jG t))),some (nD N)]=.ok (decide (M.length<line.length)):=by refine cI (aJ (bY (aC rfl aF) (iA _ _)) (bY (aC rfl aF) ?_) (mQ _ _));rw[HU,h_]
  by_cases Y:first<N/\M.length<line.length
  .have cq:=by rw[Q_c Y.1]at U;rw[Q_c Y.2]at Z;exact(yb U).trans Z
   obtain⟨L,B,c,e⟩:=b (M++[N]) _ (hcl N a) (by simp;omega) (by simp;omega);refine⟨L,B,?_,fun k d=>?_⟩
   .rw[pP cq ?_]
    .exact c
    .refine(aN (gc rfl rfl (aC (iy (aC rfl (aC (aJ rfl rfl (qT a)) aF)) (by simp)) aF) (iC (by simp;omega)))).trans ?_;refine(aN (bL (aJ rfl rfl (qT a)))).trans ?_;show Out.nx [_,_,_,some _,_]=_
     grind
   .cases k with
   |zero=>omega
   |succ k=>
     unfold Rg.jD
     grind
  .refine⟨M,N,rF ?_,fun k d=>?_⟩
   .by_cases hc1:first<N
    .rw[Q_c hc1]at U;rw[Q_b (fun z=>Y ⟨hc1,z⟩)]at Z;exact(yb U).trans Z
    .rw[Q_b hc1]at U;exact LQ U
   .cases k with
   |zero=>omega
   |succ k=>unfold Rg.jD;rw[Q_e Y]
theorem P9(M:first∈line):Sw [nD first,KD (FD line t),KD (FD line f)]=.ok (lJ t (Rg.nK f line.length first)):=by
 refine cY ?_;have N:=Yn M;obtain⟨L,B,Z,Y⟩:=N9 hcl hn 64 [first] _ (hcl first M) (by show 1<=_;omega) (by omega);refine(aN (bL (iw (aC (iy (aC rfl (aC (aJ rfl rfl (qT M)) aF)) (by simp)) aF) (by simp)))).trans ?_;refine(aN (bL (aJ rfl rfl (qT M)))).trans ?_;refine(aN Z).trans ?_;have U:Rg.nK f line.length first=if B=first then some L else none:=Y _ (by omega)
 rw[U];have c:=cI (aJ (f:=gv 4) (f':=gv 0) (r:=[some _,some (KD (FD line t)),some (KD (FD line f)),some (.lst (L.map (jG t))),some _]) rfl rfl (j3 B first));by_cases e:B=first
 .rw[Q_c e]at c;rw[Q_d e];exact aU (aX ((mW c).trans (bY (aC rfl aF) rfl)))
 .rw[Q_b e]at c;rw[Q_e e];exact aU (aX ((mV c).trans rfl))
end
structure Snd(rows:List (List Nat))(owns:List (Option Nat))(s:Rg.S):Prop where
 ok:Rg.Ok (Wr rows) (own owns) s
 inr:∀h∈s.line,h<rows.length
 ino:∀h∈s.line,h<owns.length
 wid:∀h∈s.line,(Wr rows h).length<=1000
 nl:s.line.length<=60
 nt:s.things.length<=60
variable{rows:List (List Nat)}{owns:List (Option Nat)}
section
variable{s:Rg.S}
theorem Snd.tg(S:Snd rows owns s){h:Nat}(B:h∈s.line):jP [TN (Wr rows h),LN s.things]=.ok (nD (Rg.eh (Wr rows) s h)):=HF (S.ok.some_thing B) (S.wid h B)
theorem Snd.pts(S:Snd rows owns s){x h:Nat}(B:h∈s.line):B9 [OD owns,LN s.line,nD x]=.ok (nD (Rg.pt (own owns) s x)):=Sg S.ino (Xp B)
abbrev tS(rows:List (List Nat))(s:Rg.S):Nat->Nat:=Rg.eh (Wr rows) s
abbrev fS(rows:List (List Nat))(owns:List (Option Nat))(s:Rg.S):Nat->Nat:=Rg.nxt (Wr rows) (own owns) s
theorem Gg(S:Snd rows owns s):∀(B pre:List Nat)(y:Option D),pre++B=s.line ->
  ∃M,bA (bC 6) Um (B.map nD) [some (WD rows),some (OD owns),some (LN s.line),some (LN s.things),some (KD (FD pre (tS rows s))),some (KD (FD pre (fS rows owns s))),y,none]
   = .nx [some (WD rows),some (OD owns),some (LN s.line),some (LN s.things),some (KD (FD s.line (tS rows s))),some (KD (FD s.line (fS rows owns s))),M,none]
|[],pre,y,e=>⟨y,by rw[T_]at e;rw[e];exact eS⟩
|h::B,pre,y,e=>by
  obtain⟨M,Y⟩:=Gg S B (pre++[h]) (some (nD h)) (by simpa using e);have N:h∈s.line:=by rw[<-e];simp
  have U:=S.ok.nl;rw[<-e]at U;have f:h∉pre:=fun z=>(ZV.mp U).2.2 h z h j_ rfl;have L:pre.length<=1000:=by
   have:=S.nl
   grind
  refine⟨M,?_⟩;rw[<-Y];refine eq rfl ?_;have c:ff (KD (FD pre (tS rows s))) (nD h) (nD (tS rows s h))=some (KD (FD (pre++[h]) (tS rows s))):=by
   rw[uV (by simpa using L),Hz (by grind)]
   grind
  have Z:ff (KD (FD pre (fS rows owns s))) (nD h) (nD (fS rows owns s h))=some (KD (FD (pre++[h]) (fS rows owns s))):=by
   rw[uV (by simpa using L),Hz (by grind)]
   grind
  refine(aN (kW (d:=KD (FD pre (tS rows s))) (k:=nD h) (v:=nD (tS rows s h)) rfl (aP (aC (aJ (a:=WD rows) (b:=nD h) rfl rfl (eZ (vA (S.inr h N)))) (aC (d:=LN s.things) rfl aF)) (S.tg N)) rfl c)).trans ?_;refine(aN (kW (d:=KD (FD pre (fS rows owns s))) (k:=nD h) (v:=nD (fS rows owns s h)) rfl (aP (aC (d:=OD owns) rfl (aC (d:=LN s.line) rfl (aC (aJ (a:=KD (FD (pre++[h]) (tS rows s))) (b:=nD h) rfl rfl (qT (by simp))) aF))) (S.pts N)) rfl Z)).trans ?_;rfl
theorem zB{B:Type}(t:Nat->Nat)(f:B->Option (List Nat)):∀(l:List B),(((l.map f).filter ĺ).map (lJ t))=(l.filterMap f).map (dL t)
|[]=>rfl
|a::l=>by rw[s_,Yi,Zq];cases e:f a with
 |none=>simpa using zB t f l
 |some r=>simpa[lJ]using zB t f l
theorem S4(t:Nat->Nat)(h:Nat):nQ (jG t h)=some [(h:Int),(t h:Int)]:=rfl
theorem Hq(t:Nat->Nat):∀(B:List Nat),nL (B.map (jG t))=some (B.map fun h:Nat=>[(h:Int),(t h:Int)])
|[]=>rfl
|h::B=>by show(nQ _).bind _=_;rw[S4,Hq t B];rfl
theorem Ij(t:Nat->Nat):∀(rs:List (List Nat)),(∀r∈rs,r≠[])->∃B,nS (rs.map (dL t))=some B
|[],_=>⟨[],rfl⟩
|r::rs,h=>by obtain⟨B,e⟩:=Ij t rs fun x L=>h x (l_ _ L);have M:=h r j_;cases r with
 |nil=>exact Q_f rfl M
 |cons a r=>refine⟨((a::r).map fun h:Nat=>[(h),(t h)])::B,?_⟩;show(nL ((a::r).map _)).bind _=_;rw[Hq,e];rfl
theorem RP(t:Nat->Nat)(rs:List (List Nat))(h:∀r∈rs,r≠[])(U:rs.length<64):∃B:List (List Nat),B.Perm rs/\yx [.lst (rs.map (dL t))]=some (.lst (B.map (dL t))):=by
 obtain⟨L,e⟩:=Ij t rs h;refine⟨(lF (rs.map (dL t)).length fun i j=>gL (L.getD i []) (L.getD j [])).map fun i=>rs.getD i [],?_,?_⟩
 .have:=(AQ (rs.map (dL t)).length fun i j=>gL (L.getD i []) (L.getD j [])).map fun i=>rs.getD i [];refine this.trans ?_;rw[h_];have N:(g_ rs.length).map (fun i=>rs.getD i [])=rs:=by
   refine ZW fun i=>?_
   grind
  rw[N]
 .show(nS _).bind _=_;rw[e];show(if _ then _ else _)=_;rw[Q_d (by grind)];rw[t_];congr 2;refine W3 fun i M=>?_;have M:=AC M
  grind
theorem O6(t:Nat->Nat)(o:Option (List Nat)):mB (lJ t o) .non=some (.bl o.isSome):=by cases o <;> rfl
theorem RL(S:Snd rows owns s):∃rs:List (List Nat),rs.Perm (Rg.jc (Wr rows) (own owns) s)/\Ln [WD rows,OD owns,LN s.line,LN s.things]=.ok (.lst (rs.map (dL (tS rows s)))):=by
 obtain⟨f,B⟩:=Gg S s.line [] none rfl;have N:∀h∈s.line,fS rows owns s h∈s.line:=fun h M=>Rg.yT (Xp M);have U:(Rg.jc (Wr rows) (own owns) s).length<=s.line.length:=Z5 _ _;obtain⟨L,c,Y⟩:=RP (tS rows s) (Rg.jc (Wr rows) (own owns) s) (by intro r Z;obtain⟨x,_,e⟩:=Xh.mp Z;exact Rg.Ge e) (by have:=S.nl;omega);refine⟨L,c,cR (n:=8) ?_⟩
 dsimp only[Cg]
 refine(aN ((eu (ds:=s.line.map nD) rfl).trans B)).trans ?_;refine(aN (bL (dC (l:=s.line) nD (fun _=>true) (fun h=>lJ (tS rows s) (Rg.nK (fS rows owns s) s.line.length h)) rfl (by have:=S.nl;omega) fun h M=>⟨[some (nD h),some (KD (FD s.line (tS rows s))),some (KD (FD s.line (fS rows owns s)))],rfl,rfl,fun _=>aP (aC (d:=nD h) rfl (aC (d:=KD (FD s.line (tS rows s))) rfl (aC (d:=KD (FD s.line (fS rows owns s))) rfl aF))) (P9 N S.nl M)⟩))).trans ?_;rw[eU];refine aU (aX (bY (aC (dC (l:=s.line.map (Rg.nK (fS rows owns s) s.line.length)) (lJ (tS rows s)) ĺ (lJ (tS rows s)) ?_ (by have:=S.nl;simp;omega) fun o _=>⟨[some (lJ (tS rows s) o)],rfl,cI (aJ (a:=lJ (tS rows s) o) (b:=.non) rfl rfl (O6 _ _)),fun _=>rfl⟩) aF) ?_))
 .rw[t_];rfl
 .rw[zB];exact Y
theorem DB{t:Nat->Nat}{line:List Nat}(e:line.length<=60)(Z d:D):∀(M L:List Nat)(N:List (Nat×Nat))(x y:Option D),GI t N L->(∀h∈L++M,h∈line) ->∃B Y U,GI t B (L++M)/\bA (gy (de (bC 3) (de (bC 4) gB))) Ju (M.map (jG t)) [some Z,some (KD N),some d,x,y]=.nx [some Z,some (KD B),some d,Y,U]
|[],L,N,x,y,g,a=>⟨N,x,y,by grind,eS⟩
|h::M,L,N,x,y,g,a=>by obtain⟨B,Y,U,f,b⟩:=DB e Z d M _ _ _ _ (g.put h) (by simpa using a);refine⟨B,Y,U,by simpa using f,?_⟩;rw[<-b];have i:=g.len fun x c=>a x (Zh _ c);exact eq rfl (aN (kW rfl rfl rfl (uV (by omega))))
theorem Fa{t:Nat->Nat}{line:List Nat}(c:line.length<=60)(U:D):∀(rs:List (List Nat))(L:List Nat)(N:List (Nat×Nat))(z x y:Option D),GI t N L->(∀h∈L++rs.flatten,h∈line) ->∃B Y a Z,GI t B (L++rs.flatten)/\bA (bC 2) Rt (rs.map (dL t)) [some U,some (KD N),z,x,y]=.nx [some U,some (KD B),Y,a,Z]
|[],L,N,z,x,y,g,b=>⟨N,z,x,y,by simpa using g,eS⟩
|r::rs,L,N,z,x,y,g,b=>by obtain⟨M,e,d,j,i⟩:=DB c U _ r L N x y g fun h k=>b h (by grind);obtain⟨B,Y,a,Z,l,f⟩:=Fa c U rs _ M _ e d j (by grind);refine⟨B,Y,a,Z,by grind,?_⟩;rw[<-f];exact eq rfl (aN ((eu rfl).trans i))
theorem zR{t:Nat->Nat}{line:List Nat}{rs:List (List Nat)}(N:line.length<=60)(hs:∀h∈rs.flatten,h∈line):∃L,GI t L rs.flatten/\vW [.lst (rs.map (dL t))]=.ok (KD L):=by obtain⟨B,Y,a,Z,U,h⟩:=Fa N _ rs [] [] none none none ⟨by simp,fun _ M=>(nomatch M),fun h=>by simp⟩ (by simpa using hs);refine⟨B,by simpa using U,cY ?_⟩;refine(aN ((eu rfl).trans h)).trans ?_;exact aU (aX rfl)
end
inductive Ch(rows:List (List Nat))(owns:List (Option Nat)):Rg.S->List (List (List Nat)×Rg.S)->Prop where
 |nil {s:Rg.S}:s.line=[]->Ch rows owns s []
 |cons {s:Rg.S} {rs:List (List Nat)} {l:List (List (List Nat)×Rg.S)}:rs.Perm (Rg.jc (Wr rows) (own owns) s)->Ch rows owns (Rg.minus (Wr rows) s rs.flatten) l->Ch rows owns s ((rs,s)::l)
abbrev ir(rows:List (List Nat))(p:List (List Nat)×Rg.S):D:=.lst (p.1.map (dL (tS rows p.2)))
theorem Ak{s:Rg.S}{rs:List (List Nat)}(M:rs.Perm (Rg.jc (Wr rows) (own owns) s)):Rg.Cyc (Wr rows) (own owns) s rs.flatten:=Rg.Gf (fun h B=>by obtain⟨r,U,N⟩:=XS.mp B;grind) (fun r L h B=>XS.mpr ⟨r,M.mem_iff.mpr L,B⟩)
theorem Snd.minus{s:Rg.S}(S:Snd rows owns s){C:List Nat}(c:Rg.Cyc (Wr rows) (own owns) s C):Snd rows owns (Rg.minus (Wr rows) s C) where
 ok:=Rg.qZ S.ok c
 inr:=fun h B=>S.inr h (n_.mp B).1
 ino:=fun h B=>S.ino h (n_.mp B).1
 wid:=fun h B=>S.wid h (n_.mp B).1
 nl:=O_ (Xz _ _) S.nl
 nt:=O_ (Xz _ _) S.nt
theorem Pf{s:Rg.S}{C:List Nat}(c:Rg.Cyc (Wr rows) (own owns) s C)(B:C≠[]):(Rg.minus (Wr rows) s C).line.length<s.line.length:=by obtain⟨x,L⟩:=X3 _ B;have:=Rg.wF (fun h=>decide (h∉C)) s.line;have M:0<(s.line.filter fun h=>! decide (h∉C)).length:=Yn (n_.mpr ⟨c.sub x L,by simpa using L⟩);show(s.line.filter _).length<_;omega
theorem yl{B:List (Nat×Nat)}{L:List Nat}{t:Nat->Nat}(g:GI t B L)(h:Nat):eG (nD h) (KD B)=some (.bl (decide (h∉L))):=by
 show(some _).map _=_;have e:fm _ _=decide _:=tu B h;have:decide (h∈B.map (·.1))=decide (h∈L):=by rw[decide_eq_decide];exact g.key h
 grind
theorem D9{B:List (Nat×Nat)}{L:List Nat}{t:Nat->Nat}(g:GI t B L)(x:Nat):eG (nD x) (LN (B.map (·.2)))=some (.bl (decide (x∉L.map t))):=by
 rw[yR,decide_not];congr 3;rw[decide_eq_decide];exact by
    constructor
    .intro hx;obtain⟨p,M,rfl⟩:=m_.mp hx;exact m_.mpr ⟨p.1,(g.key _).mp (m_.mpr ⟨p,M,rfl⟩),(g.val p M).symm⟩
    .intro hx;obtain⟨h,M,rfl⟩:=m_.mp hx;obtain⟨p,N,rfl⟩:=m_.mp ((g.key h).mpr M);exact m_.mpr ⟨p,N,g.val p N⟩
theorem N8(b:D):∀(j:Nat)(s:Rg.S)(told:List D)(x y z:Option D),Snd rows owns s->s.line.length<j->told.length+s.line.length<=60 ->
  ∃(L:Rg.S)(l:List (List (List Nat)×Rg.S))(U N M:Option D),Ch rows owns s l/\l.length<=s.line.length /\
   gj ku Rx Rv j [some (WD rows),some (OD owns),some b,some (LN s.line),some (LN s.things),some (.lst told),x,y,z]
    = .nx [some (WD rows),some (OD owns),some b,some (LN L.line),some (LN L.things),some (.lst (told++l.map (ir rows))),U,N,M]:=by
 intro j
 induction j with
|zero=>grind
|succ j i=>
  intro s told x y z S u p;by_cases B:s.line=[]
  .refine⟨s,[],x,y,z,.nil B,Xe _,?_⟩;rw[W8,T_];rw[B];rfl
  .obtain⟨rs,hp,hr⟩:=RL S;have c:=Ak hp;obtain⟨Y,g,o⟩:=zR S.nl c.sub;have m:=Pf c ((fun hp B=>by obtain⟨x,k⟩:=X3 _ (Rg.FY B);obtain⟨r,Z,f⟩:=XS.mp k;exact Xp (XS.mpr ⟨r,hp.mem_iff.mpr Z,f⟩)) hp B);obtain⟨L,l,U,N,M,Z,f,e⟩:=i _ (told++[ir rows _]) _ _ _ (S.minus c) (by omega) (by simp;omega);refine⟨L,_,U,N,M,.cons hp Z,by simp;omega,?_⟩;rw[W_]at e;refine ò (pP (fA rfl ?_) ?_) e
   .cases q:s.line with
   |nil=>exact Q_f q B
   |cons a t=>rfl
   .refine(aN (bL (aP (aC rfl (aC rfl (aC rfl (aC rfl aF)))) hr))).trans ?_;refine(aN (bL (aP (aC rfl aF) o))).trans ?_;refine(aN (bL (d:=LN (Y.map (·.2))) (dO rfl ?_))).trans ?_
    .rw[e_valsD,t_];show some (D.lst _)=some (D.lst _);rw[t_];rfl
    refine(aN (bL (dC nD _ nD rfl (by omega) fun h n=>⟨_,rfl,cI (aJ rfl rfl (yl g h)),fun _=>rfl⟩))).trans ?_;refine(aN (bL (dC nD _ nD rfl (by have:=S.nt;omega) fun h n=>⟨_,rfl,cI (aJ rfl rfl (D9 g h)),fun _=>rfl⟩))).trans ?_;refine(aN (gc rfl rfl (aC rfl aF) (iC (by omega)))).trans ?_;rfl
def cE:Option (List Nat)->D
|none=>.non
|some l=>LN l
def s0(rows:List (List Nat))(o:Option (List Nat)):Rg.S:=⟨o.getD (g_ rows.length),g_ (rows.headD []).length⟩
theorem Jm{o:Option (List Nat)}(B:∀l,o=some l->l.Nodup/\(∀k∈l,k<rows.length)/\l.length=rows.length)(U:rows.length<=60):wH [WD rows,cE o]=.ok (LN (s0 rows o).line):=by cases o with
|none=>exact(show wH [WD rows,.non]=.ok (LN (g_ rows.length))by
    refine cR (n:=2) ?_
    dsimp only[qc]
    refine aU ((qG (b:=true) rfl).trans ?_);rw[Q_d rfl];exact aU (aX (bY (ds:=[nD rows.length]) (aC (bY (aC (d:=WD rows) rfl aF) (jN _ _)) aF) (pK (by omega)))))
|some l=>obtain⟨N,M,L⟩:=B l rfl;exact Im N M L (by omega)
theorem Jn{o:Option (List Nat)}(M:∀l,o=some l->l.Nodup/\(∀k∈l,k<rows.length)/\l.length=rows.length)(L:rows≠[])(N:rows.length<=60)(S:Snd rows owns (s0 rows o)):∃l,Ch rows owns (s0 rows o) l/\l.length<=60/\vX [WD rows,OD owns,cE o]=.ok (.lst (l.map (ir rows))):=by
 obtain⟨c,l,b,a,Z,Y,e,U⟩:=N8 (rows:=rows) (owns:=owns) (cE o) 64 (s0 rows o) [] none none none S (by have:=S.nl;omega) (by have:=S.nl;simp;omega);refine⟨l,Y,by have:=S.nl;omega,cR (n:=9) ?_⟩
 dsimp only[rN]
 cases rows with
|nil=>exact Q_f rfl L
|cons B rest=>refine(aN (bL (aP (aC (d:=WD (B::rest)) rfl (aC (d:=cE o) rfl aF)) (Jm M N)))).trans ?_;refine(aN (bL (bY (aC (aP (aC (d:=WD (B::rest)) rfl aF) rZ) aF) (pK (by have:=S.nt;unfold s0 at this;simp at this;omega))))).trans ?_;refine(aN U).trans ?_;exact aU (aX rfl)
theorem GA:∀(B L:List (Nat×Nat)),yY (L.map fun p=>(kI p.1,nD p.2)) (B.map fun p=>(kI p.1,nD p.2))=(B.foldl (fun M p=>putN M p.1 p.2) L).map fun p=>(kI p.1,nD p.2)
|[],L=>rfl
|p::B,L=>by have N:=GA B (putN L p.1 p.2);rw[X5,<-N,<-EB];rfl
theorem Ht{t:Nat->Nat}:∀(B M:List (Nat×Nat))(L:List Nat),GI t M L->(∀p∈B,p.2=t p.1)->GI t (B.foldl (fun N p=>putN N p.1 p.2) M) (L++B.map (·.1))
|[],M,L,g,_=>by simpa using g
|p::B,M,L,g,h=>by
  have:=Ht B (putN M p.1 p.2) _ (by rw[h p j_];exact g.put p.1) fun q U=>h q (l_ _ U)
  grind
theorem Fs{a:Nat->Nat}{line:List Nat}(e:line.length<=60)(b:D):∀(l:List (List (List Nat)×Rg.S))(L:List Nat)(N:List (Nat×Nat))(z:Option D),GI a N L->(∀h∈L,h∈line) ->(∀p∈l,∀h∈p.1.flatten,a h=tS rows p.2 h/\h∈line) ->∃B Z,GI a B (L++l.flatMap fun p=>p.1.flatten)/\bA (bC 4) Tn (l.map (ir rows)) [some (WD rows),some (OD owns),some b,some (KD N),z]=.nx [some (WD rows),some (OD owns),some b,some (KD B),Z]
|[],L,N,z,g,_,_=>⟨N,z,by simpa using g,eS⟩
|p::l,L,N,z,g,o,d=>by
  have c:=d p j_;obtain⟨U,i,n⟩:=zR e fun h Y=>(c h Y).2;have f:=i.congr fun x k=>(c x k).1;have r:=(Ht U N L g f.val).mem (M:=L++p.1.flatten) fun x=>by rw[W5,W5,f.key]
  obtain⟨B,Z,u,j⟩:=Fs e b l _ _ _ r (fun h Y=>by grind) fun q m=>d q (l_ _ m);refine⟨B,Z,by grind,?_⟩;rw[<-j];refine eq rfl (aN (gc rfl rfl (aC (aP (aC rfl aF) n) aF) ?_));have t:=g.len o;have s:=i.len fun h Y=>(c h Y).2;show(if _ then some _ else none)=_;rw[Q_d (by rw[h_,h_,H_];omega),GA]
theorem F1{a:Nat->Nat}{s:Rg.S}{l:List (List (List Nat)×Rg.S)}(c:Ch rows owns s l):Rg.Ok (Wr rows) (own owns) s->Rg.TTC (Wr rows) (own owns) a s->(∀p∈l,∀h∈p.1.flatten,a h=tS rows p.2 h/\h∈s.line)/\∀h∈s.line,∃p∈l,h∈p.1.flatten:=by induction c with
|nil f=>grind
|@cons s N l e c b=>
  intro k t;have M:=Ak e;obtain⟨Z,Y⟩:=Rg.zg t k M;obtain⟨U,d⟩:=b (Rg.qZ k M) Z;refine⟨fun p B h L=>?_,fun h L=>?_⟩
  .rcases I_.mp B with rfl|q
   .exact⟨Y h L,M.sub h L⟩
   .exact⟨(U p q h L).1,(n_.mp (U p q h L).2).1⟩
  .by_cases hc:h∈N.flatten
   .exact⟨(N,s),j_,hc⟩
   .obtain⟨p,h1,h2⟩:=d h (n_.mpr ⟨L,by simpa using hc⟩)
    grind
theorem Tf{o:Option (List Nat)}{a:Nat->Nat}(c:∀l,o=some l->l.Nodup/\(∀k∈l,k<rows.length)/\l.length=rows.length)(Z:rows≠[])(U:rows.length<=60)(S:Snd rows owns (s0 rows o))(N:∀h,h<rows.length->h∈(s0 rows o).line)(t:Rg.TTC (Wr rows) (own owns) a (s0 rows o)):wA [WD rows,OD owns,cE o]=.ok (TN ((g_ rows.length).map a)):=by
 obtain⟨l,f,j,L⟩:=Jn c Z U S;obtain⟨Y,m⟩:=F1 f S.ok t;obtain⟨M,i,g,B⟩:=Fs (rows:=rows) (owns:=owns) (a:=a) S.nl (cE o) l [] [] none ⟨by simp,fun _ b=>(nomatch b),fun h=>by simp⟩ (fun _ e=>(nomatch e)) Y;refine cR (n:=5) ?_
 dsimp only[wJ]
 refine(aN ((eu (ds:=l.map (ir rows)) (dD (aP (aC (d:=WD rows) rfl (aC (d:=OD owns) rfl (aC (d:=cE o) rfl aF))) L) rfl)).trans B)).trans ?_;refine aU (aX (aP (aC (d:=KD M) rfl aF) (Ld g (n:=rows.length) (fun x=>?_) U)));rw[Ó,List.mem_flatMap];constructor
 .rintro⟨p,h1,h2⟩
  exact S.inr x (Y p h1 x h2).2
 grind
theorem m6{a b:Nat}(h:0<b):cO (nD a) (nD b)=some (nD (a%b)):=by simp_all
theorem pG{a b:Nat}(h:0<b)(B:b<1000):je (nD a) (nD b)=some (nD (a/b)):=by
 rw[PF (⟨by omega,by omega⟩)]
 grind
theorem nc(a b:Nat):addA (nD a) (nD b)=some (nD (a+b)):=by simp_all
section
variable{f f':FE}{r:aL}
theorem pf{b:Int}(h:∃i:Int,f r=.ok (.int i))(h':f' r=.ok (.int b))(L:0<b):∃c:Nat,f2 f f' cO r=.ok (nD c):=by obtain⟨i,B⟩:=h;refine⟨(i%b).toNat,aJ B h' ?_⟩;rw[GB L];show some _=some (D.int _);rw[YM (Ă _ (by omega))]
theorem L3(h:∃c:Nat,f r=.ok (nD c)):∃i:Int,f r=.ok (.int i):=let⟨c,e⟩:=h;⟨c,e⟩
theorem nP{b:Int}(h:∃i:Int,f r=.ok (.int i))(h':f' r=.ok (.int b))(L : -(2^64)<b/\b<2^64):∃i:Int,f2 f f' eI r=.ok (.int i):=by obtain⟨i,B⟩:=h;exact⟨i*b,aJ B h' (GC (.inr L))⟩
theorem uI(h:∃i:Int,f r=.ok (.int i))(h':∃i:Int,f' r=.ok (.int i)):∃i:Int,f2 f f' addA r=.ok (.int i):=by obtain⟨i,L⟩:=h;obtain⟨j,B⟩:=h';exact⟨i+j,aJ L B rfl⟩
end
theorem Dx{m:List Md}{i:Nat}{f:FE}{B:FS}{r:aL}(h:∃c:Nat,f r=.ok (nD c))(k:∀c:Nat,∃d:Nat,B (r.set i (some (nD c)))=.rt (nD d)):∃d:Nat,aI (aR m i f) B r=.rt (nD d):=by obtain⟨c,M⟩:=h;obtain⟨d,L⟩:=k c;exact⟨d,(aN (bL M)).trans L⟩
abbrev IN(ns:List Int):D:=.lst (ns.map .int)
theorem n0(ns:List Int)(k:Nat)(p:k<=1000):∃c:Nat,jS [IN ns,nD k]=.ok (nD c):=by
 suffices h:∃c:Nat,JI _=.rt _ by obtain⟨c,j⟩:=h;exact⟨c,cY j⟩
 have o:aI (aR fg 2 (ci 0))=aI _:=rfl;refine Dx ⟨0,rfl⟩ fun U=>?_;show ∃d:Nat,aI _ _ [some _,some _,some _,none]=_;have M:∃B:Nat,(eV fg (cK (f2 (gv 1) (fC (aH (gv 0) aE) lenD) mq)) (aI (aR fg 2 (f2 (f2 (gv 0) (gv 1) bV) (f2 (ci 10) (ci 60) kx) cO)) bR) bR) [some (IN ns),some (nD k),some (nD U),none]=.nx [some (IN ns),some (nD k),some (nD B),none]:=by
  have t:=cI (aJ (f:=gv 1) (r:=[some (IN ns),some _,some (nD U),none]) rfl (bY (aC (f:=gv 0) rfl aF) (iA _ _)) (mQ k ns.length));by_cases L:k<ns.length
  .rw[Q_c L]at t;have g:(ns.map D.int)[k]? = some (.int ns[k]):=by simp_all
   have i:kx (.int 10) (.int 60)=some (.int (10^60)):=by rfl
   obtain⟨B,N⟩:=pf (f:=f2 (gv 0) (gv 1) bV) (f':=f2 (fun _=>Res.ok _) (fun _=>Res.ok _) kx) (r:=[some _,some _,some _,none]) ⟨ns[k],aJ rfl rfl (qA g)⟩ (aJ rfl rfl i) (by decide);exact⟨B,(dR t).trans ((aN (bL N)).trans rfl)⟩
  .rw[Q_b L]at t;exact⟨U,(cG t).trans rfl⟩
 obtain⟨B,N⟩:=M;rw[aN N];have e:∃b,(ig (cK (f2 (fC (aH (gv 0) aE) lenD) (ci 0) mG)) (cK (f2 (f2 (f2 (gv 0) (ci 0) bV) (ci 2) cO) (ci 0) eqD))) [some (IN ns),some (nD k),some (nD B),none]=.ok b:=by have t:=cI (aJ (f:=fC (aH (gv 0) aE) lenD) (f':=fun _=>Res.ok _) (r:=[some (IN ns),some (nD k),some (nD B),none]) (bY (aC rfl aF) (iA _ _)) rfl (pi ns.length 0));cases ns with
 |nil=>exact⟨false,LQ t⟩
 |cons a ns=>obtain⟨Z,m⟩:=pf (f:=f2 (gv 0) (fun _=>Res.ok _) bV) (f':=fun _=>Res.ok (D.int 2)) (r:=[some _,some _,some _,none]) ⟨a,aJ rfl rfl (ixA_L0 _ _)⟩ rfl (by decide);exact⟨_,(yb t).trans (cI (aJ m rfl (j3 Z 0)))⟩
 obtain⟨b,Y⟩:=e;cases b with
|true=>exact⟨B,aU ((dR Y).trans (aU (aX rfl)))⟩
|false=>rw[aN ((cG Y).trans (e_skip _))];refine Dx (pf (nP (L3 (pf (nP (uI (uI (uI ⟨_,rfl⟩ (nP (nP ⟨7,rfl⟩ rfl (by omega)) rfl (by omega))) (nP ⟨13,rfl⟩ rfl (by omega))) ⟨5,rfl⟩) rfl (by decide)) rfl (by decide))) rfl (by decide)) rfl (by decide)) fun Z=>?_;obtain⟨n,l⟩:=pf (f:=(f2 (f2 (f2 (f2 (gv 3) (fun _=>Res.ok _) addA) (ci 40692) eI) (ci 2147483629) cO) (ci 39373) eI)) (f':=fun _=>Res.ok (D.int 999999937)) (r:=[some _,some _,some _,some _]) (nP (L3 (pf (nP (uI ⟨_,rfl⟩ ⟨1,rfl⟩) rfl (by decide)) rfl (by decide))) rfl (by decide)) rfl (by decide);exact⟨n,aU (aX l)⟩
theorem O5{B:List Nat}{i:Int}{x:Nat}:dZ (B.map nD) i (nD x)=(dZ B i x).map nD:=by unfold dZ;rw[h_,WX,s_,Z6,Õ]
theorem Qx{B:List Nat}{i:Int}{x:Nat}:(dZ B i x).Perm (x::B):=by refine Ĝ.trans ?_;rw[XY]
theorem HE(m:Nat):∀(j i c:Nat)(M:List Nat)(x:Option D),M.Perm (g_ i)->i+j<=60 ->∃(Y:Nat)(B:List Nat)(U:Option D),B.Perm (g_ (i+j))/\bA (bC 3) Kr ((Zl i j).map nD) [some (nD c),some (nD m),some (LN M),x]=.nx [some (nD Y),some (nD m),some (LN B),U]
|0,i,c,M,x,N,_=>⟨c,M,x,N,eS⟩
|j+1,i,c,M,x,N,d=>by
  have Z:M.length=i:=by rw[N.length_eq];simp
  obtain⟨Y,B,U,b,a⟩:=HE m j _ _ (dZ M ((c%(i+1))) i) _ (by refine Qx.trans ?_;rw[YT];exact(List.Perm.cons i N).trans (ZL i _).symm) (by omega);refine⟨Y,B,U,by rw[show i+(j+1)=i+1+j by omega];exact b,?_⟩;rw[<-a];have L:c%(i+1)<i+1:=ZM _ (by omega);refine eq rfl ?_;refine(aN (gc (d':=LN (dZ M ((c%(i+1):Nat)) i)) rfl rfl (aC (aJ rfl (aJ rfl rfl (nc i 1)) (m6 (by omega))) (aC rfl aF)) ?_)).trans ?_
  .show(if _ then some _ else none)=_;rw[Q_d ⟨by rw[h_,H_];omega,by omega,by omega⟩,O5]
  .exact aN (bL (aJ rfl (aJ rfl rfl (nc i 1)) (pG (by omega) (by omega))))
theorem vO(c m:Nat)(Y:m<=60):∃L:List Nat,L.Perm (g_ m)/\n4 [nD c,nD m]=.ok (TN L):=by obtain⟨Z,B,U,N,M⟩:=HE m m 0 c [] none (by simp) (by omega);rw[Zx]at N;rw[<-YD]at M;refine⟨B,N,cY ?_⟩;refine(aN (bL (iw aF (by simp)))).trans ?_;refine(aN ((eu (lc (aC rfl aF) (kZ (by omega)))).trans M)).trans ?_;exact aU (aX (bY (aC rfl aF) rfl))
theorem Sj(ns:List Int)(L n m:Nat)(j:L<=60)(f:n<=60)(e:m<=60):∃rows:List (List Nat),rows.length=n/\(∀B∈rows,B.Perm (g_ m))/\K3 [IN ns,nD L,nD n,nD m]=.ok (WD rows):=by
 have h:∀h:Nat,∃B:List Nat,h<=60->B.Perm (g_ m)/\∃c:Nat,jS [IN ns,nD (L+h)]=.ok (nD c)/\n4 [nD c,nD m]=.ok (TN B):=by
  intro h;by_cases M:h<=60
  .obtain⟨c,hc⟩:=n0 ns (L+h) (by omega);obtain⟨B,U,N⟩:=vO c m e;exact⟨B,fun _=>⟨U,c,hc,N⟩⟩
  .exact⟨[],fun z=>Q_f z M⟩
 obtain⟨g,Y⟩:=Classical.axiomOfChoice h;refine⟨(g_ n).map g,by simp,fun B Z=>?_,cR (n:=4) ?_⟩
 .obtain⟨i,hi,rfl⟩:=m_.mp Z;exact(Y i (by have:=p_.mp hi;omega)).1
 .dsimp only[B4]
  refine aU (aX (bY (aC (dC (l:=g_ n) nD (fun _=>true) (fun h=>TN (g h)) (lc (aC (d:=nD n) rfl aF) (kZ (by omega))) (by simp;omega) fun h M=>⟨[some (nD h),some (nD m),some (IN ns),some (nD L)],rfl,rfl,fun _=>?_⟩) aF) ?_))
  .obtain⟨_,c,U,N⟩:=Y h (by have:=p_.mp M;omega);exact aP (aC (aP (aC (d:=IN ns) rfl (aC (aJ (a:=nD L) (b:=nD h) rfl rfl (nc L h)) aF)) U) (aC (d:=nD m) rfl aF)) N
  .rw[eU,e_tupL];show some (D.tup _)=some (D.tup _);rw[t_];rfl
structure Own(owns:List (Option Nat))(m:Nat):Prop where
 lt:∀x,some x∈owns->x<m
 inj:∀h k x,own owns h=some x->own owns k=some x->h=k
theorem rB{owns:List (Option Nat)}{h x:Nat}(e:own owns h=some x):some x∈owns/\h<owns.length:=by
 unfold own at e
 grind
theorem Gq{owns:List (Option Nat)}{o:Option Nat}{h:Nat}:own (owns++[o]) h=if h<owns.length then own owns h else if h=owns.length then o else none:=by
 unfold own;by_cases q:h<owns.length
 .rw[Q_d q,J_ q]
 .rw[Q_e q,W0 (by omega)];by_cases z:h=owns.length
  .subst z;simp
  .rw[Q_e z,XZ (by simp;omega)];rfl
theorem Own.app_none{owns:List (Option Nat)}{m:Nat}(w:Own owns m):Own (owns++[none]) m where
 lt:=fun x M=>w.lt x (by simpa using M)
 inj:=fun h k x L B=>by
  rw[Gq]at L B;have f:∀h,(if h<owns.length then own owns h else if h=owns.length then none else none)=some x->own owns h=some x:=by grind
  exact w.inj h k x (f h L) (f k B)
theorem Own.app_some{owns:List (Option Nat)}{m t:Nat}(w:Own owns m)(U:t<m)(M:some t∉owns):Own (owns++[some t]) m where
 lt:=fun x N=>by
  rcases W5.mp N with z|z
  .exact w.lt x z
  .simp at z;omega
 inj:=fun h k x L B=>by
  rw[Gq]at L B;split at L <;> split at B
  .exact w.inj h k x L B
  .split at B
   .cases B;exact Q_f (rB L).1 M
   .cases B
  .split at L
   .cases L;exact Q_f (rB B).1 M
   .cases L
  grind
theorem Da(l:List (Option Nat))(k:Nat):(l.map oD).any (fun y=>eqs y (nD k))=decide (some k∈l):=by
 rw[Zv,WV,Zc,Q_h];constructor
 .rintro⟨x,h1,h2⟩
  cases x with
 |none=>cases h2
 |some x=>
   have:(((x))==(k:Int))=true:=h2
   grind
 .intro h;exact⟨some k,h,by show(((k):Int)==(k))=true;simp⟩
theorem Vh(l:List (Option Nat)):(l.map oD).all dm=true:=by rw[WZ];intro x B;obtain⟨k,_,rfl⟩:=m_.mp B;cases k <;> rfl
theorem Vn(l:List (Option Nat))(k:Nat):gN (nD k) (.lst (l.map oD))=some (.bl (decide (some k∈l))):=by show(if dm _=true/\(l.map oD).all dm=true then some _ else none).map D.bl=_;rw[Q_d ⟨rfl,Vh l⟩,Da];rfl
structure Scene(rows:List (List Nat))(owns:List (Option Nat))(o:Option (List Nat))(n m:Nat):Prop where
 n1:1<=n
 n7:n<=7
 nm:n<=m
 m8:m<=8
 rl:rows.length=n
 rp:∀row∈rows,row.Perm (g_ m)
 ow:Own owns m
 ol:owns.length=n
 op:∀l,o=some l->l.Perm (g_ n)
theorem Gp(n m:Nat)(k:m<=60):∀(l:List Nat)(c:Nat)(owns:List (Option Nat))(x y:Option D),Own owns m->owns.length+l.length<=60 ->∃(e:Nat)(B:List (Option Nat))(b a:Option D),Own B m/\B.length=owns.length+l.length/\bA (bC 4) KL (l.map nD) [some (nD c),some (nD n),some (nD m),some (.lst (owns.map oD)),x,y]=.nx [some (nD e),some (nD n),some (nD m),some (.lst (B.map oD)),b,a]
|[],c,owns,x,y,w,_=>⟨c,owns,x,y,w,rfl,eS⟩
|h::l,c,owns,x,y,w,p=>by
  have M:c%(m+1)<m+1:=ZM _ (by omega);have U:∃o,Own (owns++[o]) m/\KL [some (nD c),some (nD n),some (nD m),some (.lst (owns.map oD)),some (nD h),y]=.nx [some (nD (c/(m+1))),some (nD n),some (nD m),some (.lst ((owns++[o]).map oD)),some (nD h),some (nD (c%(m+1)))]:=by
   have N:=cI (aJ (f:=gv 5) (f':=gv 2) (r:=[some (nD (c/(m+1))),some (nD n),some _,some (.lst (owns.map oD)),some (nD h),some _]) rfl rfl (j3 (c%(m+1)) m));have Z:=cI (aJ (f:=gv 5) (f':=gv 3) (r:=[some (nD (c/(m+1))),some (nD n),some (nD m),some _,some (nD h),some _]) rfl rfl (Vn owns (c%(m+1))));have Y:∀d,aI (aR gs 5 (f2 (gv 0) (f2 (gv 2) (ci 1) addA) cO)) (aI (aR gs 0 (f2 (gv 0) (f2 (gv 2) (ci 1) addA) je)) d) [some (nD c),some (nD n),some (nD m),some (.lst (owns.map oD)),some (nD h),y]=d [some (nD (c/(m+1))),some (nD n),some (nD m),some (.lst (owns.map oD)),some (nD h),some (nD (c%(m+1)))]:=by intro d;refine(aN (bL (aJ rfl (aJ rfl rfl (nc m 1)) (m6 (by omega))))).trans ?_;exact aN (bL (aJ rfl (aJ rfl rfl (nc m 1)) (pG (by omega) (by omega))))
   have L:(owns.map oD).length<=1000:=by grind
   by_cases q:c%(m+1)=m\/some (c%(m+1))∈owns
   .refine⟨none,w.app_none,(Y _).trans ((aN ((dR ?_).trans (aN (gc rfl rfl (aC rfl aF) (iC L))))).trans ?_)⟩
    .by_cases z:c%(m+1)=m
     .rw[Q_c z]at N;exact sT N
     .rw[Q_b z]at N;rw[Q_c (q.resolve_left z)]at Z;exact(fJ N).trans Z
    .rw[WX];rfl
   .have z1:=fun z=>q (.inl z);have g:=fun z=>q (.inr z);rw[Q_b z1]at N;rw[Q_b g]at Z;refine⟨_,w.app_some (by omega) g,(Y _).trans ((aN ((cG ((fJ N).trans Z)).trans (aN (gc rfl rfl (aC rfl aF) (iC L))))).trans ?_)⟩;rw[WX];rfl
  obtain⟨o,i,j⟩:=U;obtain⟨e,B,b,a,u,t,s⟩:=Gp n m k l _ _ _ _ i (by simp at p ⊢;omega);refine⟨e,B,b,a,u,by rw[t];simp;omega,?_⟩;rw[<-s];exact eq rfl j
theorem P5(c n m:Nat)(b:n<=60)(M:m<=60):∃owns:List (Option Nat),Own owns m/\owns.length=n/\JK [nD c,nD n,nD m]=.ok (OD owns):=by
 obtain⟨f,B,a,Z,Y,U,N⟩:=Gp n m M (g_ n) c [] none none ⟨fun x L=>(nomatch L),fun h k x e=>by unfold own at e;simp at e⟩ (by simp;omega);refine⟨B,Y,by rw[U];simp,cR (n:=6) ?_⟩
 dsimp only[Bb]
 refine(aN (bL (d:=.lst []) (iw aF (by simp)))).trans ?_;refine(aN ((eu (ds:=(g_ n).map nD) (lc (aC (d:=nD n) rfl aF) (kZ (by omega)))).trans N)).trans ?_;exact aU (aX (bY (aC (d:=.lst (B.map oD)) rfl aF) rfl))
end Law
namespace Law
open PySem PyProof.Rows L2 DL
theorem Dw(a b:Nat):eqs (nD a) (nD b)=decide (a=b):=by show(((a):Int)==(b))=_;rw[WV,beq_iff_eq,Q_h];exact Ķ
theorem zA(k:Nat):∀l:List Nat,k∈l->jf (nD k) (l.map nD)=some (l.idxOf k)
|[],h=>by cases h
|a::l,h=>by
  show(if eqs _ _=true then some 0 else(jf _ _).map _)=_;rw[Dw];by_cases e:a=k
  .simp_all
  .rw[Q_e (by simpa using e),zA k l (by grind)]
   grind
theorem FU(k:Nat):∀l:List Nat,(l.map nD).eraseIdx (l.idxOf k)=(l.erase k).map nD
|[]=>rfl
|a::l=>by
  by_cases e:a=k
  .subst e;simp
  .rw[List.idxOf_cons,List.erase_cons_tail (by simpa using e)];have:(a==k)=false:=by simpa using e
   rw[this];show nD a::(l.map nD).eraseIdx _=_;rw[FU k l];rfl
theorem yM{k:Nat}{l:List Nat}(h:k∈l):remD (LN l) [nD k]=some (LN (l.erase k)):=by show(if (l.map nD).all isInt=true then(jf _ _).map fun j=>D.lst _ else none)=_;rw[Q_d (by rw[WZ];intro x B;obtain⟨y,_,rfl⟩:=m_.mp B;rfl),zA k l h];show some (D.lst _)=some _;rw[FU]
theorem d8{T:String}{B:FE}{L:aL->Res (List D)}{k:D->List D->Option D}{r:aL}{d d':D}{ds:List D}(Y:B r=.ok d)(M:xw T d=true)(U:L r=.ok ds)(N:k d ds=some d'):fM T B L k r=.ok d':=by unfold fM;rw[Y,bind_ok,Q_d M,U,bind_ok,N];rfl
section
variable{rows:List (List Nat)}{owns:List (Option Nat)}{o:Option (List Nat)}{n m:Nat}
theorem Scene.ne(S:Scene rows owns o n m):rows≠[]:=by
 rintro rfl
 have:=S.rl;have:=S.n1;simp at *;omega
theorem Scene.row(S:Scene rows owns o n m){h:Nat}(B:h<n):(Wr rows h).Perm (g_ m):=by unfold Wr;rw[k_ (by rw[S.rl];exact B)];exact S.rp _ (Xc _)
theorem Scene.row0(S:Scene rows owns o n m):(rows.headD []).length=m:=by cases rows with
|nil=>exact Q_f rfl S.ne
|cons r t=>rw[List.headD_cons,(S.rp r j_).length_eq];simp
theorem Scene.line_perm(S:Scene rows owns o n m):(s0 rows o).line.Perm (g_ n):=by unfold s0;cases o with
|none=>rw[S.rl];grind
|some l=>exact S.op l rfl
theorem Scene.mem(S:Scene rows owns o n m){h:Nat}:h∈(s0 rows o).line↔h<n:=by rw[S.line_perm.mem_iff];exact p_
theorem Scene.things(S:Scene rows owns o n m):(s0 rows o).things=g_ m:=by unfold s0;rw[S.row0]
theorem Scene.ok(S:Scene rows owns o n m):Rg.Ok (Wr rows) (own owns) (s0 rows o) where
 nl:=S.line_perm.nodup_iff.mpr Xd
 nt:=by rw[S.things];grind
 le:=by rw[S.things,S.line_perm.length_eq];simp;exact S.nm
 row:=fun h L x B=>by rw[S.things]at B;exact(S.row (S.mem.mp L)).mem_iff.mpr B
 inj:=S.ow.inj
 own:=fun h L x B=>by rw[S.things];exact p_.mpr (S.ow.lt x (rB B).1)
theorem Scene.snd(S:Scene rows owns o n m):Snd rows owns (s0 rows o) where
 ok:=S.ok
 inr:=fun h B=>by rw[S.rl];exact S.mem.mp B
 ino:=fun h B=>by rw[S.ol];exact S.mem.mp B
 wid:=fun h B=>by have:=(S.row (S.mem.mp B)).length_eq;have:=S.m8;simp at *;omega
 nl:=by have:=S.line_perm.length_eq;have:=S.n7;simp at *;omega
 nt:=by rw[S.things];have:=S.m8;simp;omega
theorem Scene.ord(S:Scene rows owns o n m):∀l,o=some l->l.Nodup/\(∀k∈l,k<rows.length)/\l.length=rows.length:=by
 intro l B;have p:=S.op l B;refine⟨p.nodup_iff.mpr Xd,fun k L=>?_,?_⟩
 .rw[S.rl];grind
 .rw[p.length_eq,S.rl];simp
end
theorem HP{k:Nat}{l:List Nat}(h:k∈l):Fu (LN l) [nD k]=some (nD (l.idxOf k)):=by show(if dm _=true/\(l.map nD).all dm=true then(jf _ _).map fun j=>D.int j else none)=_;rw[Q_d ⟨rfl,uJ l⟩,zA k l h];rfl
theorem vR{l:List Nat}{i:Nat}(h:i<=l.length):ql (LN l) (some (i:Int)) none=some (LN (l.drop i)):=by show some _=_;unfold cH;rw[HT.eF,HT.dF,h_,Û h];rw[List.take_of_length_le (by simp)];show some _=some (D.lst _);rw[Õ]
theorem hU{f:FE}{r:aL}{i:Int}(h:f r=.ok (.int i)):jd f r=.ok (some i):=by unfold jd;rw[h];rfl
theorem lE{M:FE}{B L:FP}{r:aL}{d d':D}{lo hi:Option Int}(Z:M r=.ok d)(Y:B r=.ok lo)(U:L r=.ok hi)(N:ql d lo hi=some d'):oM M B L r=.ok d':=by unfold oM;rw[Z,bind_ok,Y,bind_ok,U,bind_ok,N];rfl
theorem MW{ds:List D}{i:Nat}{v:D}(h:i<ds.length):ff (.lst ds) (nD i) v=some (.lst (ds.set i v)):=by show(i7 ds.length _).map _=_;unfold i7;rw[Q_d (YY i),Q_d (by omega)];simp
theorem pU{nl:Nat}{cap:List Nat}{fi:FI}{ft:FT}{fe:FE}{r:aL}{B:Type}{l:List B}(e:B->D)(g:B->D)(Y:fi r=.ok (l.map e))(N:l.length<=1000)(h:∀a∈l,∃r1,ft (e a) (c9 nl cap r)=some r1/\fe r1=.ok (g a)):cZ nl cap fi ft (fun _=>Res.ok true) fe r=.ok (.lst (l.map g)):=by
 have:=dC e (fun _=>true) g Y N fun a U=>by obtain⟨r1,M,L⟩:=h a U;exact⟨r1,M,rfl,fun _=>L⟩
 rw[this,eU]
end Law
namespace Law
open PySem L2 DL
theorem DO(l:List Nat)(i:Nat):ql (LN l) none (some (i:Int))=some (LN (l.take i)):=by show some _=_;unfold cH;rw[HT.eF,HT.dF,h_,Y5,Nat.sub_zero,<-Z6];simp_all
theorem EU{a b:List Nat}(h:a.length+b.length<=1000):addE (LN a) (LN b)=some (LN (a++b)):=by show(if (a.map nD).length+(b.map nD).length<=sizeLine then some _ else none)=_;rw[Q_d (by rw[h_,h_,H_];omega),<-WX]
abbrev lY(l:List Nat):List Nat:=l.drop 1++l.take 1
theorem Sb{l:List Nat}(B:1<=l.length)(L:l.length<=900):TC [LN l]=.ok (LN (lY l)):=by refine cY ?_;exact aU (aX (aJ (lE rfl (hU rfl) rfl (vR B)) (lE rfl rfl (hU rfl) (DO l 1)) (EU (by simp;omega))))
theorem GZ:∀l:List Nat,gC (l.map nD)=some (l.map fun k:Nat=>(k:Int))
|[]=>rfl
|k::l=>by show(gC _).map _=_;rw[GZ l];rfl
theorem Oi{l:List Nat}(h:l≠[]):∃k∈l,(∀x∈l,k<=x)/\yj [LN l]=some (nD k):=by cases l with
|nil=>exact Q_f rfl h
|cons a l=>
  have e:yj [LN (a::l)]=some (.int (kB ((a::l).map fun k:Nat=>(k)))):=by show(gC ((a::l).map nD)).map _=_;rw[GZ];rfl
  have N:=Pe (ks:=(a::l).map fun k:Nat=>(k)) (by simp);obtain⟨k,L,B⟩:=m_.mp N;refine⟨k,L,fun x M=>?_,by rw[e,<-B]⟩;have:=Oq (ks:=(a::l).map fun k:Nat=>(k)) (m_.mpr ⟨x,M,rfl⟩)
  grind
theorem zQ{A:List Nat}{i j:Nat}(hi:i<=A.length)(B:j<A.length):(A.drop i++A.take i)[j]? = A[(i+j)%A.length]?:=by
 by_cases h:j<A.length-i
 .rw[J_ (by rw[Xt];exact h),XD,Ø (by omega)]
 .rw[W0 (by rw[Xt];omega),Xt,XE,Q_d (by omega)];congr 1;have:i+j=(i+j-A.length)+A.length:=by omega
  rw[this,Nat.add_mod_right,Ø (by omega)];omega
theorem OU{A:List Nat}{i:Nat}(hi:i<A.length){j h l:Nat}(L:((A.drop i++A.take i).zip (lY (A.drop i++A.take i)))[j]? = some (h,l)):∃k,A[k]? = some h/\A[(k+1)%A.length]? = some l:=by
 have N:(A.drop i++A.take i).length=A.length:=by rw[M_,Xt,WY];omega
 have U:j<A.length:=by have:=(c_.mp L).1;rw[Ô]at this;omega
 rw[List.getElem?_zip_eq_some]at L;obtain⟨M,B⟩:=L;rw[zQ (by omega) U]at M;rw[zQ (by omega) (by omega),N,zQ (by omega) (ZM _ (by omega))]at B;refine⟨(i+j)%A.length,M,?_⟩;rw[Nat.add_mod_mod]at B;rw[Nat.mod_add_mod,show i+j+1=i+(1+j)by omega];exact B
theorem Hs:∀(l r:List Nat),X8 (fun a b=>D.tup [a,b]) (l.map nD) (r.map nD)=(l.zip r).map fun p=>D.tup [nD p.1,nD p.2]
|[],_=>rfl
|_::_,[]=>rfl
|a::l,b::r=>by show D.tup [nD a,nD b]::X8 _ _ _=_;rw[Hs l r];rfl
theorem PD{L B:FE}{r:aL}{d e:D}{ds M:List D}(Z:L r=.ok d)(Y:B r=.ok e)(U:cS d=some ds)(N:cS e=some M):jy L B r=.ok (X8 (fun a b=>D.tup [a,b]) ds M):=by unfold jy;rw[Z,bind_ok,Y,bind_ok,U,opt_some,bind_ok,N,opt_some,bind_ok]
theorem Tb{owns:List (Option Nat)}{A:List Nat}{t:Nat->Nat}(c:A≠[])(u:A.length<=60)(m:∀h∈A,h<owns.length)(o:∀i h l,A[i]? = some h->A[(i+1)%A.length]? = some l->own owns l=some (t h)):∃k,k∈A/\(∀x∈A,k<=x)/\Uf [OD owns,LN A]=.ok (dL t (A.drop (A.idxOf k)++A.take (A.idxOf k))):=by
 obtain⟨k,L,g,f⟩:=Oi c;have Z:=Zz L;refine⟨k,L,g,cR (n:=4) ?_⟩;generalize B:A.idxOf k=i at Z;have Y:(A.drop i++A.take i).length=A.length:=by rw[M_,Xt,WY];omega
 have U:=W4.mpr c
 dsimp only[Cf]
 refine(aN (bL (d:=nD i) (d8 (d:=LN A) rfl rfl (aC (bY (aC (d:=LN A) rfl aF) f) aF) (by rw[HP L,B])))).trans ?_;refine(aN (bL (aJ (lE (d:=LN A) rfl (hU (i:=(i:Int)) rfl) rfl (vR (by omega))) (lE (d:=LN A) rfl rfl (hU (i:=(i:Int)) rfl) (DO A i)) (EU (by simp;omega))))).trans ?_;have r:∀p∈(A.drop i++A.take i).zip (lY (A.drop i++A.take i)),p.2∈A/\own owns p.2=some (t p.1):=fun p M=>by obtain⟨j,s⟩:=Xl M;obtain⟨q,e,N⟩:=OU Z (h:=p.1) (l:=p.2) s;exact⟨Xj N,o q p.1 p.2 e N⟩
 refine aU (aX (bY (aC (dC (l:=(A.drop i++A.take i).zip (lY (A.drop i++A.take i))) (fun p=>D.tup [nD p.1,nD p.2]) (fun _=>true) (fun p=>jG t p.1) ?_ ?_ fun p M=>⟨[some (nD p.1),some (nD p.2),some (OD owns)],rfl,rfl,fun _=>?_⟩) aF) ?_))
 .rw[<-Hs];exact PD (d:=LN (A.drop i++A.take i)) rfl (aP (aC (d:=LN (A.drop i++A.take i)) rfl aF) (Sb (by omega) (by omega))) rfl rfl
 .rw[Ô];omega
 .obtain⟨p1,p2⟩:=r p M;have:=Ev (m p.2 p1);rw[p2]at this;exact iy (aC (d:=nD p.1) rfl (aC (aJ (a:=OD owns) (b:=nD p.2) rfl rfl (eZ this)) aF)) (by simp)
 .rw[eU,e_tupL];show some (D.tup _)=some (D.tup _);congr 2;rw[show(fun p:Nat×Nat=>jG t p.1)=jG t∘Prod.fst from rfl,<-t_];congr 1;rw[ĝ];simp;omega
variable{rows:List (List Nat)}{owns:List (Option Nat)}{s:Rg.S}{A:List Nat}
section
variable{z:Nat}
abbrev kR(owns:List (Option Nat))(s:Rg.S)(x:Nat):Option Nat:=s.line.find? fun h=>decide (own owns h=some x)
theorem Ae(S:Snd rows owns s)(M:A[A.length-1]? = some z)(L:z∈s.line)(B:FS):(aI (aR jt 5 (f2 (gv 4) (f1 (ci 1) sX) bV)) (aI (aR jt 6 (bM (aH (f2 (gv 0) (gv 5) bV) (aH (gv 3) aE)) [] jP)) (aI (aR jt 7 (bM (aH (gv 1) (aH (gv 2) (aH (gv 6) aE))) [] J3)) B))) [some (WD rows),some (OD owns),some (LN s.line),some (LN s.things),some (LN A),none,none,none]
  = B [some (WD rows),some (OD owns),some (LN s.line),some (LN s.things),some (LN A),some (nD z),some (nD (tS rows s z)),some (oD (kR owns s (tS rows s z)))]:=by refine(aN (bL (d:=nD z) (aJ (a:=LN A) (b:=.int (-1)) rfl rfl ((fun h=>by have N:A.length-1<A.length:=(c_.mp h).1;show gU (A.map nD) (-1)=some (nD z);unfold gU i7;rw[Q_e (by omega),Q_d (by rw[h_];omega),h_];show(A.map nD)[(-1+(A.length:Int)).toNat]? = _;rw[show(-1+(A.length:Int)).toNat=A.length-1 by omega,A_,h];rfl) M)))).trans ?_;refine(aN (bL (aP (aC (aJ (a:=WD rows) (b:=nD z) rfl rfl (eZ (vA (S.inr z L)))) (aC (d:=LN s.things) rfl aF)) (S.tg L)))).trans ?_;exact aN (bL (aP (aC (d:=OD owns) rfl (aC (d:=LN s.line) rfl (aC (d:=nD (tS rows s z)) rfl aF))) (Io S.ino)))
abbrev xA(rows:List (List Nat))(owns:List (Option Nat))(s:Rg.S)(A:List Nat)(z:Nat):aL:=[some (WD rows),some (OD owns),some (LN s.line),some (LN s.things),some (LN A),some (nD z),some (nD (tS rows s z)),some (oD (kR owns s (tS rows s z)))]
theorem Ek(S:Snd rows owns s):(cK (f2 (gv 7) (fun _=>Res.ok D.non) tm)) (xA rows owns s A z)=.ok (decide (kR owns s (tS rows s z)=none)):=cI (aJ rfl rfl (Dk _))
theorem Em(S:Snd rows owns s):(cK (f2 (gv 7) (gv 5) eqD)) (xA rows owns s A z)=.ok (decide (kR owns s (tS rows s z)=some z)):=cI (aJ rfl rfl (Du _ _))
theorem Le(S:Snd rows owns s)(M:A[A.length-1]? = some z)(N:z∈s.line)(h:kR owns s (tS rows s z)=none\/kR owns s (tS rows s z)=some z):nw [WD rows,OD owns,LN s.line,LN s.things,LN A]=.ok (.tup [.str "takes",nD z,nD (tS rows s z)]):=by
 refine cY ?_;refine(Ae S M N _).trans ?_;have B:=Ek (A:=A) (z:=z) S;have L:=Em (A:=A) (z:=z) S;refine aU ((dR ?_).trans (aU (aX (iy (aC rfl (aC rfl (aC rfl aF))) (by simp)))));rcases h with h|h
 .rw[Q_c h]at B;exact sT B
 .rw[Q_b (by rw[h];simp)]at B;rw[Q_c h]at L;exact(fJ B).trans L
theorem IB(S:Snd rows owns s){l:Nat}(h:kR owns s (tS rows s z)=some l)(N:l≠z)(M:FS):(aI (eV jt (kF (cK (f2 (gv 7) (fun _=>Res.ok D.non) tm)) (cK (f2 (gv 7) (gv 5) eqD))) (aI (dG jt (jU (aH (fun _=>Res.ok (D.str "takes")) (aH (gv 5) (aH (gv 6) aE))))) bR) bR) M) (xA rows owns s A z)=M (xA rows owns s A z):=by have L:=Ek (A:=A) (z:=z) S;have B:=Em (A:=A) (z:=z) S;rw[Q_b (by rw[h];simp)]at L;rw[Q_b (by grind)]at B;exact aN ((cG ((fJ L).trans B)).trans (e_skip _))
theorem T7(S:Snd rows owns s)(L:A[A.length-1]? = some z)(N:z∈s.line){l:Nat}(h:kR owns s (tS rows s z)=some l)(U:l≠z)(M:l∉A):nw [WD rows,OD owns,LN s.line,LN s.things,LN A]=.ok (.tup [.str "ahead",nD l,nD (tS rows s z)]):=by refine cY ?_;refine(Ae S L N _).trans ((IB S h U _).trans ?_);show aI _ _ [some _,some _,some _,some _,some _,some _,some _,some _]=_;rw[h];have B:=cI (aJ (f:=gv 7) (f':=gv 4) (r:=[some (WD rows),some (OD owns),some (LN s.line),some (LN s.things),some _,some (nD z),some (nD (tS rows s z)),some _]) rfl rfl (yR A l));rw[Q_b M]at B;exact aU ((dR B).trans (aU (aX (iy (aC rfl (aC rfl (aC rfl aF))) (by simp)))))
theorem RA(S:Snd rows owns s)(c:Rg.Chain (Wr rows) (own owns) s A)(N:A[A.length-1]? = some z){i l:Nat}(hi:A[i]? = some l)(Y:own owns l=some (tS rows s z)):∀j h k,(A.drop i)[j]? = some h->(A.drop i)[(j+1)%(A.drop i).length]? = some k->own owns k=some (tS rows s h):=by
 intro j h k M L;have B:i<A.length:=(c_.mp hi).1;have U:=(c_.mp M).1;rw[Xt]at U L;rw[XD]at M;by_cases q:j+1<A.length-i
 .rw[Ø q,XD]at L;exact c.nx (i+j) h k M (by rw[show i+j+1=i+(j+1)by omega];exact L)
 .have:j+1=A.length-i:=by omega
  rw[this,Nat.mod_self,XD,Nat.add_zero,hi]at L;cases L;have:i+j=A.length-1:=by omega
  rw[this,N]at M;cases M;exact Y
theorem TX(S:Snd rows owns s)(c:Rg.Chain (Wr rows) (own owns) s A)(N:A[A.length-1]? = some z){i l:Nat}(h:kR owns s (tS rows s z)=some l)(b:l≠z)(hi:A.idxOf l=i)(Y:l∈A)(M:A.length<=60):∃k,k∈A.drop i/\nw [WD rows,OD owns,LN s.line,LN s.things,LN A]=.ok (.tup [.str "ring",dL (tS rows s) ((A.drop i).drop ((A.drop i).idxOf k)++(A.drop i).take ((A.drop i).idxOf k))]):=by
 have L:i<A.length:=by grind
 have B:A[i]? = some l:=by grind
 have e:own owns l=some (tS rows s z):=by grind
 obtain⟨k,a,_,Z⟩:=Tb (List.ne_nil_of_length_pos (by grind)) (by grind) (fun h d=>S.ino h (c.sub h (Yz d))) (RA S c N B e);refine⟨k,a,cY ?_⟩
 dsimp only[Bi]
 refine(Ae S N (c.sub z (c.at N)) _).trans ((IB S h b _).trans ?_);show aI _ _ [some (WD rows),some (OD owns),some (LN s.line),some (LN s.things),some (LN A),some (nD z),some _,some _]=_;rw[h];have U:=cI (aJ (f:=gv 7) (f':=gv 4) (r:=[some (WD rows),some (OD owns),some (LN s.line),some (LN s.things),some (LN A),some (nD z),some (nD (tS rows s z)),some (nD l)]) rfl rfl (yR A l));rw[Q_c Y]at U;refine(aN ((cG U).trans (e_skip _))).trans ?_;refine aU (aX (iy (aC rfl (aC (aP (aC rfl (aC (lE rfl (hU (d8 rfl rfl (aC rfl aF) (by rw[HP Y,hi]))) rfl (vR (by omega))) aF)) Z) aF)) (by simp)))
inductive Dd where
 |tk (h:Nat)|ah (h x:Nat)|rg (r:List Nat)
def Dd.hands:Dd->List Nat
|.tk h=>[h]
|.ah _ _=>[]
|.rg r=>r
def cV(a:Nat->Nat):Dd->D
|.tk h=>.tup [.str "takes",nD h,nD (a h)]
|.ah h x=>.tup [.str "ahead",nD h,nD x]
|.rg r=>.tup [.str "ring",dL a r]
theorem RK(a:Nat->Nat)(d:Dd):Js [cV a d]=.ok (dL a d.hands):=by
 refine cR (n:=1) ?_
 dsimp only[AJ]
 cases d with
|tk h=>refine(aN ((cG (cI (aJ (a:=.str "takes") (b:=.str "ahead") (aJ (a:=cV a (.tk h)) (b:=.int 0) rfl rfl (ixA_T0 _ _)) rfl (d:=.bl false) (by unfold eqD;rw[eqB_str];rfl)))).trans (e_skip _))).trans ?_;refine aU (aX ((mV (cI (aJ (a:=.str "takes") (b:=.str "ring") (aJ (a:=cV a (.tk h)) (b:=.int 0) rfl rfl (ixA_T0 _ _)) rfl (d:=.bl false) (by unfold eqD;rw[eqB_str];rfl)))).trans ?_));exact iy (aC (lE (d:=cV a (.tk h)) (d':=.tup [nD h,nD (a h)]) rfl (hU (i:=1) rfl) rfl rfl) aF) (by simp[Dd.hands])
|ah h x=>exact aU ((dR (cI (aJ (a:=.str "ahead") (b:=.str "ahead") (aJ (a:=cV a (.ah h x)) (b:=.int 0) rfl rfl (ixA_T0 _ _)) rfl (d:=.bl true) (by unfold eqD;rw[eqB_str];rfl)))).trans (aU (aX (iy aF (by simp[Dd.hands])))))
|rg r=>refine(aN ((cG (cI (aJ (a:=.str "ring") (b:=.str "ahead") (aJ (a:=cV a (.rg r)) (b:=.int 0) rfl rfl (ixA_T0 _ _)) rfl (d:=.bl false) (by unfold eqD;rw[eqB_str];rfl)))).trans (e_skip _))).trans ?_;refine aU (aX ((mW (cI (aJ (a:=.str "ring") (b:=.str "ring") (aJ (a:=cV a (.rg r)) (b:=.int 0) rfl rfl (ixA_T0 _ _)) rfl (d:=.bl true) (by unfold eqD;rw[eqB_str];rfl)))).trans ?_));exact aJ (a:=cV a (.rg r)) (b:=nD 1) rfl rfl (eZ rfl)
theorem JG{A:List Nat}(h:A.Nodup)(i:Nat){C:List Nat}(L:∀x,x∈C↔x∈A.drop i):(A.filter fun x=>decide (x∉C))=A.take i:=by
 have M:(A.take i++A.drop i).Nodup:=by rw[XY];exact h
 conv=>lhs;rw[<-XY i A]
 have U:((A.take i).filter fun x=>decide (x∉C))=A.take i:=Ė.mpr fun x B=>by grind
 have N:((A.drop i).filter fun x=>decide (x∉C))=[]:=Đ.mpr fun x B=>by grind
 grind
theorem Ie{W:Nat->List Nat}{C E:List Nat}(h:∀x,x∈C↔x∈E):Rg.minus W s C=Rg.minus W s E:=by
 unfold Rg.minus
 grind
end
theorem Jk{l C:List Nat}(B:l.Nodup)(L:C.Nodup)(hs:∀x∈C,x∈l):(C++l.filter fun x=>decide (x∉C)).Perm l:=by grind
section
variable{A1 A2:List Nat}{a:Nat->Nat}
def Dd.okA(s:Rg.S):Dd->Prop
|.ah h x=>h∈s.line/\x∈s.things
|_=>True
def oS(dd:Dd)(A:List Nat):List Nat:=match dd with
|.ah h _=>A++[h]
|_=>A
abbrev mA:List Md:=gt
theorem NR(S:Snd rows owns s)(Z:D){told:List D}{x7 x8 x9:Option D}{N:Dd}(L:s.line≠[])(B:A1=if A=[]then[s.line.headD 0]else A)(U:A1.length<=60)(m:told.length<=900)(k:nw [WD rows,OD owns,LN s.line,LN s.things,LN A1]=.ok (cV a N))(hs:∀h∈N.hands,h∈s.line) :
  ∃i f,IJ [some (WD rows),some (OD owns),some Z,some (LN s.line),some (LN s.things),some (LN A),some (.lst told),x7,x8,x9]
   = .nx [some (WD rows),some (OD owns),some Z,some (LN (s.line.filter fun h=>decide (h∉N.hands))),some (LN (s.things.filter fun x=>decide (x∉N.hands.map a))),some (LN ((oS N A1).filter fun h=>decide (h∉N.hands))),some (.lst (told++[cV a N])),some (cV a N),i,f]:=by
 obtain⟨Y,g,j⟩:=zR (t:=a) (line:=s.line) (rs:=[N.hands]) S.nl (by simpa using hs);rw[show[N.hands].flatten=N.hands by simp]at g;refine⟨some (KD Y),some (LN (Y.map (·.2))),?_⟩;refine(aN (r':=[some (WD rows),some (OD owns),some Z,some (LN s.line),some (LN s.things),some (LN A1),some (.lst told),x7,x8,x9]) ?_).trans ?_
 .cases hA:A with
 |nil=>rw[hA,Q_d rfl]at B;subst B;refine(aN (bL (d:=LN [s.line.headD 0]) (iw (ds:=[nD (s.line.headD 0)]) (aC (aJ (a:=LN s.line) (b:=.int 0) rfl rfl ?_) aF) (by simp)))).trans rfl;cases e:s.line with
  |nil=>exact Q_f e L
  |cons b t=>exact ixA_L0 _ _
 |cons b t=>rw[hA,Q_e (by simp)]at B;subst B;exact(cG (jj (b:=true) (fA (d:=LN (b::t)) rfl rfl))).trans rfl
 refine(aN (bL (aP (aC (d:=WD rows) rfl (aC (d:=OD owns) rfl (aC (d:=LN s.line) rfl (aC (d:=LN s.things) rfl (aC (d:=LN A1) rfl aF))))) k))).trans ?_;refine(aN (gc (d:=.lst told) (ds:=[cV a N]) rfl rfl (aC (d:=cV a N) rfl aF) (iC (by omega)))).trans ?_;refine(aN (r':=[some (WD rows),some (OD owns),some Z,some (LN s.line),some (LN s.things),some (LN (oS N A1)),some (.lst (told++[cV a N])),some (cV a N),x8,x9]) ?_).trans ?_
 .cases N with
 |tk h=>exact(cG (cI (aJ (a:=.str "takes") (b:=.str "ahead") (aJ (a:=cV a (.tk h)) (b:=.int 0) rfl rfl (ixA_T0 _ _)) rfl (d:=.bl false) (by unfold eqD;rw[eqB_str];rfl)))).trans rfl
 |rg r=>exact(cG (cI (aJ (a:=.str "ring") (b:=.str "ahead") (aJ (a:=cV a (.rg r)) (b:=.int 0) rfl rfl (ixA_T0 _ _)) rfl (d:=.bl false) (by unfold eqD;rw[eqB_str];rfl)))).trans rfl
 |ah h x=>
   refine(aN (gc (d:=LN A1) (ds:=[nD h]) rfl rfl (aC (aJ (b:=nD 1) rfl rfl (eZ rfl)) aF) (iC (by simp;omega)))).trans ?_;show Out.nx [_,_,_,_,_,some (D.lst (A1.map nD++[nD h])),_,_,_,_]=Out.nx [_,_,_,_,_,some (D.lst ((A1++[h]).map nD)),_,_,_,_]
   grind
 have M:(oS N A1).length<=61:=by cases N <;> simp[oS] <;> omega
 refine(aN (bL (aP (aC (iw (aC (aP (aC (d:=cV a N) rfl aF) (RK a N)) aF) (by simp)) aF) j))).trans ?_;refine(aN (bL (d:=LN (Y.map (·.2))) (dO (a:=KD Y) rfl ?_))).trans ?_
 .rw[e_valsD,t_];show some (D.lst _)=some (D.lst ((Y.map (·.2)).map nD));rw[t_];rfl
 refine(aN (bL (dC (l:=s.line) nD _ nD rfl (by have:=S.nl;omega) fun h c=>⟨_,rfl,cI (aJ (a:=nD h) (b:=KD Y) rfl rfl (yl g h)),fun _=>rfl⟩))).trans ?_;refine(aN (bL (dC (l:=oS N A1) nD _ nD rfl (by omega) fun h c=>⟨_,rfl,cI (aJ (a:=nD h) (b:=KD Y) rfl rfl (yl g h)),fun _=>rfl⟩))).trans ?_;refine(aN (bL (dC (l:=s.things) nD _ nD rfl (by have:=S.nt;omega) fun h c=>⟨_,rfl,cI (aJ (a:=nD h) (b:=LN (Y.map (·.2))) rfl rfl (D9 g h)),fun _=>rfl⟩))).trans ?_;rfl
theorem Fd{B:Rg.S}(S:Snd rows owns s)(k:Rg.Ok (Wr rows) (own owns) B)(M:∀h∈B.line,h∈s.line)(U:B.line.length<=s.line.length)(N:B.things.length<=s.things.length):Snd rows owns B:=⟨k,fun h L=>S.inr h (M h L),fun h L=>S.ino h (M h L),fun h L=>S.wid h (M h L),O_ U S.nl,O_ N S.nt⟩
theorem Po(S:Snd rows owns s)(t:Rg.TTC (Wr rows) (own owns) a s)(c:Rg.Chain (Wr rows) (own owns) s A1)(hA:A1≠[])(IO:A1.length<=60):∃(b:Dd)(N:Rg.S)(g:List Nat),nw [WD rows,OD owns,LN s.line,LN s.things,LN A1]=.ok (cV a b)/\(∀h∈b.hands,h∈s.line)/\b.hands.Nodup/\b.okA s/\N=⟨s.line.filter fun h=>decide (h∉b.hands),s.things.filter fun x=>decide (x∉b.hands.map a)⟩/\g=(oS b A1).filter (fun h=>decide (h∉b.hands)) /\Snd rows owns N/\Rg.TTC (Wr rows) (own owns) a N/\Rg.Chain (Wr rows) (own owns) N g/\2*N.line.length+A1.length+1<=2*s.line.length+g.length:=by
 have hp:=W4.mpr hA;have e:A1[A1.length-1]? = some A1[A1.length-1]:=k_ _;generalize A1[A1.length-1]=z at e;have L:=c.sub z (c.at e);have v:∀{C:List Nat},C.Nodup->(∀h∈C,h∈s.line)->(s.line.filter fun h=>decide (h∉C)).length+C.length=s.line.length:=fun hC R=>by have:=(Jk S.ok.nl hC R).length_eq;rw[M_]at this;omega
 have f:∀{C:List Nat},(∀h∈C,a h=tS rows s h)->C.map a=C.map _:=fun h=>W3 h;have F:∀{N:Rg.S}{g:List Nat},N=Rg.minus (Wr rows) s [z]->g=A1.take (A1.length-1)->a z=tS rows s z->nw [WD rows,OD owns,LN s.line,LN s.things,LN A1]=.ok (.tup [.str "takes",nD z,nD (tS rows s z)])->Rg.Ok (Wr rows) (own owns) N->Rg.TTC (Wr rows) (own owns) a N->Rg.Chain (Wr rows) (own owns) N g ->∃(b:Dd)(N:Rg.S)(g:List Nat),nw [WD rows,OD owns,LN s.line,LN s.things,LN A1]=.ok (cV a b)/\(∀h∈b.hands,h∈s.line)/\b.hands.Nodup/\b.okA s/\N=⟨s.line.filter fun h=>decide (h∉b.hands),s.things.filter fun x=>decide (x∉b.hands.map a)⟩/\g=(oS b A1).filter (fun h=>decide (h∉b.hands)) /\Snd rows owns N/\Rg.TTC (Wr rows) (own owns) a N/\Rg.Chain (Wr rows) (own owns) N g/\2*N.line.length+A1.length+1<=2*s.line.length+g.length:=by
  intro N g y H m w p o n;have O:∀h∈[z],h∈s.line:=fun h d=>by rw[w_.mp d];exact L
  have A:=v (by simp) O;have Q:N.line.length+1=s.line.length:=by rw[y];exact A
  refine⟨.tk z,N,g,by rw[w];show _=Res.ok (D.tup [.str "takes",nD z,nD _]);rw[m],O,by simp[Dd.hands],trivial,?_,?_,Fd S p (fun h d=>by rw[y]at d;exact(n_.mp d).1) (by omega) (by rw[y];exact Xz _ _),o,n,?_⟩
  .rw[y];show(⟨_,_⟩:Rg.S)=⟨_,s.things.filter fun x=>decide (x∉[z].map a)⟩
   rw[f fun h d=>by rw[w_.mp d];exact m];rfl
  .rw[H];refine(JG c.nd _ fun x=>?_).symm;constructor
   .intro hx;have:=w_.mp hx;subst this;exact Rg.vV (o_ _) e
   .intro hx;obtain⟨j,h1,u⟩:=Rg.rO hx;have X:=(c_.mp u).1;have:j=A1.length-1:=by omega
    subst this;rw[e]at u;cases u;exact w_.mpr rfl
  .rw[H,WY];omega
 cases q:kR owns s _ with
|none=>
  obtain⟨p,o,n,m⟩:=Rg.UM t S.ok c e fun h d=>by simpa using Yo.mp q h d
  exact F rfl rfl m (Le S e L (.inl q)) p o n
|some l=>
  have E:=by simpa using Zp q
  have Z:=List.mem_of_find?_eq_some q;by_cases U:l=z
  .subst U;obtain⟨p,o,n,m,J⟩:=Rg.LK t S.ok c e e E;have G:∀x,x∈A1.drop (A1.length-1)↔x∈[l]:=fun x=>by
    constructor
    .intro hx;obtain⟨j,h1,u⟩:=Rg.rO hx;have X:=(c_.mp u).1;have:j=A1.length-1:=by omega
     subst this;rw[e]at u;cases u;exact w_.mpr rfl
    .intro hx;rw[w_.mp hx];exact Rg.vV (o_ _) e
   exact F (Ie G) rfl (m l ((G l).mpr (w_.mpr rfl))) (Le S e L (.inr q)) p o n
  .by_cases hm:l∈A1
   .obtain⟨k,k1,w⟩:=TX S c e q U rfl hm IO;have Y:=Zz hm;have hi:A1[A1.idxOf l]? = some l:=by rw[k_ Y];congr 1;exact List.getElem_idxOf Y
    obtain⟨p,o,n,m,J⟩:=Rg.LK t S.ok c e hi E;generalize A1.idxOf l=i at w Y p o n m J k1;generalize T:(A1.drop i).drop _++(A1.drop i).take _=r at w;have B:r.Perm (A1.drop i):=by rw[<-T];exact List.perm_append_comm.trans (by rw[XY])
    have M:∀x,x∈r↔x∈A1.drop i:=fun x=>B.mem_iff;have er:dL (tS rows s) r=dL a r:=by show D.tup _=D.tup _;congr 1;refine W3 fun x hx=>?_;show D.tup [nD x,nD _]=D.tup [nD x,nD _];rw[m x ((M x).mp hx)]
    have K:=fun h d=>c.sub h (Yz ((M h).mp d));have P:r.Nodup:=B.nodup_iff.mpr (c.nd.sublist (List.drop_sublist _ _));have A:=v P K;have l2:r.length=A1.length-i:=by rw[B.length_eq,Xt]
    have I:Rg.minus _ s _=Rg.minus (Wr rows) s r:=Ie fun x=>(M x).symm;have Q:(Rg.minus (Wr rows) s (A1.drop i)).line.length+r.length=s.line.length:=by rw[I];exact A
    refine⟨.rg r,_,_,by rw[w];show Res.ok _=Res.ok (D.tup [.str "ring",dL a r]);rw[er],K,P,trivial,?_,?_,Fd S p (fun h d=>(n_.mp d).1) (by omega) (Xz _ _),o,n,?_⟩
    .rw[I];show(⟨_,_⟩:Rg.S)=⟨_,s.things.filter fun x=>decide (x∉r.map a)⟩
     rw[f fun h d=>m h ((M h).mp d)];rfl
    .exact(JG c.nd i M).symm
    .rw[WY];omega
   .have n:=Rg.UR c e Z hm E;refine⟨.ah l _,s,_,T7 S e L q U hm,fun h d=>(nomatch d),ģ,⟨Z,(S.ok.tgt_mem L)⟩,?_,?_,S,t,n,by rw[M_,Xy];omega⟩
    .show s=⟨s.line.filter fun h=>decide (h∉[]),s.things.filter fun x=>decide (x∉[])⟩
     simp[eU]
    .show _=(A1++[l]).filter fun h=>decide (h∉[]);simp[eU]
theorem NS(m:D):∀(j:Nat)(s:Rg.S)(A:List Nat)(told:List D)(x7 x8 x9:Option D),Snd rows owns s->Rg.TTC (Wr rows) (own owns) a s->Rg.Chain (Wr rows) (own owns) s A->2*s.line.length<j+A.length->told.length+2*s.line.length<=300+A.length ->
  ∃(g:Rg.S)(r:List Nat)(l:List Dd)(Y U M:Option D),(l.flatMap Dd.hands).Perm s.line/\l.length+A.length<=2*s.line.length/\(∀d∈l,d.okA s) /\
   gj mA PU IJ j [some (WD rows),some (OD owns),some m,some (LN s.line),some (LN s.things),some (LN A),some (.lst told),x7,x8,x9]
    = .nx [some (WD rows),some (OD owns),some m,some (LN g.line),some (LN g.things),some (LN r),some (.lst (told++l.map (cV a))),Y,U,M]:=by
 intro j
 induction j with
|zero=>intro s A told x7 x8 x9 S t c h;have:=Rg.nr c.nd c.sub;omega
|succ j F=>
  intro s A told x7 x8 x9 S t c T Q;have Id:A.length<=s.line.length:=Rg.nr c.nd c.sub;have IO:=S.nl;by_cases B:s.line=[]
  .refine⟨s,A,[],x7,x8,x9,by rw[B];exact .nil,by simp;omega,fun d N=>(nomatch N),?_⟩;rw[W8,T_];refine rF (fA (d:=LN s.line) rfl ?_);rw[B];rfl
  .have hpos:=W4.mpr B;generalize L:(if A=[]then[s.line.headD 0]else A)=k;have p:Rg.Chain (Wr rows) (own owns) s k:=by
    rw[<-L];split
    .exact Rg.MK B
    .exact c
   have Z:k≠[]:=by
    rw[<-L];split
    .simp
    .assumption
   have Cl:A.length<=k.length:=by
    rw[<-L];split
    .rename_i e;rw[e];simp
    .exact o_ _
   have BT:k.length<=s.line.length:=Rg.nr p.nd p.sub;obtain⟨i,u,P,N,v,G,n,o,I,O,E,K,R⟩:=Po S t p Z (by omega);obtain⟨C,z,H⟩:=NR (told:=told) (x7:=x7) (x8:=x8) (x9:=x9) S m B L.symm (by omega) (by omega) N v;obtain⟨g,r,l,Y,U,M,y,X,f,w⟩:=F u P (told++[cV a i]) (some (cV a i)) C z O E K (by omega) (by rw[M_];simp;omega);refine⟨g,r,i::l,Y,U,M,?_,by simp;omega,fun d N=>?_,?_⟩
   .rw[ZX];have J:u.line=s.line.filter fun h=>decide (h∉i.hands):=by rw[o]
    rw[J]at y;exact(List.Perm.append_left _ y).trans (Jk S.ok.nl G v)
   .rcases I_.mp N with rfl|N
    .exact n
    .have:=f d N;rw[o]at this;cases d with
    |ah h x=>exact⟨(n_.mp this.1).1,(n_.mp this.2).1⟩
    |_=>trivial
   .rw[W_]at w;rw[s_];refine ò (pP (fA (b:=true) (d:=LN s.line) rfl ?_) ?_) w
    .cases q:s.line with
    |nil=>exact Q_f q B
    |cons b t=>rfl
    .rw[H,o,I]
theorem QW{o:Option (List Nat)}(b:∀l,o=some l->l.Nodup/\(∀k∈l,k<rows.length)/\l.length=rows.length)(Z:rows≠[])(h:rows.length<=30)(S:Snd rows owns (s0 rows o))(M:(s0 rows o).line.length<=30)(t:Rg.TTC (Wr rows) (own owns) a (s0 rows o)):∃l:List Dd,(l.flatMap Dd.hands).Perm (s0 rows o).line/\l.length<=60/\(∀d∈l,d.okA (s0 rows o))/\zh [WD rows,OD owns,cE o]=.ok (.lst (l.map (cV a))):=by
 obtain⟨g,i,l,U,L,B,f,e,Y,c⟩:=NS (rows:=rows) (owns:=owns) (a:=a) (cE o) 64 (s0 rows o) [] [] none none none S t Rg.MJ (by simp;omega) (by simp;omega);refine⟨l,f,by simp at e;omega,Y,cR (n:=10) ?_⟩
 dsimp only[vG]
 cases rows with
|nil=>exact Q_f rfl Z
|cons N rest=>refine(aN (bL (aP (aC (d:=WD (N::rest)) rfl (aC (d:=cE o) rfl aF)) (Jm b (by omega))))).trans ?_;refine(aN (bL (d:=LN (s0 (N::rest) o).things) (bY (aC (aP (aC (d:=WD (N::rest)) rfl aF) rZ) aF) (pK (by have:=S.nt;unfold s0 at this;simp at this;omega))))).trans ?_;refine(aN c).trans ?_;exact aU (aX (d:=.lst (l.map (cV a))) rfl)
end
end Law
namespace Law
open PySem PyProof.Rows L2 DL PySem.Builtin PySem.Builtin.Str
def jl(y:List Nat):List (List Nat)->List Nat
|[]=>[]
|[p]=>p
|p::q::r=>p++(y++jl y (q::r))
theorem EZ{c:Nat}:∀{p q r s:List Nat},c∉p->c∉q->p++c::r=q++c::s->p=q/\r=s
|[],[],r,s,_,_,h=>⟨rfl,(Z7 h).2⟩
|[],b::q,r,s,_,B,h=>Q_f (Z7 h).1 (fun e=>B (by grind))
|a::p,[],r,s,L,_,h=>Q_f (Z7 h).1 (fun e=>L (by grind))
|a::p,b::q,r,s,L,B,h=>by
  obtain⟨N,M⟩:=Z7 h;obtain⟨Y,U⟩:=EZ (fun z=>L (l_ _ z)) (fun z=>B (l_ _ z)) M
  grind
theorem En{c:Nat}{U:List Nat}:∀{L B:List (List Nat)},L≠[]->B≠[]->(∀p∈L,c∉p)->(∀q∈B,c∉q)->jl (c::U) L=jl (c::U) B->L=B
|[],_,h,_,_,_,_=>Q_f rfl h
|_::_,[],_,h,_,_,_=>Q_f rfl h
|[p],[q],_,_,_,_,h=>by rw[show p=q from h]
|[p],q::Z::s,_,_,N,_,h=>by have h:p=q++(c::U++jl _ _):=h;exact Q_f (by rw[h];simp) (N p j_)
|p::a::r,[q],_,_,_,M,h=>by have h:p++(c::U++jl _ _)=q:=h;exact Q_f (by rw[<-h];simp) (M q j_)
|p::a::r,q::Z::s,_,_,N,M,h=>by obtain⟨e,d⟩:=EZ (N p j_) (M q j_) h;have b:=List.append_cancel_left d;rw[e,En (by simp) (by simp) (fun z Y=>N z (l_ _ Y)) (fun z Y=>M z (l_ _ Y)) b]
theorem Do{c:Nat}{L:List Nat}(B:c∉L):∀{N:List (List Nat)},(∀p∈N,c∉p)->∀k,(jl (c::L) N)[k]? = some c->((jl (c::L) N).drop k).take (c::L).length=c::L
|[],_,k,h=>by simp[jl]at h
|[p],M,k,h=>Q_f (Xj h) (M p j_)
|p::q::r,M,k,h=>by
  have e:jl (c::L) (p::q::r)=p++((c::L)++jl (c::L) (q::r)):=rfl;rw[e]at h ⊢;by_cases Z:k<p.length
  .rw[J_ Z]at h;exact Q_f (Xj h) (M p j_)
  .obtain⟨j,rfl⟩:∃j,k=p.length+j:=⟨k-p.length,by omega⟩
   rw[W0 (by omega),ħ]at h;rw[<-Ĥ,ĥ];by_cases Y:j<(c::L).length
   .rw[J_ Y]at h;cases j with
   |zero=>rw[Y5,List.take_left]
   |succ j=>rw[List.getElem?_cons_succ]at h;exact Q_f (Xj h) B
   .obtain⟨i,rfl⟩:∃i,j=(c::L).length+i:=⟨j-(c::L).length,by omega⟩
    rw[W0 (by omega),ħ]at h;rw[<-Ĥ,ĥ];exact Do B (fun z U=>M z (l_ _ U)) i h
theorem pJ(y:Str):∀B:List Str,(N_ y B).cps.toList=jl y.cps.toList (B.map fun p=>p.cps.toList)
|[]=>rfl
|[p]=>rfl
|p::q::r=>by
  have L:=pJ y (q::r);show(p++y++N_ y _).cps.toList=p.cps.toList++(y.cps.toList++jl y.cps.toList ((q::r).map fun p=>p.cps.toList))
  rw[<-L];simp only[Str.cps_append,Ŀ,W_]
theorem O7(x:Str):1<=YN x:=by
 unfold YN;split
 .exact o_ _
 .split <;> decide
section
variable{c:Nat}{x y:Str}
theorem Hn{a b:Nat}(U:∀k,x.cps.toList[k]? = some c->Zd x y x.length k)(N:∀k,a<=k->k<b->¬ Zd x y x.length k):c∉(strSub x a b).cps.toList:=by
 intro M;rw[StrLaws.strSub_toList]at M;obtain⟨j,L⟩:=Xl M;have B:j<b-a:=by have Y:=(c_.mp L).1;simp at Y;omega
 rw[Z1 B,XD]at L;exact N (a+j) (by omega) (by omega) (U _ L)
theorem IF(N:∀k,x.cps.toList[k]? = some c->Zd x y x.length k):∀(B:List Nat)(a f:Nat),StrLaws.ChainG x y x.length a B f->(∀k,f<=k->¬ Zd x y x.length k)->∀p∈StrLaws.partsFrom x y.length a B,c∉p.cps.toList
|[],a,f,h,M,p,L=>by subst h;rw[w_.mp L];exact Hn N fun k U _=>M k U
|d::r,a,f,h,M,p,L=>by
  rcases I_.mp L with e|e
  .rw[e];exact Hn N h.2.2.1
  .exact IF N r _ f h.2.2.2 M p e
theorem Jq(b:YN y=1)(L:1<=y.length)(U:∀k,x.cps.toList[k]? = some c->Zd x y x.length k):∀q∈Txt.split x y,c∉q.cps.toList:=by
 have N:(∀k,¬ Zd x y x.length k)->c∉x.cps.toList:=fun h z=>by obtain⟨j,Y⟩:=Xl z;exact h j (U j Y)
 obtain⟨f,M,Z⟩:=StrLaws.occ_tight x y L;unfold Txt.split;split
 .intro q hq;rw[w_.mp hq];refine N fun k B=>?_;have:=B.1;have a:=O7 x
  grind
 .split
  .rename_i h;rw[List.isEmpty_iff.mp h]at M;have M:f=0:=M
   grind
  .rw[Ľ];exact IF U _ 0 f M Z
theorem Am(x y:Str):Txt.split x y≠[]:=by
 unfold Txt.split;split
 .simp
 .split
  .simp
  .rw[Ľ];obtain⟨p,r,e⟩:=StrLaws.partsFrom_ne x y.length 0 _;rw[e];simp
theorem AR{U:List Nat}(N:y.cps.toList=c::U)(g:YN y=1)(B:c∉U){M:List Str}(L:M≠[])(m:∀p∈M,c∉p.cps.toList):Txt.split (N_ y M) y=M:=by
 have f:y.length=(c::U).length:=by rw[<-N];simp[Á]
 have i:∀k,(N_ y M).cps.toList[k]? = some c->Zd (N_ y M) y (N_ y M).length k:=by
  intro k h;rw[pJ,N]at h;have j:=Do B (fun p Y=>by grind) k h;rw[<-N,<-pJ]at j;refine⟨?_,?_⟩
  .have h4:(N_ y M).cps.toList.length=(N_ y M).length:=by simp[Á]
   grind
  .rw[ľ,f,<-N]
   grind
 have Z:=Jq g (by grind) i;have d:=Am (N_ y M) y;have e:(N_ y (Txt.split (N_ y M) y)).cps.toList=(N_ y M).cps.toList:=by rw[ZN]
 rw[pJ y _,pJ y M,N]at e;have l:=En (by simpa using d) (by simpa using L) (fun p Y=>by grind) (fun p Y=>by grind) e;exact(List.map_inj_right fun a b h=>Str.ext' (ŀ.mp h)).mp l
end
end Law
namespace Law
open PySem PyProof.Rows L2 DL
abbrev bT(x:Nat):Str:=⟨#[65+x]⟩
def word(x:Nat)(o:Option Nat):Str:=if o=some x then bT x++"*" else bT x
theorem oP{p:Nat->Prop}(a:p 0)(Z:p 1)(Y:p 2)(U:p 3)(N:p 4)(M:p 5)(L:p 6)(B:p 7){x:Nat}(h:x<8):p x:=by grind
theorem nV{x:Nat}(h:x<8):bV (.str "ABCDEFGH") (nD x)=some (.str (bT x)):=oP (p:=fun x=>bV _ _=some (.str _)) (rfl) (rfl) (rfl) (rfl) (rfl) (rfl) (rfl) (rfl) h
theorem HM{x:Nat}(h:x<8):qK (.str "ABCDEFGH") [.str (bT x)]=some (nD x):=oP (p:=fun x=>qK _ [.str _]=some _) (by kernel_rfl) (by kernel_rfl) (by kernel_rfl) (by kernel_rfl) (by kernel_rfl) (by kernel_rfl) (by kernel_rfl) (by kernel_rfl) h
theorem MF{x:Nat}(h:x<8):gN (.str (bT x)) (.str "ABCDEFGH")=some (.bl true):=oP (p:=fun x=>gN (.str _) _=some _) (by kernel_rfl) (by kernel_rfl) (by kernel_rfl) (by kernel_rfl) (by kernel_rfl) (by kernel_rfl) (by kernel_rfl) (by kernel_rfl) h
theorem OM{x:Nat}(h:x<8):lenD [.str (bT x)]=some (nD 1):=oP (p:=fun x=>lenD [.str _]=some _) (rfl) (rfl) (rfl) (rfl) (rfl) (rfl) (rfl) (rfl) h
theorem Ao(x:Nat)(o:Option Nat):(word x o).length<=2:=by
 unfold word;split
 .exact o_ 2
 .exact À 1
theorem word_chr{x c:Nat}{o:Option Nat}(h:c∈(word x o).cps.toList):c=42\/65<=c:=by
 unfold word at h;split at h
 .have h:c∈(#[65+x]++("*" : Str).cps).toList:=h;rw[Ŀ]at h;rcases W5.mp h with z|z
  .grind
  .left;exact w_.mp z
 grind
theorem gu{a b:Str}(h:a.length+b.length<=1000):addA (.str a) (.str b)=some (.str (a++b)):=by show(if a.length+b.length<=sizeLine then _ else _)=_;rw[Q_d (by rw[H_];omega)]
theorem Hj(x:Nat):(bT x).length+(("*" : Str)).length<=1000:=by
 have h:(("*")).length=1:=by decide+kernel
 show 1+1<=1000;decide
theorem E3(x:Nat)(o:Option Nat):eqD (nD x) (oD o)=some (.bl (decide (o=some x))):=by cases o with
|none=>rfl
|some y=>
  rw[show oD _=nD y from rfl,j3];congr 2
  grind
theorem Qc{x:Nat}(o:Option Nat)(h:x<8):JS [nD x,oD o]=.ok (.str (word x o)):=by
 refine cY ?_;refine(aN (r':=[some _,some _,some _]) (bL (aJ rfl rfl (nV h)))).trans (aU (aX ?_));have t:cK (f2 (gv 0) (gv 1) eqD) [some _,some _,some (.str (bT x))]=.ok _:=cI (aJ rfl rfl (E3 x o));unfold word;by_cases c:o=some x
 .rw[Q_c c]at t;rw[Q_d c,mW t];exact aJ rfl rfl (gu (Hj x))
 .rw[Q_b c]at t;rw[Q_e c,mV t];rfl
theorem Bp{x:Nat}(o:Option Nat)(h:x<8):wO [.str (word x o)]=.ok (.bl (decide (o=some x))):=by
 refine cR (n:=1) ?_
 dsimp only[so]
 refine aU (aX (d8 (d:=.str (word x o)) (ds:=[.str "*"]) rfl rfl rfl ?_));unfold word;by_cases c:o=some x
 .rw[Q_d c,Q_c c];exact oP (p:=fun x=>uH _ [.str "*"]=some _) (rfl) (rfl) (rfl) (by kernel_rfl) (by kernel_rfl) (by kernel_rfl) (by kernel_rfl) (rfl) h
 .rw[Q_e c,Q_b c];exact oP (p:=fun x=>uH (.str (bT x)) [.str "*"]=some _) (rfl) (rfl) (rfl) (rfl) (rfl) (rfl) (rfl) (rfl) h
theorem zc{M:FE}{B L:FP}{r:aL}{d d':D}{lo hi:Option Int}(Z:M r=.ok d)(Y:B r=.ok lo)(U:L r=.ok hi)(N:xC d lo hi=some d'):oK M B L r=.ok d':=by unfold oK;rw[Z,bind_ok,Y,bind_ok,U,bind_ok,N];rfl
theorem AN{x:Nat}(o:Option Nat)(h:x<8):JO [.str (word x o)]=.ok (.str (bT x)):=by
 refine cY ?_;refine aU (aX ?_);have t:di (bM (aH (gv 0) aE) [] wO) [some _]=.ok _:=fA (aP (aC rfl aF) (Bp o h)) rfl;by_cases c:o=some x
 .rw[Q_c c]at t;refine(mW t).trans (zc rfl rfl (hU rfl) ?_);unfold word;rw[Q_d c];exact oP (p:=fun x=>xC (.str (bT x++"*")) none (some (-1))=some (.str (bT x))) (by kernel_rfl) (by kernel_rfl) (rfl) (rfl) (by kernel_rfl) (by kernel_rfl) (by kernel_rfl) (rfl) h
 .rw[Q_b c]at t;refine(mV t).trans ?_;show Res.ok _=_;unfold word;rw[Q_e c]
theorem Sf{x:Nat}(o:Option Nat)(h:x<8):PP [.str (word x o)]=.ok (.bl true):=by refine cY ?_;refine(aN (bL (aP (aC rfl aF) (AN o h)))).trans (aU (aX ?_));rw[qX (aJ (bY (aC rfl aF) (OM h)) rfl (nj 1))];exact aJ rfl rfl (MF h)
def cT(row:List Nat)(o:Option Nat):Str:=N_ " " (row.map fun x=>word x o)
def e8(rows:List (List Nat))(owns:List (Option Nat)):Str:=N_ "; " ((rows.zip owns).map fun p=>cT p.1 p.2)
theorem A5:∀l:List Str,lM (l.map D.str)=some l
|[]=>rfl
|x::l=>by show(lM _).map _=_;rw[A5 l];rfl
theorem jK{L:Str}{l:List Str}{B:Nat}(N:∀y∈l,y.length<=B)(h:l.length*B+l.length*L.length<=16777216):ip (.str L) [.lst (l.map D.str)]=some (.str (N_ L l)):=by
 show(match lM _ with|some M=>if í L M=true then some _ else none|none=>none)=_;rw[A5];have:í L l=true:=by unfold í;rw[StrLaws.joinFits N h];rfl
 simp only[this];show some (D.str (PySem.Builtin.Str.glued L l))=_;rw[Y9]
theorem wc{B:List Nat}(o:Option Nat)(U:B.length<=8):(cT B o).length<=24:=by
 have h:=Y7 " " (B.map fun x=>word x o);have N:=ZY (B.map fun x=>word x o) (fun y L=>by obtain⟨x,_,rfl⟩:=m_.mp L;exact Ao x o);have M:((" " : Str)).length=1:=by decide+kernel
 rw[M,h_]at h;rw[h_]at N;unfold cT;omega
theorem Ik{rows:List (List Nat)}{owns:List (Option Nat)}(N:∀B∈rows,B.length<=8)(Z:rows.length<=7):(e8 rows owns).length<=1000:=by
 have h:=Y7 "; " ((rows.zip owns).map fun p=>cT p.1 p.2);have Y:=ZY ((rows.zip owns).map fun p=>cT p.1 p.2) (fun y L=>by obtain⟨p,M,rfl⟩:=m_.mp L;exact wc p.2 (N p.1 (XI M).1));have U:(("; " : Str)).length=2:=by decide+kernel
 have a:(rows.zip owns).length<=7:=by grind
 rw[U,h_]at h;rw[h_]at Y;unfold e8;omega
theorem SH{B:List Nat}(o:Option Nat)(N:∀x∈B,x<8)(U:B.length<=8):Jt [TN B,oD o]=.ok (.str (cT B o)):=by
 refine cY ?_;have e:cZ 1 [1] (bI cS (gv 0)) (bC 0) (fun _=>Res.ok true) (bM (aH (gv 0) (aH (gv 1) aE)) [] JS) (cQ 2 [TN B,oD o])=.ok (.lst ((B.map fun x=>word x o).map D.str)):=by refine(dC nD _ _ (dD rfl rfl) (by omega) fun x M=>⟨_,rfl,rfl,fun _=>aP (aC rfl (aC rfl aF)) (Qc o (N x M))⟩).trans ?_;rw[eU,t_];rfl
 have Y:((" " : Str)).length=1:=by decide+kernel
 exact aU (aX (d8 rfl rfl (aC e aF) (jK (fun y L=>by obtain⟨x,_,rfl⟩:=m_.mp L;exact Ao x o) (by grind))))
theorem zY{L B:FE}{r:aL}{d e:DL.D}{ds M:List DL.D}(Z:L r=.ok d)(Y:B r=.ok e)(U:cS d=some ds)(N:cS e=some M):jy L B r=.ok (X8 (fun a b=>DL.D.tup [a,b]) ds M):=by unfold jy;rw[Z,bind_ok,Y,bind_ok,U,opt_some,bind_ok,N,opt_some,bind_ok]
theorem Ef(rows:List (List Nat))(owns:List (Option Nat)):X8 (fun a b=>DL.D.tup [a,b]) (rows.map TN) (owns.map oD)=(rows.zip owns).map fun p=>.tup [TN p.1,oD p.2]:=by rw[List.zipWith_map,List.zip,List.map_zipWith]
theorem Tg{rows:List (List Nat)}{owns:List (Option Nat)}(Y:∀L∈rows,∀x∈L,x<8)(N:∀L∈rows,L.length<=8)(Z:rows.length<=7):JQ [WD rows,OD owns]=.ok (.str (e8 rows owns)):=by
 refine cR (n:=2) ?_
 dsimp only[Bl]
 have a:(rows.zip owns).length<=7:=by grind
 have e:cZ 2 [] (jy (gv 0) (gv 1)) (gy (de (bC 0) (de (bC 1) gB))) (fun _=>Res.ok true) (bM (aH (gv 0) (aH (gv 1) aE)) [] Jt) (cQ 2 [WD rows,OD owns])=.ok (.lst (((rows.zip owns).map fun p=>cT p.1 p.2).map D.str)):=by refine(dC (l:=rows.zip owns) (fun p=>.tup [TN p.1,oD p.2]) (fun _=>true) (fun p=>.str (cT p.1 p.2)) ((zY (d:=WD rows) (e:=OD owns) rfl rfl rfl rfl).trans (by rw[Ef])) (by omega) fun p M=>⟨[some (TN p.1),some (oD p.2)],rfl,rfl,fun _=>aP (aC (d:=TN p.1) rfl (aC (d:=oD p.2) rfl aF)) (SH p.2 (Y p.1 (XI M).1) (N p.1 (XI M).1))⟩).trans ?_;rw[eU,t_];rfl
 have b:(("; " : Str)).length=2:=by decide+kernel
 exact aU (aX (d8 (d:=.str "; ") rfl rfl (aC e aF) (jK (B:=24) (fun y U=>by obtain⟨p,M,rfl⟩:=m_.mp U;exact wc p.2 (N p.1 (XI M).1)) (by grind))))
theorem mem_jl{c:Nat}{y:List Nat}:∀{B:List (List Nat)},c∈jl y B->c∈y\/∃p∈B,c∈p
|[],h=>by cases h
|[p],h=>.inr ⟨p,j_,h⟩
|p::q::r,h=>by
  rcases W5.mp (h)with z|z
  .exact .inr ⟨p,j_,z⟩
  .rcases W5.mp z with z|z
   .exact .inl z
   .rcases mem_jl z with z|⟨L,N,M⟩
    .exact .inl z
    .exact .inr ⟨L,l_ _ N,M⟩
theorem uT:((" " : Str)).cps.toList=[32]:=rfl
theorem MV:(("; " : Str)).cps.toList=[59,32]:=by kernel_rfl
theorem rowS_chr{B:List Nat}{o:Option Nat}{c:Nat}(h:c∈(cT B o).cps.toList):c=32\/c=42\/65<=c:=by
 unfold cT at h;rw[pJ,uT]at h;rcases mem_jl h with z|⟨p,L,M⟩
 .grind
 .rw[t_]at L;obtain⟨x,_,rfl⟩:=m_.mp L;exact .inr (word_chr M)
abbrev WS(row:List Nat)(o:Option Nat):D:=.lst (row.map fun x=>D.str (word x o))
theorem zw{a b:Str}(L:0<b.length)(B:a.length<=10000):qW (.str a) [.str b]=some (.lst ((Txt.split a b).map D.str)):=by show(if 0<b.length/\a.length<=10000 then some _ else none)=_;rw[Q_d ⟨L,B⟩]
theorem SR{L:List Nat}(o:Option Nat)(B:L≠[])(N:L.length<=8):qW (.str (cT L o)) [.str " "]=some (WS L o):=by
 rw[zw (by decide+kernel) (by have:=wc o N;omega)];unfold cT;rw[AR uT (by decide+kernel) (by simp) (by simpa using B) (fun p M=>?_),t_]
 .rfl
 .obtain⟨x,_,rfl⟩:=m_.mp M;intro z;rcases word_chr z with e|e <;> omega
theorem RS{rows:List (List Nat)}{owns:List (Option Nat)}(B:rows.zip owns≠[])(U:∀L∈rows,L.length<=8)(N:rows.length<=7):qW (.str (e8 rows owns)) [.str "; "]=some (.lst ((rows.zip owns).map fun p=>D.str (cT p.1 p.2))):=by
 rw[zw (by decide+kernel) (by have:=Ik (owns:=owns) U N;omega)];unfold e8;rw[AR MV (by decide+kernel) (by simp) (by simpa using B) (fun p M=>?_),t_]
 .rfl
 .obtain⟨x,_,rfl⟩:=m_.mp M;intro z;rcases rowS_chr z with e|e|e <;> omega
variable{o:Option Nat}
section
variable{row:List Nat}
theorem Nn{y:Nat}:∀{l:List Nat},l.Nodup->(∀x∈l,x=y)->l.length<2
|[],_,_=>by simp
|[a],_,_=>by simp
|a::b::r,B,h=>by simp_all
theorem S1(L:row.Nodup):(row.filter fun x=>decide (o=some x)).length<2:=by cases o with
|none=>rw[Đ.mpr (fun x _=>by simp)];simp
|some y=>refine Nn (y:=y) (List.Nodup.sublist ĕ L) fun x B=>?_;have:=(n_.mp B).2;simp at this;exact this.symm
theorem Pl{f:FE}{fi:FI}{nl:Nat}{cap:List Nat}{ft:FT}{r:aL}{B:List D}(N:fi r=.ok B)(M:B.length<=1000)(Y:∀d∈B,∃r1,ft d (c9 nl cap r)=some r1/\f r1=.ok (.bl true)):fC (aH (cZ nl cap fi ft (fun _=>Res.ok true) f) aE) allD r=.ok (.bl true):=by
 have e:=dC (nl:=nl) (cap:=cap) (fi:=fi) (ft:=ft) (q:=fun _=>Res.ok true) (fe:=f) id (fun _=>true) (fun _=>.bl true) (by rw[List.map_id];exact N) M (fun d U=>by grind);refine bY (aC e aF) ?_;show(lz _).map _=_;have:∀l:List D,lz (l.map fun _=>D.bl true)=some (l.map fun _=>true):=by
  intro l
  induction l with
 |nil=>rfl
 |cons d l L=>simp[lz,L]
 rw[this];simp
theorem Se(M:row.Nodup)(L:∀x∈row,x<8)(Y:row.length<=8):HY [WS row o]=.ok (.bl true):=by refine cY ?_;refine(aN (bL (dC _ _ _ (dD rfl rfl) (by omega) fun x B=>⟨_,rfl,fA (aP (aC rfl aF) (Bp o (L x B))) rfl,fun _=>rfl⟩))).trans (aU (aX ?_));have N:=S1 (o:=o) M;rw[qX (aJ (b:=nD 2) (bY (aC rfl aF) (iA _ _)) rfl (by rw[mQ,Q_c N]))];refine Pl (dD rfl rfl) (by grind) fun d U=>?_;obtain⟨x,B,rfl⟩:=m_.mp U;exact⟨_,rfl,aP (aC rfl aF) (Sf o (L x B))⟩
theorem RM(L:∀x∈row,x<8)(M:row.length<=8):GY [WS row o]=.ok (LN row):=by refine cY ?_;refine aU (aX ((dC _ _ nD (dD rfl rfl) (by omega) fun x B=>⟨_,rfl,rfl,fun _=>?_⟩).trans (by rw[eU])));exact d8 rfl rfl (aC (aP (aC rfl aF) (AN o (L x B))) aF) (HM (L x B))
theorem Gk{W:D}:∀(l:List Nat)(B:Option D),(∀x∈l,x<8) ->(∀y,o=some y->y∈l->bA (bC 1) wI (l.map fun x=>D.str (word x o)) [some W,B]=.rt (nD y)) /\((∀y,o=some y->y∉l)->∃N,bA (bC 1) wI (l.map fun x=>D.str (word x o)) [some W,B]=.nx [some W,N])
|[],B,_=>⟨fun y _ h=>(nomatch h),fun _=>⟨B,eS⟩⟩
|x::l,B,M=>by
  have L:=M x j_;obtain⟨a,Z⟩:=Gk (W:=W) l (some (.str (word x o))) fun z U=>M z (l_ _ U);have t:di (bM (aH (gv 1) aE) [] wO) [some W,some _]=.ok _:=fA (aP (aC rfl aF) (Bp o L)) rfl;by_cases c:o=some x
  .rw[Q_c c]at t;refine⟨fun y b _=>?_,fun h=>Q_f j_ (h x c)⟩;have:y=x:=by grind
   subst this;refine E6 rfl (aU ((dR t).trans (aU (aX ?_))));exact d8 rfl rfl (aC (aP (aC rfl aF) (AN o L)) aF) (HM L)
  .rw[Q_b c]at t;have Y:bA (bC 1) wI _ [some W,B]=bA _ wI (l.map fun x=>D.str (word x o)) [some W,some _]:=eq rfl (aN ((cG t).trans (e_skip _)))
   grind
theorem RJ(N:∀x∈row,x<8)(M:∀y,o=some y->y∈row):GX [WS row o]=.ok (oD o):=by obtain⟨L,B⟩:=Gk (o:=o) (W:=WS row o) row none N;refine cY ?_;cases o with
|none=>obtain⟨Y,h⟩:=B fun y U=>nomatch U;exact(aN ((eu (dD rfl rfl)).trans h)).trans (aU (aX rfl))
|some y=>exact aU ((eu (dD rfl rfl)).trans (L y rfl (M y rfl)))
end
structure Txs(rows:List (List Nat))(owns:List (Option Nat))(n m:Nat):Prop where
 n1:1<=n
 n7:n<=7
 nm:n<=m
 m8:m<=8
 rl:rows.length=n
 rp:∀row∈rows,row.Perm (g_ m)
 ow:Own owns m
 ol:owns.length=n
variable{rows:List (List Nat)}{owns:List (Option Nat)}{n m:Nat}
theorem Txs.bd(S:Txs rows owns n m):∀B∈rows,∀x∈B,x<m:=fun B M x L=>p_.mp ((S.rp B M).mem_iff.mp L)
theorem Txs.b8(S:Txs rows owns n m):∀B∈rows,∀x∈B,x<8:=fun B M x L=>B_ (S.bd B M x L) S.m8
theorem Txs.len(S:Txs rows owns n m):∀B∈rows,B.length=m:=fun B L=>by rw[(S.rp B L).length_eq];simp
theorem Txs.l8(S:Txs rows owns n m):∀B∈rows,B.length<=8:=fun B L=>by rw[S.len B L];exact S.m8
theorem Txs.nd(S:Txs rows owns n m):∀B∈rows,B.Nodup:=fun B L=>(S.rp B L).nodup_iff.mpr Xd
theorem Txs.zl(S:Txs rows owns n m):(rows.zip owns).length=n:=by rw[Ô,S.rl,S.ol,Nat.min_self]
theorem Txs.zr(S:Txs rows owns n m){p:List Nat×Option Nat}(h:p∈rows.zip owns):p.1∈rows/\p.2∈owns:=XI h
theorem GD{W:D}:∀(l:List (List Nat))(k:Nat)(x y:Option D),(∀B∈l,B.Nodup/\(∀z∈B,z<m)/\B.length=m)->m<=8->∃M L,bA (gy (de (bC 2) (de (bC 3) gB))) TU (eM k (l.map LN)) [some W,some (nD m),x,y]=.nx [some W,some (nD m),M,L]
|[],k,x,y,_,_=>⟨x,y,eS⟩
|B::l,k,x,y,h,Y=>by obtain⟨M,L,N⟩:=GD (W:=W) l (k+1) (some (nD k)) (some (LN B)) (fun r U=>h r (l_ _ U)) Y;obtain⟨c,a,Z⟩:=h B j_;refine⟨M,L,?_⟩;rw[<-N];refine eq rfl (aN ((cG ?_).trans (e_skip _)));exact jj (b:=true) (fA (d:=.bl true) (aP (aC (d:=LN B) rfl (aC (d:=nD m) rfl aF)) (Gi c a Z (by omega))) rfl)
theorem k9{m:List Md}{f:FE}{r:aL}{d:D}(h:f r=.ok d):o6 m f r=.nx r:=by unfold o6;rw[h];rfl
theorem Oe{B:List D}(N:1<=B.length)(M:B.length<=7):Uo [.lst B]=.ok .non:=by
 show dI false (xu.1 (cQ 1 [.lst B]))=_;have L:fC (aH (gv 0) aE) lenD (cQ 1 [.lst B])=.ok _:=bY (aC rfl aF) rfl;have:xu.1 (cQ 1 [.lst B])=.nx [some (.lst B)]:=by refine aN ((cG ?_).trans (e_skip _));refine(fJ (cI (aJ (b:=nD 1) L rfl (by rw[mQ,Q_b (by omega)])))).trans (cI (aJ (b:=nD 7) L rfl (by rw[pi,Q_b (by omega)])))
 rw[this];rfl
theorem MS(S:Txs rows owns n m):Sz [.lst (rows.map LN)]=.ok (WD rows):=by
 have a:=S.rl;have B:=S.n1;have L:=S.n7;have M:=S.m8;have U:=S.nm;obtain⟨g,f,c⟩:=GD (W:=.lst (rows.map LN)) rows 0 none none (fun N Y=>⟨S.nd N Y,S.bd N Y,S.len N Y⟩) S.m8;obtain⟨Z,e,d⟩:∃Z,(rows.map LN)[0]? = some (LN Z)/\Z.length=m:=by cases rows with
 |nil=>simp at a;omega
 |cons r t=>exact⟨r,rfl,S.len r j_⟩
 refine cY ?_;refine(aN (k9 (aP (aC rfl aF) (Oe (by grind) (by grind))))).trans ?_;refine(aN (bL (bY (aC (aJ rfl rfl (qA e)) aF) (by rw[iA,d])))).trans ?_;refine(aN ((cG ?_).trans (e_skip _))).trans ?_
 .refine(fJ (cI (aJ rfl (bY (aC rfl aF) (by rw[iA,a])) (by rw[mQ,Q_b (by omega)])))).trans (cI (aJ (b:=nD 8) rfl rfl (by rw[pi,Q_b (by omega)])))
 refine(aN ((eu rfl).trans c)).trans (aU (aX ?_));refine bY (aC ((dC LN _ TN (dD rfl rfl) (by omega) fun N Y=>⟨_,rfl,rfl,fun _=>bY (aC rfl aF) rfl⟩).trans (by rw[eU])) aF) rfl
theorem ND(pre:List Nat)(k:Nat):gN (nD k) (jh pre)=some (.bl (decide (k∈pre))):=by
 show(some _).map D.bl=_;rw[vD,t_];have:decide (k∈pre.map ((fun p=>p.1)∘fun k=>(k,D.bl true)))=decide (k∈pre):=by simp[ZZ]
 rw[this];rfl
theorem Qj{pre:List Nat}{k:Nat}(L:k∉pre)(B:pre.length<=60):ff (jh pre) (nD k) (.bl true)=some (jh (pre++[k])):=by show(if _ then some _ else none)=_;rw[Q_d (by rw[h_,h_,H_];omega),Al _ _ _ (by grind)];simp
theorem Au{W T:D}(c:qa [W]=.ok (nD m)):∀(l:List (Option Nat))(pre:List Nat)(k:Nat)(x y:Option D),(∀z,some z∈l->z<m/\z∉pre)->(∀(i j:Nat) z,l[i]? = some (some z)->l[j]? = some (some z)->i=j)->pre.length+l.length<=60->∃B N M,bA (gy (de (bC 3) (de (bC 4) gB))) SF (eM k (l.map oD)) [some W,some T,some (jh pre),x,y]=.nx [some W,some T,some (jh B),N,M]
|[],pre,k,x,y,_,_,_=>⟨pre,x,y,eS⟩
|none::l,pre,k,x,y,h,Y,b=>by simp  at b;obtain⟨B,N,M,Z⟩:=Au c l pre _ _ (some .non) (fun z U=>h z (l_ _ U)) (fun i j z f d=>by have:=Y (i+1) (j+1) z f d;omega) (by omega);refine⟨B,N,M,?_⟩;rw[<-Z];exact eq rfl (aN ((cG (cI (aJ rfl rfl rfl))).trans (e_skip _)))
|some a::l,pre,k,x,y,h,Y,b=>by
  simp  at b;obtain⟨o,L⟩:=h a j_;obtain⟨B,N,M,Z⟩:=Au c l (pre++[a]) (k+1) _ _ (fun z U=>by
   refine⟨(h z (l_ _ U)).1,fun n=>?_⟩;rcases W5.mp n with e|e
   .grind
   .obtain⟨j,hj⟩:=Xl U;have e:=w_.mp e;subst e;have:=Y 0 (j+1) z rfl hj;omega) (fun i j z f d=>by have:=Y (i+1) (j+1) z f d;omega) (by simp;omega)
  refine⟨B,N,M,?_⟩;rw[<-Z];refine eq rfl (aN ((dR (cI (aJ rfl rfl rfl))).trans ?_));refine(aN ((cG ?_).trans (e_skip _))).trans (aN (kW rfl rfl rfl (Qj L (by omega))));have g:=Kh a m;rw[Q_c o]at g;refine(fJ (jj (fA (aP (aC rfl (aC (aP (aC rfl aF) c) aF)) g) rfl))).trans (cI (aJ (a:=nD a) rfl rfl ?_));rw[ND,Q_b L]
theorem Kb(S:Txs rows owns n m):qa [WD rows]=.ok (nD m):=by have L:=S.rl;have B:=S.n1;cases rows with
|nil=>simp at L;omega
|cons r t=>rw[rZ,S.len r j_]
theorem HA{W P:D}{x4:Option D}(S:Txs rows owns n m):∀(l:List (List Nat×Option Nat))(k:Nat)(x y:Option D),(∀p∈l,p∈rows.zip owns)->∃M L,bA (gy (de (bC 2) (de (bC 3) gB))) TM (eM k (l.map fun p=>WS p.1 p.2)) [some W,some P,x,y,x4]=.nx [some W,some P,M,L,x4]
|[],k,x,y,_=>⟨x,y,eS⟩
|p::l,k,x,y,h=>by obtain⟨M,L,N⟩:=HA S l _ _ _ (fun r B=>h r (l_ _ B));have B:=(S.zr (h p j_)).1;refine⟨M,L,?_⟩;rw[<-N];refine eq rfl (aN ((cG ?_).trans (e_skip _)));exact jj (fA (aP (aC rfl aF) (Se (S.nd _ B) (S.b8 _ B) (S.l8 _ B))) rfl)
theorem P8(S:Txs rows owns n m):Sx [.str (e8 rows owns)]=.ok (.tup [WD rows,OD owns]):=by
 have c:=S.zl;have M:=S.n1;have B:=S.n7;have q:=O_ S.n1 S.nm;obtain⟨Y,U,Z⟩:=HA (W:=.str (e8 rows owns)) (P:=.lst ((rows.zip owns).map fun p=>WS p.1 p.2)) (x4:=none) S (rows.zip owns) 0 none none (fun p N=>N);refine cR (n:=5) ?_
 dsimp only[Bk]
 refine(aN ((cG (jj (b:=true) (fA (d:=.bl true) (dO (a:=.str (e8 rows owns)) rfl rfl) rfl))).trans (e_skip _))).trans ?_;refine(aN (r':=[some (.str (e8 rows owns)),some (.lst ((rows.zip owns).map fun p=>WS p.1 p.2)),none,none,none]) (bL ((dC (l:=rows.zip owns) (fun p=>D.str (cT p.1 p.2)) (fun _=>true) (fun p=>WS p.1 p.2) (dD (d:=.lst ((rows.zip owns).map fun p=>D.str (cT p.1 p.2))) (d8 (d:=.str (e8 rows owns)) rfl rfl (aC (d:=.str "; ") rfl aF) (RS (by grind) S.l8 (by rw[S.rl];omega))) rfl) (by omega) fun p N=>⟨[some (.str (cT p.1 p.2))],rfl,rfl,fun _=>d8 (d:=.str (cT p.1 p.2)) rfl rfl (aC (d:=.str " ") rfl aF) (SR p.2 (by intro z;have:=S.len p.1 (S.zr N).1;grind) (S.l8 _ (S.zr N).1))⟩).trans (by rw[eU])))).trans ?_;refine(aN ((eu (ds:=eM 0 ((rows.zip owns).map fun p=>WS p.1 p.2)) rfl).trans Z)).trans ?_;have o:cZ 1 [] (bI cS (gv 1)) (bC 0) (fun _=>Res.ok true) (bM (aH (gv 0) aE) [] GY) [some (.str (e8 rows owns)),some (.lst ((rows.zip owns).map fun p=>WS p.1 p.2)),Y,U,none]=.ok (.lst (rows.map LN)):=by
  refine(dC (l:=rows.zip owns) (fun p=>WS p.1 p.2) (fun _=>true) (fun p=>LN p.1) (dD (d:=.lst ((rows.zip owns).map fun p=>WS p.1 p.2)) rfl rfl) (by omega) fun p N=>⟨[some (WS p.1 p.2)],rfl,rfl,fun _=>aP (aC (d:=WS p.1 p.2) rfl aF) (RM (S.b8 _ (S.zr N).1) (S.l8 _ (S.zr N).1))⟩).trans ?_;rw[eU];congr 2;have:=ĝ (l₁:=rows) (l₂:=owns) (by rw[S.rl,S.ol];exact o_ _)
  conv=>rhs;rw[<-this]
  rw[t_];rfl
 have k:∀x4:Option D,cZ 1 [] (bI cS (gv 1)) (bC 0) (fun _=>Res.ok true) (bM (aH (gv 0) aE) [] GX) [some (.str (e8 rows owns)),some (.lst ((rows.zip owns).map fun p=>WS p.1 p.2)),Y,U,x4]=.ok (.lst (owns.map oD)):=by
  intro x4;refine(dC (l:=rows.zip owns) (fun p=>WS p.1 p.2) (fun _=>true) (fun p=>oD p.2) (dD (d:=.lst ((rows.zip owns).map fun p=>WS p.1 p.2)) rfl rfl) (by omega) fun p N=>⟨[some (WS p.1 p.2)],rfl,rfl,fun _=>aP (aC (d:=WS p.1 p.2) rfl aF) (RJ (S.b8 _ (S.zr N).1) fun y h=>?_)⟩).trans ?_
  .rw[(S.rp _ (S.zr N).1).mem_iff,p_];exact S.ow.lt y (by rw[<-h];exact(S.zr N).2)
  .rw[eU];congr 2;have:=ę (l₁:=rows) (l₂:=owns) (by rw[S.rl,S.ol];exact o_ _)
   conv=>rhs;rw[<-this]
   rw[t_];rfl
 refine(aN (r':=[some (.str (e8 rows owns)),some (.lst ((rows.zip owns).map fun p=>WS p.1 p.2)),Y,U,some (WD rows)]) (bL (aP (aC (d:=.lst (rows.map LN)) o aF) (MS S)))).trans (aU (aX ?_));exact iy (aC (d:=WD rows) rfl (aC (d:=OD owns) (aP (aC (d:=WD rows) rfl (aC (d:=.lst (owns.map oD)) (k _) aF)) ((fun S=>by
    have e:=S.ol;have B:=S.n7;obtain⟨L,Y,U,Z⟩:=Au (Kb S) _ [] 0 none none (fun z c=>⟨S.ow.lt z c,by simp⟩) (fun i j z g f=>S.ow.inj i j z (by unfold own;rw[g];rfl) (by unfold own;rw[f];rfl)) (by simp;omega);refine cY ?_;refine(aN ((cG (cI (aJ (bY (aC rfl aF) (by rw[iA,e])) (bY (aC rfl aF) (by rw[jN,S.rl])) ?_))).trans (e_skip _))).trans ?_
    .show some (D.bl (!(((_):Int)==((_)))))=_;simp
    refine(aN ((eu rfl).trans Z)).trans (aU (aX (bY (aC rfl aF) rfl)))) S)) aF)) (by simp)
theorem M4:o7 (.str "*") (.int 1)=some (.str "*"):=rfl
theorem M3:o7 (.str "*") (.int 0)=some (.str Yr):=rfl
section
variable{a0 a1 a2 a3:Option D}
theorem Gz:∀(l:List Nat)(ws:List Str)(B:Option D),(∀x∈l,x<8)->ws.length+l.length<=60->∃M,bA (bC 6) KM (l.map nD) [a0,a1,a2,a3,some (oD o),some (.lst (ws.map D.str)),B]=.nx [a0,a1,a2,a3,some (oD o),some (.lst ((ws++l.map fun x=>word x o).map D.str)),M]
|[],ws,B,_,_=>⟨B,by rw[W8,W8,T_];exact eS⟩
|x::l,ws,B,N,b=>by
  simp  at b;have a:=N x j_;obtain⟨M,Y⟩:=Gz l (ws++[word x o]) (some (nD x)) (fun z Z=>N z (l_ _ Z)) (by simp;omega);refine⟨M,?_⟩;rw[s_,s_,show ws++(word x o::l.map fun x=>word x o)=ws++[word x o]++l.map fun x=>word x o by simp,<-Y];refine eq rfl (aN ?_);refine(gc (ds:=[.str (word x o)]) rfl rfl (aC ?_ aF) (iC (by simp;omega))).trans (by grind);have U:f2 (fun _=>Res.ok _) (gv 6) bV [a0,a1,a2,a3,some (oD o),some (.lst (ws.map D.str)),some _]=.ok _:=aJ rfl rfl (nV a);have L:fC (aH (f2 (gv 6) (gv 4) eqD) aE) pk [a0,a1,a2,a3,some _,some (.lst (ws.map D.str)),some _]=.ok _:=bY (aC (aJ rfl rfl (E3 x o)) aF) rfl;unfold word;by_cases c:o=some x
  .rw[Q_c c,Q_d rfl]at L;rw[Q_d c];exact aJ U (aJ rfl L M4) (gu (Hj x))
  .rw[Q_b c,Q_e y_]at L;rw[Q_e c];refine aJ U (aJ rfl L M3) ?_;rw[gu (by show 1+0<=1000;decide),Ze]
theorem FF(S:Txs rows owns n m){W O:D}:∀(l:List (List Nat×Option Nat))(B:List Str)(N x4 M L:Option D),(∀p∈l,p∈rows.zip owns)->B.length+l.length<=60->∃a Z Y U,bA (gy (de (bC 3) (de (bC 4) gB))) TJ (l.map fun p=>.tup [TN p.1,oD p.2]) [some W,some O,some (.lst (B.map D.str)),N,x4,M,L]=.nx [some W,some O,some (.lst ((B++l.map fun p=>cT p.1 p.2).map D.str)),a,Z,Y,U]
|[],B,N,x4,M,L,_,_=>⟨N,x4,M,L,by rw[W8,W8,T_];exact eS⟩
|p::l,B,N,x4,M,L,c,i=>by
  simp  at i;have b:=(S.zr (c p j_)).1;have j:=S.l8 _ b;obtain⟨d,g⟩:=Gz p.1 [] L (S.b8 _ b) (by simp;omega);obtain⟨a,Z,Y,U,e⟩:=FF S l (B++[cT p.1 p.2]) (some (TN p.1)) (some (oD p.2)) (some (.lst ((p.1.map fun x=>word x p.2).map D.str))) d (fun q h=>c q (l_ _ h)) (by simp;omega);refine⟨a,Z,Y,U,?_⟩;rw[s_,s_,show B++(cT p.1 p.2::l.map fun p=>cT p.1 p.2)=B++[cT p.1 p.2]++l.map fun p=>cT p.1 p.2 by simp,<-e];refine eq rfl ?_;refine(aN ((eu (dD rfl rfl)).trans g)).trans (aN ?_);have k:((" " : Str)).length=1:=by decide+kernel
  refine(gc (ds:=[.str (cT p.1 p.2)]) rfl rfl (aC (d8 rfl rfl (aC rfl aF) (jK (fun y f=>by obtain⟨x,_,rfl⟩:=m_.mp f;exact Ao x _) (by grind))) aF) (iC (by simp;omega))).trans (by grind)
end
end Law
namespace Law
open PySem PyProof.Rows L2 DL PySem.Builtin PySem.Builtin.Str
theorem SN{x:Str}:∀q∈Txt.split x " ",32∉q.cps.toList:=Jq (by decide+kernel) (by decide+kernel) fun k h=>by
   have B:((" " : Str)).length=1:=by decide+kernel
   have L:=(c_.mp h).1;have M:x.cps.toList.length=x.length:=by simp[Á]
   refine⟨by omega,?_⟩;rw[ľ,B,uT];have:(x.cps.toList.drop k).take 1=[32]:=by rw[Xa L,List.take_succ_cons,List.take_zero,(c_.mp h).2]
   grind
theorem AF{a:Str}{ws:List Str}(h:ws≠[]):N_ " " (a::ws)=a++" "++N_ " " ws:=by cases ws with
|nil=>exact Q_f rfl h
|cons b t=>rfl
theorem HR:∀ws:List Str,(ws.map (·.length)).sum+ws.length<=(N_ " " ws).length+1
|[]=>by simp
|[a]=>by simp[N_]
|a::b::t=>by
  have L:=HR (b::t);have B:((" " : Str)).length=1:=by decide+kernel
  rw[AF (by simp),F_,F_,B,s_,W6,S_];omega
abbrev dN(ws:List Str):D:=.lst (ws.map D.str)
theorem lO{d:D}(h:iJ d=some true):Lr [d]=.ok .non:=by
 show dI false (jR.1 (cQ 1 [d]))=_;have:jR.1 (cQ 1 [d])=.nx [some d]:=by exact aN ((cG (jj (fA rfl h))).trans (e_skip _))
 rw[this];rfl
theorem IV{ws:List Str}(B:ws≠[])(M:∀p∈ws,32∉p.cps.toList)(L:(N_ " " ws).length<=10000):lQ [.str (N_ " " ws)]=.ok (dN ws):=by
 refine cR (n:=1) ?_
 dsimp only[AK]
 refine(aN (k9 (aP (aC (d:=.bl true) (dO (a:=.str (N_ " " ws)) rfl rfl) aF) (lO rfl)))).trans (aU (aX (d8 (d:=.str (N_ " " ws)) rfl rfl (aC (d:=.str " ") rfl aF) ?_)));rw[zw (by decide+kernel) L,AR uT (by decide+kernel) (by simp) B M]
theorem Qa{ws:List Str}(B:ws≠[])(L:(N_ " " ws).length<=10000):PQ [dN ws]=.ok (.str (N_ " " ws)):=by
 refine cY ?_;refine(aN (k9 (aP (aC rfl aF) (lO ?_)))).trans (aU (aX (d8 rfl rfl (aC rfl aF) ((fun h=>by
    show(match lM _ with|some M=>if í " " M=true then some _ else none|none=>none)=_;rw[A5];have L:((" " : Str)).length=1:=by decide+kernel
    have:í " " ws=true:=by
     unfold í;have:=HR ws;rw[StrLaws.joinTotal,L];unfold tooLong sizeLine
     grind
    simp only[this];show some (D.str (PySem.Builtin.Str.glued " " ws))=_;rw[Y9]) L))))
 cases ws with
|nil=>exact Q_f rfl B
|cons a t=>rfl
abbrev aY(h:Nat):Str:=⟨#[48+h]⟩
def eL(n:Nat):Str:=Txt.slice "0123456" none (some (n:Int))
def fL(m:Nat):Str:=Txt.slice "ABCDEFGH" none (some (m:Int))
theorem NB:((g_ 8).all fun n=>(g_ n).all fun h=>!(W2 (eL n) (aY h) 0 (eL n).length 1).isEmpty&&(W2 (eL n) (aY h) 0 (eL n).length 1).head? == some h)=true:=by kernel_rfl
theorem OP:((g_ 9).all fun n=>(g_ n).all fun h=>!(W2 (fL n) (bT h) 0 (fL n).length 1).isEmpty&&(W2 (fL n) (bT h) 0 (fL n).length 1).head? == some h)=true:=by kernel_rfl
theorem rJ{h:Nat}(B:h<7):gX [nD h]=some (.str (aY h)):=by match h,B with
|0,_=>kernel_rfl
|1,_=>kernel_rfl
|2,_=>kernel_rfl
|3,_=>kernel_rfl
|4,_=>kernel_rfl
|5,_=>kernel_rfl
|6,_=>kernel_rfl
theorem GV{w s:Str}{k:Nat}(L:w.length=1)(B:(!(W2 s w 0 s.length 1).isEmpty&&(W2 s w 0 s.length 1).head? == some k)=true):wC [.str w,.str s]=.ok (nD k):=by
 rw[Q_]at B;obtain⟨M,N⟩:=B;refine cY ?_;have c:lU (f2 (fC (aH (gv 0) aE) lenD) (ci 1) eqD) (f2 (gv 0) (gv 1) gN) (cQ 2 [.str w,.str s])=.ok (.bl true):=by rw[qX (aJ (bY (aC rfl aF) (by show(if w.length<=sizeLine then some _ else none)=_;rw[Q_d (by rw[L,H_];decide),L])) rfl (nj 1))];refine aJ rfl rfl ?_;show some _=_;rw[M]
 refine(aN (k9 (aP (aC c aF) (lO rfl)))).trans (aU (aX (d8 rfl rfl (aC rfl aF) ?_)));show(match W2 s w 0 s.length 1 with|i::_=>some _|[]=>none)=_
 grind
theorem Gh{n h:Nat}(L:n<=7)(B:h<n):wC [.str (aY h),.str (eL n)]=.ok (nD h):=GV rfl (WZ.mp (WZ.mp NB n (p_.mpr (by omega))) h (p_.mpr B))
theorem Of{m t:Nat}(L:m<=8)(B:t<m):wC [.str (bT t),.str (fL m)]=.ok (nD t):=GV rfl (WZ.mp (WZ.mp OP m (p_.mpr (by omega))) t (p_.mpr B))
theorem Bo{l:List (Str×Str×Nat)}(M:l.length<=60)(h:∀p∈l,wC [.str p.1,.str p.2.1]=.ok (nD p.2.2)):SZ [.lst (l.map fun p=>.str p.1),.lst (l.map fun p=>.str p.2.1)]=.ok (LN (l.map (·.2.2))):=by
 refine cR (n:=2) ?_
 dsimp only[wS]
 refine(aN (k9 (aP (aC (d:=.bl true) (aJ (a:=nD l.length) (b:=nD l.length) (bY (aC (d:=.lst (l.map fun p=>.str p.1)) rfl aF) (iA _ _)) (bY (aC (d:=.lst (l.map fun p=>.str p.2.1)) rfl aF) (iA _ _)) (nj _)) aF) (lO rfl)))).trans (aU (aX ?_));have B:X8 (fun a b=>DL.D.tup [a,b]) (l.map fun p=>D.str p.1) (l.map fun p=>D.str p.2.1)=l.map fun p=>.tup [.str p.1,.str p.2.1]:=by simp_all
 refine(dC (l:=l) (fun p=>.tup [.str p.1,.str p.2.1]) (fun _=>true) (fun p=>nD p.2.2) ((zY (d:=.lst (l.map fun p=>.str p.1)) (e:=.lst (l.map fun p=>.str p.2.1)) rfl rfl rfl rfl).trans (by rw[B])) (by omega) fun p L=>⟨[some (.str p.1),some (.str p.2.1)],rfl,rfl,fun _=>aP (aC (d:=.str p.1) rfl (aC (d:=.str p.2.1) rfl aF)) (h p L)⟩).trans ?_;rw[eU];show Res.ok (D.lst _)=Res.ok (D.lst ((l.map (·.2.2)).map nD));rw[t_];rfl
section
variable{rows:List (List Nat)}{owns:List (Option Nat)}{n m:Nat}
theorem HG(S:Txs rows owns n m):SY [WD rows]=.ok (.str (eL n)):=by
 refine cR (n:=1) ?_
 dsimp only[wR]
 exact aU (aX (zc (d:=.str "0123456") (lo:=none) (hi:=some (n:Int)) rfl rfl (hU (bY (aC (d:=WD rows) rfl aF) (by rw[jN,S.rl]))) rfl))
theorem HI(S:Txs rows owns n m){h:Nat}(L:h<n):PN [dN [aY h],WD rows]=.ok (nD h):=by
 refine cR (n:=2) ?_
 dsimp only[wv]
 have e:=Bo (l:=[(aY h,eL n,h)]) (by simp) (fun p B=>by rw[w_.mp B];exact Gh S.n7 L);exact aU (aX (aJ (a:=LN [h]) (b:=nD 0) (aP (aC (d:=dN [aY h]) rfl (aC (d:=.lst [.str (eL n)]) (iw (aC (aP (aC (d:=WD rows) rfl aF) (HG S)) aF) (by simp)) aF)) e) rfl (ixA_L0 _ _)))
theorem G6:∀l:List Nat,gC (l.map nD)=some (l.map fun k:Nat=>(k:Int))
|[]=>rfl
|k::l=>by show(gC _).map _=_;rw[G6 l];rfl
theorem Lp:∀(ns B:List Int),(B++ns).Nodup->(ns.foldl Â B).length=B.length+ns.length
|[],B,_=>rfl
|k::ns,B,h=>by
  have e:Â B k=B++[k]:=by
   unfold Â
   grind
  rw[X5,e,Lp ns _ (by simpa using h)];simp;omega
theorem EN{l:List Nat}(L:l.Nodup)(M:l.length<=60):DM (LN l)=some (nD l.length):=by
 show(gC _).bind _=_;rw[G6];show(if _ then some _ else none)=_;have B:(l.map fun k:Nat=>(k:Int)).Nodup:=by grind
 have e:(i4 (l.map fun k:Nat=>(k))).length=l.length:=by have:=Lp _ [] (by simpa using B);unfold i4;rw[this];simp
 rw[Q_d (by rw[h_];unfold Ye;omega),e]
theorem Gc(ds:List D)(k:Int):jo (.lst ds) (.int k)=if-(2^62)<=k/\k<2^62/\ds.length*k.toNat<=sizeLine then some (.lst ((r_ k.toNat ds).flatten))else none:=rfl
theorem HB{B:Type}(a:B):∀n:Nat,(r_ n [a]).flatten=r_ n a
|0=>rfl
|n+1=>by simp_all
theorem J9(S:Txs rows owns n m){l:List Nat}(M:l.Perm (g_ n)):Rs [dN (l.map aY),WD rows]=.ok (LN l):=by
 have L:=S.n7;have Y:l.length=n:=by rw[M.length_eq];simp
 have B:l.Nodup:=M.nodup_iff.mpr Xd;have e:=Bo (l:=l.map fun h=>(aY h,eL n,h)) (by grind) (fun p U=>by obtain⟨h,Z,rfl⟩:=m_.mp U;exact Gh S.n7 (p_.mp (M.mem_iff.mp Z)));simp only[t_]at e;have f:l.map ((fun p:Str×Str×Nat=>p.2.2)∘fun h=>(aY h,eL n,h))=l:=by simp[ZZ]
 rw[f]at e;have c:jo (.lst [.str (eL n)]) (nD n)=some (.lst (l.map ((fun p:Str×Str×Nat=>D.str p.2.1)∘fun h=>(aY h,eL n,h)))):=by rw[Gc];rw[Q_d ⟨by omega,by omega,by rw[H_];simp;omega⟩,Xg];rw[HB,<-Y,<-Zm];rfl
 have N:JR [dN (l.map aY),.lst (l.map ((fun p=>D.str p.2.1)∘fun h=>(aY h,eL n,h)))]=.ok (LN l):=by
  refine cR (n:=3) ?_
  dsimp only[sw]
  refine(aN (bL (aP (aC rfl (aC rfl aF)) (by rw[show dN (l.map aY)=D.lst (l.map ((fun p:Str×Str×Nat=>D.str p.1)∘fun h=>(aY h,eL n,h)))by rw[dN,t_];rfl];exact e)))).trans ?_;refine(aN (k9 (aP (aC (d:=.bl true) (aJ (a:=nD l.length) (b:=nD l.length) (dO (a:=LN l) rfl (EN B (by omega))) (bY (aC (d:=LN l) rfl aF) (iA _ _)) (nj _)) aF) (lO rfl)))).trans (aU (aX rfl))
 refine cR (n:=2) ?_
 dsimp only[wM]
 exact aU (aX (aP (aC rfl (aC (aJ (b:=nD n) (iw (aC (aP (aC (d:=WD rows) rfl aF) (HG S)) aF) (by simp)) (bY (aC (d:=WD rows) rfl aF) (by rw[jN,S.rl])) c) aF)) N))
end
end Law
namespace Law
open PySem PyProof.Rows L2 DL
abbrev kD(rows:List (List Nat))(owns:List (Option Nat))(o:Option (List Nat)):D:=iD "Kept" [("wishes",WD rows),("owns",OD owns),("order",cE o)]
theorem Dr{B:aL->Res (List D)}{r:aL}{rows:List (List Nat)}{owns:List (Option Nat)}{o:Option (List Nat)}(h:B r=.ok [WD rows,OD owns,cE o]):uC "Kept" B [] HZ r=.ok (kD rows owns o):=by unfold uC;rw[h];rfl
variable{rows:List (List Nat)}{owns:List (Option Nat)}{o:Option (List Nat)}{n m:Nat}
theorem i9:iS rc "wishes" (kD rows owns o)=some (WD rows):=rfl
theorem tz:iS qM "owns" (kD rows owns o)=some (OD owns):=rfl
theorem C6:iS vE "order" (kD rows owns o)=some (cE o):=rfl
theorem HJ(S:Txs rows owns n m):w9 [.str (e8 rows owns)]=.ok (kD rows owns none):=by refine cY ?_;refine(aN (bL (aP (aC rfl aF) (P8 S)))).trans (aU (aX (Dr ?_)));exact aC (aJ rfl rfl (eZ rfl)) (aC (aJ rfl rfl (eZ rfl)) (aC rfl aF))
theorem AM(S:Txs rows owns n m):(e8 rows owns).length<=1000:=Ik S.l8 (by rw[S.rl];exact S.n7)
theorem Sa(S:Txs rows owns n m){k:D}:JX [k,dN (Txt.split (e8 rows owns) " ")]=.ok (kD rows owns none):=by
 have e:=ZN (e8 rows owns) " ";have L:=AM S;refine cR (n:=2) ?_
 dsimp only[BO]
 have B:=Qa (Am (e8 rows owns) " ") (by rw[e];omega);rw[e]at B;exact aU (aX (aP (aC (aP (aC rfl aF) B) aF) (HJ S)))
def gm(l:List Nat):Str:=N_ " " (l.map bT)
theorem GS{l:List Nat}(L:l.length<=60):ip (.str " ") [.lst ((l.map bT).map D.str)]=some (.str (gm l)):=by
 have M:((" " : Str)).length=1:=by decide+kernel
 exact jK (fun y B=>by obtain⟨x,_,rfl⟩:=m_.mp B;exact o_ 1) (by grind)
theorem EF{l:List Nat}(M:∀x∈l,x<8)(L:l.length<=60):TH [TN l]=.ok (.str (gm l)):=by
 refine cY ?_;have e:cZ 1 [] (bI cS (gv 0)) (bC 0) (fun _=>Res.ok true) (f2 (fun _=>Res.ok (D.str "ABCDEFGH")) (gv 0) bV) (cQ 1 [TN l])=.ok (.lst ((l.map bT).map D.str)):=by refine(dC nD _ _ (dD rfl rfl) (by omega) fun x B=>⟨_,rfl,rfl,fun _=>aJ rfl rfl (nV (M x B))⟩).trans ?_;rw[eU,t_];rfl
 exact aU (aX (d8 rfl rfl (aC e aF) (GS L)))
theorem yP{l:List Nat}(M:∀x∈l,x<8)(L:l.length<=60):T9 [TN l]=.ok (.str (gm l)):=by
 refine cY ?_;have e:cZ 1 [] (bI cS (gv 0)) (bC 0) (fun _=>Res.ok true) (f2 (fun _=>Res.ok (D.str "ABCDEFGH")) (gv 0) bV) (cQ 1 [TN l])=.ok (.lst ((l.map bT).map D.str)):=by refine(dC nD _ _ (dD rfl rfl) (by omega) fun x B=>⟨_,rfl,rfl,fun _=>aJ rfl rfl (nV (M x B))⟩).trans ?_;rw[eU,t_];rfl
 exact aU (aX (d8 rfl rfl (aC e aF) (GS L)))
theorem MP{l:List Nat}(h:wA [WD rows,OD owns,cE o]=.ok (TN l))(L:∀x∈l,x<8)(B:l.length<=60):K5 [kD rows owns o,.lst []]=.ok (.str (gm l)):=by
 refine cR (n:=2) ?_
 dsimp only[B7]
 refine(aN (k9 (aP (aC (d:=.bl true) (dO (a:=.lst []) rfl rfl) aF) (lO rfl)))).trans ?_;exact aU (aX (aP (aC (aP (aC (dO (a:=kD rows owns o) rfl i9) (aC (dO (a:=kD rows owns o) rfl tz) (aC (dO (a:=kD rows owns o) rfl C6) aF))) h) aF) (EF L B)))
section
variable{r r':aL}{w w':DW}{d:D}{f1' f2':dW}{f:D->FS}{p:D->FQ}
theorem gS(h:f1' r w=.nx r' w'):bU f1' f2' r w=f2' r' w':=by unfold bU;rw[h]
theorem uG(h:f1' r w=.rt d w'):bU f1' f2' r w=.rt d w':=by unfold bU;rw[h]
theorem mU(h:f w.1 r=.nx r'):c8 f r w=.nx r' w:=by unfold c8;rw[h]
theorem xN(h:f w.1 r=.rt d):c8 f r w=.rt d w:=by unfold c8;rw[h]
theorem oN(h:p w.1 r=.ok true):mC p f1' f2' r w=f1' r w:=by unfold mC;rw[h];rfl
theorem tJ(h:p w.1 r=.ok false):mC p f1' f2' r w=f2' r w:=by unfold mC;rw[h];rfl
end
theorem yL{B:List (Str×Str)}{f:FE}{r:aL}{s:Str}{b:Bool}(h:f r=.ok (.str s))(e:(B.lookup s).isSome=b):tt B f r=.ok b:=by unfold tt;rw[h,bind_ok];grind
theorem Ds{F:Str->Option (List D->Res D)}{L:FE}{B:aL->Res (List D)}{g:List D->Res D}{r:aL}{s:Str}{ds:List D}{d:D}(Y:L r=.ok (.str s))(U:F s=some g)(N:B r=.ok ds)(M:g ds=.ok d):qu F L B r=.ok d:=by unfold qu;rw[Y,bind_ok];simp only[U,N,bind_ok,M];rfl
theorem DN{a:D}{ds:List D}:xE (.lst (a::ds)) (some 1) none=some (.lst ds):=by show some _=_;unfold cH;have B:HT.sIx (a::ds).length 0 (some 1)=1:=(HT.eF _ _ 1).trans (rfl);rw[B,HT.dF];simp
theorem qY{M:FE}{B L:FP}{r:aL}{d d':D}{lo hi:Option Int}(Z:M r=.ok d)(Y:B r=.ok lo)(U:L r=.ok hi)(N:xE d lo hi=some d'):fP M B L r=.ok d':=by unfold fP;rw[Z,bind_ok,Y,bind_ok,U,bind_ok,N];rfl
theorem GT{z B:DW}{ds:List D}{d:D}(h:uR (gH 5 ds) z=.rt d B):fX z ds=some (d,B):=by show ky (uR (gH 5 ds) z)=_;rw[h];rfl
section
variable{k:D}{past:List D}{first line:Str}{ws:List Str}
theorem GR(M:lQ [.str line]=.ok (dN (B::ws))){L:dW}{z:DW}:bU (c8 fun _=>aR j9 2 (bM (aH (gv 1) aE) [] lQ)) (bU (c8 fun _=>aR j9 3 (f2 (gv 2) (ci 0) bV)) L) (gH 5 [.str line]) z=L [none,some (.str line),some (dN (B::ws)),some (.str B),none] z:=by refine(gS (mU (bL (aP (aC rfl aF) M)))).trans ?_;exact gS (mU (bL (aJ rfl rfl (ixA_L0 _ _))))
theorem Ho(S:Txs rows owns n m){f:List D->Res D}(L:lQ [.str line]=.ok (dN (B::ws)))(hq:(iL.lookup B).isSome=false)(N:(jm.lookup B).isSome=true)(U:vK B=some f)(M:f [k,dN ws]=.ok (kD rows owns o))(Y:past.length<=1000):fX (k,past) [.str line]=some (.str (e8 rows owns),(kD rows owns o,past++[k])):=by
 refine GT ?_;refine(GR L).trans ?_;refine(gS (tJ (yL rfl hq))).trans ?_;refine(gS (r':=[none,some (.str line),some (dN (B::ws)),some (.str B),some (kD rows owns o)]) ((oN (yL rfl N)).trans ?_)).trans ((fun S=>uG (xN (aX (aP (aC (dO (a:=kD _ _ _) rfl i9) (aC (dO (a:=kD _ _ _) rfl tz) aF)) (Tg S.b8 S.l8 (by rw[S.rl];exact S.n7)))))) S);refine(gS (mU (bL (Ds rfl U (aC rfl (aC (qY rfl (hU rfl) rfl DN) aF)) M)))).trans ?_;refine(gS (r':=[none,some (.str line),some (dN (B::ws)),some (.str B),some (kD rows owns o)]) (w':=(k,past++[k])) ?_).trans ?_
 .show(if past.length<sizeLine then _ else _)=_;rw[Q_d (by rw[H_];omega)];rfl
 .exact gS rfl
theorem nU{f:List D->Res D}{a:D}(L:lQ [.str line]=.ok (dN (B::ws)))(hq:(iL.lookup B).isSome=true)(M:vL B=some f)(h:f [k,dN ws]=.ok a):fX (k,past) [.str line]=some (a,(k,past)):=by refine GT ?_;refine(GR L).trans ?_;refine uG ((oN (yL rfl hq)).trans (uG (xN (aX ?_))));exact Ds rfl M (aC rfl (aC (qY rfl (hU rfl) rfl DN) aF)) h
end
end Law
namespace Law
open PySem PyProof.Rows L2 DL Fq
abbrev FR(x:Int×Nat):D:=.tup [.int x.1,nD x.2]
abbrev TF(l:List (Int×Nat)):D:=.tup (l.map FR)
theorem yX{a k:Nat}(h:a<2^k)(B:k<=2000):a<qw:=by exact B_ h (ĩ (by decide) B)
theorem lf{a b:Int}{k l:Nat}(N:a.natAbs<2^k)(M:b.natAbs<2^l)(L:k<=2000)(B:l<=2000):oG (.int a) (.int b)=some (.int (a*b)):=by rw[oG,intsC_int,Q_d ⟨yX N L,yX M B⟩]
theorem Hg{a:Int}{b k:Nat}(M:0<b)(L:b<2^k)(B:k<=2000):xP (.int a) (nD b)=some (.int (a/(b:Int))):=by rw[xP,intsC_int,Q_d ⟨by omega,by exact yX L B⟩]
theorem D8(b:Nat):neD (nD b) (.int 0)=some (.bl (! decide (b=0))):=by
   unfold neD;rw[eqB_int];show some _=_;have:((b)==(0:Int))=decide (b=0):=by grind
   rw[this]
theorem O2{m:List Md}:∀(k n:Nat)(a:Int)(b:Nat)(x:Option D),b<2^k->2*k+1<=n ->∃(L:Int)(y:Option D),gj m xr xq n [some (.int a),some (nD b),x]=.nx [some (.int L),some (nD 0),y]/\L.natAbs=YU a b:=by
 have N:∀(n:Nat)(a:Int)(x:Option D),1<=n->∃(L:Int)(y:Option D),gj m xr xq n [some (.int a),some (nD 0),x]=.nx [some (.int L),some (nD 0),y]/\L.natAbs=YU a 0:=by
  intro n a x c;obtain⟨n,rfl⟩:∃k,n=k+1:=⟨n-1,by omega⟩
  exact⟨a,x,rF (cI (aJ (a:=nD 0) (b:=.int 0) rfl rfl (D8 0))),by simp⟩
 have U:∀(n:Nat)(a:Int)(b:Nat)(x:Option D),0<b->gj m xr xq (n+1) [some (.int a),some (nD b),x]=gj m xr xq n [some (nD b),some (nD (a%(b:Int)).toNat),some (nD (a%(b:Int)).toNat)]:=by
  intro n a b x M;have B:=D8 b;rw[Q_b (by omega)]at B;refine pP (cI (aJ (a:=nD b) (b:=.int 0) rfl rfl B)) ?_;refine(aN (bL (d:=nD (a%(b:Int)).toNat) (aJ (a:=.int a) (b:=nD b) rfl rfl ?_))).trans ?_
  .rw[GB (by omega)];show some (D.int _)=some (D.int _);rw[YM (Ă _ (by omega))]
  refine(aN (bL (d:=nD b) rfl)).trans ?_;exact aN (bL (d:=nD (a%(b:Int)).toNat) rfl)
 have Z:∀(a:Int)(b:Nat),0<b->(((a%(b:Int)).toNat:Nat):Int)=a%(b:Int)/\(a%(b:Int)).toNat<b:=by intro a b M;have o:=Ă a (show(b:Int)≠0 by omega);have t:=Int.emod_lt_of_pos a (show(0:Int)<b by omega);exact⟨YM o,by omega⟩
 intro k
 induction k with
|zero=>
  intro n a b x M c;have:b=0:=by have:(2:Nat)^0=1:=rfl;omega
  subst this;exact N n a x (by omega)
|succ k h=>
  intro n a b x M c;by_cases p:b=0
  .subst p;exact N n a x (by omega)
  .have hbp:0<b:=by omega
   obtain⟨n,rfl⟩:∃j,n=j+2:=⟨n-2,by omega⟩
   obtain⟨Y,g⟩:=Z a b hbp;have f:=U (n+1) a b x hbp;generalize(a%(b:Int)).toNat=r at Y g f;rw[f,Hi a b,<-Y];by_cases i:r=0
   .subst i;exact N (n+1) b _ (by omega)
   .obtain⟨s1,s2⟩:=Z (b:Int) r (by omega);have e:=U n (b:Int) r (some (nD r)) (by omega);have l:((b:Int)%(r:Int)).toNat=b%r:=by omega
    rw[l]at s1 s2 e;rw[e,Hi (b:Int) r,<-s1];refine h n (r:Int) (b%r) _ ?_ (by omega);have s:b%r<r:=ZM _ (by omega);have q:b%r<=b-r:=by have:=Nat.mod_eq_sub_mod (show r<=b by omega);rw[this];exact Nat.mod_le _ _
    rw[Ā]at M;omega
theorem Sd{a:Int}{b k:Nat}(B:b<2^k)(M:k<=499):Ul [.int a,nD b]=.ok (nD (YU a b)):=by
 obtain⟨U,y,L,N⟩:=O2 k 1000 a b none B (by omega);refine cY ?_;refine(aN L).trans (aU (aX (bY (aC rfl aF) ?_)));show some _=some _
 grind
theorem m4(x:Int×Nat):bV (FR x) (.int 0)=some (.int x.1):=rfl
theorem m5(x:Int×Nat):bV (FR x) (.int 1)=some (nD x.2):=eZ rfl
theorem Oj{B:FS}{n:Nat}{ds:List D}{d:D}(h:B (cQ n ds)=.rt d):dI true (B (cQ n ds))=.ok d:=by rw[h];rfl
theorem Iq(i:Int):Rq [.int i]=.ok (.bl true):=rfl
theorem qf{t:Int}{b k:Nat}(M:0<b)(U:b<2^k)(N:k<=499):rS [.int t,nD b]=.ok (FR (low t b)):=by
 refine cY ?_;have L:=zD t M;have B:YU t b<2^k:=by have Y:=Ĳ.mp (X9 t b);have:=Į M Y;omega
 refine(aN ((cG ?_).trans (e_skip _))).trans ?_
 .refine(fJ (jj (fA (aP (aC rfl aF) (Iq t)) rfl))).trans ((fJ (jj (fA (aP (aC rfl aF) (Iq b)) rfl))).trans ?_);have:=j3 b 0;rw[Q_b (by omega)]at this;exact cI (aJ rfl rfl this)
 refine(aN (bL (aP (aC rfl (aC rfl aF)) (Sd U N)))).trans ?_;refine(aN ((cG ?_).trans (e_skip _))).trans ?_
 .have:=mQ b 0;exact cI (aJ rfl rfl this)
 refine aU (aX (iy (aC (aJ rfl rfl (Hg L B (by omega))) (aC (aJ rfl rfl (Hg L B (by omega))) aF)) (by simp)))
abbrev QF(z:Nat):D:=FR (Qd (z:Int))
section
variable{k l:Nat}{a b:Int×Nat}
theorem P7(L:Bd k a)(B:Bd l b)(Z:k+l<=498):uS [FR a,FR b]=.ok (FR (DS a b)):=by
 refine cY ?_;have Y:=m4 a;have N:=m5 a;have U:=m4 b;have M:=m5 b;refine aU (aX (aP (aC (aJ (aJ (aJ rfl rfl Y) (aJ rfl rfl M) (lf L.top (by exact B.bot) (by omega) (by omega))) (aJ (aJ rfl rfl U) (aJ rfl rfl N) (lf B.top (by exact L.bot) (by omega) (by omega))) rfl)
  (aC (d:=nD (a.2*b.2)) (aJ (aJ rfl rfl N) (aJ rfl rfl M) ?_) aF)) ?_))
 .rw[lf (by exact L.bot) (by exact B.bot) (by omega) (by omega)];simp_all
 .exact qf (pS L B).1 (pS L B).2 (by omega)
theorem Q3(L:Bd k a)(B:Bd l b)(Z:k+l<=498):zi [FR a,FR b]=.ok (FR (Ep a b)):=by
 refine cY ?_;have Y:=m4 a;have N:=m5 a;have U:=m4 b;have M:=m5 b;refine aU (aX (aP (aC (aJ (aJ (aJ rfl rfl Y) (aJ rfl rfl M) (lf L.top (by exact B.bot) (by omega) (by omega))) (aJ (aJ rfl rfl U) (aJ rfl rfl N) (lf B.top (by exact L.bot) (by omega) (by omega))) rfl)
  (aC (d:=nD (a.2*b.2)) (aJ (aJ rfl rfl N) (aJ rfl rfl M) ?_) aF)) ?_))
 .rw[lf (by exact L.bot) (by exact B.bot) (by omega) (by omega)]
  grind
 .exact qf (pS L B).1 (pS L B).2 (by omega)
theorem Ip(L:Bd k a)(B:Bd l b)(Z:k+l<=498):re [FR a,FR b]=.ok (FR (ze a b)):=by
 refine cY ?_;have Y:=m4 a;have U:=m5 a;have N:=m4 b;have M:=m5 b;refine aU (aX (aP (aC (aJ (aJ rfl rfl Y) (aJ rfl rfl N) (lf L.top B.top (by omega) (by omega)))
  (aC (d:=nD (a.2*b.2)) (aJ (aJ rfl rfl U) (aJ rfl rfl M) ?_) aF)) ?_))
 .rw[lf (by exact L.bot) (by exact B.bot) (by omega) (by omega)]
  grind
 .exact qf (pS L B).1 (pS L B).2 (by omega)
theorem P4(L:Bd k a)(B:Bd l b)(c:k<=2000)(Z:l<=2000):yA [FR a,FR b]=.ok (.bl (yt a b)):=by refine cY ?_;have Y:=m4 a;have U:=m5 a;have N:=m4 b;have M:=m5 b;exact aU (aX (aJ (aJ (aJ rfl rfl Y) (aJ rfl rfl M) (lf L.top (by exact B.bot) (by omega) (by omega))) (aJ (aJ rfl rfl N) (aJ rfl rfl U) (lf B.top (by exact L.bot) (by omega) (by omega))) rfl))
end
theorem rp{a b:Nat}(L:a<=DD)(B:b<=DD):uS [QF a,QF b]=.ok (QF (a+b)):=by have:=P7 (lx L) (lx B) (by omega);rw[NP,<-Int.natCast_add]at this;exact this
theorem rm{a b:Nat}(L:a<=DD)(B:b<=a):zi [QF a,QF b]=.ok (QF (a-b)):=by have:=Q3 (lx L) (lx (O_ B L)) (by omega);rw[PJ,<-Int.natCast_sub B]at this;exact this
theorem C8{c:Nat}(h:c<=7):Bd 3 ((c:Int),1):=⟨by show 0<1;decide,by show 1<8;decide,by rw[YX];show c<8;omega⟩
theorem C9{c:Nat}(B:0<c)(h:c<=7):Bd 3 ((1:Int),c):=⟨B,by omega,by show 1<8;decide⟩
theorem rt{c a:Nat}(B:c<=7)(L:a<=DD):re [FR ((c:Int),1),QF a]=.ok (QF (c*a)):=by have:=Ip (C8 B) (lx L) (by omega);rw[Pk,<-YS]at this;exact this
theorem rd{c a:Nat}(B:0<c)(M:c<=7)(N:a<=DD)(L:c∣a):re [QF a,FR ((1:Int),c)]=.ok (QF (a/c)):=by have:=Ip (lx N) (C9 B M) (by omega);rw[UN B L]at this;exact this
theorem rl{a b:Nat}(L:a<=DD)(B:b<=DD):yA [QF a,QF b]=.ok (.bl (decide (a<b))):=by have:=P4 (lx L) (lx B) (by omega) (by omega);rw[NO]at this;rw[this];simp
theorem VB(c:Nat):rS [nD c,.int 1]=.ok (FR ((c:Int),1)):=by have:=qf (t:=(c)) (b:=1) (k:=1) (by decide) (by decide) (by omega);rw[sY]at this;exact this
theorem Jg{d0:D}:∀(l:List Nat)(m:Nat)(x:Option D),m<=DD->(∀y∈l,y<=DD)->∃B,bA (bC 2) PR (l.map QF) [some d0,some (QF m),x]=.nx [some d0,some (QF (l.foldl (fun m y=>if y<m then y else m) m)),B]
|[],m,x,_,_=>⟨x,eS⟩
|y::l,m,x,Y,L=>by
  have U:=L y j_;obtain⟨B,M⟩:=Jg (d0:=d0) l (if y<m then y else m) (some (QF y)) (by split <;> assumption) (fun z N=>L z (l_ _ N));refine⟨B,?_⟩;rw[s_,X5,<-M];refine eq rfl ?_;have t:=rl U Y;by_cases h:y<m
  .rw[Q_c h]at t;rw[Q_d h];exact aN ((dR (fA (aP (aC (d:=QF y) rfl (aC (d:=QF m) rfl aF)) t) rfl)).trans (aN (bL (d:=QF y) rfl)))
  .rw[Q_b h]at t;rw[Q_e h];exact aN ((cG (fA (aP (aC (d:=QF y) rfl (aC (d:=QF m) rfl aF)) t) rfl)).trans (e_skip _))
theorem Q1{l:List Nat}(h:l≠[])(B:∀y∈l,y<=DD):NN [.lst (l.map QF)]=.ok (QF (Et.fN l)):=by cases l with
|nil=>exact Q_f rfl h
|cons x l=>obtain⟨L,e⟩:=Jg _ x none (B x j_) B;rw[X5,Q_e (Xo x)]at e;refine cY ?_;refine(aN (bL (aJ rfl rfl (ixA_L0 _ _)))).trans ?_;refine(aN ((eu (dD rfl rfl)).trans e)).trans ?_;exact aU (aX rfl)
abbrev LD(T:List Nat)(a:Nat->Nat):D:=.dic (T.map fun x=>(kI x,QF (a x)))
theorem E9(f:Nat->D):∀{T:List Nat}{x:Nat},x∈T->cM (T.map fun x=>(kI x,f x)) (kI x)=some (f x)
|[],_,h=>by cases h
|y::T,x,h=>by
  by_cases e:y=x
  .subst e;simp[cM,WW]
  .have ih:=E9 f (T:=T) (x:=x) (by grind);have B:cM ((y::T).map fun x=>(kI x,f x)) (kI x)=cM (T.map fun x=>(kI x,f x)) (kI x):=by
    simp only[cM]
    grind
   rw[B];exact ih
theorem qC{T:List Nat}{a:Nat->Nat}{x:Nat}(h:x∈T):bV (LD T a) (nD x)=some (QF (a x)):=t6 (E9 _ h)
theorem Fb(f:Nat->D)(T:List Nat)(x:Nat):fm (T.map fun x=>(kI x,f x)) (kI x)=decide (x∈T):=by
 have:=vD (T.map fun y=>(y,f y)) x;rw[t_,t_]at this;have e:List.map ((fun p=>p.1)∘fun y=>(y,f y)) T=T:=by have:((fun p=>p.1)∘fun y=>(y,f y))=id:=rfl;rw[this,List.map_id]
 rw[e]at this;exact this
theorem Vo(T:List Nat)(a:Nat->Nat)(x:Nat):gN (nD x) (LD T a)=some (.bl (decide (x∈T))):=by show some _=_;rw[Fb]
theorem Nl(T:List Nat)(a:Nat->Nat)(x:Nat):eG (nD x) (LD T a)=some (.bl (! decide (x∈T))):=by show some _=_;rw[Fb]
theorem zG(T:List Nat)(f:Nat->D):nO (.dic (T.map fun x=>(kI x,f x)))=some (T.map nD):=by show some _=_;rw[t_];rfl
theorem zH{f:FE}{r:aL}{d:D}{ds:List D}(h:f r=.ok d)(B:nO d=some ds):bI nO f r=.ok ds:=by unfold bI;rw[h,bind_ok,B];rfl
theorem zd{T:List Nat}{f:Nat->D}{x:Nat}(h:x∉T)(B:T.length<=1000):ff (.dic (T.map fun x=>(kI x,f x))) (nD x) (f x)=some (.dic ((T++[x]).map fun x=>(kI x,f x))):=by
 show(if (T.map fun x=>(kI x,f x)).length<sizeLine then some _ else none)=_;rw[Q_d (by rw[h_,H_];omega)];have:=Al (T.map fun y=>(y,f y)) x (f x) (by simp_all);rw[t_]at this;have e:fj (T.map fun x=>(kI x,f x)) (kI x) (f x)=(T++[x]).map fun x=>(kI x,f x):=by refine ò this ?_;rw[WX,t_,WX];rfl
 rw[e]
theorem QX{B T:List Nat}{a:Nat->Nat}(h:∃x∈B,x∈T)(N:B.length<=1000):jP [TN B,LD T a]=.ok (nD (Rg.best B T)):=by
 refine cY ?_;have L:(cZ 1 [1] (bI cS (gv 0)) (bC 0) (cK (f2 (gv 0) (gv 1) gN)) (gv 0)) [some (TN B),some (LD T a)]=.ok (LN (B.filter fun x=>decide (x∈T))):=by
  refine dC nD _ nD rfl N fun x _=>⟨_,rfl,?_,fun _=>rfl⟩
  exact cI (aJ rfl rfl (Vo _ _ _))
 have U:∃t,(B.filter fun x=>decide (x∈T))=Rg.best B T::t:=by unfold Rg.best;rw[JH];cases e:B.filter fun x=>decide (x∈T)with
 |nil=>
   obtain⟨x,Z,Y⟩:=h;have:x∈B.filter fun x=>decide _:=n_.mpr ⟨Z,by simpa using Y⟩
   grind
 |cons a t=>exact⟨t,rfl⟩
 obtain⟨t,M⟩:=U;rw[M]at L;exact aU (aX (aJ L rfl (ixA_L0 _ _)))
theorem zU(l:List Nat)(t:Nat):pw (LN l) [nD t]=some (nD (l.count t)):=by
 show(if dm _=true/\(l.map nD).all dm=true then some _ else none)=_;rw[Q_d ⟨rfl,uJ l⟩,ġ];have:(fun z=>eqs z (nD t))∘nD=fun z=>z==t:=by
  funext z;show eqs _ _=_;rw[Dw]
  grind
 rw[this];rfl
theorem My(p q:Int×Nat):ja (FR p) (FR q)=some (decide (p=q)):=by
 have B:∀x,dy 60 (FR x):=fun x=>zu.mpr fun e L=>by simp at L;rcases L with rfl|rfl <;> trivial
 rw[PC rfl (B p) (B q)];unfold qt;simp only[cU,zkI,ķ,PyData.eqvAll];congr 1
 grind
theorem Nj(p q:Int×Nat):neD (FR p) (FR q)=some (.bl (! decide (p=q))):=by unfold neD;rw[My];rfl
theorem Nk(a:Nat):neD (QF a) (.tup [.int 0,.int 1])=some (.bl (decide (a≠0))):=by
 have:=Nj (Qd (a)) (0,1);rw[<-mM]at this;have e:decide (Qd (a)=Qd 0)=decide (a=0):=by
  rw[WV,Q_h,Q_h];constructor
  .intro h;have:=UO h;omega
  .rintro rfl;rfl
 rw[e]at this;rw[mM]at this
 grind
structure Sq(rows:List (List Nat))(n:Nat):Prop where
 n1:1<=n
 n7:n<=7
 rl:rows.length=n
 rp:∀row∈rows,row.Perm (g_ n)
variable{rows:List (List Nat)}{n:Nat}
theorem Sq.row(R:Sq rows n){h:Nat}(B:h<n):(Wr rows h).Perm (g_ n):=by unfold Wr;rw[k_ (by rw[R.rl];exact B)];exact R.rp _ (Xc _)
theorem Sq.rw(R:Sq rows n):Et.Rw (Wr rows) n:=⟨R.n1,R.n7,fun h x L B=>(R.row L).mem_iff.mpr (p_.mpr B)⟩
theorem Sq.len(R:Sq rows n):lenD [WD rows]=some (nD n):=by rw[jN,R.rl]
theorem Sq.things(R:Sq rows n):qa [WD rows]=.ok (nD n):=by cases e:rows with
|nil=>have:=R.rl;have:=R.n1;grind
|cons r rest=>rw[rZ,(R.rp r (by grind)).length_eq,Y6]
theorem Sq.map(R:Sq rows n):rows=(g_ n).map (Wr rows):=by
 refine ZW fun i=>?_;rw[A_];by_cases B:i<n
 .rw[Xf B,k_ _];unfold Wr;rw[Ą,k_ (by rw[R.rl];exact B)];rfl
 .rw[XZ (by rw[R.rl];omega),XZ (by simp;omega)];rfl
theorem Qb{T L:List Nat}{a:Nat->Nat}(B:L≠[])(c:L.length<=7)(h:∀x∈L,x∈T/\L.count x∣a x/\a x<=DD):LC [LD T a,LN L]=.ok (QF (Et.fN (L.map fun x=>a x/L.count x))):=by
 refine cR (n:=2) ?_
 dsimp only[Ck]
 have N:(cZ 1 [0,1] (bI cS (gv 1)) (bC 0) (fun _=>Res.ok true) (bM (aH (f2 (gv 1) (gv 0) bV) (aH (bM (aH (ci 1) (aH (fM "list" (gv 2) (aH (gv 0) aE) pw) aE)) [] rS) aE)) [] re)) [some (LD T a),some (LN L)]=.ok (.lst ((L.map fun x=>a x/L.count x).map QF)):=by
  rw[t_];refine pU (l:=L) nD (fun x=>QF (a x/L.count x)) rfl (by omega) fun x M=>⟨[some (nD x),some (LD T a),some (LN L)],rfl,?_⟩
  obtain⟨g,f,e⟩:=h x M;have Y:0<L.count x:=Ę.mpr M;have U:L.count x<=7:=O_ YC c;exact aP (aC (aJ (a:=LD T a) (b:=nD x) rfl rfl (qC g)) (aC (aP (aC (d:=.int 1) rfl (aC (d8 (d:=LN L) rfl rfl (aC (d:=nD x) rfl aF) (zU L x)) aF)) ((fun i N=>by have:=qf (t:=1) (k:=3) i (by omega) (by omega);rw[UY]at this;exact this) Y U)) aF)) (rd Y U e f)
 refine aU (aX (aP (aC N aF) (Q1 (by simpa using B) fun y Z=>?_)));obtain⟨x,M,rfl⟩:=m_.mp Z;exact O_ (Ù _ _) (h x M).2.2
theorem Fz{T N:List Nat}{a:Nat->Nat}{s:Nat}(hs:s<=DD)(B:N.length<=7)(n:T.length<=60)(j:∀x∈T,a x<=DD)(i:∀x,N.count x*s<=a x):∀(l M:List Nat)(x4 U:Option D),(M++l).Nodup->(∀x∈M++l,x∈T)->M.length+l.length<=60 ->∃c Z,bA (bC 4) Uc (l.map nD) [some (LD T a),some (LN N),some (QF s),some (LD M fun x=>a x-N.count x*s),x4,U]=.nx [some (LD T a),some (LN N),some (QF s),some (LD (M++l) fun x=>a x-N.count x*s),c,Z]
|[],M,x4,U,_,_,_=>⟨x4,U,by rw[T_];exact eS⟩
|x::l,M,x4,U,h,Y,m=>by have g:x∈T:=Y x (by simp);have L:x∉M:=fun z=>(ZV.mp h).2.2 x z x j_ rfl;have o:N.count x<=7:=O_ YC B;obtain⟨c,Z,e⟩:=Fz hs B n j i l (M++[x]) (some (nD x)) (some (FR ((N.count x:Int),1))) (by simpa using h) (by simpa using Y) (by simp at m ⊢;omega);refine⟨c,Z,?_⟩;rw[W_,X0]at e;rw[s_,<-e];refine eq (r1:=[some (LD T a),some (LN N),some (QF s),some (LD M fun x=>a x-N.count x*s),some (nD x),U]) rfl ?_;refine(aN (bL (aP (aC (d8 (d:=LN N) rfl rfl (aC (d:=nD x) rfl aF) (zU N x)) (aC (d:=.int 1) rfl aF)) (VB _)))).trans ?_;exact aN (kW (d:=LD M fun x=>a x-N.count x*s) (k:=nD x) (v:=QF (a x-N.count x*s)) rfl (aP (aC (aJ (a:=LD T a) (b:=nD x) rfl rfl (qC g)) (aC (aP (aC (d:=FR ((N.count x:Int),1)) rfl (aC (d:=QF s) rfl aF)) (rt o hs)) aF)) (rm (j x g) (i x))) rfl (zd (f:=fun x=>QF (a x-N.count x*s)) L (by omega)))
theorem QV{T L:List Nat}{a:Nat->Nat}{s:Nat}(N:T.Nodup)(hs:s<=DD)(B:L.length<=7)(M:T.length<=60)(Y:∀x∈T,a x<=DD)(U:∀x,L.count x*s<=a x):J2 [LD T a,LN L,QF s]=.ok (LD T fun x=>a x-L.count x*s):=by obtain⟨b,Z,e⟩:=Fz hs B M Y U T [] none none (by simpa using N) (by simp) (by simpa using M);refine cY ?_;refine(aN ((eu (zH rfl (zG T _))).trans e)).trans ?_;exact aU (aX rfl)
theorem zO{T:List Nat}{a:Nat->Nat}:∀(l L:List Nat)(U:Option D),(L++l).Nodup->(∀x∈l,x∈T)->L.length+l.length<=60 ->∃N,bA (bC 2) Tq (l.map nD) [some (LD T a),some (LD L a),U]=.nx [some (LD T a),some (LD (L++l.filter fun x=>decide (a x≠0)) a),N]
|[],L,U,_,_,_=>⟨U,by rw[List.filter_nil,T_];exact eS⟩
|x::l,L,U,c,M,d=>by
  have b:=M x (by simp);have B:=fun z=>(ZV.mp c).2.2 x z x j_ rfl;have t:=Nk (a x);by_cases h:a x=0
  .rw[Q_b (fun z=>z h)]at t;obtain⟨N,Y⟩:=zO l L _ (c.sublist (List.Sublist.append_left (List.sublist_cons_self x l) L)) (fun z Z=>M z (l_ _ Z)) (by simp at d;omega);refine⟨N,?_⟩;rw[s_,Yi,Q_e (by simpa using h),<-Y];refine eq rfl ?_;exact aN ((cG (cI (aJ (aJ rfl rfl (qC b)) rfl t))).trans (e_skip _))
  .rw[Q_c h]at t;obtain⟨N,Y⟩:=zO l (L++[x]) _ (by simpa using c) (fun z Z=>M z (l_ _ Z)) (by simp at d ⊢;omega);refine⟨N,?_⟩;rw[W_,X0]at Y;rw[s_,Yi,Q_d (by simpa using h),<-Y];refine eq rfl ?_;refine aN ((dR (cI (aJ (aJ rfl rfl (qC b)) rfl t))).trans ?_);exact aN (kW rfl (aJ rfl rfl (qC b)) rfl (zd B (by omega)))
theorem Ta{T:List Nat}{a:Nat->Nat}(B:T.Nodup)(L:T.length<=60):Jr [LD T a]=.ok (LD (T.filter fun x=>decide (a x≠0)) a):=by obtain⟨M,e⟩:=zO T [] none (by simpa using B) (fun _ h=>h) (by simpa using L);refine Oj ?_;refine(aN ((eu (zH rfl (zG T _))).trans e)).trans ?_;exact aU (aX rfl)
abbrev mD(p:List Nat×Nat×List Nat):D:=.tup [LN p.1,QF p.2.1,TN p.2.2]
abbrev LM(ms:List (List Nat×Nat×List Nat)):D:=.lst (ms.map mD)
theorem UL(T:List Nat)(a:Nat->Nat):iJ (LD T a)=some (! T.isEmpty):=by show some _=_;rw[List.isEmpty_map]
theorem Jh(R:Sq rows n):∀(k:Nat)(T:List Nat)(a:Nat->Nat)(ms:List (List Nat×Nat×List Nat))(Z x4 g f:Option D),Et.Ok n T a->(∀x∈T,a x<=DD)->T.length<k->T.length<=7->ms.length+T.length<=60 ->∃q p o m j,gj oB Tr Tp k [some (WD rows),some (LD T a),Z,some (LM ms),x4,g,f]=.nx [some (WD rows),q,p,some (LM (ms++Et.eat (Wr rows) n k T a)),o,m,j]
|0,T,a,ms,Z,x4,g,f,_,_,t,_,_=>Q_f t (by omega)
|k+1,T,a,ms,Z,x4,g,f,S,i,t,G,u=>by
  by_cases c:T=[]
  .subst c;refine⟨some (LD [] a),Z,x4,g,f,?_⟩;have e:Et.eat (Wr rows) n (k+1) [] a=[]:=rfl;rw[e,T_];exact rF (fA (d:=LD [] a) rfl rfl)
  .have RW:=R.rw;have M:=R.n1;have U:=R.n7;have e:Et.eat (Wr rows) n (k+1) T a=(Et.tgs (Wr rows) n T,Et.fB (Wr rows) n T a,T.filter fun x=>decide (x∉Et.eO (Wr rows) n T a))::Et.eat (Wr rows) n k (Et.eO (Wr rows) n T a) (Et.f6 (Wr rows) n T a):=by show(if T=[]then[]else _)=_;rw[Q_e c]
   have v:=Et.gK RW S c;have Y:(Et.tgs (Wr rows) n T).length=n:=Et.eD;have b:∀x∈Et.tgs (Wr rows) n T,x∈T:=fun x N=>Et.dg RW S c N;have B:Et.fB (Wr rows) n T a<=DD:=by obtain⟨x,A,z⟩:=Et.iM (T:=T) (a:=a) RW;rw[z];exact O_ (Ù _ _) (i x (b x A))
   obtain⟨q,p,o,m,j,s⟩:=Jh R k (Et.eO (Wr rows) n T a) (Et.f6 (Wr rows) n T a) (ms++[(Et.tgs (Wr rows) n T,Et.fB (Wr rows) n T a,T.filter fun x=>decide (x∉Et.eO (Wr rows) n T a))]) Z (some (LN (Et.tgs (Wr rows) n T))) (some (QF (Et.fB (Wr rows) n T a))) (some (LD T (Et.f6 (Wr rows) n T a))) (S.next RW c) (fun x N=>O_ (Nat.sub_le _ _) (i x (n_.mp N).1)) (by omega) (by omega) (by simp;omega);refine⟨q,p,o,m,j,?_⟩;rw[W_,X0,<-e]at s;refine ò ?_ s;refine pP (fA (d:=LD T a) rfl (by rw[UL];grind)) ?_;have L:cZ 1 [1] (bI cS (gv 0)) (bC 0) (fun _=>Res.ok true) (bM (aH (gv 0) (aH (gv 1) aE)) [] jP) [some (WD rows),some (LD T a),Z,some (LM ms),x4,g,f]=.ok (LN (Et.tgs (Wr rows) n T)):=by
    have y:=pU (nl:=1) (cap:=[1]) (fi:=bI cS (gv 0)) (ft:=bC 0) (fe:=bM (aH (gv 0) (aH (gv 1) aE)) [] jP) (r:=[some (WD rows),some (LD T a),Z,some (LM ms),x4,g,f]) (l:=g_ n) (fun h=>TN (Wr rows h)) (fun h=>nD (Rg.best (Wr rows h) T)) (by
     refine dD (d:=WD rows) rfl ?_;show some (rows.map TN)=_
     conv=>lhs;rw[R.map]
     rw[t_];rfl) (by simp;omega) fun h w=>⟨[some (TN (Wr rows h)),some (LD T a)],rfl,?_⟩
    .rw[y];show Res.ok (D.lst _)=Res.ok (D.lst ((Et.tgs (Wr rows) n T).map nD));unfold Et.tgs;rw[t_];rfl
    .have hh':=p_.mp w;have F:=W4.mpr c;refine aP (aC (d:=TN (Wr rows h)) rfl (aC (d:=LD T a) rfl aF)) (QX ⟨T[0],RW.has h _ hh' (S.lt _ (Xc _)),Xc _⟩ ?_);rw[(R.row hh').length_eq];simp;omega
   refine(aN (bL L)).trans ?_;refine(aN (bL (d:=QF (Et.fB (Wr rows) n T a)) (aP (aC (d:=LD T a) rfl (aC (d:=LN (Et.tgs (Wr rows) n T)) rfl aF)) (Qb (by grind) (by omega) fun x N=>⟨b x N,(Et.gP RW S c N).1,i x (b x N)⟩)))).trans ?_;refine(aN (bL (d:=LD T (Et.f6 (Wr rows) n T a)) (aP (aC (d:=LD T a) rfl (aC (d:=LN (Et.tgs (Wr rows) n T)) rfl (aC (d:=QF (Et.fB (Wr rows) n T a)) rfl aF))) (QV S.nd B (by omega) (by omega) i (fun x=>Et.gF x))))).trans ?_;refine(aN (bL (d:=LD (Et.eO (Wr rows) n T a) (Et.f6 (Wr rows) n T a)) ?_)).trans ?_
   .show mn _ _=_;unfold mn;rw[aP (aC (d:=LD T (Et.f6 (Wr rows) n T a)) rfl aF) (Ta S.nd (by omega))];rfl
   have C:LM (ms++[(Et.tgs (Wr rows) n T,Et.fB (Wr rows) n T a,T.filter fun x=>decide (x∉Et.eO (Wr rows) n T a))])=.lst (ms.map mD++[mD (Et.tgs (Wr rows) n T,Et.fB (Wr rows) n T a,T.filter fun x=>decide (x∉Et.eO (Wr rows) n T a))]):=by grind
   rw[C];refine aN (gc (d:=LM ms) rfl rfl (aC (iy (aC (d:=LN (Et.tgs (Wr rows) n T)) rfl (aC (d:=QF (Et.fB (Wr rows) n T a)) rfl (aC (bY (aC (dC (l:=T) nD (fun x=>decide (x∉Et.eO (Wr rows) n T a)) nD (zH (d:=LD T (Et.f6 (Wr rows) n T a)) rfl (zG T _)) (by omega) fun x N=>⟨_,rfl,?_,fun _=>rfl⟩) aF) rfl) aF))) (by simp)) aF) (iC (by grind)));have:=Nl (Et.eO (Wr rows) n T a) (Et.f6 (Wr rows) n T a) x;have E:(! decide (x∈Et.eO (Wr rows) n T a))=decide (x∉Et.eO (Wr rows) n T a):=by simp
   rw[E]at this;exact cI (aJ (a:=nD x) rfl rfl this)
def ic(rows:List (List Nat))(n:Nat):List (List Nat×Nat×List Nat):=Et.eat (Wr rows) n 64 (g_ n) fun _=>DD
theorem Ia(d0:D):∀(j i:Nat)(B:Option D),i+j<=60->∃L,bA (bC 2) To ((Zl i j).map nD) [some d0,some (LD (g_ i) fun _=>DD),B,none,none,none,none]=.nx [some d0,some (LD (g_ (i+j)) fun _=>DD),L,none,none,none,none]
|0,i,B,_=>⟨B,eS⟩
|j+1,i,B,h=>by
  obtain⟨L,M⟩:=Ia d0 j (i+1) _ (by omega);refine⟨L,?_⟩;rw[show i+(j+1)=i+1+j by omega,<-M,Ğ,s_];refine eq rfl ?_;rw[YT];have N:(.tup [.int 1,.int 1])=QF DD:=by show _=FR _;rfl
  exact aN (kW rfl (by rw[<-N]) rfl (zd (by simp) (by simp;omega)))
theorem Q2(R:Sq rows n):Rr [WD rows]=.ok (LM (ic rows n)):=by
 have B:=R.n7;obtain⟨N,M⟩:=Ia (WD rows) n 0 none (by omega);rw[Zx,<-YD]at M;obtain⟨b,a,Z,Y,U,L⟩:=Jh R 64 (g_ n) (fun _=>DD) [] N none none none (Et.Ok.init R.rw) (fun _ _=>o_ _) (by simp;omega) (by simpa using B) (by simp;omega);rw[Ó]at L;refine cR (n:=7) ?_
 dsimp only[AI]
 refine(aN ((eu (lc (aC (aP (aC (d:=WD rows) rfl aF) R.things) aF) (kZ (by omega)))).trans M)).trans ?_;refine(aN L).trans ?_;exact aU (aX (d:=LM (ic rows n)) rfl)
abbrev SL(n:Nat)(s:Nat->Nat):D:=.lst ((g_ n).map fun x=>QF (s x))
theorem UU{n x:Nat}{s:Nat->Nat}(h:x<n):bV (SL n s) (nD x)=some (QF (s x)):=by refine qA ?_;rw[A_,Xf h];rfl
theorem M5{n x v:Nat}{s:Nat->Nat}(h:x<n):ff (SL n s) (nD x) (QF v)=some (SL n fun y=>if y=x then v else s y):=by
 rw[MW (by simpa using h)];show some (D.lst _)=some (D.lst _);congr 2;refine ZW fun i=>?_;by_cases B:i<n
 .by_cases e:x=i
  .subst e;rw[u_ (by simpa using h),A_,Xf h];simp
  .rw[f_ e,A_,A_,Xf B];simp[X6 e]
 .rw[XZ (by simp;omega),XZ (by simp;omega)]
theorem GM{d0 d2:D}{n h:Nat}(j:h<n):∀(ms:List (List Nat×Nat×List Nat))(s:Nat->Nat)(x4 M L x7:Option D),(∀p∈ms,p.1.length=n/\∀t∈p.1,t<n)->(∀x,s x+Et.lV ms<=DD) ->∃Z Y U N,bA (gy (de (bC 4) (de (bC 5) (de (bC 6) gB)))) TR (ms.map mD) [some d0,some (nD h),some d2,some (SL n s),x4,M,L,x7]=.nx [some d0,some (nD h),some d2,some (SL n fun x=>s x+Et.shr ms h x),Z,Y,U,N]
|[],s,x4,M,L,x7,_,_=>⟨x4,M,L,x7,eS⟩
|p::ms,s,x4,M,L,x7,f,e=>by
  obtain⟨r,o⟩:=f p j_;have B:h<p.1.length:=by omega
  have c:p.1.getD h 0<n:=by simp_all
  have l:=e (p.1.getD h 0);rw[Et.dE]at l;obtain⟨Z,Y,U,N,g⟩:=GM (d0:=d0) (d2:=d2) j ms (fun y=>if y=p.1.getD h 0 then s (p.1.getD h 0)+p.2.1 else s y) (some (LN p.1)) (some (QF p.2.1)) (some (TN p.2.2)) (some (nD (p.1.getD h 0))) (fun q i=>f q (l_ _ i)) (fun x=>by
   have:=e x;rw[Et.dE]at this
   grind)
  refine⟨Z,Y,U,N,?_⟩;have m:(fun x=>s x+Et.shr (p::ms) h x)=fun x=>(if x=p.1.getD h 0 then s (p.1.getD h 0)+p.2.1 else s x)+Et.shr ms h x:=by
   funext x;rw[Et.fG]
   grind
  rw[m,s_,<-g];refine eq rfl ?_;refine(aN (bL (d:=nD (p.1.getD h 0)) (aJ (a:=LN p.1) (b:=nD h) rfl rfl (qA ?_)))).trans ?_
  .grind
  exact aN (kW (d:=SL n s) (k:=nD (p.1.getD h 0)) (v:=QF (s (p.1.getD h 0)+p.2.1)) rfl (aP (aC (aJ (a:=SL n s) (b:=nD (p.1.getD h 0)) rfl rfl (UU c)) (aC (d:=QF p.2.1) rfl aF)) (rp (by omega) (by omega))) rfl (M5 c))
theorem E2(R:Sq rows n):∀(k:Nat)(T:List Nat)(a:Nat->Nat),Et.Ok n T a->∀p∈Et.eat (Wr rows) n k T a,p.1.length=n/\∀t∈p.1,t<n
|0,T,a,S,p,B=>by cases B
|k+1,T,a,S,p,B=>by
  by_cases L:T=[]
  .subst L;cases B
  .have e:Et.eat (Wr rows) n (k+1) T a=(Et.tgs (Wr rows) n T,Et.fB (Wr rows) n T a,T.filter fun x=>decide (x∉Et.eO (Wr rows) n T a))::Et.eat (Wr rows) n k (Et.eO (Wr rows) n T a) (Et.f6 (Wr rows) n T a):=by show(if T=[]then[]else _)=_;rw[Q_e L]
   rw[e]at B;rcases I_.mp B with rfl|B
   .exact⟨Et.eD,fun t M=>S.lt t (Et.dg R.rw S L M)⟩
   .exact E2 R k _ _ (S.next R.rw L) p B
theorem FO(R:Sq rows n):∀(k:Nat)(T:List Nat)(a:Nat->Nat),Et.Ok n T a->(Et.eat (Wr rows) n k T a).length<=T.length
|0,T,a,S=>by show 0<=_;omega
|k+1,T,a,S=>by
  by_cases B:T=[]
  .subst B;exact o_ _
  .have e:Et.eat (Wr rows) n (k+1) T a=(Et.tgs (Wr rows) n T,Et.fB (Wr rows) n T a,T.filter fun x=>decide (x∉Et.eO (Wr rows) n T a))::Et.eat (Wr rows) n k (Et.eO (Wr rows) n T a) (Et.f6 (Wr rows) n T a):=by show(if T=[]then[]else _)=_;rw[Q_e B]
   have:=FO R k _ _ (S.next R.rw B);have L:=Et.gK R.rw S B;rw[e,S_];omega
theorem zL(R:Sq rows n):Et.lV (ic rows n)=DD:=Et.mI R.rw (by have:=R.n7;omega)
theorem Ou(R:Sq rows n):(ic rows n).length<=7:=by have:=FO R 64 _ _ (Et.Ok.init R.rw);have:=R.n7;unfold ic;simp at *;omega
def tbN(rows:List (List Nat))(n h x:Nat):Nat:=Et.shr (ic rows n) h x
def qk(rows:List (List Nat))(n h:Nat):List (Int×Nat):=(g_ n).map fun x=>Qd ((tbN rows n h x:Nat):Int)
theorem Vc(n:Nat):(r_ n [FR (0,1)]).flatten=(g_ n).map fun _=>QF 0:=by
 have e:QF 0=FR (0,1):=by show FR _=_;rw[show((0:Nat):Int)=0 from rfl,mM]
 induction n with
|zero=>rfl
|succ n B=>rw[List.replicate_succ',List.flatten_append,B,YT,WX];rfl
theorem PZ(ds:List D)(k:Int):jo (.lst ds) (.int k)=if-(2^62)<=k/\k<2^62/\ds.length*k.toNat<=sizeLine then some (.lst ((r_ k.toNat ds).flatten))else none:=rfl
theorem FB{d0:D}:∀(ms:List (List Nat×Nat×List Nat))(L:List D)(s:Nat)(N x4 M:Option D),s+Et.lV ms<=DD->L.length+ms.length<=100 ->∃B a Z Y U,bA (gy (de (bC 3) (de (bC 4) (de (bC 5) gB)))) Ru (ms.map mD) [some d0,some (.lst L),some (QF s),N,x4,M]=.nx [some d0,some (.lst B),some (QF a),Z,Y,U]
|[],L,s,N,x4,M,_,_=>⟨L,s,N,x4,M,eS⟩
|p::ms,L,s,N,x4,M,c,e=>by rw[Et.dE]at c;rw[S_]at e;obtain⟨B,a,Z,Y,U,b⟩:=FB (d0:=d0) ms (L++[.tup [QF (s+p.2.1),TN p.2.2]]) (s+p.2.1) (some (LN p.1)) (some (QF p.2.1)) (some (TN p.2.2)) (by omega) (by simp;omega);refine⟨B,a,Z,Y,U,?_⟩;rw[s_,<-b];refine eq rfl ?_;refine(aN (bL (d:=QF (s+p.2.1)) (aP (aC (d:=QF s) rfl (aC (d:=QF p.2.1) rfl aF)) (rp (by omega) (by omega))))).trans ?_;exact aN (gc (d:=.lst L) (ds:=[.tup [QF (s+p.2.1),TN p.2.2]]) rfl rfl (aC (iy (aC (d:=QF (s+p.2.1)) rfl (aC (d:=TN p.2.2) rfl aF)) (by simp)) aF) (iC (by omega)))
theorem Og(R:Sq rows n):∃d,PH [LM (ic rows n)]=.ok d:=by
 obtain⟨B,Y,U,N,M,e⟩:=FB (d0:=LM (ic rows n)) (ic rows n) [] 0 none none none (by rw[zL R];omega) (by have:=Ou R;simp;omega);have L:QF 0=.tup [.int 0,.int 1]:=by show FR (Qd ((0:Nat):Int))=_;rw[show((0:Nat):Int)=0 from rfl,mM];rfl
 refine⟨.lst B,cR (n:=6) ?_⟩
 dsimp only[Ac]
 refine(aN (bL (d:=.lst []) (iw aF (by simp)))).trans ?_;refine(aN (bL (d:=QF 0) (by rw[L]))).trans ?_;refine(aN ((eu (dD (d:=LM (ic rows n)) rfl rfl)).trans e)).trans ?_;exact aU (aX (d:=.lst B) rfl)
abbrev iT(l:List (List (Int×Nat))):D:=.tup (l.map TF)
def tbl(rows:List (List Nat))(n:Nat):List (List (Int×Nat)):=(g_ n).map (qk rows n)
theorem Si(R:Sq rows n):Sv [WD rows]=.ok (.bl true):=by
 refine cR (n:=1) ?_
 dsimp only[Bh]
 exact aU (aX (aJ (a:=nD n) (b:=nD n) (aP (aC (d:=WD rows) rfl aF) R.things) (bY (aC (d:=WD rows) rfl aF) R.len) (nj n)))
theorem He{m:List Md}{f:FE}{r:aL}{d:D}(h:f r=.ok d):o6 m f r=.nx r:=by unfold o6;rw[h];rfl
theorem Q0(R:Sq rows n):∃d,vM [WD rows]=.ok (.tup [iT (tbl rows n),d]):=by
 have B:=R.n7;obtain⟨d,M⟩:=Og R;refine⟨d,cR (n:=3) ?_⟩
 dsimp only[vH]
 refine(aN (He (aP (aC (d:=WD rows) rfl aF) ((fun R=>by
    show dI false (Cj.1 (cQ 1 [WD rows]))=_;have:Cj.1 (cQ 1 [WD rows])=.nx [some (WD rows)]:=by exact aN ((cG (jj (fA (aP (aC rfl aF) (Si R)) rfl))).trans (e_skip _))
    rw[this];rfl) R)))).trans ?_
 refine(aN (bL (aP (aC (d:=WD rows) rfl aF) (Q2 R)))).trans ?_;refine(aN (bL (d:=iT (tbl rows n)) (bY (aC (pU (l:=g_ n) nD (fun h=>TF (qk rows n h)) (lc (aC (bY (aC (d:=WD rows) rfl aF) R.len) aF) (kZ (by omega))) (by simp;omega) fun h L=>⟨[some (nD h),some (WD rows),some (LM (ic rows n))],rfl,aP (aC (d:=WD rows) rfl (aC (d:=nD h) rfl (aC (d:=LM (ic rows n)) rfl aF))) ((fun R L=>by
    have B:=R.n7;obtain⟨Z,Y,U,N,e⟩:=GM (d0:=WD rows) (d2:=LM (ic rows n)) L (ic rows n) (fun _=>0) none none none none ((fun R=>E2 R 64 _ _ (Et.Ok.init R.rw)) R) (fun _=>by rw[zL R];omega);refine cR (n:=8) ?_
    dsimp only[JC]
    refine(aN (bL (d:=SL n fun _=>0) (aJ (b:=nD n) (iw (aC (d:=FR (0,1)) rfl aF) (by simp)) (aP (aC (d:=WD rows) rfl aF) R.things) ?_))).trans ?_
    .rw[PZ,Q_d ⟨by omega,by omega,by rw[H_,Xg,Xy];omega⟩,Xg,Vc]
    refine(aN ((eu (dD (d:=LM (ic rows n)) rfl rfl)).trans e)).trans ?_;refine aU (aX (bY (aC rfl aF) ?_));rw[e_tupL];show some (D.tup _)=some (D.tup ((qk rows n h).map FR));unfold qk tbN;rw[t_];congr 2;refine W3 fun x _=>?_;show QF (0+Et.shr (ic rows n) h x)=_;rw[Zx];rfl) R (p_.mp L))⟩) aF) ?_))).trans ?_
 .rw[e_tupL];show some (D.tup _)=some (D.tup ((tbl rows n).map TF));unfold tbl;rw[t_];rfl
 exact aU (aX (iy (aC (d:=iT (tbl rows n)) rfl (aC (aP (aC (d:=LM (ic rows n)) rfl aF) M) aF)) (by simp)))
theorem NZ(R:Sq rows n){h:Nat}(B:h<n):((g_ n).map fun x=>tbN rows n h x).sum=DD:=by have:=(Et.gO R.rw 64 _ _ (Et.Ok.init R.rw) (by have:=R.n7;simp;omega)).2.2 h B;rw[<-zL R];exact this
theorem Fe{f:Nat->Nat}:∀{l:List Nat}{x:Nat},x∈l->f x<=(l.map f).sum
|[],_,h=>by cases h
|y::l,x,h=>by
  rw[s_,W6];rcases I_.mp h with rfl|h
  .omega
  .have:=Fe (f:=f) h;omega
end Law
namespace Law
open PySem PyProof.Rows L2 DL
theorem PK{m:List Md}{p:FQ}{b:FS}{n:Nat}{r:aL}{d:D}(h:p r=.ok true)(B:b r=.rt d):gj m p b (n+1) r=.rt d:=by
 conv=>lhs;unfold gj
 rw[h,onE_ok,Q_d rfl,B]
structure Rws(rows:List (List Nat))(n m:Nat):Prop where
 n1:1<=n
 n7:n<=7
 nm:n<=m
 m8:m<=8
 rl:rows.length=n
 rp:∀row∈rows,row.Perm (g_ m)
section
variable{rows:List (List Nat)}{n m:Nat}
theorem Rws.row(R:Rws rows n m){h:Nat}(B:h<n):(Wr rows h).Perm (g_ m):=by unfold Wr;rw[k_ (by rw[R.rl];exact B)];exact R.rp _ (Xc _)
theorem Rws.has(R:Rws rows n m){h x:Nat}(L:h<n)(B:x<m):x∈Wr rows h:=(R.row L).mem_iff.mpr (p_.mpr B)
theorem Rws.one(R:Rws rows n m){h:Nat}{T:List Nat}(L:h<n)(M:0<T.length)(B:∀x∈T,x<m):∃x∈Wr rows h,x∈T:=⟨T[0],R.has L (B _ (Xc _)),Xc _⟩
theorem Rws.best(R:Rws rows n m){h:Nat}{T:List Nat}(B:h<n)(M:0<T.length)(L:∀x∈T,x<m):jP [TN (Wr rows h),LN T]=.ok (nD (Rg.best (Wr rows h) T)):=HF (R.one B M L) (by rw[(R.row B).length_eq];have:=R.m8;simp;omega)
theorem Rws.inT(R:Rws rows n m){h:Nat}{T:List Nat}(L:h<n)(M:0<T.length)(B:∀x∈T,x<m):Rg.best (Wr rows h) T∈T:=Rg.zf (R.one L M B)
theorem Rws.at0(R:Rws rows n m):∃r rest,rows=r::rest/\r.length=m:=by cases e:rows with
|nil=>have:=R.rl;have:=R.n1;grind
|cons r rest=>exact⟨r,rest,rfl,by rw[(R.rp r (by grind)).length_eq];simp⟩
theorem Rws.things(R:Rws rows n m):qa [WD rows]=.ok (nD m):=by obtain⟨r,rest,e,B⟩:=R.at0;rw[e,rZ,B]
theorem Rws.ix0(R:Rws rows n m):∃B,bV (WD rows) (.int 0)=some (TN B)/\lenD [TN B]=some (nD m):=by obtain⟨r,rest,e,L⟩:=R.at0;exact⟨r,by rw[e];exact ixA_T0 _ _,by rw[jN,L]⟩
theorem Rws.len(R:Rws rows n m):lenD [WD rows]=some (nD n):=by rw[jN,R.rl]
theorem Fp(R:Rws rows n m)(d:Nat->Nat)(Z:Option D):∀(o L T:List Nat)(N:List (Nat×Nat))(y:Option D),Rg.nI (Wr rows) d o T->GI d N L->(∀h∈L++o,h<n)->o.length<=T.length->(∀x∈T,x<m) ->∃B j Y,GI d B (L++o)/\bA (bC 4) Tl (o.map nD) [some (WD rows),Z,some (LN T),some (KD N),y]=.nx [some (WD rows),Z,some (LN j),some (KD B),Y]
|[],L,T,N,y,_,g,_,_,_=>⟨N,T,y,by grind,eS⟩
|h::o,L,T,N,y,s,g,i,r,f=>by
  have e:h<n:=i h (by simp);have l:0<T.length:=by simp at r;omega
  have p:=R.best e l f;have U:=R.inT e l f;rw[s.1]at p U;obtain⟨B,j,Y,u,q⟩:=Fp R d Z o (L++[h]) (T.erase (d h)) (putN N h (d h)) (some (nD h)) s.2 (g.put h) (by simpa using i) (by grind) (fun x c=>f x (Yv c));refine⟨B,j,Y,by simpa using u,?_⟩;rw[<-q];have t:=g.len (line:=g_ n) fun x c=>p_.mpr (i x (Zh _ c));have M:=R.n7;refine eq rfl ?_;refine(aN (kW (d:=KD N) (k:=nD h) (v:=nD (d h)) rfl (aP (aC (aJ (a:=WD rows) (b:=nD h) rfl rfl (eZ (vA (by rw[R.rl];exact e)))) (aC (d:=LN T) rfl aF)) p) rfl (uV (by simp at t;omega)))).trans ?_;exact aN (gc (d:=LN T) (ds:=[nD (d h)]) rfl rfl (aC (aJ (b:=nD h) rfl rfl (t6 (wm (g.put h).val (((g.put h).key h).mpr (by simp))))) aF) (yM U))
theorem QY(R:Rws rows n m){d:Nat->Nat}{o:List Nat}{N:D}(c:wH [WD rows,N]=.ok (LN o))(Z:o.Perm (g_ n))(s:Rg.nI (Wr rows) d o (g_ m)):AT [WD rows,N]=.ok (TN ((g_ n).map d)):=by
 have L:=R.n7;have M:=R.m8;have U:=R.nm;have Y:∀h∈o,h<n:=fun h f=>p_.mp (Z.mem_iff.mp f);have a:o.length=n:=by rw[Z.length_eq];simp
 obtain⟨B,j,i,g,e⟩:=Fp R d (some N) o [] (g_ m) [] none s (GI.nil d) (by simpa using Y) (by simp;omega) (fun x b=>p_.mp b);refine cR (n:=5) ?_
 dsimp only[rV]
 refine(aN (bL (d:=LN (g_ m)) (bY (aC (aP (aC (d:=WD rows) rfl aF) R.things) aF) (pK (by omega))))).trans ?_;refine(aN ((eu (ds:=o.map nD) (dD (aP (aC (d:=WD rows) rfl (aC (d:=N) rfl aF)) c) rfl)).trans e)).trans ?_;exact aU (aX (aP (aC (d:=KD B) rfl aF) (Ld g (fun x=>by grind) (by omega))))
end
theorem M0{l:List Nat}{i:Nat}(h:i<=l.length):ql (LN l) none (some (i:Int))=some (LN (l.take i)):=by show some _=_;unfold cH;rw[HT.eF,HT.dF,h_,Û h,Y5,Nat.sub_zero];show some _=some (D.lst _);rw[Z6]
theorem Fk{a b:List Nat}(h:a.length+b.length<=2000):addE (LN a) (LN b)=some (LN (a++b)):=by show(if (a.map nD).length+(b.map nD).length<=sizeLine then some _ else none)=some (D.lst _);rw[Q_d (by rw[h_,h_,H_];omega),WX]
def fc:Nat->Nat
|0=>1
|i+1=>fc i*(i+1)
theorem xO{i:Nat}(h:i<=5):fc i<=120:=by match i,h with
|0,_=>decide
|1,_=>decide
|2,_=>decide
|3,_=>decide
|4,_=>decide
|5,_=>decide
theorem yK:∀i,0<fc i
|0=>by decide
|i+1=>YA (yK i) (by omega)
theorem R7{i:Nat}{B:List Nat}(M:B.Perm (g_ i))(L:Nat):(B.take L++[i]++B.drop L).Perm (g_ (i+1)):=by
 have N:(B.take L++[i]++B.drop L).Perm (i::B):=by rw[W_,X0];refine Ĝ.trans ?_;rw[XY]
 refine N.trans ?_;rw[YT];exact(List.Perm.cons i M).trans (ZL i _).symm
abbrev LL(l:List (List Nat)):D:=.lst (l.map LN)
def ins(i:Nat)(row:List Nat)(a:Nat):List Nat:=row.take a++[i]++row.drop a
def ext(i:Nat)(row:List Nat):List (List Nat):=(g_ (i+1)).map (ins i row)
def jw:Nat->List (List Nat)
|0=>[[]]
|i+1=>(jw i).flatMap (ext i)
theorem FV(i:Nat)(B:List Nat):(ext i B).length=i+1:=by unfold ext;simp
theorem vU:∀i,(jw i).length=fc i
|0=>rfl
|i+1=>by
  have:∀l:List _,(l.flatMap (ext i)).length=l.length*(i+1):=fun l=>by induction l with
  |nil=>simp
  |cons r l B=>rw[ZX,M_,FV,B,S_,Zw];omega
  show((jw i).flatMap _).length=fc i*(i+1);rw[this,vU i]
theorem Aq:∀(i:Nat)(r:List Nat),r∈jw i->r.Perm (g_ i)
|0,r,h=>by rw[w_.mp h];exact .refl _
|i+1,r,h=>by obtain⟨B,M,L⟩:=List.mem_flatMap.mp h;obtain⟨a,_,rfl⟩:=m_.mp L;exact R7 (Aq i B M) a
theorem tT(Y B:Option D){i:Nat}{M:List Nat}(U:M.length=i)(hi:i<=10):∀(l:List Nat)(N:List (List Nat))(y:Option D),(∀a∈l,a<=i)->N.length+l.length<=200 ->∃Z:Option D,bA (bC 5) K6 (l.map nD) [Y,B,some (nD i),some (LL N),some (LN M),y]=.nx [Y,B,some (nD i),some (LL (N++l.map (ins i M))),some (LN M),Z]
|[],N,y,_,_=>⟨y,by rw[W8,W8,T_];exact eS⟩
|a::l,N,y,e,c=>by obtain⟨Z,g⟩:=tT Y B U hi l (N++[ins i M a]) (some (nD a)) (fun x f=>e x (l_ _ f)) (by simp at c ⊢;omega);refine⟨Z,ò ?_ (g.trans (by rw[W_];rfl))⟩;have L:=e a j_;refine eq (r1:=[Y,B,some (nD i),some (LL N),some (LN M),some (nD a)]) rfl ?_;refine(aN (gc (d:=LL N) (ds:=[LN (M.take a++[i]++M.drop a)]) (d':=LL (N++[M.take a++[i]++M.drop a])) rfl rfl (aC (aJ (a:=LN (M.take a++[i])) (b:=LN (M.drop a)) (aJ (a:=LN (M.take a)) (b:=LN [i]) (lE (d:=LN M) rfl rfl (hU (i:=(a:Int)) rfl) (M0 (by omega))) (iw (aC (d:=nD i) rfl aF) (by simp)) (Fk (by simp;omega))) (lE (d:=LN M) rfl (hU (i:=(a:Int)) rfl) rfl (vR (by omega))) (Fk (by simp;omega))) aF) ?_)).trans rfl;rw[iC (by simp at c ⊢;omega)];show some (D.lst _)=some (D.lst _);rw[WX];rfl
theorem tR(N B:Option D){i:Nat}(hi:i<=10):∀(l:List (List Nat))(M:List (List Nat))(x y:Option D),(∀r∈l,r.length=i)->M.length+l.length*(i+1)<=200 ->∃Z Y:Option D,bA (bC 4) K7 (l.map LN) [N,B,some (nD i),some (LL M),x,y]=.nx [N,B,some (nD i),some (LL (M++l.flatMap (ext i))),Z,Y]
|[],M,x,y,_,_=>⟨x,y,by rw[W8,List.flatMap_nil,T_];exact eS⟩
|L::l,M,x,y,c,k=>by
  have U:=c L j_;have j:(L::l).length*(i+1)=l.length*(i+1)+(i+1):=by rw[S_,Zw]
  obtain⟨d,h⟩:=tT N B U hi (g_ (i+1)) M y (fun a g=>by have:=p_.mp g;omega) (by simp;omega);obtain⟨Z,Y,e⟩:=tR N B hi l (M++ext i L) (some (LN L)) d (fun r f=>c r (l_ _ f)) (by rw[M_,FV];omega);refine⟨Z,Y,ò ?_ (e.trans (by rw[ZX,W_]))⟩;exact eq (r1:=[N,B,some (nD i),some (LL M),some (LN L),y]) rfl (aN ((eu (ds:=(g_ (i+1)).map nD) (lc (aC (aJ (a:=nD i) (b:=nD 1) rfl rfl (nc i 1)) aF) (kZ (by omega)))).trans h))
theorem tM(U:Option D):∀(j i:Nat)(N M x4 L:Option D),i+j<=5 ->∃b a Z Y:Option D,bA (bC 2) Ub ((Zl i j).map nD) [U,some (LL (jw i)),N,M,x4,L]=.nx [U,some (LL (jw (i+j))),b,a,Z,Y]
|0,i,N,M,x4,L,_=>⟨N,M,x4,L,eS⟩
|j+1,i,N,M,x4,L,h=>by have k:fc (i+1)<=120:=xO (by omega);have B:fc (i+1)=fc i*(i+1):=rfl;obtain⟨d,c,g⟩:=tR U _ (i:=i) (by omega) _ [] x4 L (fun r f=>by rw[(Aq i r f).length_eq,Y6]) (by rw[vU,<-B];simp;omega);obtain⟨b,a,Z,Y,e⟩:=tM U j (i+1) _ _ d c (by omega);refine⟨b,a,Z,Y,ò ?_ (e.trans (by grind))⟩;refine eq rfl ?_;refine(aN ((eu rfl).trans g)).trans ?_;exact aN (bL rfl)
theorem Oc{k:Nat}(Y:k<=5):JY [nD k]=.ok (LL (jw k)):=by
 obtain⟨U,N,M,L,B⟩:=tM (some (nD k)) k 0 none none none none (by omega);rw[Zx,<-YD]at B;refine cR (n:=6) ?_
 dsimp only[BP]
 refine(aN (bL (d:=LL [[]]) (iw (aC (iw aF (by simp)) aF) (by simp)))).trans ?_;refine(aN ((eu (ds:=(g_ k).map nD) (lc (aC (d:=nD k) rfl aF) (kZ (by omega)))).trans B)).trans ?_;exact aU (aX (d:=LL (jw k)) rfl)
end Law
namespace Law
open PySem PyProof.Rows L2 DL Fq
abbrev xJ(l:List (List (Int×Nat))):D:=.lst (l.map TF)
def nH(dls:List (List Nat))(i:Nat):List Nat:=dls.map fun dl=>dl.getD i 0
def shr(dls:List (List Nat))(m h:Nat):List (Int×Nat):=(g_ m).map fun t=>low (((nH dls h).count t:Nat):Int) dls.length
theorem GG{L:List (List Nat)}{n m:Nat}(Z:0<L.length)(B:L.length<=120)(g:∀dl∈L,dl.length=n)(b:m<=60):∀(j i:Nat)(M:List (List (Int×Nat)))(x y:Option D),i+j<=n->n<=60->M.length=i ->∃U N,bA (bC 3) TQ ((Zl i j).map nD) [some (.lst (L.map TN)),some (nD m),some (xJ M),x,y]=.nx [some (.lst (L.map TN)),some (nD m),some (xJ (M++(Zl i j).map (shr L m))),U,N]
|0,i,M,x,y,_,_,_=>⟨x,y,by rw[show(Zl i 0).map (shr L m)=[]from rfl,T_];exact eS⟩
|j+1,i,M,x,y,e,a,c=>by
  obtain⟨U,N,Y⟩:=GG Z B g b j (i+1) (M++[shr L m i]) _ _ (by omega) a (by simp[c]);refine⟨U,N,?_⟩;rw[W_,X0]at Y;rw[Ğ,s_,s_,<-Y];refine eq (r1:=[some _,some (nD m),some _,some (nD i),y]) rfl ?_;refine(aN (bL (d:=LN (nH L i)) ?_)).trans ?_
  .have:=pU (nl:=1) (cap:=[3]) (fi:=bI cS (gv 0)) (ft:=bC 0) (fe:=f2 (gv 0) (gv 1) bV) (r:=[some (.lst (L.map TN)),some (nD m),some (xJ M),some (nD i),y]) TN (fun dl=>nD (dl.getD i 0)) rfl (by omega) fun dl f=>⟨_,rfl,aJ rfl rfl (eZ ?_)⟩
   .rw[this];show Res.ok (D.lst _)=Res.ok (D.lst _);unfold nH;rw[t_];rfl
   grind
  have h:xJ (M++[shr L m i])=D.lst (M.map TF++[TF (shr L m i)]):=by grind
  rw[h];refine aN (gc rfl rfl (aC (bY (aC (pU nD (fun t=>FR (low (((nH L i).count t:Nat):Int) L.length)) (lc (aC rfl aF) (kZ (by omega))) (by simp;omega) fun t l=>⟨_,rfl,?_⟩) aF) ?_) aF) (iC (by grind)))
  .exact aP (aC (d8 rfl rfl (aC rfl aF) (zU _ t)) (aC (bY (aC rfl aF) (iA _ _)) aF)) (qf (k:=7) Z (by omega) (by omega))
  .show some (D.tup _)=some (D.tup _);unfold shr;rw[t_];rfl
theorem TY{L:List (List Nat)}{n m:Nat}(Z:0<L.length)(B:L.length<=120)(N:∀dl∈L,dl.length=n)(Y:m<=60)(U:n<=60):Sy [.lst (L.map TN),nD m]=.ok (iT ((g_ n).map (shr L m))):=by obtain⟨d,c,h⟩:=GG Z B N Y n 0 [] none none (by omega) U rfl;rw[<-YD,Ó]at h;refine cY ?_;cases M:L with
|nil=>grind
|cons b rest=>have a:=N b (by grind);rw[<-M];refine(aN ((eu (lc (aC (bY (aC (aJ rfl rfl (by rw[M];exact ixA_L0 _ _)) aF) (by rw[jN,a])) aF) (kZ (by omega)))).trans h)).trans ?_;exact aU (aX (bY (aC rfl aF) rfl))
section
variable{rows:List (List Nat)}{n m:Nat}
def gA(rows:List (List Nat))(n m:Nat)(o:List Nat):List Nat:=(g_ n).map (Rg.jn (Wr rows) o (g_ m))
theorem yO(R:Rws rows n m){o:List Nat}(L:o.Perm (g_ n)):AT [WD rows,LN o]=.ok (TN (gA rows n m o)):=by have B:=R.n7;exact QY R (Im (L.nodup_iff.mpr Xd) (by rw[R.rl];grind) (by rw[R.rl,L.length_eq];simp) (by rw[R.rl];omega)) L (Rg.xM o _ (L.nodup_iff.mpr Xd))
def sZ(rs:List (List Nat))(rows:List (List Nat))(n m:Nat):List (List (Int×Nat)):=(g_ n).map (shr (rs.map (gA rows n m)) m)
theorem Oh(R:Rws rows n m)(U:n<=5){rs:List (List Nat)}(b:∀r∈rs,r.Perm (g_ n))(c:rs.length=fc n)(a:JY [nD n]=.ok (LL rs)):uK [WD rows]=.ok (iT (sZ rs rows n m)):=by
 have M:=xO U;have L:=yK n;have B:=R.m8;refine cR (n:=2) ?_
 dsimp only[uE]
 refine(aN (He (aP (aC (d:=WD rows) rfl aF) ((fun R U=>by
    show dI false (Cn.1 (cQ 1 [WD rows]))=_;have:Cn.1 (cQ 1 [WD rows])=.nx [some (WD rows)]:=by have Y:=pi n 5;rw[Q_b (by omega)]at Y;exact aN ((cG (cI (aJ (bY (aC rfl aF) R.len) rfl Y))).trans (e_skip _))
    rw[this];rfl) R U)))).trans ?_
 refine(aN (bL (pU (l:=rs) LN (fun o=>TN (gA rows n m o)) (dD (aP (aC (bY (aC (d:=WD rows) rfl aF) R.len) aF) a) rfl) (by omega) fun o Z=>⟨[some (LN o),some (WD rows)],rfl,aP (aC (d:=WD rows) rfl (aC (d:=LN o) rfl aF)) (yO R (b o Z))⟩))).trans ?_;have e:rs.map (fun o=>TN (gA rows n m o))=(rs.map (gA rows n m)).map TN:=by rw[t_];rfl
 rw[e];refine aU (aX (aP (aC (d:=.lst ((rs.map (gA rows n m)).map TN)) rfl (aC (aP (aC (d:=WD rows) rfl aF) R.things) aF)) (TY (by grind) (by grind) (fun f N=>?_) (by omega) (by omega))));obtain⟨o,_,rfl⟩:=m_.mp N;unfold gA;simp
end
end Law
namespace Law
open PySem PyProof.Rows L2 DL
section
variable{fe:FE}{f:FJ}{r:aL}{d:D}{y z a:Str}
theorem qU(L:fe r=.ok d)(B:iR d=some y):tF fe r=.ok (.str y):=dO L (by rw[B];rfl)
theorem uA(M:fe r=.ok (.str y))(B:y.length<=1001)(L:f r=some z):mw fe f r=some (y++z):=by unfold mw;grind
theorem Dp(B:f r=some z):oI a f r=some (a++z):=by unfold oI;rw[B];rfl
theorem Dz(h:f r=some z)(B:z.length<=100000):tw f r=.ok (.str z):=by unfold tw;grind
end
theorem Vj{x:Str}(h:x.length<=1000):iR (.str x)=some x:=by show(if x.length<=1000 then some x else none)=_;rw[Q_d h]
theorem Vi{h:Nat}(B:h<7):iR (nD h)=some (aY h):=by match h,B with
|0,_=>kernel_rfl
|1,_=>kernel_rfl
|2,_=>kernel_rfl
|3,_=>kernel_rfl
|4,_=>kernel_rfl
|5,_=>kernel_rfl
|6,_=>kernel_rfl
def gZ(h t:Nat):Str:=aY h++" "++bT t
theorem n8(h t:Nat):(gZ h t).length=3:=by
 have e:(" ").length=1:=by decide+kernel
 rfl
theorem P6{h t:Nat}(L:h<7)(B:t<8):JP [nD h,nD t]=.ok (.str (gZ h t)):=by
 refine cY ?_;refine(aN (bL (aJ rfl rfl (nV B)))).trans (aU (aX ?_));have e:aY h++(" "++(bT t++Yr))=gZ h t:=by unfold gZ;rw[Ze,Yh]
 rw[<-e];refine Dz (uA (qU rfl (Vi L)) (by show 1<=1001;decide) (Dp (uA (qU rfl (Vj (by show 1<=1000;decide))) (by show 1<=1001;decide) rfl))) ?_;rw[e,n8];decide
def iq(t:Nat->Nat)(hs:List Nat):Str:=N_ " " (hs.map fun h=>gZ h (t h))
theorem vJ{L:Str}{l:List Str}{B n s:Nat}(hs:L.length=s)(M:l.length<=n)(N:∀y∈l,y.length<=B):(N_ L l).length<=n*B+n*s:=by have h:=Y7 L l;have Z:=ZY l N;rw[hs]at h;have Y:=Ī B M;have U:=Ī s M;omega
theorem dc:(" " : Str).length=1:=by decide+kernel
theorem oH:("; " : Str).length=2:=by decide+kernel
theorem CZ:(" | " : Str).length=3:=by decide+kernel
theorem rP{t:Nat->Nat}{hs:List Nat}(L:hs.length<=70):(iq t hs).length<=280:=by have:=vJ (l:=hs.map fun h=>gZ h (t h)) (n:=70) dc (by grind) (fun y B=>by obtain⟨h,_,rfl⟩:=m_.mp B;rw[n8];exact o_ _);unfold iq;omega
section
variable{t:Nat->Nat}{hs:List Nat}
theorem AB(N:hs.length<=70)(L:∀h∈hs,h<7/\t h<8):Bt [dL t hs]=.ok (.str (iq t hs)):=by
 refine cY ?_;have e:cZ 2 [] (bI cS (gv 0)) (gy (de (bC 0) (de (bC 1) gB))) (fun _=>Res.ok true) (bM (aH (gv 0) (aH (gv 1) aE)) [] JP) (cQ 1 [dL t hs])=.ok (.lst ((hs.map fun h=>gZ h (t h)).map D.str)):=by refine(dC _ _ _ (dD rfl rfl) (by omega) fun h B=>⟨_,rfl,rfl,fun _=>aP (aC rfl (aC rfl aF)) (P6 (L h B).1 (L h B).2)⟩).trans ?_;rw[eU,t_];rfl
 exact aU (aX (d8 rfl rfl (aC e aF) (jK (fun y M=>by obtain⟨h,_,rfl⟩:=m_.mp M;rw[n8];exact o_ _) (by rw[dc,h_];omega))))
theorem Il(U:hs.length<=70)(L:∀h∈hs,h<7/\t h<8):wB [dL t hs]=.ok (.str (iq t hs)):=by
 refine cY ?_;have e:cZ 2 [] (bI cS (gv 0)) (gy (de (bC 0) (de (bC 1) gB))) (fun _=>Res.ok true) (f2 (f2 (fC (aH (gv 0) aE) gX) (fun _=>Res.ok (D.str " ")) addA) (f2 (fun _=>Res.ok (D.str "ABCDEFGH")) (gv 1) bV) addA) (cQ 1 [dL t hs])=.ok (.lst ((hs.map fun h=>gZ h (t h)).map D.str)):=by
  refine(dC _ _ (fun h=>.str (gZ h (t h))) (dD rfl rfl) (by omega) fun h B=>⟨_,rfl,rfl,fun _=>?_⟩).trans ?_
  .have ef:(aY h).length=1:=rfl;have N:(bT (t h)).length=1:=rfl;exact aJ (aJ (bY (aC rfl aF) (rJ (L h B).1)) rfl (gu (by rw[ef,dc];decide))) (aJ rfl rfl (nV (L h B).2)) (gu (by rw[F_,ef,N,dc];decide))
  .rw[eU,t_];rfl
 exact aU (aX (d8 rfl rfl (aC e aF) (jK (fun y M=>by obtain⟨h,_,rfl⟩:=m_.mp M;rw[n8];exact o_ _) (by rw[dc,h_];omega))))
end
def qv(t:Nat->Nat)(rs:List (List Nat)):Prop:=rs.length<=70/\∀r∈rs,r.length<=70/\∀h∈r,h<7/\t h<8
def j8(t:Nat->Nat)(rs:List (List Nat)):Str:=N_ "; " (rs.map (iq t))
theorem R9{t:Nat->Nat}{rs:List (List Nat)}(g:qv t rs):(j8 t rs).length<=20000:=by have:=vJ (l:=rs.map (iq t)) oH (by rw[h_];exact g.1) (fun y B=>by obtain⟨h,L,rfl⟩:=m_.mp B;exact rP (g.2 h L).1);unfold j8;omega
theorem Jl{t:Nat->Nat}{rs:List (List Nat)}(g:qv t rs):ip (.str "; ") [.lst ((rs.map (iq t)).map D.str)]=some (.str (j8 t rs)):=by have:=g.1;exact jK (fun y B=>by obtain⟨h,L,rfl⟩:=m_.mp B;exact rP (g.2 h L).1) (by rw[oH,h_];omega)
theorem Sh{t:Nat->Nat}{rs:List (List Nat)}(g:qv t rs):J4 [.lst (rs.map (dL t))]=.ok (.str (j8 t rs)):=by
 have L:=g.1;refine cR (n:=1) ?_
 dsimp only[BV]
 have e:cZ 1 [] (bI cS (gv 0)) (bC 0) (fun _=>Res.ok true) (bM (aH (gv 0) aE) [] Bt) (cQ 1 [.lst (rs.map (dL t))])=.ok (.lst ((rs.map (iq t)).map D.str)):=by refine(dC (l:=rs) (dL t) (fun _=>true) (fun r=>.str (iq t r)) (dD (d:=.lst (rs.map (dL t))) rfl rfl) (by omega) fun r B=>⟨[some (dL t r)],rfl,rfl,fun _=>aP (aC (d:=dL t r) rfl aF) (AB (g.2 r B).1 (g.2 r B).2)⟩).trans ?_;rw[eU,t_];rfl
 exact aU (aX (d8 (d:=.str "; ") rfl rfl (aC e aF) (Jl g)))
section
variable{rows:List (List Nat)}{owns:List (Option Nat)}{o:Option (List Nat)}{n m:Nat}{s:Rg.S}{l:List (List (List Nat)×Rg.S)}
def ke(rows:List (List Nat))(l:List (List (List Nat)×Rg.S)):Str:=N_ " | " (l.map fun p=>j8 (tS rows p.2) p.1)
theorem J7(M:l.length<=60)(g:∀p∈l,qv (tS rows p.2) p.1):ip (.str " | ") [.lst ((l.map fun p=>j8 (tS rows p.2) p.1).map D.str)]=some (.str (ke rows l)):=jK (fun y B=>by obtain⟨p,L,rfl⟩:=m_.mp B;exact R9 (g p L)) (by rw[CZ,h_];omega)
theorem IW{f:Nat->Nat}{n M:Nat}:∀(k:Nat)(B:List Nat)(L:Nat)(r:List Nat),Rg.jD f n M k B L=some r->r.length<=B.length+k
|0,_,_,_,h=>by cases h
|k+1,B,L,r,h=>by
  unfold Rg.jD at h;split at h
  .have:=IW k _ _ r h;rw[M_,Xy]at this;omega
  .split at h
   .cases h;omega
   .cases h
theorem EX(c:Ch rows owns s l):Snd rows owns s->s.line.length<=7->∀p∈l,p.1.length<=70/\∀r∈p.1,r.length<=70:=by induction c with
|nil _=>exact fun _ _ _ L=>(nomatch L)
|@cons s M l L c N=>
  intro S Z p B;rcases I_.mp B with rfl|q
  .have e:(Rg.jc (Wr rows) (own owns) s).length<=s.line.length:=Z5 _ _;refine⟨by show M.length<=70;rw[L.length_eq];omega,fun r U=>?_⟩;obtain⟨h,_,Y⟩:=Xh.mp (L.mem_iff.mp U);have:=IW _ _ _ r Y;simp at this;omega
  .have h1:(Rg.minus (Wr rows) s M.flatten).line.length<=s.line.length:=Xz _ _;exact N (S.minus (Ak L)) (by omega) p q
theorem Scene.rds(S:Scene rows owns o n m):∃l:List (List (List Nat)×Rg.S),l.length<=60/\(∀p∈l,qv (tS rows p.2) p.1)/\vX [WD rows,OD owns,cE o]=.ok (.lst (l.map (ir rows))):=by
 have U:=S.n7;have M:=S.m8;have L:(s0 rows o).line.length<=7:=by rw[S.line_perm.length_eq];simp;omega
 obtain⟨l,c,b,h⟩:=Jn S.ord S.ne (by rw[S.rl];omega) S.snd;have t:=Rg.Cq (W:=Wr rows) (O:=own owns) ((s0 rows o).line.length+1) (s0 rows o) (by omega);have a:=(F1 c S.ok t).1;refine⟨l,b,fun p B=>⟨(EX c S.snd L p B).1,fun r N=>⟨(EX c S.snd L p B).2 r N,fun h d=>?_⟩⟩,h⟩;obtain⟨e,Y⟩:=a p B h (XS.mpr ⟨r,N,d⟩);have f:=S.mem.mp Y;have Z:=Rg.Cp t S.ok h Y;rw[S.things]at Z;have:=p_.mp Z;exact⟨by omega,by omega⟩
end
def Dd.good(a:Nat->Nat):Dd->Prop
|.tk h=>h<7/\a h<8
|.ah h x=>h<7/\x<8
|.rg r=>r.length<=70/\∀h∈r,h<7/\a h<8
def deedS(a:Nat->Nat):Dd->Str
|.tk h => "takes"++" "++gZ h (a h)
|.ah h x => "ahead"++" "++gZ h x
|.rg r => "ring"++" "++iq a r
theorem QK{a:Nat->Nat}{d:Dd}(g:d.good a):(deedS a d).length<=300:=by
 have M:("takes" : Str).length=5:=by decide+kernel
 have L:("ahead" : Str).length=5:=by decide+kernel
 have B:("ring" : Str).length=4:=by decide+kernel
 cases d with
|tk h=>unfold deedS;rw[F_,F_,M,dc,n8];decide
|ah h x=>unfold deedS;rw[F_,F_,L,dc,n8];decide
|rg r=>unfold deedS;rw[F_,F_,B,dc];have:=rP (t:=a) g.1;omega
theorem ra(a b:Str):eqD (.str a) (.str b)=some (.bl (a==b)):=by rfl
theorem MO(h x:Nat):iq (fun _=>x) [h]=gZ h x:=rfl
theorem QZ{a:Nat->Nat}{d:Dd}(g:d.good a):JN [cV a d]=.ok (.str (deedS a d)):=by
 have Y:("takes" : Str).length=5:=by decide+kernel
 have U:("ahead" : Str).length=5:=by decide+kernel
 have M:("ring" : Str).length=4:=by decide+kernel
 refine cR (n:=2) ?_
 dsimp only[Bg]
 have B:∀{w:Str}{h x:Nat},(w==("ring" : Str))=false->w.length<=5->h<7->x<8->(aI (aR dH 1 (qr (cK (f2 (f2 (gv 0) (ci 0) bV) (fun _=>Res.ok (D.str "ring")) eqD)) (f2 (gv 0) (ci 1) bV) (jU (aH (oM (gv 0) (jd (ci 1)) (fun _=>Res.ok none)) aE)))) (aI (dG dH (f2 (f2 (f2 (gv 0) (ci 0) bV) (fun _=>Res.ok (D.str " ")) addA) (bM (aH (gv 1) aE) [] Bt) addA)) bR)) (cQ 2 [.tup [.str w,nD h,nD x]])=.rt (.str (w++" "++gZ h x)):=fun{w h x} hw hl hh hx=>by refine(aN (bL ((mV (cI (aJ (a:=.str w) (b:=.str "ring") (aJ (a:=.tup [.str w,nD h,nD x]) (b:=.int 0) rfl rfl (ixA_T0 _ _)) rfl (by rw[ra,hw])))).trans (iy (aC (d:=.tup [nD h,nD x]) (lE (d:=.tup [.str w,nD h,nD x]) rfl (hU (i:=1) rfl) rfl rfl) aF) (by simp))))).trans (aU (aX ?_));have L:=AB (t:=fun _=>x) (hs:=[h]) (by simp) (fun z N=>by rw[w_.mp N];exact⟨hh,hx⟩);rw[MO]at L;exact aJ (a:=.str (w++" ")) (b:=.str (gZ h x)) (aJ (a:=.str w) (b:=.str " ") (aJ (a:=.tup [.str w,nD h,nD x]) (b:=.int 0) rfl rfl (ixA_T0 _ _)) rfl (gu (by rw[dc];omega))) (aP (aC (d:=dL (fun _=>x) [h]) rfl aF) L) (gu (by rw[F_,dc,n8];omega))
 cases d with
|tk h=>exact B (by decide+kernel) (by rw[Y];decide) g.1 g.2
|ah h x=>exact B (by decide+kernel) (by rw[U];decide) g.1 g.2
|rg r=>refine(aN (bL ((mW (cI (aJ (a:=.str "ring") (b:=.str "ring") (aJ (a:=cV a (.rg r)) (b:=.int 0) rfl rfl (ixA_T0 _ _)) rfl (by rw[ra,beq_self_eq_true])))).trans (aJ (a:=cV a (.rg r)) (b:=nD 1) rfl rfl (eZ (i:=1) rfl))))).trans (aU (aX ?_));have:=rP (t:=a) g.1;exact aJ (a:=.str ("ring"++" ")) (b:=.str (iq a r)) (aJ (a:=.str "ring") (b:=.str " ") (aJ (a:=cV a (.rg r)) (b:=.int 0) rfl rfl (ixA_T0 _ _)) rfl (gu (by rw[dc,M];decide))) (aP (aC (d:=dL a r) rfl aF) (AB g.1 g.2)) (gu (by rw[F_,dc,M];omega))
def lH(a:Nat->Nat)(l:List Dd):Str:=N_ "; " (l.map (deedS a))
theorem Jd{a:Nat->Nat}{l:List Dd}(M:l.length<=60)(g:∀d∈l,d.good a):ip (.str "; ") [.lst ((l.map (deedS a)).map D.str)]=some (.str (lH a l)):=jK (fun y B=>by obtain⟨d,L,rfl⟩:=m_.mp B;exact QK (g d L)) (by rw[oH,h_];omega)
theorem Gy{W T:Option D}{w:Str}{h x:Nat}(B:w.length=5)(N:h<7)(M:x<8):f2 (f2 (f2 (f2 (f2 (gv 2) (ci 0) bV) (fun _=>Res.ok (D.str " ")) addA) (fC (aH (f2 (gv 2) (ci 1) bV) aE) gX) addA) (fun _=>Res.ok (D.str " ")) addA) (f2 (fun _=>Res.ok (D.str "ABCDEFGH")) (f2 (gv 2) (ci 2) bV) bV) addA [W,T,some (.tup [.str w,nD h,nD x])]=.ok (.str (w++" "++gZ h x)):=by
 have L:(aY h).length=1:=rfl;have U:(bT x).length=1:=rfl;have e:w++" "++gZ h x=w++" "++aY h++" "++bT x:=by unfold gZ;simp only[Yh]
 exact aJ (aJ (aJ (aJ (aJ rfl rfl (ixA_T0 _ _)) rfl (gu (by rw[B,dc];decide))) (bY (aC (aJ rfl rfl (eZ rfl)) aF) (rJ N)) (gu (by rw[F_,B,dc,L];decide))) rfl (gu (by rw[F_,F_,B,dc,L];decide)))
  (aJ rfl (aJ rfl rfl (eZ rfl)) (nV M)) (gu (by rw[F_,F_,F_,B,dc,L,U];decide))
theorem GN{a:Nat->Nat}{W:D}:∀(l:List Dd)(B:List Str)(x:Option D),(∀d∈l,d.good a)->B.length+l.length<=900->∃y,bA (bC 2) Ua (l.map (cV a)) [some W,some (.lst (B.map D.str)),x]=.nx [some W,some (.lst ((B++l.map (deedS a)).map D.str)),y]
|[],B,x,_,_=>⟨x,by rw[W8,W8,T_];exact eS⟩
|d::l,B,x,g,Y=>by
  rw[S_]at Y;obtain⟨y,N⟩:=GN (W:=W) l (B++[deedS a d]) (some (cV a d)) (fun z U=>g z (l_ _ U)) (by simp;omega);have L:=g d j_;refine⟨y,?_⟩;rw[s_,s_,show B++(deedS a d::l.map (deedS a))=B++[deedS a d]++l.map (deedS a)by simp,<-N];refine eq (r1:=[some W,some (.lst (B.map D.str)),some (cV a d)]) rfl (aN ?_);have fin:∀{f:FE},f [some W,some (.lst (B.map D.str)),some (cV a d)]=.ok (.str (deedS a d))->aI (cJ "list" kr 1 (aH f aE) appD) bR [some W,some (.lst (B.map D.str)),some (cV a d)]=.nx [some W,some (.lst ((B++[deedS a d]).map D.str)),some (cV a d)]:=fun h=>(aN (gc (d:=.lst (B.map D.str)) (ds:=[.str (deedS a d)]) (d':=.lst ((B++[deedS a d]).map D.str)) rfl rfl (aC h aF) (by rw[iC (by simp;omega),WX];rfl))).trans rfl;have c:("ring " : Str) = "ring"++" " := by kernel_rfl
  have Z:("ring " : Str).length=5:=by decide+kernel
  cases d with
 |rg r=>
   refine(dR (cI (aJ (a:=.str "ring") (b:=.str "ring") (aJ (a:=cV a (.rg r)) (b:=.int 0) rfl rfl (ixA_T0 _ _)) rfl (by rw[ra,beq_self_eq_true])))).trans (fin ?_);have:=rP (t:=a) L.1;have e:deedS a (.rg r) = "ring "++iq a r:=by unfold deedS;rw[c]
   rw[e];exact aJ (a:=.str "ring ") (b:=.str (iq a r)) rfl (aP (aC (d:=dL a r) (aJ (a:=cV a (.rg r)) (b:=nD 1) rfl rfl (eZ (i:=1) rfl)) aF) (Il L.1 L.2)) (gu (by rw[Z];omega))
 |tk h=>exact(cG (cI (aJ (a:=.str "takes") (b:=.str "ring") (aJ (a:=cV a (.tk h)) (b:=.int 0) rfl rfl (ixA_T0 _ _)) rfl (by rw[ra];rfl)))).trans (fin (Gy (by decide+kernel) L.1 L.2))
 |ah h M=>exact(cG (cI (aJ (a:=.str "ahead") (b:=.str "ring") (aJ (a:=cV a (.ah h M)) (b:=.int 0) rfl rfl (ixA_T0 _ _)) rfl (by rw[ra];rfl)))).trans (fin (Gy (by decide+kernel) L.1 L.2))
theorem RO{a:Nat->Nat}{l:List Dd}(B:l.length<=60)(g:∀d∈l,d.good a):SV [.lst (l.map (cV a))]=.ok (.str (lH a l)):=by obtain⟨y,h⟩:=GN l [] none g (by simp;omega);refine cY ?_;refine(aN ((eu (dD rfl rfl)).trans h)).trans (aU (aX ?_));exact d8 rfl rfl (aC rfl aF) (Jd B g)
end Law
namespace Law
open PySem PyProof.Rows L2 DL Fq
abbrev ki(i:Int):Str:=Å i
theorem LZ{k a:Nat}(h:a<2^k)(B:k<=61):a<2^64:=B_ h (ĩ (by decide) (by omega))
theorem DP{a:Nat}(h:a<2^64):a<2^1000:=by grind
theorem pO{i:Int}(h:i.natAbs<2^64):(ki i).length<=65:=by
 rw[PySem.ofString_length];by_cases z:i.natAbs=0
 .have:i=0:=by omega
  subst this;decide
 .exact int_text_length_le (by decide) ((ZU z).mpr h)
theorem Eh{i:Int}(h:i.natAbs<2^64):gX [.int i]=some (.str (ki i)):=Q_d (DP h)
theorem xR{i:Int}(h:i.natAbs<2^64):iR (.int i)=some (ki i):=Q_d (DP h)
def shS(x:Int×Nat):Str:=if x.2=1 then ki x.1 else ki x.1++"/"++ki (x.2:Int)
structure So(x:Int×Nat):Prop where
 t:x.1.natAbs<2^64
 b:x.2<2^64
 p:0<x.2
theorem DF{k:Nat}{x:Int×Nat}(h:Bd k x)(B:k<=61):So x:=⟨LZ h.top B,LZ h.bot B,h.pos⟩
section
variable{x:Int×Nat}
theorem So.nb(s:So x):((x.2:Int)).natAbs<2^64:=by exact s.b
theorem mr:("/" : Str).length=1:=by decide+kernel
theorem OV(s:So x):(shS x).length<=131:=by
 have L:=pO s.t;have B:=pO s.nb;unfold shS;split
 .omega
 .rw[F_,F_,mr];omega
theorem RN(s:So x):Kq [.int x.1,nD x.2]=.ok (.str (shS x)):=by
 have M:=pO s.t;have L:=pO s.nb;refine cY ?_;refine aU (aX ?_);have c:=cI (aJ (f:=gv 1) (f':=fun _=>Res.ok (D.int 1)) (r:=cQ 2 [.int x.1,nD x.2]) rfl rfl (j3 _ _));unfold shS;by_cases e:x.2=1
 .rw[Q_c e]at c;rw[Q_d e];exact(mW c).trans (qU rfl (xR s.t))
 .rw[Q_b e]at c;rw[Q_e e];refine(mV c).trans ?_;have B:ki x.1++("/"++(ki (x.2)++Yr))=ki x.1++"/"++ki (x.2):=by rw[Ze,Yh]
  rw[<-B];refine Dz (uA (qU rfl (xR s.t)) (by omega) (Dp (uA (qU rfl (xR s.nb)) (by omega) rfl))) ?_;rw[B,F_,F_,mr];omega
end
def lN(l:List (Int×Nat)):Str:=N_ " " (l.map shS)
section
variable{l:List (Int×Nat)}
theorem Kd(M:l.length<=60)(g:∀x∈l,So x):ip (.str " ") [.lst ((l.map shS).map D.str)]=some (.str (lN l)):=jK (fun y B=>by obtain⟨d,L,rfl⟩:=m_.mp B;exact OV (g d L)) (by rw[dc,h_];omega)
theorem Ka(L:l.length<=60)(g:∀x∈l,So x):TD [TF l]=.ok (.str (lN l)):=by
 refine cR (n:=1) ?_
 dsimp only[xl]
 have e:cZ 2 [] (bI cS (gv 0)) (gy (de (bC 0) (de (bC 1) gB))) (fun _=>Res.ok true) (bM (aH (gv 0) (aH (gv 1) aE)) [] Kq) (cQ 1 [TF l])=.ok (.lst ((l.map shS).map D.str)):=by refine(dC (l:=l) FR (fun _=>true) (fun x=>.str (shS x)) (dD (d:=TF l) rfl rfl) (by omega) fun x B=>⟨_,rfl,rfl,fun _=>aP (aC (d:=.int x.1) rfl (aC (d:=nD x.2) rfl aF)) (RN (g x B))⟩).trans ?_;rw[eU,t_];rfl
 exact aU (aX (d8 (d:=.str " ") rfl rfl (aC e aF) (Kd L g)))
theorem GL{W:D}:∀(l:List (Int×Nat))(B:List Str)(M L:Option D),(∀x∈l,So x)->B.length+l.length<=900->∃Y U,bA (gy (de (bC 2) (de (bC 3) gB))) T8 (l.map FR) [some W,some (.lst (B.map D.str)),M,L]=.nx [some W,some (.lst ((B++l.map shS).map D.str)),Y,U]
|[],B,M,L,_,_=>⟨M,L,by rw[W8,W8,T_];exact eS⟩
|x::l,B,M,L,g,h=>by
  rw[S_]at h;obtain⟨Y,U,d⟩:=GL l (B++[shS x]) _ _ (fun z f=>g z (l_ _ f)) (by simp;omega);have s:=g x j_;have k:=pO s.t;have j:=pO s.nb;refine⟨Y,U,?_⟩;rw[s_,s_,show B++(shS x::l.map shS)=B++[shS x]++l.map shS by simp,<-d];refine eq rfl (aN ?_);refine gc rfl rfl (aC ?_ aF) (by rw[iC (by simp;omega),WX];rfl);have c:f2 (fun _=>Res.ok _) (fC (aH (gv 3) aE) gX) addA [some W,some (.lst (B.map D.str)),some (.int x.1),some _]=.ok _:=aJ rfl (bY (aC rfl aF) (Eh s.nb)) (gu (by rw[mr];omega));have N:fC (aH (f2 (gv 3) (ci 1) mG) aE) pk [some W,some (.lst (B.map D.str)),some (.int x.1),some _]=.ok _:=bY (aC (aJ rfl rfl (pi x.2 1)) aF) rfl;have Z:("/"++ki (x.2:Int):Str).length<=100:=by rw[F_,mr];omega
  have a:fC (aH (gv 2) aE) gX [some W,some (.lst (B.map D.str)),some _,some (nD x.2)]=.ok _:=bY (aC rfl aF) (Eh s.t);have i:=s.p;unfold shS;by_cases e:x.2=1
  .rw[Q_b (by omega),Q_e y_]at N;rw[Q_d e];refine aJ (b:=.str Yr) a (aJ c N ?_) ?_
   .show(if _ then some _ else none)=_;rw[Q_d ⟨Z,by decide,by decide⟩];rfl
   .rw[gu (by show _+0<=1000;omega),Ze]
  .rw[Q_c (by omega),Q_d rfl]at N;rw[Q_e e,Yh];refine aJ a (aJ c N ?_) (gu (by omega));show(if _ then some _ else none)=_;rw[Q_d ⟨Z,by decide,by decide⟩];rfl
theorem J8(B:l.length<=60)(g:∀x∈l,So x):BE [TF l]=.ok (.str (lN l)):=by obtain⟨M,L,h⟩:=GL l [] none none g (by simp;omega);refine cY ?_;refine(aN ((eu (dD rfl rfl)).trans h)).trans (aU (aX ?_));exact d8 rfl rfl (aC rfl aF) (Kd B g)
end
def kz(o:Option (List Nat)):Str:=match o with
|none => "better"
|some l=>N_ " " ("order"::l.map aY)
theorem ES{a b:List D}(h:a.length+b.length<=1000):addA (.lst a) (.lst b)=some (.lst (a++b)):=by show(if a.length+b.length<=sizeLine then _ else _)=_;rw[Q_d (by rw[H_];omega)]
theorem Rk{w:Str}{l:List Nat}{s:Nat->Str}(M:w.length<=5)(hs:∀x,(s x).length=1)(N:l.length<=60):ip (.str " ") [.lst ([D.str w]++(l.map s).map D.str)]=some (.str (N_ " " (w::l.map s))):=jK (l:=w::l.map s) (B:=5) (fun y L=>by grind) (by rw[dc,S_,h_];omega)
theorem NA{fi:FI}{r:aL}{l:List Nat}(M:l.length<=60)(L:∀x∈l,x<7)(h:fi r=.ok (l.map nD)):cZ 1 [] fi (bC 0) (fun _=>Res.ok true) (fC (aH (gv 0) aE) gX) r=.ok (.lst ((l.map aY).map D.str)):=by refine(dC nD _ _ h (by omega) fun x B=>⟨_,rfl,rfl,fun _=>bY (aC rfl aF) (rJ (L x B))⟩).trans ?_;rw[eU,t_];rfl
theorem wp{w:Str}{fi:FI}{r:aL}{l:List Nat}(L:w.length<=5)(B:l.length<=60)(M:∀x∈l,x<7)(h:fi r=.ok (l.map nD)):fM "str" (fun _=>Res.ok (D.str " ")) (aH (f2 (jv (aH (fun _=>Res.ok (D.str w)) aE)) (cZ 1 [] fi (bC 0) (fun _=>Res.ok true) (fC (aH (gv 0) aE) gX)) addA) aE) ip r=.ok (.str (N_ " " (w::l.map aY))):=d8 rfl rfl (aC (aJ (iw (aC rfl aF) (by simp)) (NA B M h) (ES (by simp;omega))) aF) (Rk L (fun _=>rfl) B)
theorem mv:("order" : Str).length<=5:=by decide+kernel
def kj:Option (List Nat)->D
|none=>.non
|some l=>LN l
theorem MR{o:Option (List Nat)}(g:∀l,o=some l->l.length<=60/\∀x∈l,x<7):S0 [kj o]=.ok (.str (kz o)):=by
 refine cR (n:=1) ?_
 dsimp only[BS]
 cases o with
|none=>exact aU (aX ((mW (cI (aJ (a:=.non) (b:=.non) rfl rfl rfl))).trans rfl))
|some l=>exact aU (aX ((mV (cI (aJ (a:=LN l) (b:=.non) rfl rfl rfl))).trans (wp mv (g l rfl).1 (g l rfl).2 (dD (d:=LN l) rfl rfl))))
theorem MQ{W T:D}{o:Option (List Nat)}(h:xa [W,T]=.ok (kj o))(g:∀l,o=some l->l.length<=60/\∀x∈l,x<7):Tx [W,T]=.ok (.str (kz o)):=by
 refine cR (n:=3) ?_
 dsimp only[BJ]
 refine(aN (bL (aP (aC (d:=W) rfl (aC (d:=T) rfl aF)) h))).trans ?_;cases o with
|none=>exact aU ((dR (cI (aJ (a:=.non) (b:=.non) rfl rfl rfl))).trans (aU (aX rfl)))
|some l=>exact(aN ((cG (cI (aJ (a:=LN l) (b:=.non) rfl rfl rfl))).trans (e_skip _))).trans (aU (aX (wp mv (g l rfl).1 (g l rfl).2 (dD (d:=LN l) rfl rfl))))
end Law
namespace Law
open PySem PyProof.Rows L2 DL
section
variable{rows:List (List Nat)}{n m:Nat}
def lp(dl:List Nat)(h:Nat):Nat:=dl.getD h 0
theorem Dt{dl:List Nat}{h:Nat}(B:h<dl.length):(dl.map nD)[h]? = some (nD (lp dl h)):=by
 unfold lp
 grind
abbrev nC(rows:List (List Nat))(dl hands T order:List Nat)(y:Option D):aL:=[some (WD rows),some (TN dl),some (LN hands),some (LN T),some (LN order),y]
theorem Ow(R:Rws rows n m){dl:List Nat}(C:dl.length=n):∀(j:Nat)(N T U:List Nat)(y:Option D),N.length<j->N.length<=T.length->(∀h∈N,h<n)->(∀x∈T,x<m)->U.length+N.length<=60 ->match Rg.oR (Wr rows) (lp dl) j N T U with
 |some o=>∃B E u,gj ma Ce Cb j (nC rows dl N T U y)=.nx (nC rows dl B E o u)
 |none=>gj ma Ce Cb j (nC rows dl N T U y)=.rt .non:=by
 intro j
 induction j with
|zero=>grind
|succ j v=>
  intro N T U y H G c g F;unfold Rg.oR;by_cases e:N=[]
  .rw[Q_d e];refine⟨N,T,y,rF (fA (d:=LN N) rfl ?_)⟩;rw[e];rfl
  .rw[Q_e e];have p:=W4.mpr e;have q:Ce (nC rows dl N T U y)=.ok true:=by cases N with
   |nil=>exact Q_f rfl e
   |cons a t=>rfl
   have f:(aR ma 5 (cZ 1 [3,1,0] (bI cS (gv 2)) (bC 0) (cK (f2 (bM (aH (f2 (gv 3) (gv 0) bV) (aH (gv 1) aE)) [] jP) (f2 (gv 2) (gv 0) bV) eqD)) (gv 0))) (nC rows dl N T U y)=.nx (nC rows dl N T U (some (LN (Rg.served (Wr rows) (lp dl) N T)))):=by refine bL (dC (l:=N) nD _ nD rfl (by omega) fun h Z=>⟨_,rfl,?_,fun _=>rfl⟩);exact cI (aJ (aP (aC (aJ (a:=WD rows) (b:=nD h) rfl rfl (eZ (vA (by rw[R.rl];exact c h Z)))) (aC (d:=LN T) rfl aF)) (R.best (c h Z) (by omega) g)) (aJ (a:=TN dl) (b:=nD h) rfl rfl (eZ (Dt (by grind)))) (j3 _ _))
   cases z:Rg.served (Wr rows) (lp dl) N T with
  |nil=>rw[z]at f;refine PK q ?_;refine(aN f).trans ?_;exact aU ((dR (jj (b:=false) (fA (d:=LN []) rfl rfl))).trans rfl)
  |cons s t=>
    rw[z]at f;have A:s∈Rg.served (Wr rows) (lp dl) N T:=by grind
    obtain⟨k,r⟩:=n_.mp A;simp only[Q_i]at r;have Y:=R.inT (c s k) (by omega:0<T.length) g;rw[r]at Y;have M:=Yd k;have i:=v (N.erase s) (T.erase (lp dl s)) (U++[s]) (some (LN (s::t))) (by omega) (by grind) (fun h Z=>c h (Yv Z)) (fun x w=>g x (Yv w)) (by grind);have L:Cb (nC rows dl N T U y)=.nx (nC rows dl (N.erase s) (T.erase (lp dl s)) (U++[s]) (some (LN (s::t)))):=by
     refine(aN f).trans ?_;refine(aN (gc (d:=LN U) (ds:=[nD s]) rfl rfl (aC (aJ (a:=LN (s::t)) (b:=.int 0) rfl rfl (ixA_L0 _ _)) aF) (iC (by simp;omega)))).trans ?_;refine(aN (gc (d:=LN N) (ds:=[nD s]) rfl rfl (aC (aJ (a:=LN (s::t)) (b:=.int 0) rfl rfl (ixA_L0 _ _)) aF) (yM k))).trans ?_;refine(aN (gc (d:=LN T) rfl rfl (aC (aJ (a:=TN dl) (b:=nD s) rfl (aJ (a:=LN (s::t)) (b:=.int 0) rfl rfl (ixA_L0 _ _)) (eZ (Dt (by grind)))) aF) (yM Y))).trans ?_;show Out.nx [_,_,_,_,some _,_]=Out.nx [_,_,_,_,some _,_]
     grind
    rw[pP q L];exact i
theorem Uh(R:Rws rows n m){dl:List Nat}(Y:dl.length=n):xa [WD rows,TN dl]=.ok (kj (Rg.oR (Wr rows) (lp dl) 64 (g_ n) (g_ m) [])):=by
 have L:=R.n7;have M:=R.m8;have U:=R.nm;have N:=Ow R Y 64 (g_ n) (g_ m) [] none (by simp;omega) (by simp;omega) (fun h a=>p_.mp a) (fun x Z=>p_.mp Z) (by simp;omega)
 suffices h:qd.1 (cQ 6 [WD rows,TN dl])=.rt _ by show dI false (qd.1 (cQ 6 [WD rows,TN dl]))=_;rw[h];rfl
 dsimp only[qd]
 refine(aN (bL (d:=LN (g_ n)) (bY (aC (bY (aC (d:=WD rows) rfl aF) R.len) aF) (pK (by omega))))).trans ?_;refine(aN (bL (d:=LN (g_ m)) (bY (aC (aP (aC (d:=WD rows) rfl aF) R.things) aF) (pK (by omega))))).trans ?_;refine(aN (bL (d:=LN []) (iw aF (by simp)))).trans ?_;cases e:Rg.oR (Wr rows) (lp dl) 64 (g_ n) (g_ m) []with
|none=>rw[e]at N;exact aU N
|some o=>rw[e]at N;obtain⟨B,c,b,N⟩:=N;refine(aN N).trans ?_;exact aU (aX (d:=LN o) rfl)
theorem Od(R:Rws rows n m){dl:List Nat}(L:dl.length=n):∃o:Option (List Nat),(∀l,o=some l->l.length<=60/\∀x∈l,x<7)/\xa [WD rows,TN dl]=.ok (kj o):=by
 refine⟨_,fun l h=>?_,Uh R L⟩;obtain⟨N,e,M,_⟩:=Rg.Eg h;subst e;have B:=R.n7;refine⟨by rw[M.length_eq];simp;omega,fun x U=>?_⟩
 grind
end
end Law
namespace Law
open PySem PyProof.Rows L2 DL Fq
variable{rows:List (List Nat)}{owns:List (Option Nat)}{o:Option (List Nat)}{n m:Nat}
theorem Scene.tx(S:Scene rows owns o n m):Txs rows owns n m:=⟨S.n1,S.n7,S.nm,S.m8,S.rl,S.rp,S.ow,S.ol⟩
theorem Scene.rw(S:Scene rows owns o n m):Rws rows n m:=⟨S.n1,S.n7,S.nm,S.m8,S.rl,S.rp⟩
theorem vZ{h:Nat}:32∉(aY h).cps.toList:=by grind
theorem rX{w:Str}{l:List Nat}{s:Nat->Str}(N:32∉w.cps.toList)(L:w.length<=5)(hs:∀x,(s x).length=1)(Z:∀x,32∉(s x).cps.toList)(Y:l.length<=60):lQ [.str (N_ " " (w::l.map s))]=.ok (dN (w::l.map s)):=by
 refine IV (by simp) (fun p U=>?_) ?_
 .grind
 .have:=vJ (l:=w::l.map s) (B:=5) (n:=61) dc (by grind) (fun y M=>by grind);omega
theorem As{w:Str}(B:32∉w.cps.toList)(L:w.length<=5):lQ [.str w]=.ok (dN [w]):=rX (l:=[]) (s:=aY) B L (fun _=>rfl) (fun _=>vZ) (by simp)
theorem IS{w:Str}{h:Nat}(B:32∉w.cps.toList)(L:w.length<=5):lQ [.str (w++" "++aY h)]=.ok (dN [w,aY h]):=rX (l:=[h]) (s:=aY) B L (fun _=>rfl) (fun _=>vZ) (by simp)
theorem Pm{l:List (List (List Nat)×Rg.S)}(B:l.length<=60)(g:∀p∈l,qv (tS rows p.2) p.1)(h:vX [WD rows,OD owns,cE o]=.ok (.lst (l.map (ir rows)))):Lj [kD rows owns o,.lst []]=.ok (.str (ke rows l)):=by
 refine cR (n:=2) ?_
 dsimp only[B2]
 refine(aN (k9 (aP (aC (d:=.bl true) (dO (a:=.lst []) rfl rfl) aF) (lO rfl)))).trans ?_;exact aU (aX (aP (aC (aP (aC (dO (a:=kD rows owns o) rfl i9) (aC (dO (a:=kD rows owns o) rfl tz) (aC (dO (a:=kD rows owns o) rfl C6) aF))) h) aF) ((fun B g=>by
    refine cR (n:=1) ?_
    dsimp only[K2]
    have e:cZ 1 [] (bI cS (gv 0)) (bC 0) (fun _=>Res.ok true) (bM (aH (gv 0) aE) [] J4) (cQ 1 [.lst (l.map (ir rows))])=.ok (.lst ((l.map fun p=>j8 (tS rows p.2) p.1).map D.str)):=by refine(dC (l:=l) (ir rows) (fun _=>true) _ (dD (d:=.lst (l.map (ir rows))) rfl rfl) (by omega) fun p L=>⟨[some (ir rows p)],rfl,rfl,fun _=>aP (aC (d:=ir rows p) rfl aF) (Sh (g p L))⟩).trans ?_;rw[eU,t_];rfl
    exact aU (aX (d8 (d:=.str " | ") rfl rfl (aC e aF) (J7 B g)))) B g)))
theorem NT{a:Nat->Nat}{l:List Dd}(B:l.length<=60)(g:∀d∈l,d.good a)(h:zh [WD rows,OD owns,cE o]=.ok (.lst (l.map (cV a)))):K4 [kD rows owns o,.lst []]=.ok (.str (lH a l)):=by
 refine cR (n:=2) ?_
 dsimp only[B6]
 refine(aN (k9 (aP (aC (d:=.bl true) (dO (a:=.lst []) rfl rfl) aF) (lO rfl)))).trans ?_;exact aU (aX (aP (aC (aP (aC (dO (a:=kD rows owns o) rfl i9) (aC (dO (a:=kD rows owns o) rfl tz) (aC (dO (a:=kD rows owns o) rfl C6) aF))) h) aF) ((fun B g=>by
    refine cR (n:=1) ?_
    dsimp only[Kw]
    have e:cZ 1 [] (bI cS (gv 0)) (bC 0) (fun _=>Res.ok true) (bM (aH (gv 0) aE) [] JN) (cQ 1 [.lst (l.map (cV a))])=.ok (.lst ((l.map (deedS a)).map D.str)):=by refine(dC (l:=l) (cV a) (fun _=>true) (fun d=>.str (deedS a d)) (dD (d:=.lst (l.map (cV a))) rfl rfl) (by omega) fun d L=>⟨[some (cV a d)],rfl,rfl,fun _=>aP (aC (d:=cV a d) rfl aF) (QZ (g d L))⟩).trans ?_;rw[eU,t_];rfl
    exact aU (aX (d8 (d:=.str "; ") rfl rfl (aC e aF) (Jd B g)))) B g)))
theorem Uu(S:Txs rows owns n m){p l:List Nat}(B:p.Perm (g_ n))(h:AT [WD rows,LN p]=.ok (TN l))(M:∀x∈l,x<8)(L:l.length<=60):JL [kD rows owns o,dN (p.map aY)]=.ok (.str (gm l)):=by
 refine cR (n:=2) ?_
 dsimp only[Be]
 exact aU (aX (aP (aC (aP (aC (dO (a:=kD rows owns o) rfl i9) (aC (d:=LN p) (aP (aC (d:=dN (p.map aY)) rfl (aC (dO (a:=kD rows owns o) rfl i9) aF)) (J9 S B)) aF)) h) aF) (EF M L)))
theorem Uv(S:Txs rows owns n m){l:List Nat}{b:Option (List Nat)}(L:l.Nodup)(M:l.length=n)(N:∀x∈l,x<m)(h:xa [WD rows,TN l]=.ok (kj b))(g:∀l,b=some l->l.length<=60/\∀x∈l,x<7):JM [kD rows owns o,dN (l.map bT)]=.ok (.str (kz b)):=by
 refine cR (n:=2) ?_
 dsimp only[Bf]
 exact aU (aX (aP (aC (aP (aC (dO (a:=kD rows owns o) rfl i9) (aC (d:=TN l) (aP (aC (d:=dN (l.map bT)) rfl (aC (dO (a:=kD rows owns o) rfl i9) aF)) ((fun S L M N=>by
    have B:=S.n7;have e:=Bo (l:=l.map fun h=>(bT h,fL m,h)) (by grind) (fun p Y=>by obtain⟨h,Z,rfl⟩:=m_.mp Y;exact Of S.m8 (N h Z));simp only[t_]at e;have f:l.map ((fun p:Str×Str×Nat=>p.2.2)∘fun h=>(bT h,fL m,h))=l:=by simp[ZZ]
    rw[f]at e;have c:jo (.lst [.str (fL m)]) (nD n)=some (.lst (l.map ((fun p:Str×Str×Nat=>D.str p.2.1)∘fun h=>(bT h,fL m,h)))):=by rw[Gc];rw[Q_d ⟨by omega,by omega,by rw[H_];simp;omega⟩,Xg];rw[HB,<-M,<-Zm];rfl
    have U:JR [dN (l.map bT),.lst (l.map ((fun p:Str×Str×Nat=>D.str p.2.1)∘fun h=>(bT h,fL m,h)))]=.ok (LN l):=by
     refine cR (n:=3) ?_
     dsimp only[sw]
     refine(aN (bL (aP (aC (d:=dN (l.map bT)) rfl (aC rfl aF)) (by rw[show dN (l.map bT)=D.lst (l.map ((fun p:Str×Str×Nat=>D.str p.1)∘fun h=>(bT h,fL m,h)))by rw[dN,t_];rfl];exact e)))).trans ?_;refine(aN (k9 (aP (aC (d:=.bl true) (aJ (a:=nD l.length) (b:=nD l.length) (dO (a:=LN l) rfl (EN L (by omega))) (bY (aC (d:=LN l) rfl aF) (iA _ _)) (nj _)) aF) (lO rfl)))).trans (aU (aX rfl))
    refine cR (n:=2) ?_
    dsimp only[Kv]
    exact aU (aX (bY (aC (d:=LN l) (aP (aC (d:=dN (l.map bT)) rfl (aC (aJ (b:=nD n) (iw (aC (aP (aC (d:=WD rows) rfl aF) ((fun S=>by refine cR (n:=1) ?_;exact aU (aX (zc (d:=.str "ABCDEFGH") (lo:=none) (hi:=some (m:Int)) rfl rfl (hU (aP (aC (d:=WD rows) rfl aF) (Kb S))) rfl))) S)) aF) (by simp)) (bY (aC (d:=WD rows) rfl aF) (by rw[jN,S.rl])) c) aF)) U) aF) rfl))) S L M N)) aF)) h) aF) (MR g)))
theorem UQ(S:Txs rows owns n m){h:Nat}{B:List (List (Int×Nat))}{l:List (Int×Nat)}(M:h<n)(U:uK [WD rows]=.ok (iT B))(N:B[h]? = some l)(L:l.length<=60)(g:∀x∈l,So x):J0 [kD rows owns o,dN [aY h]]=.ok (.str (lN l)):=by
 refine cR (n:=3) ?_
 dsimp only[BR]
 refine(aN (bL (aP (aC (d:=dN [aY h]) rfl (aC (dO (a:=kD rows owns o) rfl i9) aF)) (HI S M)))).trans (aU (aX ?_));exact aP (aC (d:=TF l) (aJ (a:=iT B) (b:=nD h) (aP (aC (dO (a:=kD rows owns o) rfl i9) aF) U) rfl (eZ (by rw[A_,N];rfl))) aF) (Ka L g)
theorem UP(S:Txs rows owns n m){h:Nat}{B:List (List (Int×Nat))}{l:List (Int×Nat)}{d:D}(M:h<n)(N:vM [WD rows]=.ok (.tup [iT B,d]))(U:B[h]? = some l)(L:l.length<=60)(g:∀x∈l,So x):JZ [kD rows owns o,dN [aY h]]=.ok (.str (lN l)):=by
 refine cR (n:=3) ?_
 dsimp only[BQ]
 refine(aN (bL (aP (aC (d:=dN [aY h]) rfl (aC (dO (a:=kD rows owns o) rfl i9) aF)) (HI S M)))).trans (aU (aX ?_));exact aP (aC (d:=TF l) (aJ (a:=iT B) (b:=nD h) (aJ (a:=.tup [iT B,d]) (b:=nD 0) (aP (aC (dO (a:=kD rows owns o) rfl i9) aF) N) rfl (eZ (i:=0) rfl)) rfl (eZ (by grind))) aF) (Ka L g)
theorem EM(R:Rws rows n m){d:Nat->Nat}:∀(p T:List Nat),Rg.nI (Wr rows) d p T->(∀h∈p,h<n)->p.length<=T.length->(∀x∈T,x<m)->∀h∈p,d h<m
|[],_,_,_,_,_,h,L=>nomatch L
|k::p,T,s,N,Z,M,h,L=>by
  rw[S_]at Z;have B:=R.inT (N k j_) (by omega:0<T.length) M;rw[s.1]at B;rcases I_.mp L with rfl|L
  .exact M _ B
  .exact EM R p (T.erase (d k)) s.2 (fun z U=>N z (l_ _ U)) (by rw[Yd B];omega) (fun x Y=>M x (Yv Y)) h L
theorem Py(R:Rws rows n m){p:List Nat}(L:p.Perm (g_ n)):(∀x∈gA rows n m p,x<m)/\(gA rows n m p).length=n:=by have B:=R.nm;refine⟨fun x M=>?_,by unfold gA;simp⟩;obtain⟨h,U,rfl⟩:=m_.mp M;exact EM R p _ (Rg.xM p _ (L.nodup_iff.mpr Xd)) (fun z N=>p_.mp (L.mem_iff.mp N)) (by rw[L.length_eq];simp;omega) (fun x M=>p_.mp M) h (L.mem_iff.mpr U)
theorem Scene.asks(S:Scene rows owns o n m):∃(a:Nat->Nat)(l:List Dd),l.length<=60/\(∀d∈l,d.good a)/\zh [WD rows,OD owns,cE o]=.ok (.lst (l.map (cV a))):=by
 have M:=S.n7;have L:=S.m8;have B:(s0 rows o).line.length<=7:=by rw[S.line_perm.length_eq];simp;omega
 have t:=Rg.Cq (W:=Wr rows) (O:=own owns) ((s0 rows o).line.length+1) (s0 rows o) (by omega);generalize Rg.deal (Wr rows) (own owns) ((s0 rows o).line.length+1) (s0 rows o)=a at t;obtain⟨l,e,i,g,f⟩:=QW S.ord S.ne (by rw[S.rl];omega) S.snd (by omega) t;have c:∀h∈(s0 rows o).line,h<7/\a h<8:=fun h N=>by have Z:=S.mem.mp N;have U:=Rg.Cp t S.ok h N;rw[S.things]at U;have:=p_.mp U;exact⟨by omega,by omega⟩
 refine⟨a,l,i,fun d b=>?_,f⟩;have Y:∀h∈d.hands,h∈(s0 rows o).line:=fun h N=>e.mem_iff.mp (List.mem_flatMap.mpr ⟨d,b,N⟩);cases d with
|tk h=>exact c h (Y h (w_.mpr rfl))
|ah h x=>obtain⟨Z,U⟩:=g _ b;rw[S.things]at U;have:=p_.mp U;exact⟨(c h Z).1,by omega⟩
|rg r=>refine⟨?_,fun h N=>c h (Y h N)⟩;have Z:=e.length_eq;rw[List.flatMap_def]at Z;have U:(Dd.rg r).hands.length<=(l.map Dd.hands).flatten.length:=(List.sublist_flatten_of_mem (m_.mpr ⟨_,b,rfl⟩)).length_le;have j:(Dd.rg r).hands.length=r.length:=rfl;omega
theorem Scene.rings(S:Scene rows owns o n m){a:Nat->Nat}(t:Rg.TTC (Wr rows) (own owns) a (s0 rows o)):wA [WD rows,OD owns,cE o]=.ok (TN ((g_ n).map a)):=by have:=Tf S.ord S.ne (by rw[S.rl];have:=S.n7;omega) S.snd (fun h B=>S.mem.mpr (by rw[S.rl]at B;exact B)) t;rw[S.rl]at this;exact this
theorem Scene.dl(S:Scene rows owns o n m):∃l:List Nat,(∀x∈l,x<8)/\l.length<=60/\wA [WD rows,OD owns,cE o]=.ok (TN l):=by
 have t:=Rg.Cq (W:=Wr rows) (O:=own owns) ((s0 rows o).line.length+1) (s0 rows o) (by omega);generalize Rg.deal _ _ _ _=a at t;have B:=S.n7;have L:=S.m8;refine⟨_,fun x M=>?_,by simp;omega,S.rings t⟩;obtain⟨h,N,rfl⟩:=m_.mp M;have:=Rg.Cp t S.ok h (S.mem.mpr (p_.mp N));rw[S.things]at this
 grind
theorem Mo(R:Rws rows n m)(M:n<=5){h:Nat}(Y:h<n):∃(N:List (List (Int×Nat)))(l:List (Int×Nat)),uK [WD rows]=.ok (iT N)/\N[h]? = some l/\l.length<=60/\∀x∈l,So x:=by
 have B:=R.m8;have L:((jw n).map (gA rows n m)).length=fc n:=by rw[h_,vU]
 refine⟨_,shr ((jw n).map (gA rows n m)) m h,Oh R M (Aq n) (vU n) (Oc M),?_,by unfold shr;simp;omega,fun x U=>?_⟩
 .unfold sZ;rw[A_,Xf Y];rfl
 .obtain⟨t,_,rfl⟩:=m_.mp U;have Z:=yK n;have c:=xO M;have b:((nH ((jw n).map (gA rows n m)) h).count t)<=(nH ((jw n).map (gA rows n m)) h).length:=YC;have a:(nH ((jw n).map (gA rows n m)) h).length=fc n:=by unfold nH;rw[h_,L]
  exact DF (Bd.low (k:=7) (by rw[L];exact Z) (by rw[L];omega) (by rw[YX];omega)) (by decide)
theorem Mw(R:Sq rows n){h:Nat}(L:h<n):∃(N:List (List (Int×Nat)))(l:List (Int×Nat))(d:D),vM [WD rows]=.ok (.tup [iT N,d])/\N[h]? = some l/\l.length<=60/\∀x∈l,So x:=by
 have B:=R.n7;obtain⟨d,U⟩:=Q0 R;refine⟨_,qk rows n h,d,U,?_,by unfold qk;simp;omega,fun x M=>?_⟩
 .unfold tbl;rw[A_,Xf L];rfl
 .obtain⟨t,ht,rfl⟩:=m_.mp M;exact DF (lx ((fun R L M=>by have:=Fe (f:=fun x=>tbN rows n h x) (p_.mpr M);rw[NZ R L]at this;exact this) R L (p_.mp ht))) (by decide)
abbrev bW(a:Str×Str):D:=.tup [.str a.1,.str a.2]
def jA(k:D)(a:Str×Str):Prop:=∀past:List D,fX (k,past) [.str a.1]=some (.str a.2,(k,past))
abbrev rA(rows:List (List Nat))(owns:List (Option Nat))(o:Option (List Nat))(p dl:List Nat)(h n:Nat)(x7 x8:Option D):aL:=[some (WD rows),some (OD owns),some (cE o),some (LN p),some (TN dl),some (nD h),some (nD n),x7,x8]
theorem P3(S:Scene rows owns o n m){p dl:List Nat}{h:Nat}(F:p.Perm (g_ n))(hn:dl.Nodup)(R:dl.length=n)(hb:∀x∈dl,x<m)(O:h<n):∃k:List (Str×Str),k≠[]/\k.length<=60/\(∀a∈k,jA (kD rows owns o) a)/\JJ [WD rows,OD owns,cE o,LN p,TN dl,nD h]=.ok (.lst (k.map bW)):=by
 have Ty:=S.n7;have VH:=S.m8;have VI:=S.n1;have hpl:p.length=n:=by rw[F.length_eq];simp
 have KK:∀x∈p,x<7:=fun x s=>by grind
 obtain⟨rl,r1,P,r3⟩:=S.rds;obtain⟨a,w,a1,a2,a3⟩:=S.asks;obtain⟨H,d1,d2,d3⟩:=S.dl;obtain⟨b1,b2⟩:=Py S.rw F;obtain⟨bo,o1,o2⟩:=Od S.rw R;have T:=S.tx;have LT:dl.map bT≠[]:=by cases dl with|nil=>simp at R;omega|cons _ _=>simp
 have Id:("of "++gm dl:Str)=N_ " " ("of"::dl.map bT):=by rw[AF LT,show("of " : Str) = "of"++" " by kernel_rfl];rfl
 have BT:("lot "++aY h:Str) = "lot"++" "++aY h:=by rw[show("lot " : Str) = "lot"++" " by kernel_rfl]
 have Z:("eat "++aY h:Str) = "eat"++" "++aY h:=by rw[show("eat " : Str) = "eat"++" " by kernel_rfl]
 let N:List (Str×Str):=[("rings",ke rows rl),("asks",lH a w),("deal",gm H),(N_ " " ("by"::p.map aY),gm (gA rows n m p)),("of "++gm dl,kz bo)]
 have X:∀x∈N,jA (kD rows owns o) x:=by
  intro x s t;simp only[N,I_,XQ,Q_j]at s;rcases s with rfl|rfl|rfl|rfl|rfl
  .show fX _ [.str "rings"]=some (.str (ke rows rl),_);exact nU (As (by decide+kernel) (by decide+kernel)) (by decide+kernel) (Q_d rfl) (Pm r1 P r3)
  .show fX _ [.str "asks"]=some (.str (lH a w),_);exact nU (As (by decide+kernel) (by decide+kernel)) (by decide+kernel) ((Q_e (by decide+kernel)).trans (Q_d rfl)) (NT a1 a2 a3)
  .show fX _ [.str "deal"]=some (.str (gm H),_);exact nU (As (by decide+kernel) (by decide+kernel)) (by decide+kernel) ((Q_e (by decide+kernel)).trans ((Q_e (by decide+kernel)).trans (Q_d rfl))) (MP d3 d1 d2)
  .show fX _ [.str (N_ " " ("by"::p.map aY))]=some (.str (gm (gA rows n m p)),_);exact nU (rX (by decide+kernel) (by decide+kernel) (fun _=>rfl) (fun _=>vZ) (by omega)) (by decide+kernel) ((Q_e (by decide+kernel)).trans ((Q_e (by decide+kernel)).trans ((Q_e (by decide+kernel)).trans (Q_d rfl)))) (Uu T F (yO S.rw F) (fun x s=>by grind) (by omega))
  .show fX _ [.str ("of "++gm dl)]=_;rw[Id];exact nU (rX (by decide+kernel) (by decide+kernel) (fun _=>rfl) (fun _=>by grind) (by omega)) (by decide+kernel) ((Q_e (by decide+kernel)).trans ((Q_e (by decide+kernel)).trans ((Q_e (by decide+kernel)).trans ((Q_e (by decide+kernel)).trans (Q_d rfl))))) (Uv T hn R hb o2 o1)
 have e3:("of " : Str).length=3:=by decide+kernel
 have e4:("lot " : Str).length=4:=by decide+kernel
 have IO:("eat " : Str).length=4:=by decide+kernel
 have ef:(aY h).length=1:=rfl;have VJ:(gm dl).length<=120:=by have:=vJ (l:=dl.map bT) (B:=1) (n:=60) dc (by grind) (fun y hy=>by obtain⟨x,_,rfl⟩:=m_.mp hy;exact o_ 1);unfold gm;omega
 have G:lenD [WD rows]=some (nD n):=by rw[jN,S.rl]
 have Y:cZ 1 [] (bI cS (bM (aH (gv 0) (aH (gv 1) (aH (gv 2) aE))) [] vX)) (bC 0) (fun _=>Res.ok true) (fM "str" (fun _=>Res.ok (D.str "; ")) (aH (cZ 1 [] (bI cS (gv 0)) (bC 0) (fun _=>Res.ok true) (bM (aH (gv 0) aE) [] wB)) aE) ip) (rA rows owns o p dl h n none none)=.ok (.lst ((rl.map fun p=>j8 (tS rows p.2) p.1).map D.str)):=by
  refine(dC (l:=rl) (ir rows) (fun _=>true) (fun p=>.str (j8 (tS rows p.2) p.1)) (dD (aP (aC (d:=WD rows) rfl (aC (d:=OD owns) rfl (aC (d:=cE o) rfl aF))) r3) rfl) (by omega) fun q hq=>⟨[some (ir rows q)],rfl,rfl,fun _=>?_⟩).trans ?_
  .have g:=P q hq;have hg:=g.1;have e:cZ 1 [] (bI cS (gv 0)) (bC 0) (fun _=>Res.ok true) (bM (aH (gv 0) aE) [] wB) [some (ir rows q)]=.ok (.lst ((q.1.map (iq (tS rows q.2))).map D.str)):=by refine(dC (l:=q.1) (dL (tS rows q.2)) (fun _=>true) (fun r=>.str (iq (tS rows q.2) r)) (dD (d:=ir rows q) rfl rfl) (by omega) fun r hr=>⟨[some (dL (tS rows q.2) r)],rfl,rfl,fun _=>aP (aC (d:=dL (tS rows q.2) r) rfl aF) (Il (g.2 r hr).1 (g.2 r hr).2)⟩).trans ?_;rw[eU,t_];rfl
   exact d8 (d:=.str "; ") rfl rfl (aC e aF) (Jl g)
  .rw[eU,t_];rfl
 suffices hB:∃k:List (Str×Str),k≠[]/\k.length<=60/\(∀a∈k,jA (kD rows owns o) a)/\wD.1 (cQ 9 [WD rows,OD owns,cE o,LN p,TN dl,nD h])=.rt (.lst (k.map bW))by obtain⟨k,h1,h2,h3,h4⟩:=hB;exact⟨k,h1,h2,h3,cR (n:=9) h4⟩
 obtain⟨j,U⟩:∃j:Option D,some (D.lst ((rl.map fun p=>j8 (tS rows p.2) p.1).map D.str))=j:=⟨_,rfl⟩
 have g0:ie (rA rows owns o p dl h n j none) 7=.ok (.lst ((rl.map fun p=>j8 (tS rows p.2) p.1).map D.str)):=by rw[<-U];rfl
 have g1:jU (aH (fun _=>Res.ok (D.str "rings")) (aH (fM "str" (fun _=>Res.ok (D.str " | ")) (aH (gv 7) aE) ip) aE)) (rA rows owns o p dl h n j none)=.ok (.tup [.str "rings",.str (ke rows rl)]):=iy (aC (d:=.str "rings") rfl (aC (d8 (d:=.str " | ") (d':=.str (ke rows rl)) rfl rfl (aC g0 aF) (J7 r1 P)) aF)) (by simp);have g2:=iw (aC g1 aF) (by simp);have v:∀(k:List (Str×Str))(I:Str×Str)(f g:FE)(K:FS),k.length<=50->f (rA rows owns o p dl h n j (some (.lst (k.map bW))))=.ok (.str I.1)->g (rA rows owns o p dl h n j (some (.lst (k.map bW))))=.ok (.str I.2) ->aI (cJ "list" ko 8 (aH (jU (aH f (aH g aE))) aE) appD) K (rA rows owns o p dl h n j (some (.lst (k.map bW))))=K (rA rows owns o p dl h n j (some (.lst ((k++[I]).map bW)))):=fun k I f g K Tm hf hg=>aN (gc (d:=.lst (k.map bW)) (ds:=[bW I]) rfl rfl (aC (iy (aC hf (aC hg aF)) (by simp)) aF) ((fun h=>by rw[iC (by simp;omega),WX];rfl) (by omega)));have LE:∃L:List (Str×Str),L≠[]/\L.length<=6/\(∀a∈L,jA (kD rows owns o) a)/\eV ko (cK (f2 (gv 6) (ci 6) mq)) (aI (cJ "list" ko 8 (aH (jU (aH (f2 (fun _=>Res.ok (D.str "lot ")) (fC (aH (gv 5) aE) gX) addA) (aH (bM (aH (f2 (bM (aH (gv 0) aE) [] uK) (gv 5) bV) aE) [] BE) aE))) aE) appD) bR) bR (rA rows owns o p dl h n j (some (.lst (N.map bW))))=.nx (rA rows owns o p dl h n j (some (.lst (L.map bW)))):=by
  have c:=cI (aJ (f:=gv 6) (f':=fun _=>Res.ok (D.int 6)) (r:=rA rows owns o p dl h n j (some (.lst (N.map bW)))) (a:=nD n) (b:=nD 6) rfl rfl (mQ n 6));by_cases q:n<6
  .rw[Q_c q]at c;obtain⟨J,u,E,Q,C,A⟩:=Mo S.rw (by omega) O;refine⟨N++[("lot "++aY h,lN u)],by simp[N],by simp[N],fun x s=>?_,(dR c).trans ?_⟩
   .rcases W5.mp s with z|z
    .exact X x z
    .rw[w_.mp z];intro t;show fX _ [.str ("lot "++aY h)]=_;rw[BT];exact nU (IS (by decide+kernel) (by decide+kernel)) (by decide+kernel) ((Q_e (by decide+kernel)).trans ((Q_e (by decide+kernel)).trans ((Q_e (by decide+kernel)).trans ((Q_e (by decide+kernel)).trans ((Q_e (by decide+kernel)).trans (Q_d rfl)))))) (UQ T O E Q C A)
   .rw[v _ ("lot "++aY h,lN u) _ _ _ (by simp[N]) (aJ (a:=.str "lot ") (b:=.str (aY h)) rfl (bY (aC (d:=nD h) rfl aF) (rJ (by omega))) (gu (by rw[e4,ef];decide))) (aP (aC (d:=TF u) (aJ (a:=iT J) (b:=nD h) (aP (aC (d:=WD rows) rfl aF) E) rfl (eZ (by grind))) aF) (J8 C A))];rfl
  .rw[Q_b q]at c;exact⟨N,by simp[N],by simp[N],X,(cG c).trans rfl⟩
 obtain⟨L,s1,K,s3,s4⟩:=LE;have eat:∃M:List (Str×Str),M≠[]/\M.length<=60/\(∀a∈M,jA (kD rows owns o) a)/\eV ko (cK (f2 (fC (aH (f2 (gv 0) (ci 0) bV) aE) lenD) (gv 6) eqD)) (aI (cJ "list" ko 8 (aH (jU (aH (f2 (fun _=>Res.ok (D.str "eat ")) (fC (aH (gv 5) aE) gX) addA) (aH (bM (aH (f2 (f2 (bM (aH (gv 0) aE) [] vM) (ci 0) bV) (gv 5) bV) aE) [] BE) aE))) aE) appD) bR) bR (rA rows owns o p dl h n j (some (.lst (L.map bW))))=.nx (rA rows owns o p dl h n j (some (.lst (M.map bW)))):=by
  obtain⟨r0,ST,Cl⟩:=S.rw.ix0;have c:=cI (aJ (f:=fC (aH (f2 (gv 0) (ci 0) bV) aE) lenD) (f':=gv 6) (r:=rA rows owns o p dl h n j (some (.lst (L.map bW)))) (a:=nD m) (b:=nD n) (bY (aC (d:=TN r0) (aJ (a:=WD rows) (b:=.int 0) rfl rfl ST) aF) Cl) rfl (j3 m n));by_cases q:m=n
  .rw[Q_c q]at c;subst q;obtain⟨J,u,d,E,Q,C,A⟩:=Mw ⟨S.n1,S.n7,S.rl,S.rp⟩ O;refine⟨L++[("eat "++aY h,lN u)],by simp,by simp;omega,fun x s=>?_,(dR c).trans ?_⟩
   .rcases W5.mp s with z|z
    .exact s3 x z
    .rw[w_.mp z];intro t;show fX _ [.str ("eat "++aY h)]=_;rw[Z];exact nU (IS (by decide+kernel) (by decide+kernel)) (by decide+kernel) ((Q_e (by decide+kernel)).trans ((Q_e (by decide+kernel)).trans ((Q_e (by decide+kernel)).trans ((Q_e (by decide+kernel)).trans ((Q_e (by decide+kernel)).trans ((Q_e (by decide+kernel)).trans (Q_d rfl))))))) (UP T O E Q C A)
   .rw[v _ ("eat "++aY h,lN u) _ _ _ (by omega) (aJ (a:=.str "eat ") (b:=.str (aY h)) rfl (bY (aC (d:=nD h) rfl aF) (rJ (by omega))) (gu (by rw[IO,ef];decide))) (aP (aC (d:=TF u) (aJ (a:=iT J) (b:=nD h) (aJ (a:=.tup [iT J,d]) (b:=nD 0) (aP (aC (d:=WD rows) rfl aF) E) rfl (eZ (i:=0) rfl)) rfl (eZ (by grind))) aF) (J8 C A))];rfl
  .rw[Q_b q]at c;exact⟨L,s1,by omega,s3,(cG c).trans rfl⟩
 obtain⟨M,u1,u2,u3,u4⟩:=eat;refine⟨M,u1,u2,u3,?_⟩
 dsimp only[wD]
 refine(aN (r':=rA rows owns o p dl h n none none) (bL (bY (aC (d:=WD rows) rfl aF) G))).trans ?_;refine(aN (r':=rA rows owns o p dl h n j none) ?_).trans ?_
 .rw[<-U];exact bL Y
 refine(aN (r':=rA rows owns o p dl h n j (some (.lst ([(("rings" : Str),ke rows rl)].map bW)))) (bL g2)).trans ?_;refine(v [("rings",ke rows rl)] ("asks",lH a w) _ _ _ (by simp) ?_ ?_).trans ?_
 .rfl
 .exact aP (aC (aP (aC (d:=WD rows) rfl (aC (d:=OD owns) rfl (aC (d:=cE o) rfl aF))) a3) aF) (RO a1 a2)
 refine(v [("rings",ke rows rl),("asks",lH a w)] ("deal",gm H) _ _ _ (by simp) ?_ ?_).trans ?_
 .rfl
 .exact aP (aC (aP (aC (d:=WD rows) rfl (aC (d:=OD owns) rfl (aC (d:=cE o) rfl aF))) d3) aF) (yP d1 d2)
 refine(v [("rings",ke rows rl),("asks",lH a w),("deal",gm H)] (N_ " " ("by"::p.map aY),gm (gA rows n m p)) _ _ _ (by simp) ?_ ?_).trans ?_
 .exact wp (by decide+kernel) (by omega) KK (dD (d:=LN p) rfl rfl)
 .exact aP (aC (aP (aC (d:=WD rows) rfl (aC (d:=LN p) rfl aF)) (yO S.rw F)) aF) (yP (fun x s=>by grind) (by omega))
 refine(v [("rings",ke rows rl),("asks",lH a w),("deal",gm H),(N_ " " ("by"::p.map aY),gm (gA rows n m p))] ("of "++gm dl,kz bo) _ _ _ (by simp) ?_ ?_).trans ?_
 .exact aJ (a:=.str "of ") (b:=.str (gm dl)) rfl (aP (aC (d:=TN dl) rfl aF) (yP (fun x s=>by grind) (by omega))) (gu (by rw[e3];omega))
 .exact aP (aC (d:=WD rows) rfl (aC (d:=TN dl) rfl aF)) (MQ o2 o1)
 show aI _ _ (rA rows owns o p dl h n j (some (.lst (N.map bW))))=_;exact(aN (r':=rA rows owns o p dl h n j (some (.lst (L.map bW)))) s4).trans ((aN (r':=rA rows owns o p dl h n j (some (.lst (M.map bW)))) u4).trans (aU (aX rfl)))
theorem Mp(a b:Nat):minD [nD a,nD b]=some (nD (min a b)):=by
 show some _=some _
 grind
variable{past:List D}
section
variable{k:D}
theorem IH{pre:List (Option D)}(Z:pre.length=12)(v:pre[8]? = some none):∀(n:List (Str×Str))(Y U M:Option D),(∀a∈n,jA k a)->∃r p q,ph (gy (de (bC 12) (de (bC 13) gB))) qz (n.map bW) (pre++[Y,U,M]) (k,past)=.nx (pre++[r,p,q]) (k,past)
|[],Y,U,M,_=>⟨Y,U,M,rfl⟩
|a::n,Y,U,M,h=>by
  obtain⟨r,p,q,s⟩:=IH Z v n _ _ _ fun z t=>h z (l_ _ t);refine⟨r,p,q,?_⟩;rw[<-s];obtain⟨m,l,j,i,g,f,e,c,b,N,B,L,rfl⟩:∃m l j i g f e c b N B L,pre=[m,l,j,i,g,f,e,c,b,N,B,L]:=by match pre,Z with
  |[_,_,_,_,_,_,_,_,_,_,_,_],_=>grind
  have u:qz [m,l,j,i,g,f,e,c,b,N,B,L,some (.str a.1),some (.str a.2),M] (k,past)=.nx [m,l,j,i,g,f,e,c,b,N,B,L,some (.str a.1),some (.str a.2),some (.str a.2)] (k,past):=by
   refine(gS (r':=[m,l,j,i,g,f,e,c,b,N,B,L,some (.str a.1),some (.str a.2),some (.str a.2)]) (w':=(k,past)) ?_).trans ?_
   .show(match fX _ [.str a.1]with|some (d,w')=>OutD.nx _ w'|none=>.stuck)=_;rw[h a j_ past];rfl
   .refine(gS (mU ((cG ?_).trans (e_skip _)))).trans rfl;refine(fJ (jj (fA (d:=.bl true) (dO (a:=.str a.2) rfl rfl) rfl))).trans (cI (aJ rfl rfl ?_));unfold neD;rw[eqB_str,beq_self_eq_true];rfl
  show(match qz [m,l,j,i,g,f,e,c,b,N,B,L,some _,some _,M] _ with|.nx r' w'=>ph _ qz _ r' w'|o=>o)=_;rw[u];rfl
end
theorem FG{B:Type}{l:List B}{lo hi:Option Int}:∀x∈cH l lo hi,x∈l:=fun x L=>Yz (Zk L)
theorem nX{B L:Type}(f:B->L)(l:List B)(lo hi:Option Int):cH (l.map f) lo hi=(cH l lo hi).map f:=by unfold cH;rw[h_,Z6,Õ]
theorem F6{B:Type}(l:List B)(lo hi:Option Int):(cH l lo hi).length<=l.length:=by unfold cH;rw[WY,Xt];omega
theorem ET{a b:List D}(h:a.length+b.length<=1000):addE (.lst a) (.lst b)=some (.lst (a++b)):=ES h
theorem sc1:Scene [[0]] [some 0] none 1 1:=⟨by decide,by decide,by decide,by decide,rfl,fun B h=>by rw[w_.mp h];exact List.Perm.refl _,⟨fun x h=>by simp at h;omega,fun h k x M L=>by have:=(rB M).2;have:=(rB L).2;simp at *;omega⟩,rfl,fun l h=>nomatch h⟩
abbrev kE:D:=kD [[0]] [some 0] none
theorem UV:w9 [.str "A*"]=.ok kE:=by have:=HJ sc1.tx;exact this
section
variable{k:D}
theorem RI(S:Txs rows owns n m)(B:past.length<=1000):fX (k,past) [.str ("rows "++e8 rows owns)]=some (.str (e8 rows owns),(kD rows owns none,past++[k])):=by
 have U:("rows " : Str) = "rows"++" " := rfl;have e:=ZN (e8 rows owns) " ";have M:N_ " " ("rows"::Txt.split (e8 rows owns) " ") = "rows "++e8 rows owns:=by rw[AF (Am _ _),e,U]
 have Y:=AM S;have N:("rows " : Str).length=5:=by decide+kernel
 have L:=IV (ws := "rows"::Txt.split _ " ") (by simp) (fun p B=>by
  rcases I_.mp B with e|e
  .rw[e];decide+kernel
  .exact SN p e) (by rw[M,F_,N];omega)
 rw[M]at L;exact Ho S L (by decide+kernel) (by decide+kernel) (Q_d rfl) (Sa S) B
theorem RT(S:Txs rows owns n m){l:List Nat}(N:l.Perm (g_ n))(M:past.length<=1000):fX (kD rows owns o,past) [.str (N_ " " ("order"::l.map aY))]=some (.str (e8 rows owns),(kD rows owns (some l),past++[kD rows owns o])):=by
 have B:=S.n7;have L:l.length=n:=by rw[N.length_eq];simp
 exact Ho S (rX (by decide+kernel) mv (fun _=>rfl) (fun _=>vZ) (by omega)) (by decide+kernel) (by decide+kernel) ((Q_e (by decide+kernel)).trans (Q_d rfl)) ((fun S M=>by
    refine cR (n:=2) ?_
    dsimp only[B5]
    exact aU (aX (Dr (aC (dO (a:=kD rows owns o) rfl i9) (aC (dO (a:=kD rows owns o) rfl tz) (aC (d:=LN l) (aP (aC (d:=dN (l.map aY)) rfl (aC (dO (a:=kD rows owns o) rfl i9) aF)) (J9 S M)) aF)))))) S N) M
end
theorem NQ{a b:Str}(h:a.length+b.length<=10000):addA (.str a) (.str b)=some (.str (a++b)):=by show(if a.length+b.length<=sizeLine then _ else _)=_;rw[Q_d (by rw[H_];omega)]
theorem Px{B:Type}{l:List B}{n:Nat}(h:n<=l.length):cH l none (some (n:Int))=l.take n:=by unfold cH;rw[HT.dF,HT.eF,Û h];simp
section
variable{ns:List Int}{c1:Nat}{p:List Nat}{k:D}
abbrev rM(ns:List Int)(c1 n m:Nat)(rows:List (List Nat))(owns:List (Option Nat))(p:List Nat)(x6 x9 x10 x11:Option D):aL:=[some (IN ns),some (nD c1),some (nD n),some (nD m),some (WD rows),some (OD owns),x6,some (LN p),none,x9,x10,x11,none,none,none]
theorem DG{B:D->aL->Res (List D)}{F:lw}{r:aL}{w w':DW}{ds:List D}{d:D}(M:B w.1 r=.ok ds)(L:F w ds=some (d,w')):m3 B F r w=.nx r w':=by unfold m3;rw[M];show(match F w ds with|some (_,w')=>OutD.nx r w'|none=>.stuck)=_;rw[L]
theorem Uw(S:Txs rows owns n m){f:dW}:∃(o:Option (List Nat))(past:List D),Scene rows owns o n m /\bU (m3 (fun _=>aH (f2 (fun _=>Res.ok (D.str "rows ")) (bM (aH (gv 4) (aH (gv 5) aE)) [] A6) addA) aE) fX)
  (bU (mC (fun _=>cK (f2 (f2 (f2 (gv 1) (ci 42) je) (ci 2) cO) (ci 1) eqD))
  (bU (c8 fun _=>aR j7 6 (fC (aH (bM (aH (bM (aH (gv 0) (aH (ci 3) aE)) [] jS) (aH (gv 2) aE)) [] n4) aE) o8))
   (bU (m3 (fun _=>aH (fM "str" (fun _=>Res.ok (D.str " ")) (aH (f2 (jv (aH (fun _=>Res.ok (D.str "order")) aE)) (cZ 1 [] (bI cS (gv 6)) (bC 0) (fun _=>Res.ok true) (fC (aH (gv 0) aE) gX)) addA) aE) ip) aE) fX) ji)) ji) f) (rM ns c1 n m rows owns p (some .non) none none none) (kE,[])=f (rM ns c1 n m rows owns p (some (cE o)) none none none) (kD rows owns o,past):=by
 have B:=S.n7;have Y:=AM S;have v:("rows " : Str).length=5:=by decide+kernel
 have M:∀g,bU (m3 (fun _=>aH (f2 (fun _=>Res.ok _) (bM (aH (gv 4) (aH (gv 5) aE)) [] A6) addA) aE) fX) g (rM ns c1 n m rows owns p (some .non) none none none) (kE,[])=g _ _:=fun g=>
  gS (DG (aC (aJ rfl (aP (aC rfl (aC rfl aF)) ((fun S=>by
     have t:=S.zl;have B:=S.n7;obtain⟨r,k,j,i,Y⟩:=FF S _ [] none none none none (fun p U=>U) (by grind);refine cY ?_;refine(aN ((eu ((zY rfl rfl rfl rfl).trans (by rw[Ef]))).trans Y)).trans (aU (aX ?_));have Z:(("; " : Str)).length=2:=by decide+kernel
     exact d8 rfl rfl (aC rfl aF) (jK (fun y d=>by obtain⟨p,U,rfl⟩:=m_.mp d;exact wc p.2 (S.l8 _ (S.zr U).1)) (by grind))) S)) (NQ (by omega))) aF) (RI S (by simp)))
 have c:∀s:D,cK (f2 (f2 (f2 (gv 1) (ci 42) je) (ci 2) cO) (ci 1) eqD) (rM ns c1 n m rows owns p (some .non) none none none)=.ok _:=fun _=>cI (aJ (aJ (aJ rfl rfl (pG (by decide) (by decide))) rfl (m6 (by decide))) rfl (j3 _ _));by_cases q:c1/42%2=1
 .obtain⟨c3,Z⟩:=n0 ns 3 (by decide);obtain⟨l,N,a⟩:=vO c3 n (by omega);have L:l.length=n:=by rw[N.length_eq];simp
  have h:∀x∈l,x<7:=fun x u=>by grind
  refine⟨some l,[kE,kD rows owns none],⟨S.n1,S.n7,S.nm,S.m8,S.rl,S.rp,S.ow,S.ol,fun b e=>by cases e;exact N⟩,(M _).trans (gS ((oN (by rw[c .non,Q_c q])).trans ?_))⟩;refine(gS (mU (bL (bY (aC (aP (aC (aP (aC rfl (aC rfl aF)) Z) (aC rfl aF)) a) aF) rfl)))).trans ?_;refine(gS (DG (aC (wp mv (by omega) h (dD rfl rfl)) aF) (RT S N (by simp)))).trans rfl
 .exact⟨none,[kE],⟨S.n1,S.n7,S.nm,S.m8,S.rl,S.rp,S.ow,S.ol,fun b e=>(nomatch e)⟩,(M _).trans ((gS ((tJ (by rw[c .non,Q_b q])).trans rfl)))⟩
theorem UZ(ns:List Int):yz kE [IN ns]=.ok (.bl true):=by
 obtain⟨c1,h1⟩:=n0 ns 1 (by decide);obtain⟨c2,h2⟩:=n0 ns 2 (by decide);obtain⟨c4,h4⟩:=n0 ns 4 (by decide);obtain⟨c5,h5⟩:=n0 ns 5 (by decide);obtain⟨l,X⟩:=n0 ns 6 (by decide);have LT:c1%7<7:=ZM _ (by decide);generalize R:1+c1%7=n;generalize t:min 8 (n+c1/7%3*(c1/21%2))=m;have Y:1<=n:=by omega
 have M:n<=7:=by omega
 have U:m<=8:=by rw[<-t];exact Nat.min_le_left _ _
 have Id:n<=m:=by rw[<-t];exact Nat.le_min.mpr ⟨by omega,Nat.le_add_right _ _⟩
 obtain⟨N,J,I,H⟩:=Sj ns 7 n m (by decide) (by omega) (by omega);obtain⟨c,G,F,E⟩:=P5 c2 n m (by omega) (by omega);obtain⟨p,P,O⟩:=vO c4 n (by omega);obtain⟨g,s,K⟩:=vO c5 m (by omega);have S:Txs N c n m:=⟨Y,M,Id,U,J,I,G,F⟩
 have LE:g.length=m:=by rw[s.length_eq];simp
 refine cY (B:=uQ kE) (n:=15) ?_;unfold uQ;refine(aN (bL (d:=nD c1) (aP (aC (d:=IN ns) rfl (aC (d:=nD 1) rfl aF)) h1))).trans ?_;refine(aN (bL (d:=nD n) (aJ (a:=nD 1) (b:=nD (c1%7)) rfl (aJ (a:=nD c1) (b:=nD 7) rfl rfl (m6 (by decide))) (by rw[nc,R])))).trans ?_;refine(aN (bL (d:=nD m) (bY (aC (d:=nD 8) rfl (aC (d:=nD (n+c1/7%3*(c1/21%2))) (aJ (a:=nD n) (b:=nD (c1/7%3*(c1/21%2))) rfl (aJ (a:=nD (c1/7%3)) (b:=nD (c1/21%2)) (aJ (a:=nD (c1/7)) (b:=nD 3) (aJ (a:=nD c1) (b:=nD 7) rfl rfl (pG (by decide) (by decide))) rfl (m6 (by decide))) (aJ (a:=nD (c1/21)) (b:=nD 2) (aJ (a:=nD c1) (b:=nD 21) rfl rfl (pG (by decide) (by decide))) rfl (m6 (by decide))) ((fun hb=>by rw[GC (.inr ⟨by omega,by omega⟩)];show some _=some (D.int _);rw[YS]) (by omega))) (nc _ _)) aF)) (by rw[Mp,t])))).trans ?_;refine(aN (bL (d:=WD N) (aP (aC (d:=IN ns) rfl (aC (d:=nD 7) rfl (aC (d:=nD n) rfl (aC (d:=nD m) rfl aF)))) H))).trans ?_;refine(aN (bL (d:=OD c) (aP (aC (aP (aC (d:=IN ns) rfl (aC (d:=nD 2) rfl aF)) h2) (aC (d:=nD n) rfl (aC (d:=nD m) rfl aF))) E))).trans ?_;refine(aN (bL (d:=.non) rfl)).trans ?_;refine(aN (bL (d:=LN p) (bY (aC (d:=TN p) (aP (aC (aP (aC (d:=IN ns) rfl (aC (d:=nD 4) rfl aF)) h4) (aC (d:=nD n) rfl aF)) O) aF) rfl))).trans ?_
 suffices h:∃w,qy (rM ns c1 n m N c p (some .non) none none none) (kE,[])=.rt (.bl true) w by obtain⟨w,h⟩:=h;show qD 8 kE qy _=_;unfold qD;show(match qy (rM ns c1 n m N c p (some .non) none none none) (kE,[])with|.rt d _=>Out.rt d|_=>.stuck)=_;rw[h]
 unfold qy;obtain⟨o,past,Sc,L⟩:=Uw (ns:=ns) (c1:=c1) (p:=p) S;refine⟨(kD N c o,past),L.trans ?_⟩;have v:(g.take n).length=n:=by rw[WY];omega
 obtain⟨e,a1,a2,y,a4⟩:=P3 Sc (p:=p) (dl:=g.take n) (h:=l%n) P ((s.nodup_iff.mpr Xd).sublist (ZP _ _)) v (fun x Q=>p_.mp (s.mem_iff.mp (Zk Q))) (ZM _ (by omega));have BT:0<e.length:=W4.mpr a1;have C:∀A z r q:Option D,bM (aH (gv 0) (aH (ci 6) aE)) [] jS (rM ns c1 n m N c p A z r q)=.ok (nD l):=fun A z r q=>aP (aC (d:=IN ns) rfl (aC (d:=nD 6) rfl aF)) X;refine(gS (r':=rM ns c1 n m N c p (some (cE o)) (some (TN (g.take n))) none none) (mU (bL (d:=TN (g.take n)) (qY (d:=TN g) (aP (aC (aP (aC (d:=IN ns) rfl (aC (d:=nD 5) rfl aF)) h5) (aC (d:=nD m) rfl aF)) K) rfl (hU (i:=(n:Int)) rfl) (by show some (D.tup (cH (g.map nD) none (some (n:Int))))=_;rw[nX,Px (by omega)]))))).trans ?_;refine(gS (r':=rM ns c1 n m N c p (some (cE o)) (some (TN (g.take n))) (some (.lst (e.map bW))) none) (mU (bL (d:=.lst (e.map bW)) (aP (aC (d:=WD N) rfl (aC (d:=OD c) rfl (aC (d:=cE o) rfl (aC (d:=LN p) rfl (aC (d:=TN (g.take n)) rfl (aC (d:=nD (l%n)) (aJ (a:=nD l) (b:=nD n) (C _ _ _ _) rfl (m6 (by omega))) aF)))))) a4)))).trans ?_;refine(gS (r':=rM ns c1 n m N c p (some (cE o)) (some (TN (g.take n))) (some (.lst (e.map bW))) (some (nD (l/7%e.length)))) (mU (bL (d:=nD (l/7%e.length)) (aJ (a:=nD (l/7)) (b:=nD e.length) (aJ (a:=nD l) (b:=nD 7) (C _ _ _ _) rfl (pG (by decide) (by decide))) (bY (aC (d:=.lst (e.map bW)) rfl aF) (iA _ _)) (m6 BT))))).trans ?_;generalize KK:(l/7%e.length)=f;have k1:=F6 e (some (f:Int)) none;have k2:=F6 e none (some (f:Int));obtain⟨Z,IO,Cl,T⟩:=IH (k:=kD N c o) (past:=past) (pre:=[some (IN ns),some (nD c1),some (nD n),some (nD m),some (WD N),some (OD c),some (cE o),some (LN p),none,some (TN (g.take n)),some (.lst (e.map bW)),some (nD f)]) rfl rfl (cH e (some (f:Int)) none++cH e none (some (f:Int))++e) none none none (fun a j=>by
  rcases W5.mp j with j|j
  .rcases W5.mp j with j|j
   .exact y a (FG a j)
   .exact y a (FG a j)
  .exact y a j)
 refine(gS (r':=[some (IN ns),some (nD c1),some (nD n),some (nD m),some (WD N),some (OD c),some (cE o),some (LN p),none,some (TN (g.take n)),some (.lst (e.map bW)),some (nD f),Z,IO,Cl]) (w':=(kD N c o,past)) ?_).trans (uG (xN (aX rfl)));have u:bI cS (f2 (f2 (fP (gv 10) (jd (gv 11)) (fun _=>Res.ok none)) (fP (gv 10) (fun _=>Res.ok none) (jd (gv 11))) addE) (gv 10) addE) (rM ns c1 n m N c p (some (cE o)) (some (TN (g.take n))) (some (.lst (e.map bW))) (some (nD f)))=.ok ((cH e (some (f:Int)) none++cH e none (some (f:Int))++e).map bW):=by
  rw[WX,WX,<-nX,<-nX];refine dD (d:=.lst (cH (e.map bW) (some (f:Int)) none++cH (e.map bW) none (some (f:Int))++e.map bW)) (aJ (a:=.lst (cH (e.map bW) (some (f:Int)) none++cH (e.map bW) none (some (f:Int)))) (b:=.lst (e.map bW)) (aJ (a:=.lst (cH (e.map bW) (some (f:Int)) none)) (b:=.lst (cH (e.map bW) none (some (f:Int)))) (qY (d:=.lst (e.map bW)) rfl (hU (i:=(f:Int)) rfl) rfl rfl) (qY (d:=.lst (e.map bW)) rfl rfl (hU (i:=(f:Int)) rfl) rfl) (ET ?_)) rfl (ET ?_)) rfl
  .rw[nX,nX,h_,h_];omega
  .rw[nX,nX,M_,h_,h_,h_];omega
 unfold yH;rw[u];exact T
def Cr:List D->Res D:=yz kE
theorem main(ns:List Int)(_:ns.length<=63):Cr [.lst (ns.map .int)]=.ok (.bl true):=UZ ns
end
end Law
namespace Law
open PySem PySem.Spec PyProof.Rows L2 DL
theorem Us{a:Heap}{w:P_}{K:W.Frag}{N:Str->Option a_}{P:E_}(T:Txt K N){e:Addr}{d:Xv}(A:Fun K "law" "law" pr e d)(U:MethAt K "Desk" "undo" "Desk.undo" mP)(Y:MethAt K "Desk" "tell" "Desk.tell" mO)(B:MakeAt K N "Desk" "Desk" "Desk.__init__" mZ)(L:QAt P w K N "QUESTIONS" iL)(M:QAt P w K N "CHANGES" jm):FnOk P w K N a f8 11 e d zj (nE K false [Md.sh] Cr):=by
 obtain⟨C,f,Z,i,b,r⟩:=B.ex;have g:∀c,XN K "Desk" c->c=C:=fun c h=>by obtain⟨j,_,_,u,_⟩:=U.ex;rw[u c h,u C b]
 exact Oy T A (Oz T b Y L M (OA T b U)) (Q5 T b g B UV)
end Law
open PySem PySem.W PyProof.Rows
namespace Law
open PySem PySem.Spec PyProof.Rows L2 DL
theorem Up{K:W.Frag}{h:Heap}{g:Str->Option a_}(i:K.In h)(G:h.Ns U_ g){L B:Addr}{f:Addr}{z x V3 H j C:a_}{y I:Option Addr}{V8:Array (Option a_)}{e:Addr}{w E V6 u k F:a_}{t O:Option Addr}{P:Array (Option a_)}{M:Addr}{VX VN ST VV Z VH:a_}{VU VJ:Option Addr}{Tm:Array (Option a_)}{U:Addr}{VO VL LT VR Y Ty:a_}{VI VP:Option Addr}{LE:Array (Option a_)}(WH:W.nsIn K U_ "Kept" = some (some (.ref L)))(l:W.nsIn K U_ "Desk" = some (some (.ref B)))(T:DL.lS K L (Yl "Kept")=true)(WA:DL.on K "Kept" L=true)(WG:W.plainGet K L Yr=true)(WJ:W.hasDictIn K L=true)(WK:W.plainOver K L=true)(WF:W.findIn K (.ref L) "__setattr__" = some (some (.builtin "object.__setattr__")))(WN:DL.lS K B (Yl "Desk")=true)(WE:DL.on K "Desk" B=true)(WI:W.plainGet K B Yr=true)(m:W.hasDictIn K B=true)(WO:W.plainOver K B=true)(WB:W.findIn K (.ref B) "__setattr__" = some (some (.builtin "object.__setattr__")))(R:W.findIn K (.ref B) "kept" = some none)(V1:W.findIn K (.ref L) "order" = some none)(V5:W.findIn K (.ref L) "owns" = some none)(V2:W.findIn K (.ref B) "past" = some none)(V0:W.findIn K (.ref L) "wishes" = some none)(n:W.makesIn K L=true)(WM:W.findIn K (.ref L) "__init__" = some (some (.ref f)))(WP:W.isFn K (.ref f)=true)(WL:W.keepIn K (.ref L)=true)(r:K.lookup f=some ⟨z,y,.func (W.fnOf "__init__" "Kept.__init__" (L2.bH Law.nR) (L2.aS Law.nR) (L2.aA Law.nR) .none x V3 H I j C),V8⟩)(s:W.codeIn K j "Kept.__init__" = true)(v:W.keepIn K (.ref f)=true)(o:W.makesIn K B=true)(WC:W.findIn K (.ref B) "__init__" = some (some (.ref e)))(WQ:W.isFn K (.ref e)=true)(X:W.keepIn K (.ref B)=true)(p:K.lookup e=some ⟨w,t,.func (W.fnOf "__init__" "Desk.__init__" (L2.bH Law.mZ) (L2.aS Law.mZ) (L2.aA Law.mZ) .none E V6 u O k F),P⟩)(A:W.codeIn K k "Desk.__init__" = true)(J:W.keepIn K (.ref e)=true)(Q:W.findIn K (.ref B) "undo" = some (some (.ref M)))(V9:W.isFn K (.ref M)=true)(VZ:K.lookup M=some ⟨VX,VU,.func (W.fnOf "undo" "Desk.undo" (L2.bH Law.mP) (L2.aS Law.mP) (L2.aA Law.mP) .none VN ST VV VJ Z VH),Tm⟩)(VW:W.codeIn K Z "Desk.undo" = true)(VQ:W.keepIn K (.ref M)=true)(V4:W.findIn K (.ref B) "tell" = some (some (.ref U)))(V7:W.isFn K (.ref U)=true)(VY:K.lookup U=some ⟨VO,VI,.func (W.fnOf "tell" "Desk.tell" (L2.bH Law.mO) (L2.aS Law.mO) (L2.aA Law.mO) .none VL LT VR VP Y Ty),LE⟩)(VS:W.codeIn K Y "Desk.tell" = true)(VT:W.keepIn K (.ref U)=true):(DL.gW K "kept" Law.xS)/\(DL.gW K "order" Law.vE)/\(DL.gW K "owns" Law.qM)/\(DL.gW K "past" Law.xT)/\(DL.gW K "wishes" Law.rc)/\(DL.MakeAt K g "Kept" "Kept" "Kept.__init__" Law.nR)/\(DL.MakeAt K g "Desk" "Desk" "Desk.__init__" Law.mZ)/\(DL.MethAt K "Desk" "undo" "Desk.undo" Law.mP)/\(DL.MethAt K "Desk" "tell" "Desk.tell" Law.mO):=by
 have d:=DL.LG T WA WG WJ WK WF;have a:=DL.LG WN WE WI m WO WB;exact⟨DL.sE [((Yl "Desk"),B)] (by intro q N;simp  at N;rcases N with rfl <;> first|exact⟨a,R⟩) (fun b h=>by
   have c:=X1.mp h
   grind),DL.sE [((Yl "Kept"),L)] (by intro q N;simp  at N;rcases N with rfl <;> first|exact⟨d,V1⟩) (fun b h=>by
   have c:=X1.mp h
   grind),DL.sE [((Yl "Kept"),L)] (by intro q N;simp  at N;rcases N with rfl <;> first|exact⟨d,V5⟩) (fun b h=>by
   have c:=X1.mp h
   grind),DL.sE [((Yl "Desk"),B)] (by intro q N;simp  at N;rcases N with rfl <;> first|exact⟨a,V2⟩) (fun b h=>by
   have c:=X1.mp h
   grind),DL.sE [((Yl "Kept"),L)] (by intro q N;simp  at N;rcases N with rfl <;> first|exact⟨d,V0⟩) (fun b h=>by
   have c:=X1.mp h
   grind),DL.LS d (W.mg_of i G WH) n WM WP WL (L2.fO r s v),DL.LS a (W.mg_of i G l) o WC WQ X (L2.fO p A J),DL.LU a Q V9 (L2.fO VZ VW VQ),DL.LU a V4 V7 (L2.fO VY VS VT)⟩
end Law
namespace PySem.W.Fast
def tw11595374030437713641:=0
def tw4580449611713371773:=0
def tw2416492378249822567:=0
def tw13268831498402940858:=0
def tw12933789745672913100:=0
def tw6525529591538001692:=0
def tw318122362629008846:=0
def tw2155919043070407719:=0
def tw12366885632498112658:=0
def tw17509915595382197720:=0
def tw12992473303658721869:=0
def tw4860432558615809950:=0
def tw16237294866842045938:=0
def tw3683827321497867660:=0
def tw7291813995475813844:=0
def tw4122485143447016346:=0
def tw1459364955946150652:=0
def tw9891210278326746086:=0
def tw9103944282988319358:=0
def tw17936327933868349684:=0
def tw16379879802657544891:=0
def tw15764141377444644079:=0
def tw18360551724272332199:=0
def tw8721440500836826944:=0
def tw7051849999553565466:=0
def tw17142507435163697353:=0
def tw12988418854838749929:=0
def tw7121105862579760048:=0
def tw18385110888388760619:=0
def tw17578680511735320936:=0
def tw13116840199768309873:=0
def tw8073238111469238895:=0
def tw17045908250553944808:=0
def tw8930453075482638122:=0
def tw12977016854384294761:=0
def tw344129022846576832:=0
def tw3308883228637486090:=0
def tw7583871937968810273:=0
def tw995713845422014143:=0
def tw17107288670948652299:=0
def tw8290861211602599052:=0
def tw11369132680608490375:=0
def tw3804442589582699435:=0
def tw10696774796854877576:=0
def tw10232986323433285131:=0
def tw9975988480815216776:=0
def tw6358287726802645747:=0
def tw11932867840848771671:=0
def tw13258531980097357721:=0
def tw12013447589205659305:=0
def tw8102352994406939083:=0
def tw17019330025152493745:=0
def tw7667560782246370458:=0
def tw12373002052830672032:=0
def tw13120957226303332953:=0
def tw4467041508107025663:=0
def tw11031389303265967470:=0
def tw1531182993341319206:=0
def tw4056354086343247561:=0
def tw11276048458768149577:=0
def tw4133465011527139784:=0
def tw16332281690367966117:=0
def tw12696358368282096540:=0
def tw7853640942472325848:=0
def tw10947666004075917588:=0
def tw6071204526371381851:=0
def tw7534779608416874505:=0
def tw3149378280590698088:=0
def tw12040545882037907849:=0
def tw15859796398181989:=0
def tw15458818644462494536:=0
def tw2339884613100967420:=0
def tw1827505849821847137:=0
def tw2430437201627102430:=0
def tw9550722160772195010:=0
def tw8522342050529530676:=0
def tw8874516005659491910:=0
def tw14150249076578354956:=0
def tw11340576267599061311:=0
def tw1664698470797142215:=0
def tw7426887980892319162:=0
def tw560343664272248309:=0
def tw12475473061267452370:=0
def tw16548894843204304347:=0
def tw8723387381638346966:=0
def tw14909614873354496452:=0
def tw6599784856221874738:=0
def tw3821497804040162660:=0
def tw9405562233403683116:=0
def tw9051690939461555107:=0
def tw9590143428442864804:=0
def tw10473379756974482182:=0
def tw16081825083708782133:=0
def tw5832505443847112978:=0
def tw4930156433502830794:=0
def tw8762911835201575435:=0
def tw1086839299278737880:=0
def tw4706243640636674155:=0
def tw17531604963796435234:=0
def tw17355462366353456233:=0
def tw11996550835924981160:=0
def tw3751977724821336031:=0
def tw16804980849391041429:=0
def tw5498033325299141307:=0
def tw8101765411984657786:=0
def tw7968900316213870526:=0
def tw4985368557685944927:=0
def tw16312820256153366488:=0
def tw12860233950486183979:=0
def tw17446033829074005551:=0
def tw14749826556226561394:=0
def tw18375542778309598903:=0
def tw4717859038812178038:=0
def tw6969305527206980734:=0
def tw3100483099272258024:=0
def tw4293493691706549894:=0
def tw5017126137454028336:=0
def tw10380884225916755373:=0
def tw6978323314429396624:=0
def tw16795411837090100011:=0
def tw15865522046051672079:=0
def tw16822462292203714727:=0
def tw15023954876643891818:=0
def tw15834060996774192444:=0
def tw6167669082476987705:=0
def tw15260440437615501754:=0
def tw5389080069801504897:=0
def tw17226150682000083939:=0
def tw26990028326509845:=0
def tw5529235432878783577:=0
def tw8022818138022523328:=0
def tw2149742480341083408:=0
def tw1481081592686956559:=0
def tw17628697775995324153:=0
def tw2271318106527111578:=0
def tw2408934729279175781:=0
def tw15729380415290685006:=0
def tw2536749304193072404:=0
def tw10134569528582983078:=0
def tw4775345269201189110:=0
def tw507052723077540673:=0
def tw7205442118725984374:=0
def tw15737007634262950180:=0
def tw15452933438120953765:=0
def tw14341293629000208380:=0
def tw3118352671248769646:=0
def tw8651933562770586747:=0
def tw3825112083586408433:=0
def tw17986628516590878627:=0
def tw9092169682466056452:=0
def tw7892167569870079355:=0
def tw11432880361570351871:=0
def tw1270469170934641706:=0
def tw1110695863898090879:=0
def tw5540762863008879392:=0
def tw4242800093935528382:=0
def tw15322158131542847478:=0
def tw5633086006528959195:=0
def tw7025623116058150722:=0
def tw8756597170561247057:=0
def tw4766854119442952550:=0
def tw4650798325419810644:=0
def tw8394829792705684236:=0
def tw16702642068662141672:=0
def tw6341473240585274647:=0
def tw11391192884184541309:=0
def tw12285398182528286525:=0
def tw9448682688917265365:=0
def tw14956949990619792718:=0
def tw15827912131501954550:=0
def tw17549220254618780028:=0
def tw2071948049741226498:=0
def tw8812037681680546740:=0
def tw8027538855144657973:=0
def tw2266266326626398742:=0
def tw17701657329239106777:=0
def tw11046832643165238551:=0
def tw1761138966021768306:=0
def tw11999051885655967709:=0
def tw10526864157693062788:=0
def tw17628069781248962465:=0
def tw2268772564299967351:=0
def tw6470823321790071977:=0
def tw15762482823389050335:=0
def tw11679001577381902056:=0
def tw10618661492799301377:=0
def tw11633064250770329334:=0
def tw17520687033459231854:=0
def tw2888889079127864045:=0
def tw40065182118571331:=0
def tw13659521526176088524:=0
def tw13870630740570350690:=0
def tw712323454943601655:=0
def tw11281584692243567232:=0
def tw9123367514356278884:=0
def tw15066044533556790976:=0
def tw17436002249755156597:=0
def tw2238724178674244507:=0
def tw6644928095975119962:=0
def tw4385003706619195491:=0
def tw15120604719808092978:=0
def tw3826264620327092937:=0
def tw1536922529919505116:=0
def tw12385512224793446292:=0
def tw6468518457572719320:=0
def tw258592894567276216:=0
def tw11721136897789675679:=0
def tw9557731637730813093:=0
def tw15385988925716777574:=0
def tw3580880636821791549:=0
def tw2737321675778587351:=0
def tw2181790838766756984:=0
def tw3396965063191302423:=0
def tw16129789497979446391:=0
def tw15403399663843426759:=0
def tw11096377747390587203:=0
def tw1660237451024724133:=0
def tw154249752881773897:=0
def tw10850319985529505480:=0
def tw5510899355127510982:=0
def tw2501428331975393766:=0
def tw14737882690010388958:=0
def tw1839180301183419182:=0
def tw7124826504682614287:=0
def tw2646364093801231778:=0
def tw8756283173810648511:=0
def tw1776363747853604902:=0
def tw4899351699482733173:=0
def tw793855349327921110:=0
def tw7996076011294256588:=0
def tw12310484034764746616:=0
def tw12601812759449715639:=0
def tw3855619948268688562:=0
def tw14407734567656368278:=0
def tw1924840410859727074:=0
def tw12419202304043817039:=0
def tw8819110460556962125:=0
def tw15791914883413168112:=0
def tw4676266333658069857:=0
def tw2656048790530232572:=0
def tw5252857332559361815:=0
def tw8006334941483666974:=0
def tw15905799172526423651:=0
def tw5113694162442242716:=0
def tw15986641497932672533:=0
def tw9386799700050721701:=0
def tw18212563132300216722:=0
def tw3281098860822015427:=0
def tw2901821267170325487:=0
def tw1253387891335652945:=0
def tw8662026921339268168:=0
def tw6757523494337015275:=0
def tw3149385701852887560:=0
def tw14255778502883267947:=0
def tw1142678607362905178:=0
def tw7904182029430878368:=0
def tw5625688944647999633:=0
def tw16051312368662110499:=0
def tw6395310615749925450:=0
def tw11179273174594712209:=0
def tw15312949387538162880:=0
def tw5991812892215499939:=0
def tw9416614823466266715:=0
def tw7442831495168964683:=0
def tw1994048149971000468:=0
def tw8793609411733610384:=0
def tw15892461316869225710:=0
def tw1320755357868259933:=0
def tw17784689031984830336:=0
def tw1628841573087478682:=0
def tw1814021503372454401:=0
def tw6987378910044463976:=0
def tw15259103594605204192:=0
def tw4307557245140429216:=0
def tw6978402897929002520:=0
def tw5230541032948544713:=0
def tw5481705916427432188:=0
def tw15688277952489951258:=0
def tw659807696190568242:=0
def tw8936026987238949621:=0
def tw14894223167192067410:=0
def tw496026890634155388:=0
def tw368979489078465084:=0
def tw12043243115282172902:=0
def tw9763629456962163832:=0
def tw2803824869516740229:=0
def tw11708993293241123456:=0
def tw868921280844242068:=0
def tw16163236298738792493:=0
def tw6322275487538590801:=0
def tw3719850510808525333:=0
def tw5830555782766061155:=0
def tw6755100036876197084:=0
def tw12873732142887181559:=0
def tw11984702058846111120:=0
def tw9593141732185756987:=0
def tw5997007802513058497:=0
def tw7913006074399805844:=0
def tw8380529617284975166:=0
def tw1478331026433633080:=0
def tw12617617288388680903:=0
def tw6773965160406835122:=0
def tw7447867729606181325:=0
def tw11608855876586932657:=0
def tw13124398190243146102:=0
def tw7874885154875943273:=0
def tw757175531015624502:=0
def tw4367013886341916013:=0
def tw3501007212439168169:=0
def tw145249459734020123:=0
def tw11643800066632294937:=0
def tw12941909602487975819:=0
def tw15372516149795733090:=0
def tw590430837945331625:=0
def tw7217112424910418846:=0
def tw7423545108059350646:=0
def tw17593864566171722523:=0
def tw12469663852217634068:=0
def tw11479968482580609357:=0
def tw721973749942616996:=0
def tw8838858032456604521:=0
def tw13287133205667397176:=0
def tw6981783738024422751:=0
def tw5345971743188993308:=0
def tw2279284684131152268:=0
def tw2417512568550924046:=0
def tw18304597240998983206:=0
def tw16241974176452283057:=0
def tw9384396521304152904:=0
def tw3237082390847995272:=0
def tw11545120660651034234:=0
def tw13799489499607559154:=0
def tw19231556206374959:=0
def tw4169874679985838652:=0
def tw1959342815458180299:=0
def tw9790589327120573088:=0
def tw1539221408411938626:=0
def tw7150989441077729356:=0
def tw4952842526855773375:=0
def tw9978332720132211046:=0
def tw13953207975871520856:=0
def tw8714555454900707769:=0
def tw9540075565827121842:=0
def tw14646898672346644924:=0
def tw14517286729877255570:=0
def tw4974209300510178159:=0
def tw488261682721075283:=0
def tw13385992180998065574:=0
def tw6614084477199687908:=0
def tw5934454699059658505:=0
def tw10952416697386268259:=0
def tw16520032676590478113:=0
def tw10065738726019707805:=0
def tw11347315549967009992:=0
def tw3974204611942598333:=0
def tw2028868384858056143:=0
def tw4316562027232753411:=0
def tw16282602943679120115:=0
def tw5724143175040191142:=0
def tw15603057551594182110:=0
def tw14977134041398908237:=0
def tw16631295446020451577:=0
def tw12228017287927761735:=0
def tw6844692235711955901:=0
def tw13047777523677914086:=0
def tw18163903689431773879:=0
def tw3020097701209255629:=0
def tw9995264239900127288:=0
def tw10373557227290209522:=0
def tw14321289136073270685:=0
def tw14163164068992809170:=0
def tw6400664495461375736:=0
def tw5584503212484288224:=0
def tw13415209699204711847:=0
def tw17411571218237716092:=0
def tw17113331575765114539:=0
def tw9873996461659845113:=0
def tw19428134386372496:=0
def tw795759226172772155:=0
def tw2704026944067731176:=0
def tw12264935117373321633:=0
def tw5416617004774867963:=0
def tw14083571525170346568:=0
def tw16674331490206018899:=0
def tw17192469727656674141:=0
def tw13753615137738077185:=0
def tw566962073587422893:=0
def tw14145718855194332749:=0
def tw274009299528451973:=0
def tw4177152471690649809:=0
def tw6805461851283667473:=0
def tw5455543083729777343:=0
def tw16398222340232706721:=0
def tw2402209453785659629:=0
def tw17939882282141529849:=0
def tw17290164517280698228:=0
def tw2619057439728824218:=0
def tw2188674835114968741:=0
def tw9051375318167856284:=0
def tw12677089085399127724:=0
def tw12695200486225460585:=0
def tw8271156853374136601:=0
def tw2935421055397813381:=0
def tw979730019019986894:=0
def tw7859819812276427953:=0
def tw8113441384006007118:=0
def tw3253503943453018880:=0
def tw14129048450653660011:=0
def tw16547321921732197731:=0
def tw15683771079512937369:=0
def tw2179648010216667645:=0
def tw17234939287985588719:=0
def tw208420118118620922:=0
def tw1805424134106320270:=0
def tw17396991953996890827:=0
def tw13280324908462856855:=0
def tw1506257161405632746:=0
def tw16648877672986520854:=0
def tw1857068619090593999:=0
def tw8661674319436344155:=0
def tw1167554489687438632:=0
def tw8087015484959000796:=0
def tw16119143666373586717:=0
def tw1057609478022278098:=0
def tw16709074157305042417:=0
def tw627021993644652920:=0
def tw1910672583123698043:=0
def tw948426739250036978:=0
def tw9858647050061948447:=0
def tw12743151649668322939:=0
def tw8671240213686136950:=0
def tw1125333471863378870:=0
def tw16173419729707768967:=0
def tw5619937341083337150:=0
def tw11235716249469015834:=0
def tw11879646749970013254:=0
def tw18229148708777534305:=0
def tw12086967240543124304:=0
def tw2671706923560294483:=0
def tw10428649937200020257:=0
def tw2505378228287813014:=0
def tw12694478117607157551:=0
def tw8666124035675579412:=0
def tw10318171637662813758:=0
def tw3714553590149095179:=0
def tw16669331140179944846:=0
def tw9192397794163252032:=0
def tw12480597662401302849:=0
def tw6591765501790658648:=0
def tw17170270386002130351:=0
def tw4877030387896481688:=0
def tw7807758836170767247:=0
def tw15997878308097630581:=0
def tw4322158215338086874:=0
def tw13028885856031360944:=0
def tw4626490274870752585:=0
def tw3337978543730557371:=0
def tw8107187767324751383:=0
def tw9110465468277095899:=0
def tw10258206481917293040:=0
def tw12149581209573074394:=0
def tw6470664885914889118:=0
def tw8982384165862994698:=0
def tw7632070660567699661:=0
def tw2300020205681899059:=0
def tw7509382587510990154:=0
def tw12872175813130813754:=0
def tw4387367514506284613:=0
def tw2923076378898182600:=0
def tw5155690369606558266:=0
def tw14023510800385718120:=0
def tw14958342664649580445:=0
def tw43487858836974637:=0
def tw3099647078193198479:=0
def tw3485852071336096907:=0
def tw415112260835844685:=0
def tw12591018271732808228:=0
def tw8061018451678312190:=0
def tw14603177935690761366:=0
def tw4308425912329357706:=0
def tw6846520290036912343:=0
def tw10437628014511118843:=0
def tw17405269057657610407:=0
def tw15939482724117405149:=0
def tw1341703172550799021:=0
def tw4558282665810079717:=0
def tw13262030053660820560:=0
def tw12170352857857193682:=0
def tw11415524992086556744:=0
def tw4450106197429705763:=0
def tw17918628276880408688:=0
def tw13534557099365224783:=0
def tw6791397115543121409:=0
def tw14797667382424131387:=0
def tw10024035969053737128:=0
def tw8110677970189249990:=0
def tw6721527675206533390:=0
def tw2653859694064480959:=0
def tw15484633651024531539:=0
def tw244648741687655829:=0
def tw9995681977153863376:=0
def tw9370236929553119983:=0
def tw5508229018528958329:=0
def tw16618194333123268949:=0
def tw707241182922972440:=0
def tw5264752162247974343:=0
def tw7149636626981564931:=0
def tw17397495185910309855:=0
def tw13076247751810337347:=0
def tw7968965889355675131:=0
def tw16062161782990101657:=0
def tw6872071579740173837:=0
def tw7859096400647131142:=0
def tw13840724179146430679:=0
def tw12478745826709401450:=0
def tw4167393628107538217:=0
def tw1603192303378092626:=0
def tw1565337047085886734:=0
def tw5379065060068470748:=0
def tw8804196919853457807:=0
def tw2807472551188247789:=0
def tw15615177696439030714:=0
def tw7485066456977570143:=0
def tw11419521322375121744:=0
def tw7902407863239538666:=0
def tw61670799011778318:=0
def tw3144385865104265596:=0
def tw17465702197113721304:=0
def tw15893903781606278039:=0
def tw48723990284716733:=0
def tw17640544852192899665:=0
def tw5471426320364764750:=0
def tw15354702154417482586:=0
def tw18131985934947088779:=0
def tw6274937650949942549:=0
def tw4808226795970100405:=0
def tw8511767700362144130:=0
def tw9395049476723486654:=0
def tw17054275212760017021:=0
def tw4144646590443963783:=0
def tw12221167208888550599:=0
def tw16573843100905419390:=0
def tw9290416832251241345:=0
def tw3977479603694985199:=0
def tw9541988821288508593:=0
def tw7810845219708605838:=0
def tw5409050037620925093:=0
def tw13198758088394072178:=0
def tw8824149406818843472:=0
def tw11261083276415949590:=0
def tw4841211457212800141:=0
def tw12109082135332208172:=0
def tw10694144794170682369:=0
def tw17549812120965939758:=0
def tw8507827394560441392:=0
def tw6070315253470905530:=0
def tw17381712468871590065:=0
def tw13830735663625589500:=0
def tw10235728882558476861:=0
def tw2582355804888481636:=0
end PySem.W.Fast
set_option maxRecDepth 100000 in
set_option maxHeartbeats 0 in
theorem PySem.Challenge.cw_ringtrade_k45_answers_of_the_desk_holds : PySem.Challenge.rw_ringtrade_k45_answers_of_the_desk.Holds := by
 w_on; o_law; k_head; (case hw=>w_witness2)
 k_fill
 refine DL.Uq (l:=PySem.Challenge.rw_ringtrade_k45_answers_of_the_desk) (k:=11) (x := "_law_script") (F:=Law.Cr) rfl rfl ⟨rfl,by decide,by decide,rfl⟩ (fun w h Y=>PySem.W.kIn_of Y) Law.main ?C
 intro w mg fa h KX G hmg
 obtain ⟨ua,ub,uc,ud,ue,uf,ug,uh,ui⟩:(DL.gW (L2.gV KX) "kept" Law.xS)∧(DL.gW (L2.gV KX) "order" Law.vE)∧(DL.gW (L2.gV KX) "owns" Law.qM)∧(DL.gW (L2.gV KX) "past" Law.xT)∧(DL.gW (L2.gV KX) "wishes" Law.rc)∧(DL.MakeAt (L2.gV KX) mg "Kept" "Kept" "Kept.__init__" Law.nR)∧(DL.MakeAt (L2.gV KX) mg "Desk" "Desk" "Desk.__init__" Law.mZ)∧(DL.MethAt (L2.gV KX) "Desk" "undo" "Desk.undo" Law.mP)∧(DL.MethAt (L2.gV KX) "Desk" "tell" "Desk.tell" Law.mO):=by
  dsimp only [L2.gV]
  refine' Law.Up KX G ?uj ?uk ?ul ?um ?un ?uo ?up ?uq ?ur ?ut ?uu ?uv ?uw ?ux ?uy ?uz ?u0 ?u1 ?u2 ?u3 ?u4 ?u5 ?u6 ?u7 ?u8 ?u9 ?va ?vb ?vc ?vd ?ve ?vf ?vg ?vh ?vi ?vj ?vk ?vl ?vm ?vn ?vo ?vp ?vq
  case uj|uk=>k_is
  case ul|um|un|uo|up=>kernel_rfl
  case uq=>k_is
  case ur|ut|uu|uv|uw=>kernel_rfl
  case ux|uy|uz|u0|u1|u2=>k_is
  case u3=>kernel_rfl
  case u4=>k_is
  case u5=>kernel_rfl
  case u6|u7|u8|u9=>k_is
  case va=>kernel_rfl
  case vb=>k_is
  case vc=>kernel_rfl
  case vd|ve|vf|vg|vh=>k_is
  case vi=>kernel_rfl
  case vj|vk|vl|vm=>k_is
  case vn=>kernel_rfl
  case vo|vp|vq=>k_is
 have T:Law.Txt (L2.gV KX) mg:=by
  dsimp only [L2.gV]
  refine ⟨?_,?_,?_,?_,?_,?_,?_,?_,?_,?_,?_,?_,?_,?_,?_,?vr,?vs,?vt,?vu,?vv,?vw,?vx,?_,?_,?_,?_,?_,?_,?_,?_,?_,?vy,?_,?_,?_,?_,?_,?_,?_,?_,?_,?_,?_,?_,?_,?_,?_,?_,?_,?_,?_,?_,?_,?_,?_,?_,?_,?_,?_,?_,?vz,?_,?_,?_,?v0,?v1,?v2,?_,?_,?_,?_,?_,?_,?_,?_,?_,?_,?_,?_,?_,?_,?_,?_,?_,?_,?_,?_,?_,?_,?_,?_,?_,?_,?_,?_,?_,?_,?_,?_,ub,uc,ue,uf,?_,?_,?_,?_,?_,?_,?_,?_,?_,?_,?_,?_,?_,?_,?_,?_,?_,?_,?_,?_,?_,ua,ud⟩
  case vr=>(refine' DL.Co KX G ?z; case z=>k_is)
  case vs=>(refine' DL.Co KX G ?z; case z=>k_is)
  case vt=>(refine' DL.LJ KX G ?z; case z=>k_is)
  case vu=>(refine' DL.LJ KX G ?z; case z=>k_is)
  case vv=>(refine' DL.Co KX G ?z; case z=>k_is)
  case vw=>(refine' DL.LR KX G ?v3 ?v4; (case v3=>k_is); (case v4=>k_is))
  case vx=>(refine' DL.LR KX G ?v5 ?v6; (case v5=>k_is); (case v6=>k_is))
  case vy=>(refine' DL.sF KX G ?a ?l ?t ?c ?k; (case a | l | t | c | k=>k_is))
  case vz=>(refine' DL.sF KX G ?a ?l ?t ?c ?k; (case a | l | t | c | k=>k_is))
  case v0=>(refine' DL.sF KX G ?a ?l ?t ?c ?k; (case a | l | t | c | k=>k_is))
  case v1=>(refine' DL.sF KX G ?a ?l ?t ?c ?k; (case a | l | t | c | k=>k_is))
  case v2=>(refine' DL.sF KX G ?a ?l ?t ?c ?k; (case a | l | t | c | k=>k_is))
  all_goals first | (refine' PySem.W.mg_none_of KX G ?_; k_is) | (refine' DL.LI KX G ?a ?l ?c ?k; (case a | l | c | k=>k_is))
 have v7:DL.DefAt (L2.gV KX) mg "law" Law.pr:=by
  dsimp only [L2.gV]
  refine' DL.LI KX G ?a ?l ?c ?k; (case a | l | c | k=>k_is)
 have v8:DL.QAt PySem.Challenge.rw_ringtrade_k45_answers_of_the_desk.prog w (L2.gV KX) mg "QUESTIONS" Law.iL:=by
  dsimp only [L2.gV]
  refine' DL.LH [("rings",?tQ0,"answer_rings",?bQ0),("asks",?tQ1,"answer_asks",?bQ1),("deal",?tQ2,"answer_deal",?bQ2),("by",?tQ3,"answer_by",?bQ3),("of",?tQ4,"answer_of",?bQ4),("lot",?tQ5,"answer_lot",?bQ5),("eat",?tQ6,"answer_eat",?bQ6)] KX G ?z ?l ?e ?s ?n
  case z|l=>k_is
  case e|s=>exact rfl
  (case n=>refine ⟨?_,?_,?_,?_,?_,?_,?_,trivial⟩ <;> (dsimp only; k_is))
 have v9:DL.QAt PySem.Challenge.rw_ringtrade_k45_answers_of_the_desk.prog w (L2.gV KX) mg "CHANGES" Law.jm:=by
  dsimp only [L2.gV]
  refine' DL.LH [("rows",?tC0,"after_rows",?bC0),("own",?tC1,"after_own",?bC1),("none",?tC2,"after_none",?bC2),("order",?tC3,"after_order",?bC3)] KX G ?z ?l ?e ?s ?n
  case z|l=>k_is
  case e|s=>exact rfl
  (case n=>refine ⟨?_,?_,?_,?_,trivial⟩ <;> (dsimp only; k_is))
 refine DL.Ur hmg v7 (fun _ _ _ _ _ _ us hl=>match us,hl with | [_],_=>rfl) fun f fd Fn base=>?_
 exact Law.Us T Fn uh ui ug v8 v9
end
