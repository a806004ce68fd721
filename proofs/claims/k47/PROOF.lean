import PyProof.Rows.All
import Wide.All
import OpenK.AllK
import Wide.FinOn
import Lean
import PyProof.EqAt
import PyProof.EqKinds
import PyProof.TupleCall
import PyProof.Rows.SetFrom
import KE.KSortTup
import PyProof.Draws
import PyProof.EnumMake
import PyProof.ListRange
import PyProof.Rows.EnumRows
import PyProof.SetRoads
import PyProof.Rows.MinMaxN
import PyProof.Rows.MaxTwoN
import PyProof.ZipIter
import KE.KItemsList
import KE.LcSums
import KE.KRevIter
import PyProof.TupleOfSeq
import PySem.Challenge.RW_ringtrade_k47_undone_in_order
set_option compiler.extract_closed false
noncomputable section
open PySem renaming Value->a_,wpAny_bind->b_,Shared->d_,wpAny_pure->r_,Program->z_,wpAny->C_,starEach->E_,model->F_,sizeLine_eq->G_,mainGlobals->K_,strLen_append->L_,World->M_,Around->N_,wpAny_field->XE,attributeBase->XH,compareOp->X1,FuncData->X2,keywordEach->X6,swapsWith->X7,wpAny_mono->X_,wpAny_callSpecial?_slot->Yb,assignEach->Ye,wpAny_pyIter_tuple->Yk,holding->Ys,behindInMarks->Yx,wpAny_call_entry->Yy,wpAny_Call_Name_kw->YB,wpAny_seqItems->YD,wpAny_setField_rec->YE,wpAny_passesOwn->YM,backToKw->YN,wpAny_holding->YR,call_meets->YS,IsPair->YT,standAt->YU,scanBound->YY,wpAny_getItem_str_slice->Y0,cLine->Y4,bindArgs->Y5,wpAny_loadPart'->Y6,wpAny_truthy_bool->Za,Scope->Ze,wpAny_setField->Zh,bootBuiltins->Zi,codeAny_mono->Zk,callWith->Zu,NameKind->Zv,wpAny_comprehension_free->Zx,ExceptHandler->Zz,sysModules->ZD,tupleKind_room_in1->ZF,getMethod->ZH,sliceBounds->ZI,binaryOp->ZJ,wpAny_newObj_type->ZL,wpAny_updateSeq_pair->ZU,wpAny_execs_nil->ZX,post_val_or_str->Z0,notedBy->Z5,PassesOwn->Z8,rawInt->à,wpAny_pyIter_enum->Ñ,wpAny_standAt->ý,wpAny_onRaise->þ,noFill_tuple_add->Ò,wpAny_getItem_of->Ó,noteFrame->õ,compEnvC->ó,evalEach->ô,codeAny->ç,Builtin->è,concat_meets->ÿ,IsPart->ã,getItem->é,Keyword->ê,callerA->ë,argBest->ì,letOwnedTupleGo->Ô,codeAny_handlers_test->ğ,assign->å,wpAny_loadPart->Õ,excClassObj->À,IsZip->á,wpAny_isSubtype_exc->Ġ,wpAny_handleBy_cons->ġ,swapsWithSole->Ö,swappedStores->Ø,seq_tuple_add->Ù,Draws->â,pyIter->í,truthy->î,wpAny_call->Á,typeIs_str->Â,PlainAttrs->Ã,wpAny_rule->Ä,JoinOk->ï,wpAny_assign_Name->Ģ,BindsTo->ö,wpAny_sequenceKey->ģ,wpAny_typeOf->Ú,slot_list_getitem->Ĥ,valueAt->ø,wpAny_pyIter_list->ĥ,tupleKind->Å,strValues->Æ,seqIndex_of->Û,wpAny_letGo->Ü,relabel->ú,builtinsNs->Ý,Model->ð,wpAny_Name->Þ,typeIs_int->Ā,atKey->ñ,closureFor->ā
open PySem.Heap renaming get?_push_of_some->c_,get?_push_size->n_,lt_size->q_,size_push->XV,get?_update_ne->X5,get?_update_self->YH,SameBut->Z4,get?_update_other->Ħ,get?_none_of_le->ħ
open List renaming getElem?_eq_some_iff->e_,getElem?_set_ne->f_,mem_cons_self->g_,mem_cons_of_mem->h_,length_map->i_,range->j_,mem_map->k_,getElem?_eq_getElem->m_,mem_filter->o_,replicate->p_,mem_cons->s_,getElem?_set_self->t_,mem_range->u_,mem_singleton->A_,map_map->B_,size_toArray->D_,getElem?_map->H_,getElem?_append_left->J_,map_cons->R_,getD_eq_getElem?_getD->T_,all_eq_true->U_,find?_cons->V_,append_nil->W_,length_append->XB,length_cons->XJ,mem_append_right->XM,getElem?_append_right->XQ,ne_nil_of_mem->XR,map_append->XT,mem_filterMap->XU,drop_eq_getElem_cons->X3,contains_iff_mem->X8,mem_append->X9,getElem?_replicate->Ya,idxOf_lt_length_of_mem->Yd,getElem_mem->Yl,getElem?_drop->Ym,nodup_range->Yn,map_nil->Yo,mem_of_getElem?->Yq,getElem?_of_mem->Yr,nodup_cons->Yt,of_mem_zip->Yu,length_pos_of_mem->Yv,lookup_cons->Yz,mem_flatten->YA,length_replicate->YG,length_filter_le->YI,take_append_drop->YJ,exists_mem_of_ne_nil->YL,zipWith->YQ,map_congr_left->YV,length_take->YW,length_drop->YX,not_mem_nil->YZ,lookup->Y1,all_cons->Y7,any_cons->Y8,dropLast_eq_take->Y_,append_assoc->Zd,mem_append_left->Zf,length->Zg,drop_length->Zl,filterMap_cons->Zp,getElem?_range->Zq,length_pos_iff->Zr,filter_eq_self->Zs,foldl_cons->ZB,map_const'->ZC,length_singleton->ZO,any_eq_true->ZR,mem_of_mem_drop->ZV,range_eq_range'->ZW,length_set->ZY,forIn_cons->ZZ,find?_some->Z1,length_zipWith->Z3,any_map->Z6,map_set->Z7,drop_zero->Ç,filter_filter->Ă,nodup_iff_pairwise_ne->Ĩ,perm_append_singleton->ĩ,mem_of_find?_eq_some->Ī,mem_or_eq_of_mem_set->ī,ext_getElem?->ă,range'->û,length_erase_of_mem->Ĭ,length_filterMap_le->ĭ,ext_getElem->Ą,filter_cons->ą,getElem?_cons_succ->Į,filter_eq_nil_iff->į,length_nil->Ć,range_succ->ć,getElem?_zipWith->İ,mem_of_mem_erase->ı,singleton_append->Ĳ,replicate_succ->ĳ,getElem_of_mem->Ĵ,map_take->Ĉ,zip_cons_cons->ĵ,getElem?_take->Ķ,take_sublist->ķ,pairwise_map->ĸ,nodup_append->Ĺ,map_snd_zip->ĺ,getElem_map->Ļ,zipIdx_cons->ļ,countP_cons->Ľ,perm_middle->ľ,map_fst_zip->Ŀ,zipIdx_nil->ŀ,countP_map->Ł,nil_append->ł,length_zip->Ń,foldl->ĉ,forIn_nil->ń,Nodup->Ċ,drop_drop->Ņ,drop_left->ņ,map_drop->Ň
open Nat renaming le_refl->l_,lt_of_lt_of_le->y_,ne_of_lt->I_,le_trans->S_,zero_le->XY,lt_irrefl->X0,ne_of_gt->Yf,lt_succ_of_lt->Yh,lt_succ_self->Yj,mod_lt->ZG,le_of_eq->ZK,lt_of_le_of_lt->ċ,mod_eq_of_lt->Č,add_sub_cancel_left->ň,lt_of_succ_lt_succ->ŉ,succ_mul->È,le_succ->É,log2_lt->Ê,pow_le_pow_right->Ŋ,mul_le_mul_right->ŋ,le_of_lt->č,mul_comm->Ď,lt_trans->ď,zero_add->Đ,min_eq_left->Ō,le_of_dvd->ō
open Bool renaming false_ne_true->w_,and_eq_true->P_,eq_iff_iff->XS,not_eq_true'->đ,false_eq_true->Ŏ,not_not->ŏ
open PySem.PassesOwn renaming never->x_
open PySem.Str renaming join->O_,ofString->YO,empty->Zj,append_assoc->ZQ,append_empty->Ē,length->Ë
open Option.some renaming inj->Q_
open PyProof.Rows renaming slot_tuple_getitem->XD,callWith_type1->Yc,envOfC->YK,IntsAre->Zb,AllBare->ZT,subscriptTail_builtinR->Ő,boot_min->ő,firstMet->ù,seqObj->ò,step_dedup->Ì,IsTup->ä,tail_any->ü,boot_range->ē
open PySem.Builtin.Str renaming occurrences->XG,strKind->Zt
open Array renaming getElem?_setIfInBounds_self_of_lt->XI,getElem?_eq_some_iff->YC,perm_iff_toList_perm->Œ,getElem?_toList->œ,toList_append->Ŕ,toList_inj->ŕ
open PySem.PyData renaming canLay0->XZ,depth->Yi,canLayAll0->Ĕ,depthAll->ĕ,eqvAll->Ė,eqv->Í
open False renaming elim->X4
open Int renaming toNat_natCast->Yg,natCast_nonneg->Y3,gcd_dvd_right->Zc,fdiv_eq_ediv_of_nonneg->Ŗ,gcd->æ,gcd_dvd_left->ė,natCast_dvd_natCast->ŗ,emod_nonneg->Ę,toNat_of_nonneg->Ř,dvd_mul_right->ř,dvd_trans->Ś,ofNat_inj->ś
open PySem.Obj renaming mapFields->Yp,mapSeq->ZE,data_mapFields->Ŝ
open PySem.StrLaws renaming join_length_le->Yw,sumLen_le->ZN,glued_eq_join->ZP,At->ZS,join_split->ę,partsBetween_eq->ŝ,subAt_eq->Ş
open Ne renaming symm->YF
open Option renaming map_eq_some_iff->Y2,isSome_map->Ě,map_some->ş,map_none->Š,isSome->š
open LawfulBEq renaming eq_of_beq->Y9
open PySem.Builtin.Slice renaming slicePlaces->Zm,sliceAdjust->Ţ,slicePartIndex->Ų,sliceApplied->ų
open PySem.Builtin.SmallTypes renaming nextOf->Zn,ownedTupleIsFree->Zy,ownedTupleHandOut->Ŵ
open Classical renaming byContradiction->Zo
open PySem.Builtin.List renaming listTooLong->Zw,listFitsIndex->ţ
open Eq renaming trans->ZM
open PySem.Heap.SameBut renaming update->Z2
open PySem.Calls renaming Name_function_global->Z9,callWith_builtin->Ť
open PySem.SeqAt.EqAt renaming int_int->Z_,int_str->ť,str_int->Ŧ,same->ŧ
open PySem.Builtin.Tuple renaming tupleItemsOf->Ũ,tupleCompareSizes->ŵ,tupleExact->Ŷ
open List.Pairwise renaming imp_of_mem->ũ
open List.cons renaming inj->Î
open PySem.Builtin.Range renaming rangeSize->Ū
open PyProof.Rows.IntsAre renaming int_at->ě,nums->ū
open PySem.SeqAt renaming EqAt->Ï,shaped->Ŭ
open Function renaming comp_def->ŭ
open PySem.MeetsSeq renaming EqGives->Ů
open PySem.Shared renaming heap->Ĝ
open PySem.Builtin.Frozenset renaming updateFrom->ŷ
open ToString renaming toString->Ð
open PyProof.Rows.SortSt renaming mk'->ĝ
open PySem.Value renaming isStrOf->ů,isInt->Ű
open PyProof.Rows.IsTup renaming new->Ğ
open PySem.Walks renaming tuple->ű
set_option Elab.async false
set_option linter.all false
set_option autoImplicit true
set_option relaxedAutoImplicit true
set_option exponentiation.threshold 3000
set_option maxRecDepth 100000
set_option maxHeartbeats 4000000
def Q_a:=@PySem.wpAny_loadPart'
def Q_b:=@decide_eq_false
def Q_c:=@decide_eq_true
def Q_d:=@if_pos
def Q_e:=@if_neg
noncomputable def Q_f:=@absurd
def Q_g:=@congrArg
def Q_h:=@decide_eq_true_iff
def Q_i:=@decide_eq_true_eq
def Q_j:=@or_false
def Q_k:=@if_true
section
theorem ap0(h:True:=by rfl):True:=h
theorem ap1(h:True:=by decide):True:=h
theorem ap2(h:True:=by first|exact .inl rfl|exact .inr rfl|assumption):True:=h
theorem ap3(h:True:=by intro _;rfl):True:=h
local macro_rules|`(`r)=>`(by rfl)|`(`o)=>`(by omega)|`(`s)=>`(by simp)|`(`d)=>`(by decide)|`(`g)=>`(by grind)|`(`k)=>`(by decide+kernel)|`(`a)=>`(by simp_all)|`(`z)=>`(by simp;omega)|`(`q)=>`(by kernel_rfl)
local macro_rules|`(!!!!$t)=>`(autoParam $t ap3._auto_1)|`(!!!$t)=>`(autoParam $t ap2._auto_1)|`(!!$t)=>`(autoParam $t ap1._auto_1)|`(!$t)=>`(autoParam $t ap0._auto_1)
section
namespace L2
open PySem PySem.Spec PyProof.Rows
abbrev bL:=Sum Int Str
noncomputable def jR:bL->a_->Bool
|.inl k,v=>Ű k v
|.inr x,v=>ů x v
noncomputable def Dv(w:M_):bL->Int
|.inl k=>hashInt k
|.inr x=>hashStr w x
theorem keyIs_shape:∀{k:bL}{v:a_},jR k v=true->(∃i t,k=Sum.inl i/\v=Value.int i t)\/(∃x t,k=Sum.inr x/\v=Value.str x t)
|.inl i,v,h=>by obtain⟨t,e⟩:=Value.isInt_shape (k:=i) (v:=v) h;exact .inl ⟨i,t,rfl,e⟩
|.inr x,v,h=>by obtain⟨t,e⟩:=Value.isStrOf_shape (x:=x) (v:=v) h;exact .inr ⟨x,t,rfl,e⟩
theorem sw(x:Str)(t:Tok):jR (.inr x) (.str x t)=true:=by simp[jR,ů]
theorem Nm(a b:Int):decide ((Sum.inl a:bL)=Sum.inl b)=(a==b):=`g
theorem Np(a b:Str):decide ((Sum.inr a:bL)=Sum.inr b)=decide (a=b):=`g
theorem Nn(a:Int)(b:Str):decide ((Sum.inl a:bL)=Sum.inr b)=false:=Q_b `a
theorem No(a:Str)(b:Int):decide ((Sum.inr a:bL)=Sum.inl b)=false:=Q_b `a
def lI(prog:z_)(w:M_):PySem.KeyKind prog w bL where
 is:=jR
 hash:=Dv w
 inj:=fun v a b ha hb=>by
  rcases keyIs_shape ha with⟨i,t,rfl,rfl⟩|⟨x,t,rfl,rfl⟩
  .rcases keyIs_shape hb with⟨j,u,rfl,e⟩|⟨y,u,rfl,e⟩
   .injection e with e1 _;rw[e1]
   .exact nomatch e
  .rcases keyIs_shape hb with⟨j,u,rfl,e⟩|⟨y,u,rfl,e⟩
   .exact nomatch e
   .injection e with e1 _;rw[e1]
 byValue:=fun k v h=>by rcases keyIs_shape h with⟨i,t,rfl,rfl⟩|⟨x,t,rfl,rfl⟩ <;> rfl
 pyHash:=fun hv h=>by
  rcases keyIs_shape hv with⟨i,t,rfl,rfl⟩|⟨x,t,rfl,rfl⟩
  .exact wpAny_pyHash_int h
  .exact wpAny_pyHash_str h
 eqBool:=fun hu hv h=>by
  rcases keyIs_shape hu with⟨i,t,rfl,rfl⟩|⟨x,t,rfl,rfl⟩
  .rcases keyIs_shape hv with⟨j,u,rfl,rfl⟩|⟨y,u,rfl,rfl⟩
   .rw[Nm]at h;exact wpAny_eqBool_int h
   .rw[Nn]at h;exact ť i t y u _ _ _ _ h
  .rcases keyIs_shape hv with⟨j,u,rfl,rfl⟩|⟨y,u,rfl,rfl⟩
   .rw[No]at h;exact Ŧ x t j u _ _ _ _ h
   .rw[Np]at h;exact wpAny_eqBool_str h
 «strs»:=fun k x t v h=>by
  rcases keyIs_shape h with⟨i,u,rfl,e⟩|⟨y,u,rfl,e⟩
  .exact nomatch e
  .injection e with e1 _
   subst e1;cases v <;> rfl
inductive V where
 |non|bl (b:Bool)|int (i:Int)|str (x:Str)|byt (b:Array UInt8)|flt (b:UInt64)|ref (a:Addr)|ty (n:String)
 deriving DecidableEq
noncomputable def aS:V->a_->Prop
|.non,u=>u=Value.none
|.bl b,u=>u=Value.bool b
|.int i,u=>∃t,u=Value.int i t
|.str x,u=>∃t,u=Value.str x t
|.byt b,u=>∃t,u=Value.bytes b t
|.flt b,u=>∃t,u=Value.float b t
|.ref a,u=>u=Value.ref a
|.ty n,u=>u=Value.type n
abbrev aL:List V->List a_->Prop:=Paired aS
theorem aL.length(r:aL xs us):xs.length=us.length:=Paired.length r
theorem aL.get:∀{xs:List V}{us:List a_}{i:Nat}{x:V},aL xs us->xs[i]? = some x->∃u,us[i]? = some u/\aS x u
|_,_,_,_,.nil,e=>by simp at e
|_,_,0,_,.cons r _,e=>by simp at e;subst e;exact⟨_,rfl,r⟩
|_,_,i+1,x,.cons _ t,e=>by obtain⟨u,Y,U⟩:=aL.get (i:=i) (x:=x) t (by simpa using e);exact⟨u,by simpa using Y,U⟩
theorem aL.set(r:aS x u):∀{xs:List V}{us:List a_}(i:Nat),aL xs us->aL (xs.set i x) (us.set i u)
|_,_,_,.nil=>.nil
|_,_,0,.cons _ t=>.cons r t
|_,_,i+1,.cons q t=>.cons q (aL.set r i t)
theorem aL.append(h:aL xs us)(h':aL U ws):aL (xs++U) (us++ws):=by induction h with
|nil=>exact h'
|cons r _ Y=>exact .cons r Y
theorem aL.take:∀{xs:List V}{us:List a_}(n:Nat),aL xs us->aL (xs.take n) (us.take n)
|_,_,0,_=>.nil
|_,_,_+1,.nil=>.nil
|_,_,n+1,.cons r t=>.cons r (aL.take n t)
theorem aL.drop:∀{xs:List V}{us:List a_}(n:Nat),aL xs us->aL (xs.drop n) (us.drop n)
|_,_,0,r=>r
|_,_,_+1,.nil=>.nil
|_,_,n+1,.cons _ t=>aL.drop n t
def dY:Option V->Option a_->Prop
|some v,some u=>aS v u
|none,none=>True
|_,_=>False
def KV{κ:Type}:List (κ×V)->List (κ×a_)->Prop:=Paired fun(p:κ×V)(q:κ×a_)=>p.1=q.1/\aS p.2 q.2
noncomputable def kV:bL->V
|.inl i=>.int i
|.inr x=>.str x
inductive HO where
 |lst (xs:List V)
 |tup (xs:List V)
 |dK (kvs:List (bL×V))|dT (kvs:List (List bL×V))
 |set (S:Int->Bool) (n:Nat)
 |ins (C dx:Addr) (fs:List (Str×V))
 |own (x:Addr)
 |xd (fs:List (Str×V))
 |met (f x:Addr)
 |rng (lo hi:Int)
 |frz (o:Obj) (u:HO)
 |tbl (ps:Array a_)
 |ext (φ:Heap->Prop)
abbrev Hp:=Addr->Option HO
noncomputable def aY(H:Hp)(a:Addr)(o:HO):Hp:=fun b=>if b=a then some o else H b
theorem cS:aY H a o a=some o:=by unfold aY;rw[Q_d rfl]
theorem cE(h:b≠a):aY H a o b=H b:=by unfold aY;rw[Q_e h]
theorem U3{H:Hp}(h:H a=some o)(h':H b=some u)(d:o≠u):a≠b:=`g
theorem nO{H:Hp}(h:H a=some o)(h':H b=none):a≠b:=`g
section
variable(P:z_)(w:M_)
def dZ(H:Hp)(h:Heap)(a:Addr):HO->Prop
|.lst xs=>xs.length<=sizeLine/\∃(its:List a_)(n:Nat),aL xs its/\h.get? a=some { cls:=.type "list",data:=.seq its.toArray n }
|.tup xs=>xs.length<=sizeLine/\∃its:List a_,aL xs its/\ä h a its.toArray/\∃o,h.get? a=some o/\o.dict=none
|.dK kvs=>kvs.length<=sizeLine/\(a==ZD)=false/\∃vs,KV kvs vs/\h.DictOf (lI P w) a vs
| .dT kvs=>kvs.length<=sizeLine/\(a == ZD)=false/\∃xs:List (List bL × Addr × a_),
   Paired (fun(p:List bL×V)(q:List bL×Addr×a_)=>p.1=q.1/\H q.2.1=some (.tup (p.1.map kV))/\aS p.2 q.2.2) kvs xs /\∃o es ep,h.get? a=some o/\o.ExactDict/\o.data=.dict es ep/\es.toList=xs.map (entryOfKey (Å (lI P w)))/\(xs.map (·.1)).Nodup
|.set S n=>h.SetOf (intKind P w) a S n
| .ins C dx fs=>H dx=some (.own a)/\fs.length<=1000/\dx≠a/\h.get? a=some (W.instObj C dx) /\
   ∃mA,h.Ns1 dx mA/\(∀f,dY (fs.lookup f) (mA f))/\PySem.Within mA (fs.map (·.1))
|.own _=>∃o,h.get? a=some o
|.xd fs=>∃mA,h.Ns1 a mA/\∀f,dY (fs.lookup f) (mA f)
|.rng lo hi=>∃t u v,h.get? a=some { cls:=.type "range",data:=.fields #[.int lo t,.int hi u,.int 1 v] }
|.frz o u=>h.get? a=some o/\dZ H h a u
|.tbl ps=>h.get? a=some { cls:=.none,data:=.fields ps }
|.met f x=>h.get? a=some (W.methodObj (.ref f) (.ref x))
|.ext φ=>φ h/\(∃o,h.get? a=some o)/\∀h1 h2:Heap,φ h1->(∀o,h1.get? a=some o->h2.get? a=some o)->φ h2
def HOk(H:Hp)(h:Heap):Prop:=∀a o,H a=some o->dZ P w H h a o
end
variable{P:z_}{w:M_}{H H':Hp}{h h':Heap}{a:Addr}{o:HO}
theorem dZ.lt(x:dZ P w H h a o):a<h.objs.size:=by cases o with
|lst Y=>obtain⟨_,_,_,_,e⟩:=x;exact q_ e
|tup Y=>obtain⟨_,_,_,p,_⟩:=x;exact p.lt
|dK U=>obtain⟨_,_,_,_,o,_,_,e,_⟩:=x;exact q_ e
|dT U=>obtain⟨_,_,_,_,o,_,_,e,_⟩:=x;exact q_ e
|set S n=>obtain⟨o,_,_,_,e,_⟩:=x;exact q_ e
|ins C j Z=>obtain⟨_,_,_,e,_⟩:=x;exact q_ e
|own y=>obtain⟨_,e⟩:=x;exact q_ e
|xd Z=>obtain⟨_,⟨_,_,_,e,_⟩,_⟩:=x;exact q_ e
|rng g i=>obtain⟨_,_,_,e⟩:=x;exact q_ e
|frz d u=>obtain⟨e,_⟩:=x;exact q_ e
|tbl c=>exact q_ (x)
|met f y=>exact q_ (x)
|ext b=>obtain⟨_,⟨_,e⟩,_⟩:=x;exact q_ e
theorem Paired.mapP{l₁:List Y}{l₂:List U}(h:Paired F l₁ l₂)(f:∀a b,F a b->G a b):Paired G l₁ l₂:=by induction h with
|nil=>exact .nil
|cons r _ Z=>exact .cons (f _ _ r) Z
theorem dZ.stay(x:dZ P w H h a o)(k:∀b u,(b=a\/H b=some (.own a))->h.get? b=some u->h'.get? b=some u)(I:∀b,H b=some (.own a)->H' b=some (.own a))(G:∀b xs,H b=some (.tup xs)->H' b=some (.tup xs)):dZ P w H' h' a o:=by induction o with
|lst xs=>obtain⟨z,i,n,r,e⟩:=x;exact⟨z,i,n,r,k _ _ (.inl rfl) e⟩
|tup xs=>obtain⟨z,i,r,⟨Y,e,c⟩,U,m,K⟩:=x;exact⟨z,i,r,⟨Y,k _ _ (.inl rfl) e,c⟩,U,k _ _ (.inl rfl) m,K⟩
|dK l=>obtain⟨z,y,B,r,Y,Z,g,e,c⟩:=x;exact⟨z,y,B,r,Y,Z,g,k _ _ (.inl rfl) e,c⟩
|dT l=>obtain⟨z,y,xs,r,Y,Z,g,e,c⟩:=x;exact⟨z,y,xs,Paired.mapP r fun p q z=>⟨z.1,G _ _ z.2.1,z.2.2⟩,Y,Z,g,k _ _ (.inl rfl) e,c⟩
|set S n=>obtain⟨Y,Z,g,t,e,c⟩:=x;exact⟨Y,Z,g,t,k _ _ (.inl rfl) e,c⟩
|ins C O J=>obtain⟨d,z,E,e,mA,⟨j,Z,g,m,c⟩,r⟩:=x;exact⟨I _ d,z,E,k _ _ (.inl rfl) e,mA,⟨j,Z,g,k _ _ (.inr d) m,c⟩,r⟩
|own y=>obtain⟨Y,e⟩:=x;exact⟨Y,k _ _ (.inl rfl) e⟩
|xd J=>obtain⟨mA,⟨j,Z,g,e,c⟩,r⟩:=x;exact⟨mA,⟨j,Z,g,k _ _ (.inl rfl) e,c⟩,r⟩
|rng M N=>obtain⟨t,u,v,e⟩:=x;exact⟨t,u,v,k _ _ (.inl rfl) e⟩
|frz Y u F=>obtain⟨e,q⟩:=x;exact⟨k _ _ (.inl rfl) e,F q⟩
|tbl A=>have e:h.get? a=some { cls:=.none,data:=.fields A }:=x;show h'.get? a=some { cls:=.none,data:=.fields A };exact k a _ (.inl rfl) e
|met f y=>have e:h.get? a=some (W.methodObj (.ref f) (.ref y)):=x;show h'.get? a=some (W.methodObj (.ref f) (.ref y));exact k a _ (.inl rfl) e
|ext L=>obtain⟨p,⟨o,e⟩,s⟩:=x;exact⟨s _ _ p fun o q=>k _ _ (.inl rfl) q,⟨o,k _ _ (.inl rfl) e⟩,s⟩
theorem HOk.lt(x:HOk P w H h)(e:H a=some o):a<h.objs.size:=(x a o e).lt
theorem HOk.fresh(x:HOk P w H h)(e:h.objs.size<=a):H a=none:=by cases q:H a with
|none=>rfl
|some u=>exact Q_f (y_ (x.lt q) e) (X0 _)
theorem HOk.kept(x:HOk P w H h)(k:∀b u,h.get? b=some u->h'.get? b=some u):HOk P w H h':=fun a o e=>(x a o e).stay (fun b u _ q=>k b u q) (fun _ q=>q) fun _ _ q=>q
theorem HOk.laid(x:HOk P w H h)(k:∀b u,h.get? b=some u->h'.get? b=some u)(d:h.objs.size<=a)(U:dZ P w (aY H a o) h' a o):HOk P w (aY H a o) h':=fun b u e=>by
 have Y:=x.fresh d;by_cases Z:b=a
 .subst Z;rw[cS]at e;cases e;exact U
 .rw[cE Z]at e;exact(x b u e).stay `g (fun c q=>by rw[cE (nO q Y)];exact q) fun c f q=>by rw[cE (nO q Y)];exact q
def Rd(H:Hp)(a:Addr)(u:HO):Prop:=H a=some u\/∃o,H a=some (.frz o u)
theorem Rd.ok(r:Rd H a u)(x:HOk P w H h):dZ P w H h a u:=by
 rcases r with r|⟨o,r⟩
 .exact x a u r
 .obtain⟨_,q⟩:=x a _ r;exact q
noncomputable def uP:Option HO->Prop
|some (.lst _)=>True
|some (.dK _)=>True
|some (.dT _)=>True
|some (.set _ _)=>True
|some (.ins _ _ _)=>True
|some (.ext _)=>True
|_=>False
section
variable{x e:Addr}{o':HO}
theorem HOk.write(j:HOk P w H h)(d:uP (H x))(m:e=x\/H e=some (.own x))(k:∀b u,b≠e->h.get? b=some u->h'.get? b=some u)(Z:∃u,h'.get? e=some u)(f:dZ P w (aY H x o') h' x o'):HOk P w (aY H x o') h':=fun b u q=>by
 have U:∀c y,H c=some (.own y)->c≠x:=fun c y r z=>by subst z;rw[r]at d;exact d
 have Y:∀c a,H c=some (.tup a)->c≠x:=fun c a r z=>by subst z;rw[r]at d;exact d
 by_cases i:b=x
 .subst i;rw[cS]at q;cases q;exact f
 .rw[cE i]at q;by_cases g:b=e
  .have q':H b=some (.own x):=`a
   rw[q]at q';cases q';obtain⟨v,l⟩:=Z;exact⟨v,by rw[g];exact l⟩
  .refine(j b u q).stay (fun c v n r=>k c v ?_ r) (fun c r=>by rw[cE (U c b r)];exact r) fun c a r=>by rw[cE (Y c a r)];exact r
   grind
end
structure Un(fs ex:List Addr)(H H':Hp)(h h':Heap):Prop where
 keep:∀b o,h.get? b=some o->H b=none->b∉fs->b∉ex->h'.get? b=some o
 slot:∀b o,h.get? b=some o->H b=none->b∈fs->b∉ex->∃sl,h'.get? b=some { o with slots:=sl }
 free:∀b o,h.get? b=some o->H b=none->b∉ex->H' b=none
 there:∀b o,h.get? b=some o->b∉ex->∃o',h'.get? b=some o'
 tups:∀b xs,H b=some (.tup xs)->H' b=some (.tup xs)
 frzs:∀b o u,H b=some (.frz o u)->H' b=some (.frz o u)
 tbls:∀b ps,H b=some (.tbl ps)->∃more,H' b=some (.tbl (ps++more))
section
variable{fs fs' ex ex':List Addr}{H1 H2:Hp}{h1 h2:Heap}{x e:Addr}
theorem Un.any(u:Un fs ex H H1 h h1)(q:h.get? b=some U)(n:H b=none)(Y:b∉ex):∃a,h1.get? b=some { U with slots:=a }:=by
 by_cases Z:b∈fs
 .exact u.slot b U q n Z Y
 .exact⟨U.slots,u.keep b U q n Z Y⟩
theorem Un.kept(k:∀b u,h.get? b=some u->h'.get? b=some u):Un fs ex H H h h':=⟨fun b U q _ _ _=>k b U q,fun b U q _ _ _=>⟨U.slots,k b U q⟩,fun _ _ _ n _=>n,fun b U q _=>⟨U,k b U q⟩,fun _ _ q=>q,fun _ _ _ q=>q,fun _ Y q=>⟨#[],by rw[q];simp⟩⟩
theorem Un.refl:Un fs ex H H h h:=Un.kept fun _ _ q=>q
theorem Un.laid(k:∀b u,h.get? b=some u->h'.get? b=some u)(Z:h.objs.size<=a)(U:H a=none):Un fs ex H (aY H a o) h h' where
 keep:=fun b u q _ _ _=>k b u q
 slot:=fun b u q _ _ _=>⟨u.slots,k b u q⟩
 free:=fun b u q n _=>by rw[cE (I_ (y_ (q_ q) Z))];exact n
 there:=fun b u q _=>⟨u,k b u q⟩
 tups:=fun b Y q=>by rw[cE (nO q U)];exact q
 frzs:=fun b u Y q=>by rw[cE (nO q U)];exact q
 tbls:=fun b c q=>⟨#[],by rw[cE (nO q U),q];simp⟩
theorem Un.write(Z:uP (H x))(i:e=x\/H e=some (.own x))(k:∀b u,b≠e->h.get? b=some u->h'.get? b=some u)(U:∃u,h'.get? e=some u):Un fs ex H (aY H x o) h h':=by
 have d:∀b,H b=none->b≠x:=fun b n z=>by subst z;rw[n]at Z;exact Z
 have a:∀b,H b=none->b≠e:=fun b n z=>by simp_all
 have Y:∀b u,H b=some u->¬ uP (some u)->b≠x:=fun b u q g z=>by simp_all
 refine⟨fun b u q n _ _=>k b u (a b n) q,fun b u q n _ _=>⟨u.slots,k b u (a b n) q⟩,fun b u q n _=>by rw[cE (d b n)];exact n,fun b u q _=>?_,fun b c q=>by rw[cE (Y b _ q fun z=>z)];exact q,fun b u c q=>by rw[cE (Y b _ q fun z=>z)];exact q,fun b f q=>⟨#[],by rw[cE (Y b _ q fun z=>z),q];simp⟩⟩
 grind
end
noncomputable def trk(h:Heap)(H:Hp):List Addr:=(j_ h.objs.size).filter fun a=>(H a).isSome
def mU(h:Heap)(H:Hp):Heap:=W.hideAll h (trk h H)
theorem Oj{o:Obj}(e:(mU h H).get? b=some o):h.get? b=some o/\H b=none:=by have U:=W.of_hideAll _ e;refine⟨U,?_⟩;cases q:H b with
|none=>rfl
|some x=>have Y:b∈trk h H:=o_.mpr ⟨u_.mpr (q_ U),by simp[q]⟩;have z:(mU h H).get? b=none:=W.hideAll_none _ Y;rw[z]at e;cases e
noncomputable def wv(g h:Heap)(L:Addr):List (Addr×Obj):=(j_ h.objs.size).filterMap fun a=>if a=L\/(g.get? a).isSome=true then none else(h.get? a).map fun o=>(a,o)
theorem BV{o:Obj}(Z:a≠L)(Y:g.get? a=none)(U:h.get? a=some o):(a,o)∈wv g h L:=XU.mpr ⟨a,u_.mpr (q_ U),by simp[Z,Y,U]⟩
def rest(g h:Heap)(L d:Addr):List (Addr×Obj):=(wv g h L).filter fun p=>decide (p.1≠d)
theorem Ii:News g L h (wv g h L):=fun p U=>let⟨a,b,c⟩:=(show p.1≠L/\g.get? p.1=none/\h.get? p.1=some p.2 by
   obtain⟨b,_,e⟩:=XU.mp U;split at e
   .cases e
   .rename_i hn;cases q:h.get? b with
   |none=>simp_all
   |some u=>rw[q]at e;simp  at e;subst e;refine⟨fun z=>hn (.inl z),?_,q⟩;cases r:g.get? b with
    |none=>rfl
    |some v=>simp_all);⟨c,a,b⟩
structure Mod(K:W.Frag)(mg:Str->Option a_)(base:Heap):Prop where
 kin:K.In base
 glob:base.Ns K_ mg
 blt:∃mb,base.Ns Ý mb/\∀x:Str,x≠"__name__"->mb x=Zi x
 nolimit:base.NoLimit
structure Cx where
 prog:z_
 w:M_
 K:W.Frag
 mg:Str->Option a_
 base:Heap
 A:N_
 N:List Str
 s₀:d_
 H₀:Hp
 env:Env
 outer:List Env
 stack:List Env
 ex:List Addr
 fn:Str->Bool
 calm:Bool
 pn:List (Addr×Obj)
 xe:a_->d_->Prop
abbrev Nq(x:Str):Prop:=(x==("__debug__" : Str))=false
abbrev Nc(x:Str):Prop:=(x==("__classdict__" : Str))=false
abbrev Sx(X:Cx)(e:Expr)(es:List Expr):Prop:=E_ (e::es) X.env=(false,eval e X.env)::E_ es X.env
abbrev Bx(X:Cx)(p:Pos)(es:List Expr):Prop:=(backTo p (E_ es X.env)).any (·.1)=false
abbrev Fx(X:Cx)(y:Str):Prop:=X.fn y=true\/X.env.scope.names.lookup y=some .local
abbrev Ix(X:Cx)(e:Expr):Prop:=∀x,foldedSetIterable e X.env x=pure x
noncomputable def dF(l:List Env):List Addr:=l.filterMap (·.frame)
abbrev Cx.fs(X:Cx):List Addr:=dF X.outer
def eJ(sc:Ze)(x:Str):Prop:=sc.names.lookup x=some .local\/sc.names.lookup x=some .cell\/sc.names.lookup x=some .free
def ju(sc:Ze)(x:Str):Prop:=sc.names.lookup x=some .local\/sc.names.lookup x=some .cell
def DJ(env:Env)(h:Heap)(m:Str->Option a_)(x:Str)(u:a_):Prop:=(env.kindOf x=some .local/\m x=some u)\/((env.kindOf x=some .cell\/env.kindOf x=some .free)/\∃c,env.cells.lookup x=some c/\h.IsCell c (some u))
structure Cx.Ok(X:Cx):Prop where
 mod:Mod X.K X.mg X.base
 kind:X.env.scope.kind=.function
 glob:X.env.globals=K_
 blt:X.env.builtins=Ý
 above:X.s₀.heap.objs.size<=X.env.locals
 inj:∀x y c,X.env.cells.lookup x=some c->X.env.cells.lookup y=some c->x=y
 has:∀x,(X.env.kindOf x=some .cell\/X.env.kindOf x=some .free)->∃c,X.env.cells.lookup x=some c
 cab:∀x c,X.fn x=true->X.env.cells.lookup x=some c->X.s₀.heap.objs.size<=c
 hd:X.calm=true->X.A.handled=none
 frames:X.A.frames=some X.stack
 stk:X.stack=X.outer\/(X.stack=X.env::X.outer/\X.env.frame=some X.env.locals)
 exf:∀b∈X.ex,b≠X.env.locals/\∀x c,X.env.cells.lookup x=some c->c≠b
 bs:∀b o,X.base.get? b=some o->X.s₀.heap.get? b=some o/\X.H₀ b=none
 bsz:X.base.objs.size<=X.s₀.heap.objs.size
 noex:∀b o,X.base.get? b=some o->b∉X.ex
 exfs:∀b∈X.ex,b∉X.fs
 funs:X.s₀.heap.FunFrames X.base X.outer
 frf:∀b∈X.fs,X.H₀ b=none
structure Inv(X:Cx)(pz:List (Addr×Obj))(σ:List (Option V))(H:Hp)(s:d_):Prop where
 ok:X.Ok
 os:s.os=X.s₀.os
 bare:ZT s.gens
 base:Un X.fs X.ex X.H₀ H X.s₀.heap s.heap
 loc:∃m,s.heap.Ns X.env.locals m/\∀(i:Nat)(x:Str)(v:V),X.N[i]? = some x->σ[i]? = some (some v)->eJ X.env.scope x->∃u,aS v u/\DJ X.env s.heap m x u
 cell:∀x c,X.env.cells.lookup x=some c->∃v,s.heap.IsCell c v
 free:H X.env.locals=none
 freeC:∀x c,X.env.cells.lookup x=some c->H c=none
 pin:∀p∈X.pn++pz,s.heap.get? p.1=some p.2/\H p.1=none/\p.1≠X.env.locals/\p.1∉X.fs/\∀v,p.2.data≠.cell v
 hok:HOk X.prog X.w H s.heap
 len:σ.length=X.N.length
variable{X:Cx}{pz:List (Addr×Obj)}{s:d_}
section
variable{σ:List (Option V)}
theorem Inv.bs(I:Inv X pz σ H s):∀b o,X.base.get? b=some o->s.heap.get? b=some o/\H b=none:=fun b o e=>⟨I.base.keep b o (I.ok.bs b o e).1 (I.ok.bs b o e).2 ((fun e=>fun U=>by have:=(I.ok.funs.mem U).1;simp_all) e) (I.ok.noex b o e),I.base.free b o (I.ok.bs b o e).1 (I.ok.bs b o e).2 (I.ok.noex b o e)⟩
theorem Inv.bk(I:Inv X pz σ H s):∀b o,X.base.get? b=some o->s.heap.get? b=some o:=fun b o e=>(I.bs b o e).1
theorem Inv.mod(I:Inv X pz σ H s):Mod X.K X.mg X.base:=I.ok.mod
theorem Inv.kIn(I:Inv X pz σ H s):X.K.In s.heap:=I.ok.mod.kin.keeps I.bk
theorem Inv.fr(I:Inv X pz σ H s):∃m,Fr X.base X.env.locals s.heap m:=let⟨m,U,_⟩:=I.loc
 ⟨m,U,I.bk,S_ I.ok.bsz I.ok.above⟩
theorem Inv.lt(I:Inv X pz σ H s):X.env.locals<s.heap.objs.size:=let⟨_,U,_⟩:=I.loc;U.lt
theorem Inv.sz(I:Inv X pz σ H s):X.s₀.heap.objs.size<=s.heap.objs.size:=S_ I.ok.above (č I.lt)
theorem Inv.nofs(I:Inv X pz σ H s)(h:s.heap.objs.size<=a):a∉X.fs:=fun Y=>by obtain⟨_,o,U,_⟩:=I.ok.funs.mem Y;exact Q_f (y_ (q_ U) (S_ I.sz h)) (X0 _)
theorem Inv.cne(I:Inv X pz σ H s):∀x c,X.env.cells.lookup x=some c->c≠X.env.locals:=fun x c e z=>by obtain⟨v,o,a,b⟩:=I.cell x c e;obtain⟨m,⟨Z,d,f,U,Y,_⟩,_⟩:=I.loc;simp_all
theorem Inv.funs(I:Inv X pz σ H s):s.heap.FunFrames X.base X.outer:=by
 have Y:∀(l:List Env),(∀b∈dF l,b∈X.fs)->X.s₀.heap.FunFrames X.base l->s.heap.FunFrames X.base l:=by
  intro l
  induction l with
 |nil=>intro _ _;trivial
 |cons j r a=>intro Z f;obtain⟨g,⟨L,o,h,m,d,n⟩,c⟩:=f;have U:=Z L (by unfold dF;simp_all);obtain⟨k,e⟩:=I.base.slot L o d (I.ok.frf L U) U fun z=>I.ok.exfs L z U;exact⟨g,`a,a (fun b i=>Z b (by unfold dF;rw[Zp,h];exact h_ _ i)) c⟩
 exact Y X.outer `a I.ok.funs
theorem Inv.stack(I:Inv X pz σ H s):s.heap.FunFrames X.base X.stack:=by
 rcases I.ok.stk with e|⟨e,Y⟩
 .rw[e];exact I.funs
 .rw[e];obtain⟨m,U,_⟩:=I.loc;refine .cons (by rw[I.ok.kind];decide) Y U ?_ I.funs;exact ħ (S_ I.ok.bsz I.ok.above)
theorem Inv.stkSub(I:Inv X pz σ H s):∀b∈dF X.stack,b∈X.env.locals::X.fs:=fun b U=>by
 rcases I.ok.stk with e|⟨e,Y⟩
 .simp_all
 .rw[e]at U;unfold dF at U;rw[Zp,Y]at U;exact U
theorem Inv.stkFree(I:Inv X pz σ H s):∀b∈dF X.stack,H b=none:=fun b U=>by
 rcases s_.mp (I.stkSub b U)with e|U
 .rw[e];exact I.free
 .obtain⟨_,o,ho,_⟩:=I.ok.funs.mem U;exact I.base.free b o ho (I.ok.frf b U) fun z=>I.ok.exfs b z U
theorem Inv.step{g':Array GenState}{t':Nat}{d':Drawn}{ch:List Addr}(I:Inv X pz σ H s)(Y:∀b∈ch,(b∈X.ex\/X.s₀.heap.objs.size<=b)/\b≠X.env.locals/\(∀x c,X.env.cells.lookup x=some c->c≠b)/\∀p∈X.pn++pz,p.1≠b)(g:∀b o,b≠X.env.locals->b∉X.fs->b∉ch->s.heap.get? b=some o->H b=none->h'.get? b=some o)(h:∀b o,b≠X.env.locals->b∈X.fs->b∉ch->s.heap.get? b=some o->H b=none->∃L,h'.get? b=some { o with slots:=L })(f:∀b o,b∉ch->s.heap.get? b=some o->H b=none->H' b=none)(j:∀b o,b∉ch->s.heap.get? b=some o->∃C,h'.get? b=some C)(A:∀b xs,H b=some (.tup xs)->H' b=some (.tup xs))(F:∀b o u,H b=some (.frz o u)->H' b=some (.frz o u))(B:∀b J,H b=some (.tbl J)->∃E,H' b=some (.tbl (J++E)))(R:∀m,s.heap.Ns X.env.locals m->h'.Ns X.env.locals m)(M:HOk X.prog X.w H' h')(hg:ZT g'):Inv X pz σ H' { s with heap:=h',gens:=g',drawn:=d',toks:=t' }:=by
 have Q:∀b o,X.s₀.heap.get? b=some o->b≠X.env.locals:=fun b o e=>I_ (y_ (q_ e) I.ok.above);have K:∀b o,X.s₀.heap.get? b=some o->b∉X.ex->b∉ch:=fun b o e a t=>by
  rcases(Y b t).1 with z|z
  .exact a z
  .exact Q_f (y_ (q_ e) z) (X0 _)
 have Z:∀x c,X.env.cells.lookup x=some c->∀v,s.heap.IsCell c v->h'.IsCell c v:=fun x c e v w=>by
  obtain⟨o,y,N⟩:=w
  have U:c∉ch:=fun z=>(Y c z).2.2.1 x c e rfl;by_cases P:c∈X.fs
  .obtain⟨L,q⟩:=h c o (I.cne x c e) P U y (I.freeC x c e);exact⟨_,q,N⟩
  .exact⟨o,g c o (I.cne x c e) P U y (I.freeC x c e),N⟩
 refine⟨I.ok,I.os,hg,⟨fun b o e n t a=>?_,fun b o e n t a=>?_,fun b o e n a=>?_,fun b o e a=>?_,fun b xs e=>A b xs (I.base.tups b xs e),fun b o xs e=>F b o xs (I.base.frzs b o xs e),fun b J e=>?_⟩,?_,fun x c e=>?_,?_,fun x c e=>?_,fun p O=>?_,M,I.len⟩
 .exact g b o (Q b o e) t (K b o e a) (I.base.keep b o e n t a) (I.base.free b o e n a)
 .obtain⟨L,e1⟩:=I.base.slot b o e n t a;obtain⟨Id,G⟩:=h b _ (Q b o e) t (K b o e a) e1 (I.base.free b o e n a);exact⟨Id,G⟩
 .obtain⟨C,e1⟩:=I.base.there b o e a;exact f b C (K b o e a) e1 (I.base.free b o e n a)
 .obtain⟨C,e1⟩:=I.base.there b o e a;exact j b C (K b o e a) e1
 .obtain⟨m1,e1⟩:=I.base.tbls b J e;obtain⟨T,G⟩:=B b _ e1;exact⟨m1++T,by rw[G,Array.append_assoc]⟩
 .obtain⟨m,hn,hl⟩:=I.loc;refine⟨m,R m hn,fun i x v e1 G e3=>?_⟩;obtain⟨u,r,l⟩:=hl i x v e1 G e3;refine⟨u,r,?_⟩;rcases l with l|⟨k,c,e,z⟩
  .exact .inl l
  .exact .inr ⟨k,c,e,Z x c e _ z⟩
 .obtain⟨v,z⟩:=I.cell x c e;exact⟨v,Z x c e v z⟩
 .obtain⟨m,⟨o,_,_,y,_⟩,_⟩:=I.loc;exact f _ o (fun z=>(Y _ z).2.1 rfl) y I.free
 .obtain⟨v,o,y,N⟩:=I.cell x c e;exact f c o (fun z=>(Y c z).2.2.1 x c e rfl) y (I.freeC x c e)
 .obtain⟨e,n,ne,nf,d⟩:=I.pin p O;have U:p.1∉ch:=fun z=>(Y p.1 z).2.2.2 p O rfl;exact⟨g p.1 p.2 ne nf U e n,f p.1 p.2 U e n,ne,nf,d⟩
theorem Inv.un(I:Inv X pz σ H s)(u:Un X.fs [] H H' s.heap h')(a:HOk X.prog X.w H' h'):Inv X pz σ H' { s with heap:=h',toks:=t' }:=by obtain⟨m,⟨o,l,p,d,r⟩,_⟩:=id I.loc;obtain⟨i,h⟩:=u.any d I.free `s;exact I.step (ch:=[]) `a (fun b o _ c _ e n=>u.keep b o e n c `s) (fun b o _ c _ e n=>u.slot b o e n c `s) (fun b o _ e n=>u.free b o e n `s) (fun b o _ e=>u.there b o e `s) u.tups u.frzs u.tbls (fun k g=>by obtain⟨j,Z,Y,U,f⟩:=g;rw[d]at U;cases U;exact⟨_,Z,Y,h,f⟩) a I.bare
theorem Inv.call(I:Inv X pz σ H s)(u:Un (dF X.stack) ch H H' s.heap h')(d:HOk X.prog X.w H' h')(j:ZT g')(U:∀b∈ch,(b∈X.ex\/X.s₀.heap.objs.size<=b)/\b≠X.env.locals/\(∀x c,X.env.cells.lookup x=some c->c≠b)/\∀p∈X.pn++pz,p.1≠b):Inv X pz σ H' { s with heap:=h',gens:=g',drawn:=d',toks:=t' }:=by obtain⟨m,⟨o,y,A,g,r⟩,_⟩:=id I.loc;obtain⟨q,f⟩:=u.any g I.free fun z=>(U _ z).2.1 rfl;exact I.step U (fun b o f k a e n=>u.keep b o e n (fun z=>(s_.mp (I.stkSub b z)).elim f k) a) (fun b o _ _ a e n=>u.any e n a) (fun b o a e n=>u.free b o e n a) (fun b o a e=>u.there b o e a) u.tups u.frzs u.tbls (fun v i=>by obtain⟨t,l,Z,Y,h⟩:=i;rw[g]at Y;cases Y;exact⟨_,l,Z,f,h⟩) d j
theorem Inv.turned(I:Inv X pz σ H s)(k:∀b o,b≠it->s.heap.get? b=some o->h'.get? b=some o)(a:H it=none)(Z:it≠X.env.locals)(i:it∈X.ex\/X.s₀.heap.objs.size<=it)(h:∀x c,X.env.cells.lookup x=some c->c≠it)(g:∀p∈X.pn++pz,p.1≠it):Inv X pz σ H { s with heap:=h',toks:=t' }:=by
 have U:∀b u,H b=some u->b≠it:=fun b u e z=>by rw[z,a]at e;cases e
 refine I.step (g':=s.gens) (d':=s.drawn) (ch:=[it]) (fun b f=>?_) (fun b o _ _ Y e _=>k b o (fun z=>Y (by simp[z])) e) (fun b o _ _ Y e _=>⟨o.slots,k b o (fun z=>Y (by simp[z])) e⟩) (fun _ _ _ _ n=>n)
  (fun b o Y e=>⟨o,k b o (fun z=>Y (by simp[z])) e⟩) (fun _ _ e=>e) (fun _ _ _ e=>e) (fun b j e=>⟨#[],by rw[e];simp⟩) (fun m d=>?_) (fun b u e=>?_) I.bare
 .have e:b=it:=by simpa using f
  subst e;exact⟨i,Z,h,g⟩
 .obtain⟨o,es,ep,ho,r⟩:=d;exact⟨o,es,ep,k _ o (YF Z) ho,r⟩
 .refine(I.hok b u e).stay (fun c v Y q=>k c v ?_ q) (fun _ q=>q) fun _ _ q=>q;rcases Y with z|z
  .rw[z];exact U b u e
  .exact U c _ z
theorem Inv.tok(I:Inv X pz σ H s)(t:Nat):Inv X pz σ H { s with toks:=t }:=I.un Un.refl I.hok
theorem Inv.kept(I:Inv X pz σ H s)(k:∀b u,s.heap.get? b=some u->h'.get? b=some u):Inv X pz σ H { s with heap:=h',toks:=t' }:=I.un (Un.kept k) (I.hok.kept k)
theorem Inv.laid(I:Inv X pz σ H s)(k:∀b u,s.heap.get? b=some u->h'.get? b=some u)(Y:s.heap.objs.size<=a)(U:dZ X.prog X.w (aY H a o) h' a o):Inv X pz σ (aY H a o) { s with heap:=h',toks:=t' }:=I.un (Un.laid k Y (I.hok.fresh Y)) (I.hok.laid k Y U)
theorem Inv.write(I:Inv X pz σ H s)(Z:uP (H x))(a:e=x\/H e=some (.own x))(k:∀b u,b≠e->s.heap.get? b=some u->h'.get? b=some u)(U:∃u,h'.get? e=some u)(Y:dZ X.prog X.w (aY H x o) h' x o):Inv X pz σ (aY H x o) { s with heap:=h',toks:=t' }:=I.un (Un.write Z a k U) (I.hok.write Z a k U Y)
theorem Inv.pins_of(I:Inv X pz σ H s)(h:∀p∈U,s.heap.get? p.1=some p.2/\H p.1=none/\p.1≠X.env.locals/\p.1∉X.fs/\∀v,p.2.data≠.cell v):Inv X U σ H s:=⟨I.ok,I.os,I.bare,I.base,I.loc,I.cell,I.free,I.freeC,fun p Y=>(X9.mp Y).elim (fun z=>I.pin p (Zf _ z)) (h p),I.hok,I.len⟩
theorem Hq{N:List Str}(U:N.Nodup){i j:Nat}(a:N[i]? = some x)(b:N[j]? = some x):i=j:=by obtain⟨d,Z⟩:=e_.mp a;obtain⟨c,Y⟩:=e_.mp b;exact(List.getElem_inj U).mp (Z.trans Y.symm)
theorem Je(I:Inv X pz σ H s)(hN:X.N.Nodup)(hi:X.N[i]? = some x)(l:ju X.env.scope x)(r:aS v u)(h:∀R,Inv X pz (σ.set i (some v)) H R->(∃a,Z4 a s.heap R.heap/\(a=X.env.locals\/X.env.cells.lookup x=some a))->Q () R)(hf:!!!Fx X x):C_ M A (storeName X.env x u) Q E s:=by
 obtain⟨m,hn,hl⟩:=id I.loc;have Cl:(X.env.scope.kind==.class || (X.env.scope.kind==.module&&X.env.locals != X.env.globals))=false:=by rw[I.ok.kind];rfl
 have BT:i<σ.length:=by rw[I.len];exact(e_.mp hi).1
 have F:=I.cne;have U:∀{a:Addr}{G:Heap},(∃o,s.heap.get? a=some o/\H a=none)->Z4 a s.heap G->HOk X.prog X.w H G:=fun{a G} ha hs b ob e=>by
  obtain⟨_,_,Y⟩:=ha;refine(I.hok b ob e).stay (fun c K g q=>(hs.2 c ?_).trans q) (fun _ q=>q) fun _ _ q=>q
  rintro rfl
  rcases g with rfl|g
  .rw[Y]at e;cases e
  .rw[Y]at g;cases g
 rcases l with B|B
 .refine wpAny_storeName_local B hn (fun G IO hs=>?_) Cl;obtain⟨oL,_,_,KK,_⟩:=id hn;refine h _ ⟨I.ok,I.os,I.bare,⟨fun b o e n C l=>?_,fun b o e n C l=>?_,I.base.free,fun b o e l=>?_,I.base.tups,I.base.frzs,I.base.tbls⟩,⟨_,IO,fun j y O f t e3=>?_⟩,fun y c e=>?_,I.free,I.freeC,fun p hp=>?_,U ⟨oL,KK,I.free⟩ hs,by simpa using I.len⟩ ⟨_,hs,.inl rfl⟩
  .exact(hs.2 b (I_ (y_ (q_ e) I.ok.above))).trans (I.base.keep b o e n C l)
  .obtain⟨sl,f⟩:=I.base.slot b o e n C l;exact⟨sl,(hs.2 b (I_ (y_ (q_ e) I.ok.above))).trans f⟩
  .obtain⟨o',f⟩:=I.base.there b o e l;exact⟨o',(hs.2 b (I_ (y_ (q_ e) I.ok.above))).trans f⟩
  .by_cases hj:j=i
   .subst hj;rw[hi]at f;cases f;rw[t_ BT]at t;cases t;exact⟨u,r,.inl ⟨B,`s⟩⟩
   .rw[f_ (YF hj)]at t;obtain⟨P,T,q⟩:=hl j y O f t e3;refine⟨P,T,?_⟩;rcases q with⟨k,e⟩|⟨k,c,e,z⟩
    .refine .inl ⟨k,?_⟩;have:y≠x:=fun e=>hj (Hq hN f (e▸hi));simp[this,e]
    .exact .inr ⟨k,c,e,z.sameBut hs (F y c e)⟩
  .obtain⟨K,z⟩:=I.cell y c e;exact⟨K,z.sameBut hs (F y c e)⟩
  .obtain⟨e,n,ne,nf,d⟩:=I.pin p hp;exact⟨(hs.2 p.1 ne).trans e,n,ne,nf,d⟩
 .have hfn:X.fn x=true:=by
   rcases hf with z|z
   .exact z
   .rw[z]at B;cases B
  obtain⟨c,g⟩:=I.ok.has x (.inl B);obtain⟨K,z⟩:=I.cell x c g;refine wpAny_storeName_cell I.ok.kind B g z (fun G J hs=>?_);obtain⟨oc,Z,Id⟩:=id z;refine h { s with heap:=G } ⟨I.ok,I.os,I.bare,⟨fun b o e n C l=>?_,fun b o e n C l=>?_,I.base.free,fun b o e l=>?_,I.base.tups,I.base.frzs,I.base.tbls⟩,⟨m,hn.sameBut hs (YF (F x c g)),fun j y O f t e3=>?_⟩,fun y L e=>?_,I.free,I.freeC,fun p hp=>?_,U ⟨oc,Z,I.freeC x c g⟩ hs,by simpa using I.len⟩ ⟨c,hs,.inr g⟩
  .exact(hs.2 b (I_ (y_ (q_ e) (I.ok.cab x c hfn g)))).trans (I.base.keep b o e n C l)
  .obtain⟨sl,f⟩:=I.base.slot b o e n C l;exact⟨sl,(hs.2 b (I_ (y_ (q_ e) (I.ok.cab x c hfn g)))).trans f⟩
  .obtain⟨o',f⟩:=I.base.there b o e l;exact⟨o',(hs.2 b (I_ (y_ (q_ e) (I.ok.cab x c hfn g)))).trans f⟩
  .by_cases hj:j=i
   .subst hj;rw[hi]at f;cases f;rw[t_ BT]at t;cases t;exact⟨u,r,.inr ⟨.inl B,c,g,J⟩⟩
   .rw[f_ (YF hj)]at t;obtain⟨P,T,q⟩:=hl j y O f t e3;refine⟨P,T,?_⟩;rcases q with q|⟨k,L,e,z'⟩
    .exact .inl q
    .refine .inr ⟨k,L,e,z'.sameBut hs ?_⟩
     rintro rfl
     exact hj (Hq hN f (I.ok.inj _ _ _ e g▸hi))
  .by_cases hcc:L=c
   .subst hcc;exact⟨_,J⟩
   .obtain⟨w2,z2⟩:=I.cell y L e;exact⟨w2,z2.sameBut hs hcc⟩
  .obtain⟨e,n,ne,nf,d⟩:=I.pin p hp;refine⟨(hs.2 p.1 ?_).trans e,n,ne,nf,d⟩;intro q;rw[q,Z]at e;have q':oc=p.2:=Q_ e;exact d K (by rw[<-q'];exact Id)
theorem Ir(I:Inv X pz σ H s)(a:X.N.Nodup)(hi:X.N[i]? = some x)(Y:ju X.env.scope x)(r:aS v u)(h:∀U,Inv X pz (σ.set i (some v)) H U->Q () U)(Z:!!!Fx X x):C_ M A (storeName X.env x u) Q E s:=Je I a hi Y r (fun U b _=>h U b) Z
theorem Inv.call'(I:Inv X pz σ H s)(a:Y.os=s.os)(u:Un (dF X.stack) ch H H' s.heap Y.heap)(Z:HOk X.prog X.w H' Y.heap)(d:ZT Y.gens)(U:∀b∈ch,(b∈X.ex\/X.s₀.heap.objs.size<=b)/\b≠X.env.locals/\(∀x c,X.env.cells.lookup x=some c->c≠b)/\∀p∈X.pn++pz,p.1≠b):Inv X pz σ H' Y:=by obtain⟨h,i,j,f,g⟩:=Y;have e:=a;subst e;exact I.call u Z d U
end
abbrev XK:=a_->Option Addr->Hp->Prop
abbrev St:=List (Option V)
abbrev VK:=V->Hp->Prop
abbrev TE:=St->Hp->VK->Prop
abbrev TT:=St->Hp->(Bool->Hp->Prop)->Prop
abbrev TA:=St->Hp->(List V->Hp->Prop)->Prop
structure Ends where
 nx:St->Hp->Prop
 rt:VK
 bk:St->Hp->Prop:=fun _ _=>False
 ct:St->Hp->Prop:=fun _ _=>False
abbrev TS:=Ends->St->Hp->Prop
def EP(X:Cx)(pz:List (Addr×Obj))(σ:St)(Q:VK)(u:a_)(s':d_):Prop:=∃v H',Inv X pz σ H' s'/\aS v u/\Q v H'
def TP(X:Cx)(pz:List (Addr×Obj))(σ:St)(Q:Bool->Hp->Prop)(b:Bool)(s':d_):Prop:=∃H',Inv X pz σ H' s'/\Q b H'
def AP(X:Cx)(pz:List (Addr×Obj))(σ:St)(Q:List V->Hp->Prop)(us:List a_)(s':d_):Prop:=∃vs H',Inv X pz σ H' s'/\aL vs us/\Q vs H'
def SP(X:Cx)(pz:List (Addr×Obj))(D:Ends)(f:Flow)(s':d_):Prop:=match f with
|.next=>∃σ' H',Inv X pz σ' H' s'/\D.nx σ' H'
|.brk=>∃σ' H',Inv X pz σ' H' s'/\D.bk σ' H'
|.cont=>∃σ' H',Inv X pz σ' H' s'/\D.ct σ' H'
|.ret u=>∃v σ' H',Inv X pz σ' H' s'/\aS v u/\D.rt v H'
def PE(X:Cx)(e:Expr)(t:TE):Prop:=∀(pz:List (Addr×Obj))(s:d_)(σ:St)(H:Hp)(Q:VK),Inv X pz σ H s->t σ H Q->C_ (F_ X.prog X.w) X.A (eval e X.env) (EP X pz σ Q) X.xe s
def PT(X:Cx)(e:Expr)(t:TT):Prop:=∀(pz:List (Addr×Obj))(s:d_)(σ:St)(H:Hp)(Q:Bool->Hp->Prop),Inv X pz σ H s->t σ H Q->C_ (F_ X.prog X.w) X.A (isTrue e X.env (eval e X.env)) (TP X pz σ Q) X.xe s
def PW(X:Cx)(e:Expr)(t:TT):Prop:=∀(whole:Sem a_)(pz:List (Addr×Obj))(s:d_)(σ:St)(H:Hp)(Q:Bool->Hp->Prop),Inv X pz σ H s->t σ H Q->C_ (F_ X.prog X.w) X.A (isTrue e X.env whole) (TP X pz σ Q) X.xe s
theorem PW.pt(h:PW X e t):PT X e t:=h _
def PA(X:Cx)(es:List Expr)(t:TA):Prop:=∀(pos:Pos)(pz:List (Addr×Obj))(s:d_)(σ:St)(H:Hp)(Q:List V->Hp->Prop),Inv X pz σ H s->t σ H Q->C_ (F_ X.prog X.w) X.A (spliced (backTo pos (E_ es X.env))) (AP X pz σ Q) X.xe s
def PS(X:Cx)(st:Stmt)(t:TS):Prop:=∀(pz:List (Addr×Obj))(s:d_)(σ:St)(H:Hp)(D:Ends),Inv X pz σ H s->t D σ H->C_ (F_ X.prog X.w) X.A (exec st X.env) (SP X pz D) X.xe s
def dQ(X:Cx)(st:List Stmt)(t:TS):Prop:=∀(pz:List (Addr×Obj))(s:d_)(σ:St)(H:Hp)(D:Ends),Inv X pz σ H s->t D σ H->C_ (F_ X.prog X.w) X.A (execs st X.env) (SP X pz D) X.xe s
theorem bK{Q Y:U->d_->Prop}(h:C_ M A t Q E s)(Z:∀a s,Q a s->Y a s):C_ M A t Y E s:=X_ h Z fun _ _ x=>x
variable{b:Expr}{ta tb:TE}{pos:Pos}
section
def C3(i:Nat):TE:=fun σ H Q=>∃v,σ[i]? = some (some v)/\Q v H
def tC(v:V):TE:=fun _ H Q=>Q v H
theorem eL{a:Pos}(p:X.N[i]? = some x)(j:eJ X.env.scope x)(b:!!Nq x)(U:!!Nc x):PE X (.Name x a) (C3 i):=by
 intro g s f H Q I h;obtain⟨v,e,h⟩:=h;obtain⟨m,k,o⟩:=I.loc;obtain⟨u,r,l⟩:=o i x v p e j;have fin:EP X g f Q u s:=⟨v,H,I,r,h⟩
 rcases l with⟨Z,n⟩|⟨Z,c,d,Y⟩
 .exact Þ (wpAny_loadName_local I.ok.kind Z k n fin) b
 .rcases Z with Z|Z
  .exact Þ (wpAny_loadName_cell I.ok.kind Z d Y fin) b
  .exact Þ (wpAny_loadName_free I.ok.kind Z d Y fin U) b
theorem yY{b j pos}:PE X (.Constant (.bool b) j pos) (tC (.bl b)):=fun _ _ _ H _ I h=>Constant_bool ⟨.bl b,H,I,rfl,h⟩
theorem E4{x j pos}:PE X (.Constant (.str x) j pos) (tC (.str x)):=fun _ _ _ H _ I h=>Calls.Constant_str ⟨.str x,H,I.tok _,⟨_,rfl⟩,h⟩
def Gl(X:Cx)(x:Str):Prop:=X.env.kindOf x=some .globalImplicit
theorem nH{σ:St}(I:Inv X pz σ H s)(Z:Gl X x)(Y:X.mg x=some u)(h:Q u s)(a:!!Nq x):C_ (F_ X.prog X.w) X.A (eval (.Name x U) X.env) Q E s:=Z9 I.ok.kind Z (Calls.loadGlobal_global (by rw[I.ok.glob];exact I.mod.glob.keeps I.bk) Y h) a
theorem ox{E:a_->d_->Prop}{σ:St}{U:Pos}(I:Inv X pz σ H s)(b:Gl X x)(a:X.mg x=none)(Y:Zi x=some u)(h:Q u s)(Z:x≠"__name__" := by decide)(c:!!Nq x):C_ (F_ X.prog X.w) X.A (eval (.Name x U) X.env) Q E s:=by obtain⟨f,e,d⟩:=I.mod.blt;exact Z9 I.ok.kind b (Calls.loadGlobal_builtin (by rw[I.ok.glob];exact I.mod.glob.keeps I.bk) a (by rw[I.ok.blt];exact e.keeps I.bk) ((d x Z).trans Y) h) c
theorem wz(Z:Gl X x)(Y:X.mg x=some u)(r:aS v u)(a:!!Nq x):PE X (.Name x U) (tC v):=fun _ _ _ H _ I h=>nH I Z Y ⟨v,H,I,r,h⟩ a
theorem Ow{U:Pos}(b:Gl X x)(a:X.mg x=none)(Y:Zi x=some u)(r:aS v u)(Z:x≠"__name__" := by decide)(c:!!Nq x):PE X (.Name x U) (tC v):=fun _ _ _ H _ I h=>ox I b a Y ⟨v,H,I,r,h⟩ Z c
variable{a:Expr}
noncomputable def tB(t:TE):TT:=fun σ H Q=>t σ H fun x H1=>∃c,x=.bl c/\Q c H1
variable{tA tB':TT}{rest:List Expr}
def Dg(t u:TT):TT:=fun σ H Q=>t σ H fun c H1=>if c=true then u σ H1 Q else Q false H1
def Wb(t u:TT):TT:=fun σ H Q=>t σ H fun c H1=>if c=true then Q true H1 else u σ H1 Q
def C7(t:TT):TT:=fun σ H Q=>t σ H fun c H1=>Q (not c) H1
theorem E8(Z:PT X a tA):PW X (.BoolOp .Or [a] pos) tA:=by intro b Y s U H Q I h;refine isTrue_or (bK (Z Y s U H Q I h) fun c d e=>?_);cases c with
|false=>exact isTrue_or_nil e
|true=>exact e
theorem M9(j:PT X a tA)(i:PW X (.BoolOp .And (b::rest) pos) tB'):PW X (.BoolOp .And (a::b::rest) pos) (Dg tA tB'):=by intro f Z s U H Q I h;refine isTrue_and (bK (j Z s U H _ I h) fun c g k=>?_);obtain⟨e,d,Y⟩:=k;cases c with
|true=>exact i f Z g U e Q d Y
|false=>exact⟨e,d,Y⟩
theorem DV(j:PT X a tA)(i:PW X (.BoolOp .Or (b::rest) pos) tB'):PW X (.BoolOp .Or (a::b::rest) pos) (Wb tA tB'):=by intro f Z s U H Q I h;refine isTrue_or (bK (j Z s U H _ I h) fun c g k=>?_);obtain⟨e,d,Y⟩:=k;cases c with
|true=>exact⟨e,d,Y⟩
|false=>exact i f Z g U e Q d Y
theorem pU(Z:PT X a tA):PT X (.UnaryOp .Not a pos) (C7 tA):=by intro Y s U H Q I h;exact isTrue_not (Z Y s U H _ I h)
noncomputable def VL(ta tb:TE):TE:=fun σ H Q=>ta σ H fun x H1=>∃c,x=.bl c/\if c=true then tb σ H1 Q else Q (.bl false) H1
def VQ(ta:TE):TE:=fun σ H Q=>ta σ H fun x H1=>∃c,x=.bl c/\Q (.bl (not c)) H1
theorem E3{op}(h:PE X a t):PE X (.BoolOp op [a] pos) t:=fun Y s U H Q I Z=>BoolOp_one (h Y s U H Q I Z)
theorem FC(j:PE X a ta)(i:PE X (.BoolOp .And (b::rest) pos) tb):PE X (.BoolOp .And (a::b::rest) pos) (VL ta tb):=by intro Z s Y H Q I h;refine BoolOp_and (bK (j Z s Y H _ I h) fun v f k=>?_);obtain⟨x,e,d,g,U⟩:=k;obtain⟨c,rfl,U⟩:=U;cases g;refine Za ?_;cases c with
|true=>exact i Z f Y e Q d U
|false=>exact⟨.bl false,e,d,rfl,U⟩
theorem M2(d:PE X a ta):PE X (.UnaryOp .Not a pos) (VQ ta):=by intro b s Y H Q I h;refine UnaryOp_ (bK (d b s Y H _ I h) fun v g k=>?_);obtain⟨x,f,e,Z,U⟩:=k;obtain⟨c,rfl,U⟩:=U;cases Z;exact not_of (Za ⟨.bl (not c),f,e,rfl,U⟩)
noncomputable def Wc(t:TT)(ta tb:TE):TE:=fun σ H Q=>t σ H fun c H1=>if c=true then ta σ H1 Q else tb σ H1 Q
theorem Qv(i:PT X c tA)(k:PE X a ta)(j:PE X b tb):PE X (.IfExp c a b pos) (Wc tA ta tb):=by intro Y s U H Q I h;refine wpAny_IfExp (bK (i Y s U H _ I h) fun d Z z=>?_);obtain⟨g,f,e⟩:=z;cases d with
|true=>exact k Y Z U g Q f e
|false=>exact j Y Z U g Q f e
end
def cM(K:W.Frag)(H:Hp)(a:Addr)(xs:List V):Prop:=Rd H a (.lst xs) \/∃(o:Obj)(its:Array a_)(n:Nat),K.lookup a=some o/\o.cls=.type "list"/\o.dict=none/\o.data=.seq its n/\its.size<=sizeLine/\aL xs its.toList
def dB(K:W.Frag)(H:Hp)(a:Addr)(xs:List V):Prop:=Rd H a (.tup xs) \/∃(o:Obj)(its:Array a_)(n:Nat),K.lookup a=some o/\o.cls=.type "tuple"/\o.data=.seq its n/\its.size<=sizeLine/\aL xs its.toList
noncomputable def DF:a_->Option V
|.none=>some .non
|.bool b=>some (.bl b)
|.int i _=>some (.int i)
|.str x _=>some (.str x)
|.bytes b _=>some (.byt b)
|.float b _=>some (.flt b)
|.ref a=>some (.ref a)
|.type n=>some (.ty n)
|_=>none
theorem aS.abs(r:aS x u):DF u=some x:=by cases x with
|non=>cases r;rfl
|bl _=>cases r;rfl
|int _=>obtain⟨t,rfl⟩:=r;rfl
|str _=>obtain⟨t,rfl⟩:=r;rfl
|byt _=>obtain⟨t,rfl⟩:=r;rfl
|flt _=>obtain⟨t,rfl⟩:=r;rfl
|ref _=>cases r;rfl
|ty _=>cases r;rfl
theorem aS.inj(r:aS x u)(q:aS y u):x=y:=Q_ (r.abs.symm.trans q.abs)
theorem aL.inj(h:aL xs us)(h':aL U us):xs=U:=by induction h generalizing U with
|nil=>cases h';rfl
|cons r t a=>cases h' with
 |cons Z Y=>rw[r.inj Z,a Y]
variable{σ:St}
section
variable{xs ys:List V}
theorem cM.of{K:W.Frag}(h:H a=some (.lst xs)):cM K H a xs:=.inl (.inl h)
theorem Inv.list(I:Inv X pz σ H s)(h:cM X.K H a xs):∃U:List a_,aL xs U/\PlainL s.heap a U.toArray/\xs.length<=sizeLine:=by
 rcases h with h|⟨o,U,n,Z,c,b,Y,d,r⟩
 .obtain⟨z,U,n,r,e⟩:=h.ok I.hok;exact⟨U,r,⟨_,n,e,rfl,rfl,rfl⟩,z⟩
 .refine⟨U.toList,r,⟨o,n,I.kIn a o Z,c,b,by simpa using Y⟩,?_⟩;have e:=r.length
  grind
theorem Inv.tuple(I:Inv X pz σ H s)(h:dB X.K H a xs):∃U:List a_,aL xs U/\ä s.heap a U.toArray/\xs.length<=sizeLine:=by
 rcases h with h|⟨o,U,n,Z,b,Y,c,r⟩
 .obtain⟨z,U,r,p,_⟩:=h.ok I.hok
  grind
 .refine⟨U.toList,r,⟨o,I.kIn a o Z,b,n,by simpa using Y⟩,?_⟩;have e:=r.length
  grind
theorem Inv.list_inj(I:Inv X pz σ H s)(h:cM X.K H a xs)(h':cM X.K H a ys):xs=ys:=by
 obtain⟨Y,r,⟨o,n,e,_,_,d⟩,_⟩:=I.list h;obtain⟨U,Z,⟨c,f,b,_,_,g⟩,_⟩:=I.list h';rw[e]at b;have:Y=U:=`a
 subst this;exact r.inj Z
theorem Inv.tuple_inj(I:Inv X pz σ H s)(h:dB X.K H a xs)(h':dB X.K H a ys):xs=ys:=by
 obtain⟨Y,r,⟨o,e,_,n,d⟩,_⟩:=I.tuple h;obtain⟨U,Z,⟨c,b,_,f,g⟩,_⟩:=I.tuple h';rw[e]at b;have:Y=U:=`a
 subst this;exact r.inj Z
end
noncomputable abbrev Cx.wish(X:Cx)(E:a_->d_->Prop):Cx:={ X with xe:=E }
abbrev Cx.nox(X:Cx):Cx:=X.wish fun _ _=>False
theorem Cx.Ok.wish(U:X.Ok)(E:a_->d_->Prop):(X.wish E).Ok:=⟨U.mod,U.kind,U.glob,U.blt,U.above,U.inj,U.has,U.cab,U.hd,U.frames,U.stk,U.exf,U.bs,U.bsz,U.noex,U.exfs,U.funs,U.frf⟩
theorem Cx.Ok.unwish(U:(X.wish E).Ok):X.Ok:=⟨U.mod,U.kind,U.glob,U.blt,U.above,U.inj,U.has,U.cab,U.hd,U.frames,U.stk,U.exf,U.bs,U.bsz,U.noex,U.exfs,U.funs,U.frf⟩
variable{E:a_->d_->Prop}
theorem Inv.wish(I:Inv X pz σ H s)(E:a_->d_->Prop):Inv (X.wish E) pz σ H s:=⟨I.ok.wish E,I.os,I.bare,I.base,I.loc,I.cell,I.free,I.freeC,I.pin,I.hok,I.len⟩
theorem Inv.unwish(I:Inv (X.wish E) pz σ H s):Inv X pz σ H s:=⟨I.ok.unwish,I.os,I.bare,I.base,I.loc,I.cell,I.free,I.freeC,I.pin,I.hok,I.len⟩
theorem SP.unwish(h:SP (X.wish E) pz D f Z):SP X pz D f Z:=by cases f with
|next=>obtain⟨U,Y,I,q⟩:=h;exact⟨U,Y,I.unwish,q⟩
|brk=>obtain⟨U,Y,I,q⟩:=h;exact⟨U,Y,I.unwish,q⟩
|cont=>obtain⟨U,Y,I,q⟩:=h;exact⟨U,Y,I.unwish,q⟩
|ret u=>obtain⟨v,U,Y,I,r,q⟩:=h;exact⟨v,U,Y,I.unwish,r,q⟩
theorem dQ.nox{st:List Stmt}(h:dQ X.nox st t):dQ X st t:=fun Y s U H D I Z=>X_ (h Y s U H D (I.wish _) Z) (fun _ _ q=>q.unwish) fun _ _ z=>X4 z
variable{e:Expr}{te:TE}
section
variable{st:Stmt}{rest:List Stmt}{t u:TS}
def VP:TS:=fun D σ H=>D.nx σ H
def C5(t u:TS):TS:=fun D σ H=>t { D with nx:=u D } σ H
theorem mh:dQ X [] VP:=fun _ _ U H _ I h=>ZX ⟨U,H,I,h⟩
theorem nK(c:PS X st t)(b:dQ X rest u):dQ X (st::rest) (C5 t u):=by intro Y s Z H D I h;refine wpAny_execs_cons (bK (c Y s Z H { D with nx:=u D } I h) fun f a q=>?_);cases f with
|next=>obtain⟨U,e,d,q⟩:=q;exact b Y a U e D d q
|ret v=>exact q
|brk=>exact q
|cont=>exact q
theorem Inv.quiet(I:Inv X pz σ H s):interactive X.env=false:=by simp[interactive,I.ok.kind]
def VO(te:TE):TS:=fun D σ H=>te σ H fun _ H1=>D.nx σ H1
theorem rV(a:PE X e te)(hs:!X7 e none pos.line X.env=pure false):PS X (.Expr e pos) (VO te):=by intro Z s U H D I h;exact wpAny_Expr_any (bK (a Z s U H _ I h) fun v d k=>by obtain⟨x,c,b,f,Y⟩:=k;exact ⟨U,c,b,Y⟩) I.quiet hs
def C6(te:TE):TS:=fun D σ H=>te σ H D.rt
theorem rJ(b:PE X e te):PS X (.Return (some e) pos) (C6 te):=by intro a s U H D I h;exact wpAny_Return_some (bK (b a s U H _ I h) fun v f k=>by obtain⟨x,d,c,Y,Z⟩:=k;exact ⟨x,U,d,c,Y,Z⟩)
def Da(c:TT)(t u:TS):TS:=fun D σ H=>c σ H fun b H1=>if b=true then t D σ H1 else u D σ H1
theorem pE{a b:List Stmt}(j:PT X c Z)(l:dQ X a t)(k:dQ X b u):PS X (.If c a b pos) (Da Z t u):=by intro Y s U H D I h;refine wpAny_If (bK (j Y s U H _ I h) fun d e z=>?_);obtain⟨i,g,f⟩:=z;cases d with
|true=>exact l Y e U i D g f
|false=>exact k Y e U i D g f
end
abbrev TG:=V->St->Hp->(St->Hp->Prop)->Prop
abbrev lM:=List V->St->Hp->(St->Hp->Prop)->Prop
def PG(X:Cx)(target:Expr)(t:TG):Prop:=∀(pz:List (Addr×Obj))(s:d_)(σ:St)(H:Hp)(v:V)(u:a_)(Q:St->Hp->Prop),Inv X pz σ H s->aS v u->t v σ H Q ->C_ (F_ X.prog X.w) X.A (å target X.env u) (fun _ s'=>∃σ' H',Inv X pz σ' H' s'/\Q σ' H') X.xe s
def lv(X:Cx)(ts:List Expr)(t:lM):Prop:=∀(pz:List (Addr×Obj))(s:d_)(σ:St)(H:Hp)(vs:List V)(us:List a_)(Q:St->Hp->Prop),Inv X pz σ H s->aL vs us->t vs σ H Q ->C_ (F_ X.prog X.w) X.A (assignInOrder ((Ye ts X.env).map (·.2)) us) (fun _ s'=>∃σ' H',Inv X pz σ' H' s'/\Q σ' H') X.xe s
abbrev m7:=V->V->V->Hp->(Hp->Prop)->Prop
def iQ(X:Cx)(t:m7):Prop:=∀(pz:List (Addr×Obj))(s:d_)(σ:St)(H:Hp)(o i v:V)(ov iv u:a_)(Q:Hp->Prop),Inv X pz σ H s->aS o ov->aS i iv->aS v u->t o i v H Q ->C_ (F_ X.prog X.w) X.A (setItem ov iv u) (fun _ s'=>∃H',Inv X pz σ H' s'/\Q H') X.xe s
def Eb(i:Nat):TG:=fun v σ H Q=>Q (σ.set i (some v)) H
theorem Gq(Z:X.N.Nodup)(hi:X.N[i]? = some x)(U:ju X.env.scope x)(Y:!!!Fx X x):PG X (.Name x pos) (Eb i):=by intro d s b H v u Q I r h;exact Ģ (Ir I Z hi U r (fun c a=>⟨_,H,a,h⟩) Y)
def DA:lM:=fun vs σ H Q=>vs=[]/\Q σ H
def UQ(t:TG)(u:lM):lM:=fun vs σ H Q=>∃v r,vs=v::r/\t v σ H fun σ' H'=>u r σ' H' Q
theorem Pn:lv X [] DA:=by intro a s U H Y Z Q I r h;obtain⟨e,h⟩:=h;subst e;exact assignInOrder_nil ⟨U,H,I,h⟩
theorem Qy(g:PG X e t)(f:lv X U u)(hs:!(Ye (e::U) X.env).map (·.2)=å e X.env::(Ye U X.env).map (·.2)):lv X (e::U) (UQ t u):=by intro Z s a H l n Q I r h;obtain⟨v,m,i,h⟩:=h;subst i;cases r with
|cons r c=>rw[hs];refine assignInOrder_cons (bK (g Z s a H _ _ _ I r h) fun _ b z=>?_);obtain⟨Y,k,j,d⟩:=z;exact f Z b Y k _ _ Q j c d
noncomputable def Dy(K:W.Frag)(n:Nat)(t:lM):TG:=fun v σ H Q=>∃a xs,v=.ref a/\dB K H a xs/\xs.length=n/\t xs σ H Q
theorem M5{k:Nat}(w:X.calm=true)(h:lv X Y t)(p:!(Ye Y X.env).length=n)(U:!(Ye Y X.env).findIdx? (·.1)=none):PG X (.Tuple Y k pos) (Dy X.K n t):=by intro g s d H v u Q I r Z;obtain⟨a,f,x,m,q,Z⟩:=Z;subst x;cases r;obtain⟨i,c,l,z⟩:=I.tuple m;refine assign_Tuple_tuple (I.ok.hd w) l (by simp[p,<-q,c.length]) U fun A j=>?_;have y:=I.kept (t':=s.toks) fun b o e=>j b o (I_ (q_ e)) e;exact h g _ d H f _ Q y (by simpa using c) Z
noncomputable def Dz(to ti:TE)(t:m7):TG:=fun v σ H Q=>to σ H fun o H1=>ti σ H1 fun i H2=>t o i v H2 fun H3=>Q σ H3
theorem M4{o i:Expr}{Z a:TE}(k:PE X o Z)(hi:PE X i a)(hs:iQ X t)(l:!!!!∀v,å (.Subscript o i pos) X.env v=(do
   let ov <-Ys [v] (eval o X.env);let iv <-Ys [v,ov] (eval i X.env)
   YU pos
   Ys [v,ov,iv] (setItem ov iv v)
   release [v,ov,iv] [])):PG X (.Subscript o i pos) (Dz Z a t):=by intro Y s U H v u Q I r h;rw[l];refine b_ (YR (bK (k Y s U H _ I h) fun ov c a=>?_));obtain⟨x,z,p,e,j⟩:=a;refine b_ (YR (bK (hi Y c U z _ p j) fun iv b i=>?_));obtain⟨y,w,n,d,g⟩:=i;refine b_ (ý (b_ (YR (bK (hs Y b U w x y v ov iv u _ n e d r g) fun _ A o=>?_))));obtain⟨q,m,f⟩:=o;exact wpAny_release ⟨U,q,m,f⟩
def sX(te:TE)(g:TG):TS:=fun D σ H=>te σ H fun x H1=>g x σ H1 D.nx
theorem E6(j:PE X e Z)(i:PG X U g)(hs:!Ö [U] e pos.line X.env=pure false)(f:!Ø [U] e X.env=pure none)(k:!(Ye [U] X.env).map (·.2)=[å U X.env]):PS X (.Assign [U] e pos) (sX Z g):=by intro a s Y H D I h;refine wpAny_Assign_stores (bK (j a s Y H _ I h) fun v b z=>?_) hs f;obtain⟨x,m,l,c,d⟩:=z;rw[k];exact bK (i a b Y m x v _ l c d) fun _ n q=>q
theorem rK(j:X.N.Nodup)(hi:X.N[i]? = some x)(d:ju X.env.scope x)(g:PE X e Y)(hs:!X7 e (some (.Name x U)) pos.line X.env=pure false)(f:!!!Fx X x):PS X (.Assign [.Name x U] e pos) (sX Y (Eb i)):=by intro c s Z H D I h;refine wpAny_Assign_Name (bK (g c s Z H _ I h) fun v o z=>?_) hs;obtain⟨y,m,l,a,b⟩:=z;exact Ir l j hi d a (fun n k=>⟨_,m,k,b⟩) f
noncomputable def NE(c:TT)(tb:TS):TS:=fun D σ H=>∃W:Nat->St->Hp->Prop,(∃m,W m σ H)/\∀m σ H,W m σ H ->c σ H fun b H1=>if b=true then ∃N:St->Hp->Prop,(∀σ' H',N σ' H'->∃m',m'<m/\W m' σ' H')/\tb { D with nx:=N,ct:=N,bk:=D.nx } σ H1 else D.nx σ H1
theorem QB(t:Z8 (F_ X.prog X.w) X.A X.env X.xe)(M:PT X c q)(O:dQ X Z r):PS X (.While c Z [] pos) (NE q r):=by
 intro k s C H D I h;obtain⟨W,⟨L,F⟩,d⟩:=h;refine wpAny_While (codeAny_whileLoop (fun n K=>∃a B,Inv X k a B K/\W n a B) ?_ L ⟨C,H,I,F⟩)
 rintro n J ⟨Y,z,P,E⟩
 refine YM t (bK (M k J Y z _ P (d n Y z E)) fun b G w=>?_);obtain⟨y,x,i⟩:=w;cases b with
|true=>obtain⟨N,u,i⟩:=i;rw[Q_d rfl];refine YM t (bK (O k G Y y _ x i) fun f Q g=>?_);cases f with
 |next=>obtain⟨U,e,p,l⟩:=g;obtain⟨m,o,j⟩:=u U e l;exact⟨m,o,U,e,p,j⟩
 |cont=>obtain⟨U,e,p,l⟩:=g;obtain⟨m,o,j⟩:=u U e l;exact⟨m,o,U,e,p,j⟩
 |brk=>exact g
 |ret v=>exact g
|false=>rw[Q_e w_];exact ZX ⟨Y,y,x,i⟩
structure It where
 go:Nat->Hp->Prop
 yld:Nat->Hp->V->Hp->Prop
 stop:Nat->Hp->Prop
def e8(X:Cx)(pz:List (Addr×Obj))(H:Hp)(b:Addr):Prop:=H b=none/\b≠X.env.locals/\b∉X.fs/\(b∈X.ex\/X.s₀.heap.objs.size<=b)/\(∀x c,X.env.cells.lookup x=some c->c≠b)/\∀p∈X.pn++pz,p.1≠b
theorem Inv.fpOk{b:Addr}(I:Inv X pz σ H s)(U:s.heap.objs.size<=b)(a:Y b=none):e8 X pz Y b:=by
 refine⟨a,Yf (y_ I.lt U),I.nofs U,.inr (S_ I.sz U),fun x c e z=>?_,fun p Z z=>?_⟩
 .obtain⟨v,q⟩:=I.cell x c e;exact Q_f (y_ q.lt (by rw[z];exact U)) (X0 _)
 .exact Q_f (y_ (q_ (I.pin p Z).1) (by rw[z];exact U)) (X0 _)
structure Turn(P:z_)(w:M_)(K:W.Frag)(tg:Expr)(J:It)(fp:List Addr)(it:Addr)(tn:Nat->Heap->Prop):Prop where
 mem:it∈fp
 obj:∀i h,tn i h->∀b∈fp,∃o,h.get? b=some o/\∀v,o.data≠.cell v
 keep:∀i h h',tn i h->(∀b∈fp,∀o,h.get? b=some o->h'.get? b=some o)->tn i h'
 item:∀(X:Cx),X.prog=P->X.w=w->X.K=K->X.calm=true->∀(i:Nat)(pz:List (Addr×Obj))(s:d_)(σ:St)(H:Hp)(E:a_->d_->Prop),Inv X pz σ H s->(∀b∈fp,e8 X pz H b)->tn i s.heap->J.go i H ->C_ (F_ P w) X.A (pyNext (.ref it)) (fun r s1=>∃u,r=some u /\C_ (F_ P w) X.A (Ô tg (.ref it) u) (fun _ s2=>∃x H',Inv X pz σ H' s2/\aS x u/\J.yld i H x H'/\tn (i+1) s2.heap/\∀b∈fp,H' b=none) E s1) E s
 done:∀(X:Cx),X.prog=P->X.w=w->X.K=K->X.calm=true->∀(i:Nat)(pz:List (Addr×Obj))(s:d_)(σ:St)(H:Hp)(E:a_->d_->Prop),Inv X pz σ H s->(∀b∈fp,e8 X pz H b)->tn i s.heap->J.stop i H ->C_ (F_ P w) X.A (pyNext (.ref it)) (fun r s1=>r=none/\Inv X pz σ H s1) E s
 self:∀(A:N_)(i:Nat)(s:d_)(Q:a_->d_->Prop)(E:a_->d_->Prop),tn i s.heap->Q (.ref it) s->C_ (F_ P w) A (í (.ref it)) Q E s
abbrev TI:=St->Hp->(It->Hp->Prop)->Prop
def MQ(X:Cx)(pz:List (Addr×Obj))(σ:St)(tg:Expr)(R:It->Hp->Prop)(itv:a_)(s2:d_):Prop:=∃(it:Addr)(fp:List Addr)(tn:Nat->Heap->Prop)(J:It)(H':Hp),itv=.ref it/\Inv X pz σ H' s2/\Turn X.prog X.w X.K tg J fp it tn/\tn 0 s2.heap/\(∀b∈fp,e8 X pz H' b)/\R J H'
def PI(X:Cx)(tg iter:Expr)(wi:TI):Prop:=∀(pz:List (Addr×Obj))(s:d_)(σ:St)(H:Hp)(R:It->Hp->Prop),Inv X pz σ H s->wi σ H R ->C_ (F_ X.prog X.w) X.A (eval iter X.env) (fun v s1=>C_ (F_ X.prog X.w) X.A (í v) (MQ X pz σ tg R) X.xe s1) X.xe s
theorem zd{o:Obj}{vs:Array a_}{Q:Unit->d_->Prop}(Z:s.heap.get? it=some o)(b:o.cls=.type n)(a:o.data=.fields vs)(c : ["enumerate","zip","dict_itemiterator","dict_reverseitemiterator","odict_iterator","itertools.zip_longest","itertools.pairwise"].contains n=false)(U:Q () s):C_ M A (Ô Y (.ref it) u) Q E s:=by
  cases Y <;> first
    |exact r_ U
    |(cases u <;> first
        |exact r_ U
        | (refine b_ (wpAny_load Z ?_)
           rw[b,a];show C_ M A (if (["enumerate","zip","dict_itemiterator","dict_reverseitemiterator","odict_iterator","itertools.zip_longest","itertools.pairwise"].contains n&&vs[0]? == some _)=true then _ else _) Q E s;rw[Q_e `g];exact r_ U))
noncomputable def yN(K:W.Frag)(a:Addr):It:=⟨fun i H=>∃xs x,cM K H a xs/\xs[i]? = some x,fun i H x H'=>H'=H/\∀xs,cM K H a xs->xs[i]? = some x,fun i H=>∃xs,cM K H a xs/\xs.length<=i⟩
noncomputable def DM(K:W.Frag)(a:Addr):It:=⟨fun i H=>∃xs x,dB K H a xs/\xs[i]? = some x,fun i H x H'=>H'=H/\∀xs,dB K H a xs->xs[i]? = some x,fun i H=>∃xs,dB K H a xs/\xs.length<=i⟩
noncomputable def uS(lo:Int)(n:Nat):It:=⟨fun i _=>i<n,fun i H x H'=>H'=H/\x=.int (lo+i),fun i _=>n<=i⟩
theorem RA{K:W.Frag}(a it:Addr):Turn P w K J (yN K a) [it] it (fun i h=>h.IsListIter it a i) where
 mem:=`s
 obj:=fun i h U b Y=>by
  have e:=by simpa using Y
  obtain⟨o,e,c,d⟩:=U
  grind
 keep:=fun i h C U k=>U.at fun o e=>k it `s o e
 item:=by intro X r n t B i N s F H E I g U q;subst r n t;obtain⟨G,x,f,m⟩:=q;obtain⟨l,j,p,O⟩:=I.list f;obtain⟨u,R,M⟩:=j.get m;obtain⟨A,f1,f2,z,y,v⟩:=g it `s;refine wpAny_pyNext_list_item U p.isList (by simpa using R) fun C Z L=>?_;have I1:=I.turned (t':=s.toks) (fun b o Y e=>(L.2 b Y).trans e) A f1 z y v;obtain⟨o,e,c,d⟩:=id Z;exact⟨u,rfl,zd e c d (rfl) ⟨x,H,I1,M,⟨rfl,fun ys Q=>by rw[I.list_inj Q f];exact m⟩,Z,fun b Y=>(g b Y).1⟩⟩
 done:=by intro X r n t B i N s F H E I g U q;subst r n t;obtain⟨G,f,m⟩:=q;obtain⟨l,j,p,O⟩:=I.list f;obtain⟨A,f1,f2,z,y,v⟩:=g it `s;have hl:=j.length;exact wpAny_pyNext_list_end (I.ok.hd B) U p.isList `z fun C T=>⟨rfl,I.turned (fun b o Y e=>T b o Y e) A f1 z y v⟩
 self:=fun _ _ _ _ _ U h=>wpAny_pyIter_listiter U h
theorem Sa{K:W.Frag}(a it:Addr):Turn P w K J (DM K a) [it] it (fun i h=>h.IsTupleIter it a i) where
 mem:=`s
 obj:=fun i h U b Y=>by
  have e:=by simpa using Y
  obtain⟨o,e,c,d⟩:=U;simp_all
 keep:=fun i h C U k=>U.at fun o e=>k it `s o e
 item:=by intro X r n t B i N s F H E I g U q;subst r n t;obtain⟨G,x,f,m⟩:=q;obtain⟨l,j,p,O⟩:=I.tuple f;obtain⟨u,R,M⟩:=j.get m;obtain⟨A,f1,f2,z,y,v⟩:=g it `s;refine wpAny_pyNext_tuple_item U (p) (by simpa using R) fun C Z L=>?_;have I1:=I.turned (t':=s.toks) (fun b o Y e=>(L.2 b Y).trans e) A f1 z y v;obtain⟨o,e,c,d⟩:=id Z;exact⟨u,rfl,zd e c d (rfl) ⟨x,H,I1,M,⟨rfl,fun ys Q=>by rw[I.tuple_inj Q f];exact m⟩,Z,fun b Y=>(g b Y).1⟩⟩
 done:=by intro X r n t B i N s F H E I g U q;subst r n t;obtain⟨G,f,m⟩:=q;obtain⟨l,j,p,O⟩:=I.tuple f;obtain⟨A,f1,f2,z,y,v⟩:=g it `s;have hl:=j.length;exact wpAny_pyNext_tuple_end (I.ok.hd B) U (p) `z fun C T=>⟨rfl,I.turned (fun b o Y e=>T b o Y e) A f1 z y v⟩
 self:=fun _ _ _ _ _ U h=>wpAny_pyIter_tupleiter U h
theorem R9{K:W.Frag}(it:Addr)(lo:Int)(n:Nat):Turn P w K z (uS lo n) [it] it (fun i h=>IsRangeIter h it (lo+(i:Nat)*1) ((n:Int)-(i:Nat)) 1) where
 mem:=`s
 obj:=fun i h U b a=>by simp_all
 keep:=fun i h f U k=>k it `s _ U
 item:=by intro X u r x d i q s p H E I Z U c;subst u r x;obtain⟨m,f1,f2,l,j,g⟩:=Z it `s;have W:=Walks.range (prog:=X.prog) (w:=X.w) (I.ok.hd d) it lo 1 n;refine W.item i s _ _ c U fun v f y A Y F=>?_;obtain⟨t,rfl⟩:=A;have C:Inv X q p H { s with heap:=f,toks:=y }:=I.turned `a m f1 l j g;refine⟨_,rfl,zd Y rfl rfl (rfl) ⟨.int _,H,C,⟨t,?_⟩,⟨rfl,rfl⟩,Y,fun b a=>(Z b a).1⟩⟩;rw[Int.mul_one]
 done:=by intro X u r x d i q s p H E I Z U c;obtain⟨m,f1,f2,l,j,g⟩:=Z it `s;exact wpAny_pyNext_range_end (I.ok.hd d) U (by have:n<=i:=c;omega) fun f B=>⟨rfl,I.turned (fun b o a e=>B b o a e) m f1 l j g⟩
 self:=fun _ _ _ _ _ U h=>wpAny_pyIter_rangeiter U h
section
variable{tg:Expr}
theorem Hv{lo hi:Int}(I:Inv X pz σ H s)(f : -(2^62)<=lo)(d:lo<2^62)(c : -(2^62)<=hi)(a:hi<2^62)(q:R (uS lo (hi-lo).toNat) H):C_ (F_ X.prog X.w) X.A (í (.ref s.heap.objs.size)) (MQ X pz σ tg R) E { s with heap:=s.heap.push { cls:=.type "range",data:=.fields #[.int lo t,.int hi u,.int 1 v] },toks:=Y }:=by
 refine wpAny_pyIter_range (IsRange.new ..) (small_one f d c a) ?_;have U:Inv X pz σ H { s with heap:=s.heap.push { cls:=.type "range",data:=.fields #[.int lo t,.int hi u,.int 1 v] },toks:=Y }:=I.kept fun b o e=>c_ _ e;refine⟨_,_,_,_,H,rfl,U.kept fun b o e=>c_ _ e,R9 _ lo (hi-lo).toNat,?_,fun b Z=>?_,q⟩
 .have e1:lo+((0:Nat))*1=lo:=`s
  have g:(((hi-lo).toNat))-((0:Nat))=Ū lo hi 1:=by rw[rangeSize_one];split <;> omega
  rw[e1,g];exact n_ _ rfl
 .have e:b=(s.heap.push { cls:=.type "range",data:=.fields #[.int lo t,.int hi u,.int 1 v] }).objs.size:=by simpa using Z
  subst e;exact U.fpOk (l_ _) (U.hok.fresh (l_ _))
def US(ta:TA):TI:=fun σ H R=>ta σ H fun vs H1=>∃j:Int,vs=[.int j]/\-(2^62)<=j/\j<2^62/\R (uS 0 j.toNat) H1
def UU(ta:TA):TI:=fun σ H R=>ta σ H fun vs H1=>∃i j:Int,vs=[.int i,.int j]/\(-(2^62)<=i/\i<2^62/\-(2^62)<=j/\j<2^62)/\R (uS i (j-i).toNat) H1
theorem Rf{a:Expr}(k:Gl X "range")(i:X.mg "range" = none)(l:PA X [a] Z)(hs:!E_ [a] X.env=[(false,eval a X.env)]):PI X tg (.Call (.Name "range" p) [a] [] U) (US Z):=by intro g s b H R I h;refine Call_ (ox I k i ē (Yc (bK (l U g s b H _ I h) fun o u z=>?_) hs rfl));obtain⟨n,v,m,d,Y⟩:=z;obtain⟨j,e,Y,f,q⟩:=Y;subst e;cases d with
|cons r c=>cases c;obtain⟨t,rfl⟩:=r;exact call_range_1 (Hv m `d `d Y f (by simpa using q))
theorem Rh{a b:Expr}{p Y:Pos}(v:Gl X "range")(u:X.mg "range" = none)(w:PA X [a,b] d)(hs:!E_ [a,b] X.env=[(false,eval a X.env),(false,eval b X.env)])(U:!E_ [b] X.env=[(false,eval b X.env)]):PI X tg (.Call (.Name "range" p) [a,b] [] Y) (UU d):=by intro o s f H R I h;refine Call_ (ox I v u ē (Yc (bK (w Y o s f H _ I h) fun z B a=>?_) (by rw[hs,U]) (by rw[U];rfl)));obtain⟨y,C,x,g,c⟩:=a;obtain⟨i,j,e,⟨c,n,m,l⟩,q⟩:=c;subst e;cases g with
|cons r Z=>cases Z with
 |cons k Z=>cases Z;obtain⟨t,rfl⟩:=r;obtain⟨A,rfl⟩:=k;exact call_range_2 (Hv x c n m l q)
noncomputable def Db(wi:TI)(g:TG)(tb:TS):TS:=fun D σ H=>wi σ H fun J H1=>∃W:Nat->Nat->St->Hp->Prop,(∃m,W 0 m σ H1)/\∀i m σ H,W i m σ H ->(J.stop i H/\D.nx σ H)\/(J.go i H/\∃N:St->Hp->Prop,(∀σ' H',N σ' H'->∃m',m'<m/\W (i+1) m' σ' H')/\∀x H',J.yld i H x H'->g x σ H' fun σ2 H2=>tb { D with nx:=N,ct:=N,bk:=D.nx } σ2 H2)
noncomputable def zL(fp:List Addr)(h:Heap):List (Addr×Obj):=fp.filterMap fun b=>(h.get? b).map fun o=>(b,o)
theorem xq{b:Addr}{o:Obj}(Y:b∈U)(e:h.get? b=some o):(b,o)∈zL U h:=XU.mpr ⟨b,Y,by rw[e];rfl⟩
theorem Q8(Y:p∈zL U h):p.1∈U/\h.get? p.1=some p.2:=by obtain⟨b,Z,e⟩:=XU.mp Y;cases q:h.get? b with
|none=>rw[q]at e;cases e
|some o=>grind
theorem Inv.pinned(I:Inv X pz σ H s)(f:∀b∈U,e8 X pz H b)(c:∀b∈U,∃o,s.heap.get? b=some o/\∀v,o.data≠.cell v):Inv X (pz++zL U s.heap) σ H s:=I.pins_of fun p a=>(X9.mp a).elim (fun z=>I.pin p (XM _ z)) fun z=>by obtain⟨Y,e⟩:=Q8 z;obtain⟨g,f1,f2,_⟩:=f p.1 Y;obtain⟨o,Z,d⟩:=c p.1 Y;rw[e]at Z;cases Z;exact⟨e,g,f1,f2,d⟩
theorem Inv.unpinned(I:Inv X (pz++U) σ H s):Inv X pz σ H s:=I.pins_of fun p Y=>I.pin p `a
theorem vV{tb:TS}(K:Z8 (F_ X.prog X.w) X.A X.env X.xe)(hc:X.calm=true)(hi:PI X tg j wi)(hg:PG X tg g)(k:dQ X y tb)(hs:!!!!Ix X j):PS X (.For tg j y [] R) (Db wi g tb):=by
 intro B s σ H D I h;refine wpAny_For (bK (hi B s σ H _ I h) fun v s1 h1=>bK h1 fun itv s2 h2=>?_) hs;obtain⟨it,M,tn,J,H2,e,I2,T,Z,f2,W,⟨m0,w0⟩,C⟩:=h2;subst e;have Y:∀{q:Hp},(∀b∈M,q b=none)->∀b∈M,e8 X B q b:=fun hn b k=>⟨hn b k,(f2 b k).2⟩
 refine codeAny_forLoop_any (fun n s'=>∃i c q,Inv X B c q s'/\tn i s'.heap/\(∀b∈M,q b=none)/\W i n c q) ?_ m0 ⟨0,σ,H2,I2,Z,fun b k=>(f2 b k).1,w0⟩
 rintro n s3 ⟨i,a,O,I3,G,L,w3⟩
 rcases C i n a O w3 with⟨E,qn⟩|⟨go,N,hN,F⟩
 .refine YM K (bK (T.done X rfl rfl rfl hc i B s3 a O X.xe I3 (Y L) G E) fun r s4 y=>?_);obtain⟨hr,I4⟩:=y;subst hr;exact ZX ⟨a,O,I4,qn⟩
 .refine YM K (bK (T.item X rfl rfl rfl hc i B s3 a O X.xe I3 (Y L) G go) fun r s4 w=>?_);obtain⟨u,hr,h4⟩:=w;subst hr;refine YM K (bK h4 fun _ s5 j=>?_);obtain⟨x,H5,I5,r5,y5,z,fr5⟩:=j;have BT:=I5.pinned (Y fr5) (T.obj _ _ z);refine YM K (bK (hg _ s5 a H5 x u _ BT r5 (F x H5 y5)) fun _ s6 g=>?_);obtain⟨P,H6,I6,q6⟩:=g;refine YM K (bK (k _ s6 P H6 _ I6 q6) fun f Q t=>?_);have l:∀{U:St}{p:Hp},Inv X _ U p Q->N U p->∃m,m<n/\∃i c q,Inv X B c q Q/\tn i Q.heap/\(∀b∈M,q b=none)/\W i m c q:=fun{U p} I7 n7=>by obtain⟨m',hm,w7⟩:=hN U p n7;refine⟨m',hm,i+1,U,p,I7.unpinned,T.keep _ _ _ z fun b k o e=>(I7.pin _ (XM _ (XM _ (xq k e)))).1,fun b k=>?_,w7⟩;obtain⟨o,e,d⟩:=T.obj _ _ z b k;exact(I7.pin _ (XM _ (XM _ (xq k e)))).2.1
  cases f with
 |next=>obtain⟨U,p,I7,n7⟩:=t;exact l I7 n7
 |cont=>obtain⟨U,p,I7,n7⟩:=t;exact l I7 n7
 |brk=>obtain⟨U,p,I7,t⟩:=t;exact⟨U,p,I7.unpinned,t⟩
 |ret v=>obtain⟨x7,U,p,I7,r7,t⟩:=t;exact⟨x7,U,p,I7.unpinned,r7,t⟩
end
abbrev R2:=V->V->Hp->VK->Prop
def c7(X:Cx)(f:a_->a_->Sem a_)(r:R2):Prop:=∀(pz:List (Addr×Obj))(s:d_)(σ:St)(H:Hp)(x y:V)(v u:a_)(Q:VK),Inv X pz σ H s->aS x v->aS y u->r x y H Q ->C_ (F_ X.prog X.w) X.A (f v u) (EP X pz σ Q) X.xe s
def MP(X:Cx)(f:a_->Sem a_)(r:V->Hp->VK->Prop):Prop:=∀(pz:List (Addr×Obj))(s:d_)(σ:St)(H:Hp)(x:V)(v:a_)(Q:VK),Inv X pz σ H s->aS x v->r x H Q ->C_ (F_ X.prog X.w) X.A (f v) (EP X pz σ Q) X.xe s
def gm(X:Cx)(f:a_)(r:List V->Hp->VK->Prop):Prop:=∀(pz:List (Addr×Obj))(s:d_)(σ:St)(H:Hp)(xs:List V)(us:List a_)(Q:VK),Inv X pz σ H s->aL xs us->r xs H Q ->C_ (F_ X.prog X.w) X.A (call f us) (EP X pz σ Q) X.xe s
def DG(X:Cx)(r:V->Hp->(Bool->Hp->Prop)->Prop):Prop:=∀(pz:List (Addr×Obj))(s:d_)(σ:St)(H:Hp)(x:V)(v:a_)(Q:Bool->Hp->Prop),Inv X pz σ H s->aS x v->r x H Q ->C_ (F_ X.prog X.w) X.A (î v) (TP X pz σ Q) X.xe s
def yA(r:R2)(ta tb:TE):TE:=fun σ H Q=>ta σ H fun x H1=>tb σ H1 fun y H2=>r x y H2 Q
def V9(r:V->Hp->VK->Prop)(ta:TE):TE:=fun σ H Q=>ta σ H fun x H1=>r x H1 Q
noncomputable def rI(C:Int->Int->Prop)(g:Int->Int->V):R2:=fun x y H Q=>∃i j,x=.int i/\y=.int j/\C i j/\Q (g i j) H
def mC(g:Int->Int->V):R2:=fun x y H Q=>∃i j,x=.int i/\y=.int j/\Q (g i j) H
def rU(g:Int->V):V->Hp->VK->Prop:=fun x H Q=>∃i,x=.int i/\Q (g i) H
variable{c:Expr}{tc:TE}
section
variable{a:Expr}
theorem pk(n:PE X a ta)(m:PE X b tb){R:V->V->Hp->Prop}(I:Inv X pz σ H s)(h:ta σ H fun x d=>tb σ d fun y U=>R x y U){f:a_->a_->Sem a_}(l:∀v u c x y U,Inv X pz σ U c->aS x v->aS y u->R x y U->C_ (F_ X.prog X.w) X.A (f v u) Q X.xe c):C_ (F_ X.prog X.w) X.A (eval a X.env) (fun v Z=>C_ (F_ X.prog X.w) X.A (eval b X.env) (fun u Y=>C_ (F_ X.prog X.w) X.A (f v u) Q X.xe Y) X.xe Z) X.xe s:=by refine bK (n pz s σ H _ I h) fun v e z=>?_;obtain⟨x,d,p,i,k⟩:=z;refine bK (m pz e σ d _ p k) fun u c w=>?_;obtain⟨y,U,o,g,j⟩:=w;exact l v u c x y U o i g j
theorem DT(e:c7 X (ZJ op) r)(g:PE X a ta)(f:PE X b tb):PE X (.BinOp a op b pos) (yA r ta tb):=by intro d s U H Q I h;exact wpAny_BinOp (pk g f I h fun v u Y x y j i c Z q=>e d Y U j x y v u Q i c Z q)
theorem V1(d:MP X (unaryOp op) r)(e:PE X a ta):PE X (.UnaryOp op a pos) (V9 r ta):=by intro Y s U H Q I h;exact UnaryOp_ (bK (e Y s U H _ I h) fun v Z k=>by obtain⟨x,g,f,b,c⟩:=k;exact d Y Z U g x v Q f b c)
theorem tU{g:Int->Int->Int}(U:∀(i j:Int)(t u:Tok)(s:d_)(Q:a_->d_->Prop)(E:a_->d_->Prop),C i j->Q (.int (g i j) s.toks) { s with toks:=s.toks+1 }->C_ (F_ X.prog X.w) X.A (f (.int i t) (.int j u)) Q E s):c7 X f (rI C fun i j=>.int (g i j)):=by intro d s c H x y v u Q I a Z h;obtain⟨i,j,rfl,rfl,b,q⟩:=h;obtain⟨t,rfl⟩:=a;obtain⟨Y,rfl⟩:=Z;exact U i j t Y s _ _ b ⟨.int _,H,I.tok _,⟨_,rfl⟩,q⟩
theorem tT{g:Int->Int->Int}(U:∀(i j:Int)(t u:Tok)(s:d_)(Q:a_->d_->Prop)(E:a_->d_->Prop),Q (.int (g i j) s.toks) { s with toks:=s.toks+1 }->C_ (F_ X.prog X.w) X.A (f (.int i t) (.int j u)) Q E s):c7 X f (mC fun i j=>.int (g i j)):=by intro c s b H x y v u Q I a Z h;obtain⟨i,j,rfl,rfl,q⟩:=h;obtain⟨t,rfl⟩:=a;obtain⟨Y,rfl⟩:=Z;exact U i j t Y s _ _ ⟨.int _,H,I.tok _,⟨_,rfl⟩,q⟩
theorem pb{g:Int->Int->Bool}(U:∀(i j:Int)(t u:Tok)(s:d_)(Q:a_->d_->Prop)(E:a_->d_->Prop),Q (.bool (g i j)) s->C_ (F_ X.prog X.w) X.A (f (.int i t) (.int j u)) Q E s):c7 X f (mC fun i j=>.bl (g i j)):=by intro c s b H x y v u Q I a Z h;obtain⟨i,j,rfl,rfl,q⟩:=h;obtain⟨t,rfl⟩:=a;obtain⟨Y,rfl⟩:=Z;exact U i j t Y s _ _ ⟨.bl _,H,I,rfl,q⟩
def ng(i j:Int):Prop:=0<j/\j<1073741824
def pC(i j:Int):Prop:=0<=j/\j<=1000000/\i.natAbs<2^64
def jO(i j:Int):Prop:=(-(2^64)<i/\i<2^64)\/(-(2^64)<j/\j<2^64)
theorem jO.ok(h:jO i j):IntMulOk i j:=by
 rcases h with⟨Y,U⟩|⟨Y,U⟩
 .exact .of_left (intBits_le_64 Y U)
 .exact .of_right (intBits_le_64 Y U)
theorem FA:c7 X (ZJ .Add) (mC fun i j=>.int (i+j)):=tT fun _ _ _ _ _ _ _ q=>add_int q
theorem V8{g:Int->Int}(U:∀(i:Int)(t:Tok)(s:d_)(Q:a_->d_->Prop)(E:a_->d_->Prop),Q (.int (g i) s.toks) { s with toks:=s.toks+1 }->C_ (F_ X.prog X.w) X.A (f (.int i t)) Q E s):MP X f (rU fun i=>.int (g i)):=by intro a s Z H x v Q I Y h;obtain⟨i,rfl,q⟩:=h;obtain⟨t,rfl⟩:=Y;exact U i t s _ _ ⟨.int _,H,I.tok _,⟨_,rfl⟩,q⟩
end
noncomputable def mz:V->V->Bool
|.non,.non=>true|.non,.int _=>true|.int _,.non=>true|.non,.bl _=>true|.bl _,.non=>true|.non,.str _=>true|.str _,.non=>true
|.int _,.int _=>true|.bl _,.bl _=>true|.str _,.str _=>true|.byt _,.byt _=>true
|.int _,.str _=>true|.str _,.int _=>true|.bl _,.str _=>true|.str _,.bl _=>true
|_,_=>false
def ML:R2:=fun x y H Q=>mz x y=true/\Q (.bl (decide (x=y))) H
def MJ:R2:=fun x y H Q=>mz x y=true/\Q (.bl (not (decide (x=y)))) H
theorem Ak:decide (V.int i=V.int j)=(i==j):=by rw[XS];simp
theorem zz:decide (V.bl i=V.bl j)=(i==j):=by rw[XS];simp
theorem Al:decide (V.str i=V.str j)=(i==j):=by rw[XS];simp
theorem FF:decide (V.byt i=V.byt j)=(i.toList==j.toList):=by rw[XS];cases i;cases j;simp
section
variable{a:Expr}
theorem dM(I:Inv X pz σ H s)(q:Q (.bl k) H)(e:k=U):EP X pz σ Q (.bool U) s:=by subst e;exact⟨.bl k,H,I,rfl,q⟩
theorem DQ:c7 X (X1 .Eq) ML:=by intro c s b H x y v u Q I a U h;obtain⟨Z,q⟩:=h;cases x with
|non=>cases a;cases y with
 |non=>cases U;exact PySem.EqNone.eq_none_none (dM I q (rfl))
 |bl j=>cases U;exact PySem.EqNone.eq_none_bool (dM I q (rfl))
 |int j=>obtain⟨Y,rfl⟩:=U;exact PySem.EqNone.eq_none_int (dM I q (rfl))
 |str j=>obtain⟨Y,rfl⟩:=U;exact PySem.EqNone.eq_none_str (dM I q (rfl))
 |_=>exact Q_f (show false=true from Z) w_
|bl i=>cases a;cases y with
 |non=>cases U;exact PySem.EqNone.eq_bool_none (dM I q (rfl))
 |bl j=>cases U;exact eq_bool (dM I q zz)
 |str j=>obtain⟨Y,rfl⟩:=U;exact PySem.EqMixed.eq_bool_str (dM I q `s)
 |_=>exact Q_f (show false=true from Z) w_
|int i=>obtain⟨t,rfl⟩:=a;cases y with
 |non=>cases U;exact PySem.EqNone.eq_int_none (dM I q `s)
 |int j=>obtain⟨Y,rfl⟩:=U;exact eq_int (dM I q Ak)
 |str j=>obtain⟨Y,rfl⟩:=U;exact PySem.EqMixed.eq_int_str (dM I q (rfl))
 |_=>exact Q_f (show false=true from Z) w_
|str i=>obtain⟨t,rfl⟩:=a;cases y with
 |non=>cases U;exact PySem.EqNone.eq_str_none (dM I q (rfl))
 |bl j=>cases U;exact PySem.EqMixed.eq_str_bool (dM I q (rfl))
 |int j=>obtain⟨Y,rfl⟩:=U;exact PySem.EqMixed.eq_str_int (dM I q (rfl))
 |str j=>obtain⟨Y,rfl⟩:=U;exact eq_str (dM I q Al)
 |_=>exact Q_f (show false=true from Z) w_
|byt i=>obtain⟨t,rfl⟩:=a;cases y with
 |byt j=>obtain⟨Y,rfl⟩:=U;exact W.eq_bytes (dM I q FF)
 |_=>exact Q_f (show false=true from Z) w_
|_=>cases y <;> exact Q_f (show false=true from Z) w_
theorem VZ:c7 X (X1 .NotEq) MJ:=by intro c s b H x y v u Q I a U h;obtain⟨Z,q⟩:=h;cases x with
|non=>cases a;cases y with
 |non=>cases U;exact PySem.EqNone.ne_none_none (dM I q (rfl))
 |bl j=>cases U;exact PySem.EqNone.ne_none_bool (dM I q (rfl))
 |int j=>obtain⟨Y,rfl⟩:=U;exact PySem.EqNone.ne_none_int (dM I q (rfl))
 |str j=>obtain⟨Y,rfl⟩:=U;exact PySem.EqNone.ne_none_str (dM I q (rfl))
 |_=>exact Q_f (show false=true from Z) w_
|bl i=>cases a;cases y with
 |non=>cases U;exact PySem.EqNone.ne_bool_none (dM I q (rfl))
 |bl j=>cases U;exact ne_bool (dM I q (Q_g not zz))
 |str j=>obtain⟨Y,rfl⟩:=U;exact PySem.EqMixed.ne_bool_str (dM I q (rfl))
 |_=>exact Q_f (show false=true from Z) w_
|int i=>obtain⟨t,rfl⟩:=a;cases y with
 |non=>cases U;exact PySem.EqNone.ne_int_none (dM I q (rfl))
 |int j=>obtain⟨Y,rfl⟩:=U;exact ne_int (dM I q (Q_g not Ak))
 |str j=>obtain⟨Y,rfl⟩:=U;exact PySem.EqMixed.ne_int_str (dM I q (rfl))
 |_=>exact Q_f (show false=true from Z) w_
|str i=>obtain⟨t,rfl⟩:=a;cases y with
 |non=>cases U;exact PySem.EqNone.ne_str_none (dM I q (rfl))
 |bl j=>cases U;exact PySem.EqMixed.ne_str_bool (dM I q (rfl))
 |int j=>obtain⟨Y,rfl⟩:=U;exact PySem.EqMixed.ne_str_int (dM I q (rfl))
 |str j=>obtain⟨Y,rfl⟩:=U;exact ne_str (dM I q (Q_g not Al))
 |_=>exact Q_f (show false=true from Z) w_
|byt i=>obtain⟨t,rfl⟩:=a;cases y with
 |byt j=>obtain⟨Y,rfl⟩:=U;exact W.ne_bytes (dM I q (Q_g not FF))
 |_=>exact Q_f (show false=true from Z) w_
|_=>cases y <;> exact Q_f (show false=true from Z) w_
theorem yX:c7 X (X1 .Lt) (mC fun i j=>.bl (decide (i<j))):=pb fun _ _ _ _ _ _ _ q=>lt_int q
theorem VY:c7 X (X1 .LtE) (mC fun i j=>.bl (decide (i<=j))):=pb fun _ _ _ _ _ _ _ q=>le_int q
theorem DR:c7 X (X1 .Gt) (mC fun i j=>.bl (decide (j<i))):=pb fun _ _ _ _ _ _ _ q=>gt_int q
theorem c7.or(h:c7 X f r)(h':c7 X f r'):c7 X f (fun x y H Q=>r x y H Q\/r' x y H Q):=by
 intro a s U H x y v u Q I Z Y q;rcases q with q|q
 .exact h a s U H x y v u Q I Z Y q
 .exact h' a s U H x y v u Q I Z Y q
theorem ma(b:Expr)(h:!!op≠.In)(Z:!!op≠.NotIn):Yx op b=false:=by
 have Y:(op==CmpOp.In)=false:=`a
 have U:(op==CmpOp.NotIn)=false:=`a
 cases b <;> simp[Yx,Y,U]
def VS(t:TE):TT:=fun σ H Q=>t σ H fun x H'=>∃k,x=.bl k/\Q k H'
theorem Hg(n:c7 X (X1 op) r)(q:PE X a ta)(p:PE X b tb)(o:Yx op b=false):PT X (.Compare a [op] [b] pos) (VS (yA r ta tb)):=by intro Y s U H Q I h;refine wpAny_isTrue_Compare1 (bK (q Y s U H _ I h) fun v d ⟨x,E,A,i,m⟩=>bK (p Y d U E _ A m) fun u Z ⟨y,C,w,g,l⟩=>bK (n Y Z U C x y v u _ w i g l) fun c F a=>?_) o;obtain⟨z,B,t,f,k,e,j⟩:=a;subst e;cases f;exact Za ⟨B,t,j⟩
noncomputable def NC(r r':R2)(ta tb tc:TE):TE:=fun σ H Q=>ta σ H fun x H1=>tb σ H1 fun y H2=>r x y H2 fun z H3=>∃k,z=.bl k /\(if k=true then tc σ H3 fun w' H4=>r' y w' H4 Q else Q (.bl false) H3)
theorem Qt(G:c7 X (X1 op) r)(Y:c7 X (X1 U) r')(M:PE X a ta)(L:PE X b tb)(K:PE X c tc)(J:lastMarks [op,U] [b,c]=false:=by with_unfolding_all rfl):PE X (.Compare a [op,U] [b,c] pos) (NC r r' ta tb tc):=by intro f s Z H Q I h;refine Compare_chain (bK (M f s Z H _ I h) fun v t ⟨x,H1,P,B,F⟩=>chain_link (bK (L f t Z H1 _ P F) fun u q ⟨y,T,O,g,E⟩=>bK (G f q Z T x y v u _ O B g E) fun d p a=>?_)) J;obtain⟨z,l,j,A,k,e,i⟩:=a;subst e;cases A;refine Za ?_;cases k with
|false=>exact ite_ff ⟨.bl false,l,j,rfl,i⟩
|true=>exact ite_tt (chain_last (bK (K f p Z l _ j i) fun n o b=>by obtain⟨m,R,N,w,C⟩:=b;exact Y f o Z R y m u n Q N g w C))
def pq(K:W.Frag)(x:V)(H:Hp)(k:Bool):Prop:=match x with
|.non=>k=false
|.bl b=>k=b
|.int i=>k=(i != 0)
|.str y=>y.length<=sizeLine/\k=((y.length:Int) != 0)
|.byt y=>y.size<=sizeLine/\k=((y.size:Int) != 0)
|.ref p=>(∃xs,cM K H p xs/\k = not xs.isEmpty)\/(∃xs,dB K H p xs/\k = not xs.isEmpty)\/∃kvs,Rd H p (.dK kvs)/\k = not kvs.isEmpty
|_=>False
theorem Sm{vs:List (Y×a_)}(r:KV U vs):(not vs.isEmpty) = not U.isEmpty:=by cases r <;> rfl
theorem JS(r:aL xs U):(not U.toArray.isEmpty) = not xs.isEmpty:=by cases r <;> simp
theorem rG:(sizeLine:Nat)<2^63:=`d
theorem Fj:DG X (fun x H Q=>∃k,pq X.K x H k/\Q k H):=by intro z s u H x v Q I a h;obtain⟨k,e,q⟩:=h;have B:=rG;have A:sizeLine=16777216:=G_;cases x with
|non=>cases a;have U:k=false:=e;subst U;exact truthy_none ⟨H,I,q⟩
|bl b=>cases a;have U:k=b:=e;subst U;exact Za ⟨H,I,q⟩
|int i=>obtain⟨t,rfl⟩:=a;have U:k=(i != 0):=e;subst U;exact PySem.P.truthy_int ⟨H,I,q⟩
|str y=>obtain⟨t,rfl⟩:=a;obtain⟨n,U⟩:y.length<=sizeLine/\k=((y.length:Int) != 0):=e;subst U;exact PySem.P.truthy_str `o ⟨H,I.tok _,q⟩
|byt y=>obtain⟨t,rfl⟩:=a;obtain⟨n,U⟩:y.size<=sizeLine/\k=((y.size:Int) != 0):=e;subst U;exact W.truthy_bytes `o ⟨H,I.tok _,q⟩
|ref p=>
  cases a;have U:=e;rcases U with⟨l,c,U⟩|⟨l,c,U⟩|⟨Z,c,U⟩
  .subst U;obtain⟨g,r,f,j⟩:=I.list c;have Y:=r.length;exact wpAny_truthy_list f.isList (by simp only[D_];omega) ⟨H,I.tok _,by rw[JS r];exact q⟩
  .subst U;obtain⟨g,r,f,j⟩:=I.tuple c;have Y:=r.length;exact truthy_tuple f (by simp only[D_];omega) ⟨H,I.tok _,by rw[JS r];exact q⟩
  .subst U;obtain⟨j,o,d,r,m⟩:Z.length<=sizeLine/\(p==ZD)=false/\∃d,KV Z d/\s.heap.DictOf (lI X.prog X.w) p d:=c.ok I.hok;have Y:Z.length=d.length:=Paired.length r;exact wpAny_truthy_dict o m `o ⟨H,I.tok _,by rw[Sm r];exact q⟩
|_=>exact(show False from e).elim
theorem qe(f:PE X a ta)(e:∀U,isTrue a X.env U=(do let v <-U;YU a.pos;Ys [v] (î v))):PT X a (fun σ H Q=>ta σ H fun x Z=>∃k,pq X.K x Z k/\Q k Z):=by intro Y s σ H Q I h;exact isTrue_plain (bK (f Y s σ H _ I h) fun v b k=>by obtain⟨x,i,g,c,d⟩:=k;exact Fj Y b σ i x v Q g c d) (e _)
theorem JV:c7 X (ZJ .Add) (fun x y H Q=>∃i j,x=.str i/\y=.str j/\i.length+j.length<=sizeLine/\Q (.str (i++j)) H):=by intro d s b H x y v u Q I Z Y h;obtain⟨i,j,rfl,rfl,a,q⟩:=h;obtain⟨t,rfl⟩:=Z;obtain⟨U,rfl⟩:=Y;exact add_str (fun U c=>⟨.str (i++j),H,I.tok _,⟨_,rfl⟩,q⟩) a
theorem fU(r:aL [x] us):∃u,us=[u]/\aS x u:=by cases r with
|cons Y U=>cases U;exact⟨_,rfl,Y⟩
theorem Ej(r:aL [x,y] us):∃u w',us=[u,w']/\aS x u/\aS y w':=by cases r with
|cons a Z=>cases Z with
 |cons Y U=>cases U;exact⟨_,_,rfl,a,Y⟩
theorem Py:gm X (.builtin "abs") (fun xs H Q=>∃i,xs=[.int i]/\Q (.int (if i<0 then-i else i)) H):=by intro a s U H xs Y Q I r h;obtain⟨i,rfl,q⟩:=h;obtain⟨u,rfl,t,rfl⟩:=fU r;exact call_abs_int fun u Z=>⟨.int _,H,I.tok _,⟨_,rfl⟩,q⟩
theorem Ti:gm X (.type "str") (fun xs H Q=>∃i,xs=[.int i]/\i.natAbs.log2<1920/\Q (.str (Ð i)) H):=by intro a s Y H xs Z Q I r h;obtain⟨i,rfl,U,q⟩:=h;obtain⟨u,rfl,t,rfl⟩:=fU r;exact PySem.P.str_of_int U ⟨.str _,H,I.tok _,⟨_,rfl⟩,q⟩
def uR(K:W.Frag)(x:V)(H:Hp)(n:Nat):Prop:=match x with
|.str y=>y.length<=sizeLine/\n=y.length
|.byt y=>y.size<=sizeLine/\n=y.size
|.ref p=>(∃xs,cM K H p xs/\n=xs.length)\/∃xs,dB K H p xs/\n=xs.length
|_=>False
theorem PC:gm X (.builtin "len") (fun xs H Q=>∃x n,xs=[x]/\uR X.K x H n/\Q (.int n) H):=by intro k s i H xs j Q I r h;obtain⟨x,n,rfl,e,q⟩:=h;obtain⟨u,rfl,Z⟩:=fU r;have l:=G_;cases x with
|str y=>obtain⟨t,rfl⟩:=Z;obtain⟨g,Y⟩:y.length<=sizeLine/\n=y.length:=e;subst Y;exact len_str `o ⟨.int _,H,I.tok _,⟨_,rfl⟩,q⟩
|byt y=>obtain⟨t,rfl⟩:=Z;obtain⟨g,Y⟩:y.size<=sizeLine/\n=y.size:=e;subst Y;exact W.len_bytes `o ⟨.int _,H,I.tok _,⟨_,rfl⟩,q⟩
|ref p=>
  cases Z;have Y:=e;rcases Y with⟨xs,d,Y⟩|⟨xs,d,Y⟩
  .subst Y;obtain⟨c,a,b,f⟩:=I.list d;have U:=a.length;exact Calls.call_len_list b.isList `g ⟨.int xs.length,H,I.tok _,⟨_,by simp only[D_];rw[U]⟩,q⟩
  .subst Y;obtain⟨c,a,b,f⟩:=I.tuple d;have U:=a.length;exact len_tuple b `g ⟨.int xs.length,H,I.tok _,⟨_,by simp only[D_];rw[U]⟩,q⟩
|_=>exact(e).elim
end
structure ObjM(h:Heap)(x dx C:Addr)(mA:Str->Option a_):Prop where
 obj:h.get? x=some (W.instObj C dx)
 ns:h.Ns1 dx mA
 ne:dx≠x
theorem Rj(n:h.Ns1 Z mA):∃Y,h.get? Z=some Y/\∀name,W.lookIn name Y=some (mA name):=by
 obtain⟨o,i,j,c,g,f,_,d⟩:=n;refine⟨o,c,fun name=>?_⟩;have e:=d name;unfold nsFind findBy at e;rw[<-Array.find?_toList]at e;unfold W.lookIn;rw[g]
 dsimp only
 split
 .simp_all
 .have a:i.toList.any (·.refKey)=false:=by rw[List.any_eq_false];intro y b;obtain⟨z,t,U⟩:=f y (Array.mem_toList_iff.mp b);simp[DictEntry.refKey,U]
  simp_all
theorem ObjM.look(I:ObjM h x Y C mA):∃U,W.InstAt h x (W.instObj C Y) C (some U)/\∀name,W.lookIn name U=some (mA name):=let⟨U,Z,a⟩:=Rj I.ns
 ⟨U,⟨I.obj,rfl,rfl,Z⟩,a⟩
variable{A:N_}{dx C f:Addr}
section
variable{prog:z_}{K:W.Frag}{x:Addr}{mA:Str->Option a_}{name:Str}{v:a_}
theorem Pf{c:List Str}(X:K.In s.heap)(I:ObjM s.heap x dx C mA)(hs:W.findIn K (.ref C) "__setattr__" = some (some (.builtin "object.__setattr__")))(g:W.plainOver K C=true)(f:W.takerIn K C name=some none)(i:W.hasDictIn K C=true)(e:PySem.Within mA c)(hsz:c.length<=sizeLine)(h:∀h',ObjM h' x dx C (fun y=>if y=name then some v else mA y)->Z4 dx s.heap h'->Q () { s with heap:=h',toks:=s.toks+2 }):C_ (F_ prog w) A (setAttr (.ref x) name v) Q E s:=by obtain⟨l,J,m⟩:=I.look;refine W.set_plain X J hs (W.osa_open X J g f fun b=>?_);obtain⟨n,j,a⟩:=W.any_some i;have d:=I.obj;refine b_ (r_ (b_ (b_ (Õ d (b_ (W.Looks.here (W.looks_clsIn X j) ?_))))));rw[a];refine r_ (b_ (r_ (b_ ?_)));refine wpAny_nsSet1 I.ns fun h' Y U=>?_;obtain⟨oD,p,q,Z,k,o⟩:=Y.count (PySem.Within.cons name v e);refine b_ (wpAny_lookBehind Z (by rw[k];exact pastItsLine_dict `g) ?_);exact r_ (h _ ⟨(U.2 _ (YF I.ne)).trans I.obj,Y,I.ne⟩ U)
end
noncomputable def putF(f:Str)(v:V):List (Str×V)->List (Str×V)
|[]=>[(f,v)]
|(g,x)::r=>if g=f then(g,v)::r else(g,x)::putF f v r
theorem Kh(f g:Str)(v:V):∀fs:List (Str×V),(putF f v fs).lookup g=if g=f then some v else fs.lookup g
|[]=>by
  show Y1 g [(f,v)]=_
  grind
|(k,x)::r=>by
  have U:=Kh f g v r;rw[show putF f v _=(if k=f then(k,v)::r else(k,x)::putF f v r)from rfl]
  grind
theorem Ba(f:Str)(v:V):∀fs:List (Str×V),f∈(putF f v fs).map (·.1)/\∀g,g∈fs.map (·.1)->g∈(putF f v fs).map (·.1)
|[]=>⟨by simp[putF],fun g h=>by simp at h⟩
|(k,x)::r=>by
  obtain⟨Y,U⟩:=Ba f v r;rw[show putF f v _=(if k=f then(k,v)::r else(k,x)::putF f v r)from rfl]
  grind
theorem Kg(f:Str)(v:V):∀fs:List (Str×V),(putF f v fs).length<=fs.length+1
|[]=>by simp[putF]
|(k,x)::r=>by
  have U:=Kg f v r;rw[show putF f v _=(if k=f then(k,v)::r else(k,x)::putF f v r)from rfl]
  grind
theorem dY.some_of{o:Option a_}(r:dY (some v) o):∃u,o=some u/\aS v u:=by cases o with
|none=>exact(r).elim
|some u=>exact⟨u,rfl,r⟩
theorem dY.none_of{o:Option a_}(r:dY none o):o=none:=by cases o with
|none=>rfl
|some u=>exact(r).elim
section
variable{fs fs':List (Str×V)}
theorem z8(U:HOk P w H h)(e:H a=some (.ins C dx fs)):∃mA,ObjM h a dx C mA/\(∀f,dY (fs.lookup f) (mA f))/\PySem.Within mA (fs.map (·.1))/\fs.length<=1000/\H dx=some (.own a):=by
 obtain⟨d,z,Z,Y,mA,n,r,q⟩:=(U a _ e)
 exact⟨mA,⟨Y,n,Z⟩,r,q,z,d⟩
end
structure Cls(K:W.Frag)(C:Addr):Prop where
 pg:W.plainGet K C Zj=true
 hd:W.hasDictIn K C=true
 po:W.plainOver K C=true
 sa:W.findIn K (.ref C) "__setattr__" = some (some (.builtin "object.__setattr__"))
theorem Cls.get{K:W.Frag}(c:Cls K C)(f:Str):W.plainGet K C f=true:=c.pg
def iz(K:W.Frag)(C:Addr)(f:Str):Prop:=W.findIn K (.ref C) f=some none
structure Meth(K:W.Frag)(C:Addr)(m:Str)(f:Addr):Prop where
 at_:W.findIn K (.ref C) m=some (some (.ref f))
 fn:W.isFn K (.ref f)=true
 kp:W.keepIn K (.ref f)=true
section
variable{fs:List (Str×V)}{f:Str}{v:V}
theorem Sj{b:Bool}(I:Inv X pz σ H s)(e:H a=some (.ins C dx fs))(c:Cls X.K C)(n:iz X.K C f)(l:fs.lookup f=some v)(h:∀u U,Inv X pz σ H U->aS v u->Q u U):C_ (F_ X.prog X.w) A (getAttr (.ref a) f b) Q E s:=by
 obtain⟨mA,O,r,_,_,_⟩:=z8 I.hok e;obtain⟨u,Z,Y⟩:=dY.some_of (by rw[<-l];exact r f);obtain⟨g,J,d⟩:=O.look;exact W.get_value I.kIn J (W.plainGet_of (c.get f)).1 (W.findObj_own c.hd n rfl (by rw[d,Z])) ((fun r=>by cases v with
   |non=>cases(r);rfl
   |bl b=>cases(r);rfl
   |int i=>obtain⟨t,e⟩:=(r);cases e;rfl
   |str x=>obtain⟨t,e⟩:=(r);cases e;rfl
   |byt b=>obtain⟨t,e⟩:=(r);cases e;rfl
   |flt b=>obtain⟨t,e⟩:=(r);cases e;rfl
   |ref a=>cases(r);rfl
   |ty n=>cases(r);rfl) Y) (h u _ (I.tok _) Y)
theorem BA(I:Inv X pz σ H s)(e:H a=some (.ins C dx fs))(c:Cls X.K C)(k:Meth X.K C m g)(l:fs.lookup m=none)(h:Q (.ref g,[.ref a]) s):C_ (F_ X.prog X.w) A (ZH (.ref a) m U) Q E s:=by obtain⟨mA,O,r,_,_,_⟩:=z8 I.hok e;have Z:=dY.none_of (by rw[<-l];exact r m);obtain⟨Y,J,b⟩:=O.look;exact W.method_fn I.kIn J (W.plainGet_of (c.get m)).1 (W.plainGet_of (c.get m)).2 k.at_ (beq_iff_eq.mp k.fn) (by show(W.lookIn _ Y).map (·.isSome)=some false;rw[b,Z];rfl) h
theorem R5(I:Inv X pz σ H s)(e:H a=some (.ins C dx fs))(c:Cls X.K C)(n:iz X.K C f)(x:fs.length<1000)(j:aS y u)(h:∀Z,Inv X pz σ (aY H a (.ins C dx (putF f y fs))) Z->Q () Z):C_ (F_ X.prog X.w) A (setAttr (.ref a) f u) Q E s:=by
 obtain⟨mA,O,r,Y,_,d⟩:=z8 I.hok e;have k:(fs.map (·.1)).length<=sizeLine:=by rw[i_,G_];omega
 refine Pf I.kIn O c.sa c.po (by unfold W.takerIn;rw[n];rfl) c.hd Y k fun t U i=>h _ ?_;have m:∃o,t.get? dx=some o:=let⟨o,_,_,v,_⟩:=U.ns;⟨o,v⟩;refine I.write (by rw[e];exact True.intro) (.inr d) (fun b q p z=>(i.2 b p).trans z) m ?_;refine⟨by rw[cE O.ne];exact d,?_,O.ne,U.obj,_,U.ns,fun g=>?_,fun g l=>?_⟩
 .have:=Kg f y fs;omega
 .rw[Kh];by_cases q:g=f
  .rw[Q_d q,Q_d q];exact j
  simp_all
 .by_cases q:g=f
  .rw[q];exact(Ba f y fs).1
  .refine(Ba f y fs).2 g (Y g fun z=>l ?_);simp_all
theorem Inv.made(I:Inv X pz σ H s):Inv X pz σ (aY (aY H s.heap.objs.size (.own (s.heap.objs.size+1))) (s.heap.objs.size+1) (.ins C s.heap.objs.size []))
  { s with heap:=(s.heap.push W.emptyDict).push (W.instObj C s.heap.objs.size) }:=by
 have Y:(s.heap.push W.emptyDict).get? s.heap.objs.size=some W.emptyDict:=n_ s.heap rfl;have d:=by have:=n_ (s.heap.push W.emptyDict) (o:=W.instObj C s.heap.objs.size) rfl;rwa[XV]at this
 have c:(s.heap.push W.emptyDict).Ns s.heap.objs.size _:=⟨W.emptyDict,#[],_,Y,rfl,(fun e a=>Q_f a `s),fun _=>rfl⟩
 have f:=I.laid (o:=.own (s.heap.objs.size+1)) (t':=s.toks) (fun b u q=>c_ _ q) (l_ _) ⟨_,Y⟩;refine f.laid (fun b u q=>c_ _ q) (ZK (XV _ _)) ?_;have U:s.heap.objs.size≠s.heap.objs.size+1:=I_ (Yj _);refine⟨by rw[cE U,cS],XY _,U,d,fun _=>none,(Heap.Ns1.of_empty c).at fun o q=>c_ _ q,fun _=>True.intro,fun y Z=>Q_f rfl Z⟩
end
def Dc(K:W.Frag)(ta:TE)(f:Str):TE:=fun σ H Q=>ta σ H fun x H1=>∃a C dx fs v,x=.ref a/\H1 a=some (.ins C dx fs)/\Cls K C/\iz K C f/\fs.lookup f=some v/\Q v H1
def Dl(K:W.Frag)(ta tv:TE)(f:Str):TS:=fun D σ H=>tv σ H fun y H1=>ta σ H1 fun x H2=>∃a C dx fs,x=.ref a/\H2 a=some (.ins C dx fs)/\Cls K C/\iz K C f/\fs.length<1000 /\D.nx σ (aY H2 a (.ins C dx (putF f y fs)))
section
variable{o value:Expr}{f:Str}{pos' tpos:Pos}{tv:TE}
theorem oA(d:PE X e ta)(g:XH e f X.env (eval e X.env)=eval e X.env):PE X (.Attribute e f pos) (Dc X.K ta f):=by intro b s U H Q I h;refine Attribute_any_ (bK (d b s U H _ I h) fun u t z=>?_) (by rw[arm_eval_Attribute,g]);obtain⟨x,o,m,Y,a,C,y,w,v,i,j,c,n,l,q⟩:=z;subst i;obtain rfl:u=Value.ref a:=Y;exact Sj m j c n l fun p r k Z=>⟨v,o,k,Z,q⟩
theorem rH(j:PE X o ta)(i:PE X value tv)(hs:X7 value (some (.Attribute o f pos')) pos.line X.env=pure false):PS X (.Assign [.Attribute o f pos'] value pos) (Dl X.K ta tv f):=by intro Y s U H D I h;refine plainObj_wpAny_Assign_Attribute (bK (i Y s U H _ I h) fun u Z ⟨y,v,t,b,q⟩=>bK (j Y Z U v _ t q) fun g z f=>?_) hs;obtain⟨x,E,r,d,a,C,B,A,k,m,c,n,l,e⟩:=f;subst k;obtain rfl:g=Value.ref a:=d;exact R5 r m c n l b fun w p=>⟨U,_,p,e⟩
theorem Ki{o:Sem Bool}{d:TE}(r:PE X e d)(I:Inv X pz σ H s)(h:d σ H fun x b=>∃a C i fs g,x=.ref a/\b a=some (.ins C i fs)/\Cls X.K C/\Meth X.K C m g/\fs.lookup m=none /\∀Z,Inv X pz σ b Z->C_ (F_ X.prog X.w) X.A (Zu pos (.ref g) [.ref a] (backTo pos (E_ U X.env)) (YN pos (X6 [] X.env))) Q X.xe Z)(p:eval (.Call (.Attribute e m Y) U [] pos) X.env=(do
   let ov <-eval e X.env
   YU Y.atName
   let(f,first) <-Ys [ov] (ZH ov m o)
   Zu pos f first (backTo pos (E_ U X.env)) (YN pos (X6 [] X.env)))):C_ (F_ X.prog X.w) X.A (eval (.Call (.Attribute e m Y) U [] pos) X.env) Q X.xe s:=by refine W.methodCall_KW (bK (r pz s σ H _ I h) fun u Z z=>?_) p;obtain⟨x,b,j,n,a,C,i,fs,g,t,v,c,k,l,q⟩:=z;subst t;obtain rfl:u=Value.ref a:=n;exact BA j v c k l (q Z j)
end
structure Room(k:Nat)(A:N_):Prop where
 hd:A.handled=none
 dp:A.depth+3*k+5<recursionLimit
 un:A.units+16*k+200<Y4
 gd:A.guards=some []
theorem Room.mono(r:Room k A)(h:j<=k):Room j A:=⟨r.hd,by have:=r.dp;omega,by have:=r.un;omega,r.gd⟩
theorem Room.deeper(r:Room (k+1) A)(env:Env):Room k (A.deeper env):=⟨r.hd,by have:=r.dp;show A.depth+1+3*k+5<_;omega,by have:=r.un;show A.units+3+16*k+200<_;omega,r.gd⟩
theorem Sq:(A.under (.builtin "type.__call__" ⟨.ref C::us,U⟩)).depth=A.depth+1:=by first|rfl|grind
theorem Sr:(A.under (.builtin "type.__call__" ⟨.ref C::us,U⟩)).units=A.units+1:=by first|rfl|grind
theorem Room.make(r:Room (k+1) A)(C:Addr)(us:List a_)(U:List (Str×a_)):Room k (A.under (.builtin "type.__call__" ⟨.ref C::us,U⟩)):=⟨r.hd,by have:=r.dp;rw[Sq];omega,by have:=r.un;rw[Sr];omega,(by have:=r.gd;first|exact this|(simp[Around.under,Code.isGuard,guardIds];exact this))⟩
theorem Room.depth(r:Room k A):A.depth<recursionLimit:=by have:=r.dp;omega
theorem Room.units(r:Room k A):A.units+64<Y4:=by have:=r.un;omega
def oS:TA:=fun _ H Q=>Q [] H
def VN(ta:TE)(tr:TA):TA:=fun σ H Q=>ta σ H fun x H1=>tr σ H1 fun xs H2=>Q (x::xs) H2
variable{t:TA}{es:List Expr}
theorem ky:PA X [] oS:=fun _ _ _ _ H Q I h=>Calls.spliced_nil ⟨[],H,I,.nil,h⟩
theorem gR(j:PE X e te)(i:PA X es t)(hs:!Sx X e es):PA X (e::es) (VN te t):=by intro U Z s Y H Q I h;rw[hs];refine Calls.spliced_cons (bK (j Z s Y H _ I h) fun u b z=>?_);obtain⟨x,n,l,d,g⟩:=z;exact bK (i U Z b Y n _ l g) fun o p y=>by obtain⟨a,m,k,c,f⟩:=y;exact ⟨x::a,m,k,.cons d c,f⟩
def C4(t:TA):TE:=fun σ H Q=>t σ H fun xs H1=>xs.length<=sizeLine/\∀p,H1 p=none->Q (.ref p) (aY H1 p (.tup xs))
def C8(t:TA):TE:=fun σ H Q=>t σ H fun xs H1=>xs.length<=sizeLine/\∀p,H1 p=none->Q (.ref p) (aY H1 p (.lst xs))
theorem M3{x1}(h:PA X es t):PE X (.Tuple es x1 pos) (C4 t):=by intro c s Y H Q I d;refine wpAny_Tuple_spliced (bK (h pos c s Y H _ I d) fun Z a ⟨g,i,U,r,z,q⟩=>⟨by rw[<-r.length];exact z,?_⟩);have f:=U.hok.fresh (l_ _);refine⟨.ref a.heap.objs.size,_,U.laid (fun b u e=>c_ _ e) (l_ _) ?_,rfl,q _ f⟩;exact⟨z,Z,r,⟨_,n_ _ rfl,rfl,_,rfl⟩,_,n_ _ rfl,rfl⟩
theorem M1(h:PA X es t):PE X (.List es pos) (C8 t):=by intro c s Y H Q I d;refine wpAny_List_spliced (bK (h pos c s Y H _ I d) fun Z a ⟨g,i,U,r,z,q⟩=>⟨by rw[<-r.length];exact z,?_⟩);have f:=U.hok.fresh (l_ _);refine⟨.ref a.heap.objs.size,_,U.laid (fun b u e=>c_ _ e) (l_ _) ?_,rfl,q _ f⟩;exact⟨z,Z,0,r,n_ _ rfl⟩
abbrev Sp:=List V->Hp->VK->XK->Prop
abbrev jN:=List Env->Hp->d_->XK->a_->d_->Prop
structure Env0(P:z_)(w:M_)(K:W.Frag)(mg:Str->Option a_)(base:Heap)(A:N_)(outer:List Env)(s:d_)(H:Hp):Prop where
 frames:A.frames=some outer
 mod:Mod K mg base
 bs:∀b o,base.get? b=some o->s.heap.get? b=some o/\H b=none
 bsz:base.objs.size<=s.heap.objs.size
 funs:s.heap.FunFrames base outer
 frf:∀b∈dF outer,H b=none
 hok:HOk P w H s.heap
 bare:ZT s.gens
def CE(outer:List Env)(P:z_)(w:M_)(H:Hp)(s:d_)(Q:VK)(u:a_)(s':d_):Prop:=∃v H',s'.os=s.os/\ZT s'.gens/\Un (dF outer) [] H H' s.heap s'.heap/\HOk P w H' s'.heap/\aS v u/\Q v H'
def CR(CX:jN)(outer:List Env)(P:z_)(w:M_)(H:Hp)(s:d_)(Q:VK)(E:XK)(r:Result)(s':d_):Prop:=match r with
|.ok (.ret u)=>CE outer P w H s Q u s'
|.ok _=>False
|.error e=>CX outer H s E e s'
structure FnOk(P:z_)(w:M_)(K:W.Frag)(mg:Str->Option a_)(base:Heap)(CX:jN)(k:Nat)(f:Addr)(fd:X2)(ps:List Str)(sp:Sp):Prop where
 len:∀vs H Q E,sp vs H Q E->vs.length=ps.length
 run:∀(A:N_)(outer:List Env)(s:d_)(H:Hp)(args:Args)(us:List a_)(vs:List V)(Q:VK)(E:XK),Room k A->Env0 P w K mg base A outer s H->ö s fd args (ps.zip us)->aL vs us->sp vs H Q E ->ç (F_ P w) A (.call (.ref f) args) (CR CX outer P w H s Q E) s
theorem FnOk.mono{K:W.Frag}{b:Str->Option a_}{c:X2}{a:List Str}{Z:Sp}(F:FnOk P w K b base d j f c a Z)(h:j<=k):FnOk P w K b base d k f c a Z:=⟨F.len,fun A U s H Y g e Q E i=>F.run A U s H Y g e Q E (i.mono h)⟩
theorem FnOk.imp{K:W.Frag}{c:Str->Option a_}{e:jN}{b:List Str}{a U:Sp}(F:FnOk P w K c base e k f d b a)(h:∀vs H Q E,U vs H Q E->a vs H Q E):FnOk P w K c base e k f d b U:=⟨fun vs H Q E q=>F.len vs H Q E (h _ _ _ _ q),fun A Y s H Z g vs Q E l m n i j=>F.run A Y s H Z g vs Q E l m n i (h _ _ _ _ j)⟩
theorem Env0.make{K:W.Frag}(e:Env0 P w K Y base A U s H)(C:Addr)(us:List a_)(Z:List (Str×a_)):Env0 P w K Y base (A.under (.builtin "type.__call__" ⟨.ref C::us,Z⟩)) U s H:=⟨by first|exact e.frames|grind,e.mod,e.bs,e.bsz,e.funs,e.frf,e.hok,e.bare⟩
section
variable{s':d_}
theorem Inv.env0(I:Inv X pz σ H s):Env0 X.prog X.w X.K X.mg X.base X.A X.stack s H:=⟨I.ok.frames,I.ok.mod,I.bs,S_ I.ok.bsz I.sz,I.stack,I.stkFree,I.hok,I.bare⟩
theorem Inv.after(I:Inv X pz σ H s)(h:CE X.stack X.prog X.w H s Q u s'):EP X pz σ Q u s':=by obtain⟨v,c,b,U,a,Z,r,q⟩:=h;obtain⟨e,g,d,t,Y⟩:=s';obtain rfl:Y=s.os:=b;exact⟨v,c,I.call a Z U `a,r,q⟩
end
def VM(sp:Sp)(dvs:List V)(E:XK)(t:TA):TE:=fun σ H Q=>t σ H fun vs H1=>sp (vs++dvs) H1 Q E
def Ef(C:Addr)(m:Str)(sp:Sp)(dvs:List V)(E:XK)(ta:TE)(t:TA):TE:=fun σ H Q=>ta σ H fun x H1=>∃a dx fs,x=.ref a/\H1 a=some (.ins C dx fs)/\fs.lookup m=none /\t σ H1 fun vs H2=>sp (x::(vs++dvs)) H2 Q E
def Ee(C:Addr)(sp:Sp)(dvs:List V)(E:XK)(t:TA):TE:=fun σ H Q=>t σ H fun vs H1=>∀x dx,H1 x=none->H1 dx=none->dx≠x ->sp (.ref x::(vs++dvs)) (aY (aY H1 dx (.own x)) x (.ins C dx [])) (fun v H2=>v=.non/\Q (.ref x) H2) E
def gO(K:W.Frag)(fd:X2)(ps:List Str)(ds:List a_):Prop:=∀(s:d_)(us:List a_),K.In s.heap->(us++ds).length=ps.length->ö s fd ⟨us,[]⟩ (ps.zip (us++ds))
theorem gO.all{K:W.Frag}(h:∀us:List a_,us.length=U.length->Y5 Z ⟨us,[]⟩=pure (U.zip us)):gO K Z U []:=fun s us _ Y=>by rw[W_]at Y ⊢;exact .of_eq (h us Y)
def ny(CX:jN)(X:Cx)(E:XK):Prop:=∀(pz:List (Addr×Obj))(σ:St)(H:Hp)(s:d_)(e:a_)(s':d_),Inv X pz σ H s->CX X.stack H s E e s'->X.xe e s'
variable{p:Pos}
section
variable{CX:jN}{k:Nat}{fd:X2}{ps:List Str}{sp:Sp}{dvs:List V}{ds:List a_}{E:XK}{x m:Str}{apos:Pos}{o:Expr}
theorem vX(F:FnOk X.prog X.w X.K X.mg X.base CX k f fd ps sp)(b:Room k X.A)(g:gO X.K fd ps ds)(d:aL dvs ds)(a:ny CX X E)(I:Inv X pz σ H s)(r:aL vs us)(h:sp (vs++dvs) H Q E):C_ (F_ X.prog X.w) X.A (call (.ref f) us) (EP X pz σ Q) X.xe s:=by
 have Y:=r.append d;have c:(us++ds).length=ps.length:=by rw[<-Y.length];exact F.len _ _ _ _ h
 refine Á (Zk (F.run X.A X.stack s H _ _ _ Q E b I.env0 (g s us I.kIn c) Y h) fun r Z U=>?_);cases r with
|error e=>exact a pz σ H s e Z I U
|ok i=>cases i with
 |ret u=>exact I.after U
 |next=>exact X4 U
 |brk=>exact X4 U
 |cont=>exact X4 U
theorem qb(F:FnOk X.prog X.w X.K X.mg X.base CX k f fd ps sp)(d:Room k X.A)(j:Gl X x)(g:X.mg x=some (.ref f))(i:W.keepIn X.K (.ref f)=true)(n:gO X.K fd ps ds)(m:aL dvs ds)(c:ny CX X E)(o:PA X (e::es) t)(U:!!Nq x)(l:!Sx X e es)(Y:!Bx X pos es):PE X (.Call (.Name x p) (e::es) [] pos) (VM sp dvs E t):=by intro b s a H Q I h;refine YB (nH I j g ?_ U);refine W.callWith_K I.ok.mod.kin i (bK (o pos b s a H _ I h) fun v y ⟨u,z,Z,r,q⟩=>⟨Z.kIn,?_⟩) l Y;exact vX F d n m c Z r q
theorem Gp{v:Sem Bool}(G:PE X o ta)(c:Cls X.K C)(d:Meth X.K C m f)(F:FnOk X.prog X.w X.K X.mg X.base CX k f fd ps sp)(B:Room k X.A)(L:gO X.K fd ps ds)(J:aL dvs ds)(y:ny CX X E)(M:PA X (e::es) t)(U:!Sx X e es)(Y:!Bx X pos es)(z:!eval (.Call (.Attribute o m apos) (e::es) [] pos) X.env=(do
   let ov <-eval o X.env
   YU apos.atName
   let(f,first) <-Ys [ov] (ZH ov m v)
   Zu pos f first (backTo pos (E_ (e::es) X.env)) (YN pos (X6 [] X.env)))):PE X (.Call (.Attribute o m apos) (e::es) [] pos) (Ef C m sp dvs E ta t):=by intro b s Z H Q I h;refine W.methodCall_KW (bK (G b s Z H _ I h) fun u j k=>?_) z;obtain⟨x,P,i,n,a,dx,fs,N,O,l,q⟩:=k;subst N;obtain rfl:u=Value.ref a:=n;refine BA i O c d l ?_;refine W.callWith_K I.ok.mod.kin d.kp (bK (M pos b j Z P _ i q) fun R T ⟨vs,H2,g,r,p⟩=>⟨g.kIn,?_⟩) U Y;exact vX (vs:=.ref a::vs) F B L J y g (.cons rfl r) p
theorem Qx{e:Sem Bool}(n:PE X o ta)(c:Cls X.K C)(Y:Meth X.K C m f)(F:FnOk X.prog X.w X.K X.mg X.base CX k f fd ps sp)(j:Room k X.A)(r:gO X.K fd ps ds)(p:aL dvs ds)(g:ny CX X E)(i:!eval (.Call (.Attribute o m apos) [] [] pos) X.env=(do
   let ov <-eval o X.env
   YU apos.atName
   let(f,first) <-Ys [ov] (ZH ov m e)
   Zu pos f first (backTo pos (E_ [] X.env)) (YN pos (X6 [] X.env)))):PE X (.Call (.Attribute o m apos) [] [] pos) (Ef C m sp dvs E ta oS):=by intro d s Z H Q I h;refine W.methodCall_KW (bK (n d s Z H _ I h) fun u y k=>?_) i;obtain⟨x,G,U,b,a,B,z,t,v,l,q⟩:=k;subst t;obtain rfl:u=Value.ref a:=b;refine BA U v c Y l ?_;exact W.callWith_K0 U.kIn Y.kp (vX (vs:=[.ref a]) F j r p g U (.cons rfl .nil) q)
structure Mk(K:W.Frag)(C f:Addr):Prop where
 makes:W.makesIn K C=true
 init:W.findIn K (.ref C) "__init__" = some (some (.ref f))
 fn:W.isFn K (.ref f)=true
 kp:W.keepIn K (.ref C)=true
theorem HG(M:Mk X.K C f)(F:FnOk X.prog X.w X.K X.mg X.base CX k f fd ps sp)(l:Room (k+1) X.A)(t:gO X.K fd ps ds)(q:aL dvs ds)(j:ny CX X E)(I:Inv X pz σ H s)(r:aL vs us)(h:∀x Z,H x=none->H Z=none->Z≠x->sp (.ref x::(vs++dvs)) (aY (aY H Z (.own x)) x (.ins C Z [])) (fun v G=>v=.non/\Q (.ref x) G) E):C_ (F_ X.prog X.w) X.A (call (.ref C) us) (EP X pz σ Q) X.xe s:=by
 have c:=h _ s.heap.objs.size (I.hok.fresh (É _)) (I.hok.fresh (l_ _)) (I_ (Yj _));have a:=Inv.made (C:=C) I;have b:aL (V.ref (s.heap.objs.size+1)::(vs++dvs)) _:=.cons rfl (r.append q);have n:=by have e:=b.length;rw[F.len _ _ _ _ c]at e;exact e.symm
 refine Á ((fun X m o p h=>by exact W.make_core (W.makes_of X m) (W.looks_findIn X o) (fun Y=>W.bind_fn X Y p) (.inl rfl) h) I.kIn M.makes M.init (beq_iff_eq.mp M.fn) (Zk (F.run _ X.stack _ _ _ _ _ _ E (l.make C us [])
  (a.env0.make C us []) (t _ _ a.kIn n) b c) fun r d U=>?_))
 cases r with
|error e=>exact j pz σ _ _ e d a U
|ok y=>cases y with
 |ret u=>obtain⟨v,J,B,g,z,i⟩:=a.after U;subst z;exact⟨g,⟨V.ref _,J,B,rfl,i⟩⟩
 |next=>exact X4 U
 |brk=>exact X4 U
 |cont=>exact X4 U
theorem Pl(M:Mk X.K C f)(F:FnOk X.prog X.w X.K X.mg X.base CX k f fd ps sp)(d:Room (k+1) X.A)(i:Gl X x)(g:X.mg x=some (.ref C))(m:gO X.K fd ps ds)(l:aL dvs ds)(c:ny CX X E)(n:PA X (e::es) t)(U:!!Nq x)(j:!Sx X e es)(Y:!Bx X pos es):PE X (.Call (.Name x p) (e::es) [] pos) (Ee C sp dvs E t):=by intro b s a H Q I h;refine YB (nH I i g ?_ U);refine W.callWith_K I.ok.mod.kin M.kp (bK (n pos b s a H _ I h) fun u v ⟨o,y,Z,r,q⟩=>⟨Z.kIn,?_⟩) j Y;exact HG M F d m l c Z r q
theorem Qw(M:Mk X.K C f)(F:FnOk X.prog X.w X.K X.mg X.base CX k f fd ps sp)(Z:Room (k+1) X.A)(b:Gl X x)(a:X.mg x=some (.ref C))(d:gO X.K fd ps ds)(c:aL dvs ds)(Y:ny CX X E)(U:!!Nq x):PE X (.Call (.Name x p) [] [] pos) (Ee C sp dvs E oS):=by intro g s e H Q I h;refine YB (nH I b a ?_ U);exact W.callWith_K0 I.kIn M.kp (HG M F Z d c Y I .nil h)
end
structure FnScope(N P:List Str)(sc:Ze):Prop where
 kind:sc.kind=.function
 co:sc.isCoroutine=false
 gen:sc.isGenerator=false
 nd:N.Nodup
 pre:N.take P.length=P
 par:∀x∈P,sc.names.lookup x=some .local\/sc.names.lookup x=some .cell
 nofree:∀y∈sc.names,y.2≠.free
theorem IM:∀{U:List (Str×a_)}{m:Str->Option a_},(∀v,(x,v)∉U)->bindL Y U m x=m x
|[],_,_=>rfl
|(n,v)::r,m,h=>by
  unfold bindL;rw[IM fun w Z=>h w (h_ _ Z)];split
  .grind
  .rfl
theorem IK:∀{U:List (Str×a_)}{m:Str->Option a_},(∀v,(x,v)∉U)->bindC Y U m x=m x
|[],_,_=>rfl
|(n,v)::r,m,h=>by
  unfold bindC;rw[IK fun w Z=>h w (h_ _ Z)];split
  .rfl
  grind
theorem IL:∀{P:List Str}{vs:List a_}{i:Nat}{m:Str->Option a_},P.Nodup->P[i]? = some x->vs[i]? = some v->U x=some .local ->bindL U (P.zip vs) m x=some v
|[],_,_,_,_,h,_,_=>by simp at h
|_::_,[],_,_,_,_,h,_=>by simp at h
|p::P,w::vs,0,m,a,Z,Y,b=>by simp at Z Y;subst Z;subst Y;show bindL U ((p,w)::P.zip vs) m p=_;unfold bindL;rw[IM fun v c=>(Yt.mp a).1 (Yu c).1,Q_d b];simp
|p::P,w::vs,i+1,m,a,Z,Y,b=>by unfold bindL;exact IL (Yt.mp a).2 (by simpa using Z) (by simpa using Y) b
theorem IJ:∀{P:List Str}{vs:List a_}{i:Nat}{m:Str->Option a_},P.Nodup->P[i]? = some x->vs[i]? = some v->U x≠some .local ->bindC U (P.zip vs) m x=some v
|[],_,_,_,_,h,_,_=>by simp at h
|_::_,[],_,_,_,_,h,_=>by simp at h
|p::P,w::vs,0,m,a,Z,Y,b=>by simp at Z Y;subst Z;subst Y;show bindC U ((p,w)::P.zip vs) m p=_;unfold bindC;rw[IK fun v c=>(Yt.mp a).1 (Yu c).1,Q_e b];simp
|p::P,w::vs,i+1,m,a,Z,Y,b=>by unfold bindC;exact IJ (Yt.mp a).2 (by simpa using Z) (by simpa using Y) b
noncomputable def bM(N:List Str)(vs:List V):St:=vs.map some++p_ (N.length-vs.length) none
noncomputable def cR(CX:jN)(P:z_)(w:M_)(K:W.Frag)(mg:Str->Option a_)(base:Heap)(N:List Str)(qual:Str)(scope:Ze)(f:Addr)(cd:a_)(A:N_)(outer:List Env)(s:d_)(H:Hp)(E:XK):Cx where
 prog:=P
 w:=w
 K:=K
 mg:=mg
 base:=base
 A:=A.deeper (YK qual scope s.heap.objs.size f cd)
 N:=N
 s₀:=s
 H₀:=H
 env:=YK qual scope s.heap.objs.size f cd
 outer:=outer
 stack:=YK qual scope s.heap.objs.size f cd::outer
 ex:=[]
 calm:=true
 fn:=fun _=>true
 pn:=[]
 xe:=fun e s'=>C_ (F_ P w) (A.deeper (YK qual scope s.heap.objs.size f cd)) (leaving (YK qual scope s.heap.objs.size f cd) e) (fun _ s''=>CX outer H s E e s'') (fun e' s''=>CX outer H s E e' s'') s'
theorem HK{U:Ze}(h:U.names.lookup x=some .cell):∃c,(cellsFrom n U.names []).lookup x=some c:=by have q:=W.cellsFrom_some U.names n [] (.inl h);exact Option.isSome_iff_exists.mp q
theorem Rr{K:W.Frag}{f:Addr}{C:a_}{A:N_}{d:List Env}{s G:d_}{H:Hp}{E:XK}{us:List a_}{vs:List V}(S:FnScope N m Z)(Q:A.handled=none)(l:Env0 P w K F base A d s H)(X:vs.length=m.length)(r:aL vs us)(x:InCallC s s.heap.objs.size (bindL (YK g Z s.heap.objs.size f C).kindOf (m.zip us) fun _=>none) (cellsFrom (s.heap.objs.size+1) Z.names []) (bindC (YK g Z s.heap.objs.size f C).kindOf (m.zip us) fun _=>none) G):Inv (cR L P w K F base N g Z f C A d s H E) [] (bM N vs) H G:=by
 have O:m.length<=N.length:=by have:=Q_g Zg S.pre;rw[YW]at this;omega
 obtain⟨B,T,rfl,J⟩:=x.done;have U:∀b:Addr,b∉(cR L P w K F base N g Z f C A d s H E).ex:=fun b z=>Q_f (show b∈([]:List Addr)from z) `s;refine⟨⟨l.mod,S.kind,rfl,rfl,l_ _,fun y z c B j=>?_,fun y o=>?_,fun y c _ h=>?_,fun _=>Q,Around.frames_deeper l.frames,.inr ⟨rfl,rfl⟩,fun b z=>Q_f z (U b),l.bs,l.bsz,fun b _ _=>U b,fun b z=>Q_f z (U b),l.funs,l.frf⟩,rfl,l.bare,Un.kept J,⟨_,x.toInCall.ns,fun i y v B j h3=>?_⟩,fun y c h=>⟨_,x.cell y c h⟩,l.hok.fresh (l_ _),fun y c h=>?_,fun p t=>Q_f (show p∈([]:List (Addr×Obj))from t) `s,l.hok.kept J,?_⟩
 .exact name_of_addr x.apart (PySem.mem_of_lookup B) (PySem.mem_of_lookup j)
 .have o:Z.names.lookup y=some .cell\/Z.names.lookup y=some .free:=o;rcases o with o|o
  .exact HK o
  .exact Q_f rfl (S.nofree _ (PySem.mem_of_lookup o))
 .exact č (x.above y c (PySem.mem_of_lookup h))
 .have hi:i<vs.length:=by
   unfold bM at j;by_cases hi:i<vs.length
   .exact hi
   .rw[XQ (by simpa using hi)]at j;rw[Ya]at j;split at j <;> cases j
  have R:vs[i]? = some v:=by unfold bM at j;rw[J_ (by simpa using hi),H_]at j;cases e:vs[i]? with
  |none=>rw[e]at j;cases j
  |some a=>rw[e]at j;cases j;rfl
  obtain⟨u,I,M⟩:=r.get R;have t:m[i]? = some y:=by rw[<-S.pre,List.getElem?_take_of_lt `o];exact B
  have Y:m.Nodup:=by rw[<-S.pre];exact S.nd.sublist (ķ _ _)
  refine⟨u,M,?_⟩;rcases S.par y (Yq t)with k|k
  .exact .inl ⟨k,IL Y t I k⟩
  .obtain⟨c,e⟩:=HK (n:=s.heap.objs.size+1) k;refine .inr ⟨.inl k,c,e,?_⟩;have q:=x.cell y c e;rw[IJ Y t I (by show Z.names.lookup y≠_;rw[k];decide)]at q;exact q
 .exact l.hok.fresh (č (x.above y c (PySem.mem_of_lookup h)))
 .unfold bM;show _=N.length;rw[XB,i_,YG];omega
theorem vz{K:W.Frag}{h:Arguments}{i:List Stmt}{a:Ze}{dV kV B X g ct oc:a_}{an od:Option Addr}{O:Array (Option a_)}{N C:List Str}{L:Sp}(lk:K.lookup f=some ⟨oc,od,.func (W.fnOf name d h i a dV kV B X an g ct),O⟩)(Cl:W.codeIn K g d=true)(S:FnScope N C a)(p:∀vs H Q E,L vs H Q E->vs.length=C.length)(Y:∀(A:N_)(c:List Env)(s:d_)(H:Hp)(vs:List V)(Q:VK)(E:XK),Room k (A.deeper (YK d a s.heap.objs.size f g))->L vs H Q E ->∃t,dQ (cR G P w K F base N d a f g A c s H E) i t/\t { nx:=fun _ l=>Q .non l,rt:=Q } (bM N vs) H):FnOk P w K F base G (k+1) f (W.fnOf name d h i a dV kV B X an g ct) C L:=by
 refine⟨p,fun A c s H args us vs Q E R z hb r Z=>?_⟩;have hl:=p _ _ _ _ Z;have KX:=z.mod.kin.keeps fun b o e=>(z.bs b o e).1;have BT:=z.mod.nolimit.keeps fun b o e=>(z.bs b o e).1;have U:∀y∈C.zip us,a.names.lookup y.1=some .local\/(a.names.lookup y.1=some .cell/\((cellsFrom (s.heap.objs.size+1) a.names []).lookup y.1).isSome=true):=fun⟨n,v⟩ hy=>by
  rcases S.par n (Yu hy).1 with q|q
  .exact .inl q
  .exact .inr ⟨q,W.cellsFrom_some _ _ _ (.inl q)⟩
 refine codeAny_call_function R.depth (KX _ _ lk) rfl S.co S.gen rfl (W.codeRec_of KX Cl) (hb _ _ _ _ ?_);refine wpAny_newFunctionEnv_cells S.kind U fun env he T x=>?_;subst he;refine⟨BT.keeps x.toInCall.keep,codeAny_func ?_⟩;obtain⟨t,ht,hq⟩:=Y A c s H vs Q E (R.deeper _) Z;have I:Inv (cR G P w K F base N d a f g A c s H E) [] _ H T:=Rr S R.hd z hl r x;refine X_ (ht [] T _ H _ I hq) (fun fl M m=>?_) fun e M m=>m;have fin:∀{j:St}{l:Hp}{v:V}{u:a_},Inv (cR G P w K F base N d a f g A c s H E) [] j l M->aS v u->Q v l->CE c P w H s Q u M:=fun{j l v u} J rv q=>⟨v,l,J.os,J.bare,J.base,J.hok,rv,q⟩
 cases fl with
|ret u=>obtain⟨v,j,l,J,rv,q⟩:=m;exact fin J rv q
|next=>obtain⟨j,l,J,q⟩:=m;exact fin (v:=V.non) J rfl q
|brk=>obtain⟨_,_,_,q⟩:=m;exact X4 q
|cont=>obtain⟨_,_,_,q⟩:=m;exact X4 q
section
variable{x:Str}{id T:String}{r:List V->Hp->VK->Prop}
def yB(r:List V->Hp->VK->Prop)(t:TA):TE:=fun σ H Q=>t σ H fun vs H1=>r vs H1 Q
theorem nJ(n:gm X (.builtin id) r)(l:Gl X x)(k:X.mg x=none)(i:Zi x=some (.builtin id))(o:PA X (e::es) t)(j:x≠"__name__" := by decide)(U:!!Nq x)(m:!Sx X e es)(Y:!Bx X pos es):PE X (.Call (.Name x p) (e::es) [] pos) (yB r t):=by intro a s Z H Q I h;refine YB (ox I l k i ?_ j U);exact PyProof.Rows.callWith_builtin1 (bK (o pos a s Z H _ I h) fun c d z=>by obtain⟨b,u,q,f,g⟩:=z;exact n a d Z u b c Q q f g) m Y
theorem nL(n:gm X (.type T) r)(l:Gl X x)(k:X.mg x=none)(i:Zi x=some (.type T))(o:PA X (e::es) t)(j:x≠"__name__" := by decide)(U:!!Nq x)(m:!Sx X e es)(Y:!Bx X pos es):PE X (.Call (.Name x p) (e::es) [] pos) (yB r t):=by intro a s Z H Q I h;refine YB (ox I l k i ?_ j U);exact Yc (bK (o pos a s Z H _ I h) fun c d z=>by obtain⟨b,u,q,f,g⟩:=z;exact n a d Z u b c Q q f g) m Y
end
end L2
namespace HT
open PySem PyProof.Rows
noncomputable def dH:List Int->List Int->Bool
|[],[]=>false
|[],_::_=>true
|_::_,[]=>false
|x::xs,y::ys=>if x=y then dH xs ys else decide (x<y)
theorem ga(x y:Int)(xs U:List Int):dH (x::xs) (y::U)=if x=y then dH xs U else decide (x<y):=rfl
theorem T9:dH [] []=false:=rfl
theorem Up(y:Int)(U:List Int):dH [] (y::U)=true:=rfl
theorem Uo(x:Int)(xs:List Int):dH (x::xs) []=false:=rfl
theorem PL(A:N_)(s:d_)(a:Int)(t:Tok)(c:Int)(u:Tok):∃e,Ï A s (.int a t) (.int c u) e/\(e=true↔a=c):=⟨_,Z_ a t c u,`s⟩
theorem iI(A:N_)(s:d_)(a:Int)(t:Tok)(c:Int)(u:Tok)(prog:z_)(w:M_)(E:a_->d_->Prop)(Q:a_->d_->Prop)(h:Q (.bool (decide (a<c))) s):C_ (F_ prog w) A (richCompare .Lt (.int a t) (.int c u)) Q E s:=(PyProof.Rows.lt_int h)
section
open PySem.SeqAt
open PySem.AutoSeq1 (wpAny_loadPart')
open PySem.MeetsSeq PySem.MeetsSeq2 PySem.MeetsSeq3
theorem T7(l b:Addr)(f U:Array a_)(n I:Nat)(dd N:Option Addr)(H O:Array (Option a_))(z ms:List Int)(hi:Zb f.toList z)(F:Zb U.toList ms) :
  Meets (è.«tuple.__lt__» ⟨[.ref l,.ref b],[]⟩)
   (fun _ R s=>s.heap.get? l=some { cls:=.type "tuple",dict:=dd,data:=.seq f n,slots:=H }/\s.heap.get? b=some { cls:=.type "tuple",dict:=N,data:=.seq U I,slots:=O } /\R (.ok (.ret (.bool (dH z ms)))) s):=
 .of_wp fun j w A R s h=>by
  obtain⟨B,g,d,r,v⟩:=s;obtain⟨K,M,h⟩:=h;have f2:=AutoSeq1.sub_tuple_tuple;have T:f.size=z.length:=by rw[<-hi.length];simp
  have Q:U.size=ms.length:=by rw[<-F.length];simp
  wp_walk using Y6 K,Y6 M,wpAny_forIn_list _ (fun rest b C=>b.1=none/\C=⟨B,g,d,r,v⟩/\∃(p o:List a_)(Y i:List Int),rest=p.zip o /\Zb p Y/\Zb o i/\Y.length+U.size=i.length+f.size/\R (.ok (.ret (.bool (dH Y i)))) ⟨B,g,d,r,v⟩) _
  case turn=>
   rintro⟨y,x⟩ rest b C ⟨hb',rfl,p,o,Y,i,hz,BT,Z,hlen,hR⟩
   cases BT with
  |nil=>rw[List.zip_nil_left]at hz;cases hz
  |cons a t m=>cases Z with
   |nil=>rw[List.zip_nil_right]at hz;cases hz
   |cons c u k=>
     rw[ĵ]at hz;injection hz with hyx hrest
     injection hyx with hy hx
     subst hy hx;rw[ga]at hR;simp only[XJ]at hlen;obtain⟨e,L,G⟩:=PL A.in1 ⟨B,g,d,r,v⟩ a t c u;refine b_ (L j w _ _ ?_);cases e with
    |true=>
      rw[Q_d (G.mp rfl)]at hR
      wp_walk
      exact⟨rfl,rfl,_,_,_,_,hrest,m,k,`o,hR⟩
    |false=>
      rw[Q_e (fun q=>Q_f (G.mpr q) w_)]at hR;have P:=iI A.in1 ⟨B,g,d,r,v⟩ a t c u j w
      wp_walk using P
      exact⟨_,rfl,by simpa using hR⟩
  case fin=>
   rintro⟨b1,X⟩ C ⟨hb',rfl,p,o,Y,i,hz,BT,Z,hlen,hR⟩
   simp only at hb';subst hb';have E:dH Y i=decide (f.size<U.size):=by cases BT with
   |nil=>cases Z with
    |nil=>simp only[Ć]at hlen;rw[T9];exact(Q_b `o).symm
    |cons c u J=>simp only[Ć,XJ]at hlen;rw[Up];exact(Q_c `o).symm
   |cons a t E=>cases Z with
    |nil=>simp only[Ć,XJ]at hlen;rw[Uo];exact(Q_b `o).symm
    |cons c u J=>rw[ĵ]at hz;cases hz
   rw[E]at hR
   wp_walk
   exact⟨_,rfl,by simpa[ŵ]using hR⟩
  case h=>exact⟨rfl,rfl,f.toList,U.toList,z,ms,rfl,hi,F,`o,h⟩
end
section
variable{prog:z_}{w:M_}{A:N_}{E:a_->d_->Prop}{s:d_}
theorem jd(m:ä s.heap l a)(r:ä s.heap b U)(hi:Zb a.toList d)(o:Zb U.toList ms)(k:A.units<Y4)(h:Q (.bool (dH d ms)) s):C_ (F_ prog w) A (X1 .Lt (.ref l) (.ref b)) Q E s:=by
 obtain⟨⟨u,t,g,i⟩,f,q,n,p⟩:=id m;obtain⟨⟨y,v,z,Y⟩,c,Z,j,e⟩:=id r;subst q p Z e;exact richCompare_meets_room (op:=.Lt) ⟨_,f,rfl⟩ ⟨_,c,rfl⟩ PySem.F.slot_tuple_lt PySem.F.entry_tuple_lt (PySem.F.args_tuple_lt_2 _ _) (T7 l b a U n j t v i Y d ms hi o)
  ⟨f,c,⟨(fun x=>nomatch x),h⟩⟩ k
theorem m4(j:ä s.heap t vs.toArray)(m:ä s.heap b ws.toArray)(h:vs≠[])(o:ws=[]->Q (.ref t) s)(p:ws≠[]->Q (.ref s.heap.objs.size) { s with heap:=s.heap.push { cls:=.type "tuple",data:=.seq (vs++ws).toArray } })(hsz:vs.length+ws.length<=sizeLine):C_ (F_ prog w) A (ZJ .Add (.ref t) (.ref b)) Q E s:=by
 obtain⟨⟨cls,i,data,f⟩,c,l,n,k⟩:=id j;obtain⟨⟨q,Y,r,U⟩,a,Z,g,e⟩:=id m;subst l k Z e;by_cases d:ws=[]
 .exact ÿ ⟨_,c,rfl⟩ ⟨_,a,rfl⟩ Ò Ù PySem.F.slot_tuple_add PySem.F.entry_tuple_add (PySem.F.args_tuple_add_2 _ _)
   (tuple_addW1 t b vs.toArray ws.toArray n g i Y f U (by simpa using h) (by simp[d])) ⟨c,a,o d⟩
 .refine ÿ ⟨_,c,rfl⟩ ⟨_,a,rfl⟩ Ò Ù PySem.F.slot_tuple_add PySem.F.entry_tuple_add (PySem.F.args_tuple_add_2 _ _)
   (tuple_addW2 t b vs.toArray ws.toArray n g i Y f U (by simpa using h) (by simpa using d) `o) ⟨c,a,?_⟩
  simp_all
noncomputable def sIx(n d:Nat):Option Int->Nat
|none=>d
|some v=>if v<0 then(v+(n:Int)).toNat else min v.toNat n
theorem d8(n d:Nat):sIx n d none=d:=rfl
theorem fT(n d k:Nat):sIx n d (some (k:Int))=min k n:=by show(if (k:Int)<0 then((k:Int)+(n:Int)).toNat else min (k:Int).toNat n)=min k n;rw[Q_e `o,Yg]
theorem Ga(v:Int)(n d:Nat):(if v<0 then max (v+(n:Int)) 0 else min v (n:Int))=((sIx n d (some v):Nat):Int):=by
 show(if v<0 then max _ 0 else min v _)=(((if v<0 then(v+(n)).toNat else min v.toNat n)))
 grind
theorem Sf(lo hi:Option Int)(n:Nat):Ţ lo hi 1 (n:Int)=(((sIx n 0 lo:Nat):Int),((sIx n n hi:Nat):Int)):=by
 have U:¬ ((1)<0):=`d
 refine Prod.ext ?_ ?_
 .cases lo with
 |none=>rfl
 |some v=>exact Ga v n 0
 .cases hi with
 |none=>rfl
 |some v=>exact Ga v n n
theorem RN(i j:Nat):Zm (i:Int) (j:Int) 1=j-i:=by
 unfold Zm;have U:(1:Int)>0:=`o
 simp only[U,Q_k,Int.ediv_one];split <;> omega
theorem JZ(p:ã v o)(h:Q o s):C_ (F_ prog w) A (Ų v) Q E s:=by cases p with
|none=>exact slicePart_none h
|int i t=>exact slicePart_int h
theorem dj{lo hi:Option Int}{Q:Int×Int×Nat->d_->Prop}(hs:s.heap.IsSliceOf c b a .none)(e:ã b lo)(d:ã a hi)(h:Q (((sIx n 0 lo:Nat):Int),1,sIx n n hi-sIx n 0 lo) s):C_ (F_ prog w) A (ų (.ref c) (pure (n:Int))) Q E s:=by obtain⟨f,U,Z,Y⟩:=id hs;refine b_ (b_ (XE U Y rfl (b_ (XE U Y rfl (b_ (XE U Y rfl (r_ ?_)))))));refine b_ (slicePart_none ?_);refine b_ (JZ e (b_ (JZ d (b_ (r_ ?_)))));show C_ _ _ (match Ţ lo hi 1 _ with|(lo,hi)=>pure (lo,(1:Int),Zm lo hi 1)) _ _ s;rw[Sf lo hi n];show C_ _ _ (pure _) _ _ s;rw[RN];exact r_ h
theorem QA(xs:Array a_)(i k:Nat):((j_ k).filterMap fun(m:Nat)=>xs[((i:Int)+(m:Int)*1).toNat]?).toArray=((xs.toList.drop i).take k).toArray:=by
 have e:(fun(m:Nat)=>xs[((i:Int)+(m:Int)*1).toNat]?)=fun m=>xs[i+m]?:=by
  funext m;have:((i:Int)+(m:Int)*1).toNat=i+m:=`o
  rw[this]
 rw[e];have:=pick_run xs i k;rw[List.filterMap_map]at this;have U:((fun x=>xs[x]?)∘fun x=>i+x)=fun m=>xs[i+m]?:=rfl;rw[U]at this;rw[this]
theorem eB{lo hi:Option Int}(b:ä s.heap t a)(hs:s.heap.IsSliceOf c e d .none)(g:ã e lo)(f:ã d hi)(l:¬ (sIx a.size 0 lo=0/\sIx a.size a.size hi=a.size))(h:Q (.ref s.heap.objs.size) { s with heap:=s.heap.push { cls:=.type "tuple",data:=.seq ((a.toList.drop (sIx a.size 0 lo)).take (sIx a.size a.size hi-sIx a.size 0 lo)).toArray } })(hsz:a.size<=sizeLine):C_ (F_ prog w) A (é (.ref t) (.ref c)) Q E s:=by
 have U:sizeOk (.seq ((a.toList.drop (sIx a.size 0 lo)).take (sIx a.size a.size hi-sIx a.size 0 lo)).toArray):=by
  show((a.toList.drop (sIx a.size 0 lo)).take (sIx a.size a.size hi-sIx a.size 0 lo)).toArray.size<=sizeLine
  grind
 have n:sIx a.size a.size hi<=a.size:=by cases hi with
   |none=>exact(l_ _)
   |some v=>
     show(if v<0 then(v+(_)).toNat else min v.toNat _)<=_
     grind
 obtain⟨i,Y,Z,o⟩:=id hs;have j:s.TypeIs (.ref c) "slice" := ⟨i,Y,Z⟩
 unfold é
 try with_reducible refine YR ?_
 first|grind|skip
 refine b_ (ģ b.typeIs `d ?_);refine b_ (Yb (name:=YO "__getitem__") b.typeIs XD
  (Yy XD b.typeIs entry_tuple_getitem ?_ (args_tuple_getitem _ _)))
 show C_ _ _ (Ũ (.ref t) >>= _) _ _ s;refine b_ (tupleItemsOf_ b ?_);refine b_ (Ú j ?_);rw[Q_d `d];refine b_ (dj hs g f ?_);have k:¬ ((((sIx a.size 0 lo:Nat):Int)==0&&(1:Int)==1&&(sIx a.size a.size hi-sIx a.size 0 lo)==a.size)=true):=`a
 show C_ _ _ (if (((sIx a.size 0 lo:Nat):Int)==0&&(1:Int)==1&&(sIx a.size a.size hi-sIx a.size 0 lo)==a.size)=true then _ else _) _ _ s;rw[Q_e k,QA]
 first
  |grind
  |exact b_ (m:=Ŷ _) (ZL (b_ (r_ (r_ ⟨_,rfl,r_ h⟩))) U)
  |grind
  |grind
end
end HT
namespace L2
open PySem PySem.Spec PyProof.Rows
abbrev TO:=St->Hp->(Option Int->Hp->Prop)->Prop
def PO(X:Cx)(e:Option Expr)(t:TO):Prop:=∀(pz:List (Addr×Obj))(s:d_)(σ:St)(H:Hp)(Q:Option Int->Hp->Prop),Inv X pz σ H s->t σ H Q ->C_ (F_ X.prog X.w) X.A (evalPart e X.env) (fun u s'=>∃o H',Inv X pz σ H' s'/\ã u o/\Q o H') X.xe s
def VR(t:TE):TO:=fun σ H Q=>t σ H fun x H1=>∃i,x=.int i/\Q (some i) H1
theorem BB:∀{us:List a_},aL (U.map V.int) us->Zb us U:=by induction U with
|nil=>intro us r;rw[Yo]at r;cases r;exact .nil
|cons n U a=>intro us r;rw[R_]at r;cases r with
 |cons Z Y=>obtain⟨t,e⟩:=Z;subst e;exact .cons n t (a Y)
variable{X:Cx}{e:Expr}{pos:Pos}
section
variable{te:TE}{lo hi:Option Expr}{tl th:TO}{p2:Pos}
theorem Po(h:PE X e te):PO X (some e) (VR te):=by intro a s U H Q I b;refine bK (h a s U H _ I b) fun u f k=>?_;obtain⟨x,d,c,Y,Z⟩:=k;obtain⟨i,rfl,q⟩:=Z;obtain⟨t,rfl⟩:=Y;exact⟨some i,d,c,.int i t,q⟩
def ko(X:Cx)(r:V->Option Int->Option Int->Hp->VK->Prop):Prop:=∀(pz:List (Addr×Obj))(s:d_)(σ:St)(H:Hp)(x:V)(v vl vu:a_)(lo hi:Option Int)(sl:Addr)(Q:VK),Inv X pz σ H s->aS x v->s.heap.IsSliceOf sl vl vu .none->ã vl lo->ã vu hi->r x lo hi H Q ->∃T id,typeLookup (.type T) "__getitem__" = pure (some (.builtin id))/\s.TypeIs v T/\C_ (F_ X.prog X.w) X.A (é v (.ref sl)) (EP X pz σ Q) X.xe s
theorem ko.or(h:ko X r)(h':ko X r'):ko X (fun x lo hi H Q=>r x lo hi H Q\/r' x lo hi H Q):=by
 intro c s U H x v Z Y lo hi a Q I b f e d q;rcases q with q|q
 .exact h c s U H x v Z Y lo hi a Q I b f e d q
 .exact h' c s U H x v Z Y lo hi a Q I b f e d q
noncomputable def Wa(r:V->Option Int->Option Int->Hp->VK->Prop)(te:TE)(tl th:TO):TE:=fun σ H Q=>te σ H fun x H1=>tl σ H1 fun l H2=>th σ H2 fun u H3=>r x l u H3 Q
theorem AC(w:ko X r)(A:PE X e te)(y:PO X lo tl)(p:PO X hi th):PE X (.Subscript e (.Slice lo hi none p2) pos) (Wa r te tl th):=by intro Z s U H Q I h;refine Subscript_ (bK (A Z s U H _ I h) fun v g e=>?_);obtain⟨x,K,G,i,m⟩:=e;refine wpAny_Slice (bK (y Z g U K _ G m) fun c f ⟨l,J,F,o,k⟩=>bK (p Z f U J _ F k) fun a Y r=>?_);obtain⟨u,d,E,n,j⟩:=r;refine r_ ?_;have C:Inv X Z U d { Y with heap:=Y.heap.push { cls:=.type "slice",data:=.fields #[c,a,.none] } }:=E.kept fun b L q=>c_ _ q;obtain⟨T,M,B,t,z⟩:=w Z { Y with heap:=Y.heap.push { cls:=.type "slice",data:=.fields #[c,a,.none] } } U d x v c a l u Y.heap.objs.size Q C i (Heap.IsSliceOf.new ..) o n j;exact ü t B z (by with_unfolding_all rfl)
def mZ(xs:List V)(lo hi:Option Int):List V:=(xs.drop (HT.sIx xs.length 0 lo)).take (HT.sIx xs.length xs.length hi-HT.sIx xs.length 0 lo)
theorem Ko(xs:List V)(lo hi:Option Int):(mZ xs lo hi).length<=xs.length:=by unfold mZ;rw[YW,YX];omega
def Dn(K:W.Frag):V->Option Int->Option Int->Hp->VK->Prop:=fun x lo hi H Q=>∃a xs,x=.ref a/\dB K H a xs /\¬ (HT.sIx xs.length 0 lo=0/\HT.sIx xs.length xs.length hi=xs.length)/\∀p,H p=none->Q (.ref p) (aY H p (.tup (mZ xs lo hi)))
theorem Fh:ko X (Dn X.K):=by
 intro u s n H x v p o i m t Q I e l g f h;obtain⟨a,Z,rfl,j,k,q⟩:=h;cases e;obtain⟨Y,r,d,c⟩:=I.tuple j;have U:Y.toArray.size=Z.length:=by exact r.length.symm
 refine⟨"tuple",_,XD.lookup,d.typeIs,?_⟩;refine HT.eB d l g f (by rw[U];exact k) ?_ (by rw[U];exact c);rw[U];refine⟨.ref s.heap.objs.size,_,I.laid (fun b w q=>c_ _ q) (l_ _) ?_,rfl,q _ (I.hok.fresh (l_ _))⟩;exact⟨S_ (Ko Z i m) c,_,(r.drop _).take _,Ğ _ _,_,n_ _ rfl,rfl⟩
def Ez(K:W.Frag):R2:=fun x y H Q=>∃a b xs ys,x=.ref a/\y=.ref b/\dB K H a xs/\dB K H b ys/\xs≠[]/\xs.length+ys.length<=sizeLine /\(ys=[]->Q (.ref a) H)/\(ys≠[]->∀p,H p=none->Q (.ref p) (aY H p (.tup (xs++ys))))
theorem aL.nil_iff(r:aL xs us):us=[]↔xs=[]:=by cases r with
|nil=>simp
|cons _ _=>simp
theorem Gj:c7 X (ZJ .Add) (Ez X.K):=by intro A s t H x y v u Q I g f h;obtain⟨a,b,e,d,rfl,rfl,r,p,n,c,j,i⟩:=h;cases g;cases f;obtain⟨m,Z,l,_⟩:=I.tuple r;obtain⟨U,Y,k,_⟩:=I.tuple p;refine HT.m4 l k (fun z=>n (Z.nil_iff.mp z)) (fun z=>⟨.ref a,H,I,rfl,j (Y.nil_iff.mp z)⟩) (fun z=>?_) (by rw[<-Z.length,<-Y.length];exact c);refine⟨.ref s.heap.objs.size,_,I.laid (t':=s.toks) (o:=.tup (e++d)) (fun b B q=>c_ _ q) (l_ _) ?_,rfl,i (fun w=>z (Y.nil_iff.mpr w)) _ (I.hok.fresh (l_ _))⟩;exact⟨by rw[XB];exact c,_,Z.append Y,Ğ _ _,_,n_ _ rfl,rfl⟩
end
noncomputable def iW(n:Nat)(i:Int):Option Nat:=if 0<=i then(if i<n then some i.toNat else none)else if-(n:Int)<=i then some (i+n).toNat else none
def im{α:Type}(xs:List α)(i:Int):Option α:=(iW xs.length i).bind fun j=>xs[j]?
theorem GJ(h:iW n i=some j):seqIndex? i n=some j/\j<n/\-(n:Int)<=i/\i<n:=by
 unfold iW at h;by_cases Y:0<=i
 .rw[Q_d Y]at h;by_cases U:i<n
  .rw[Q_d U]at h;have e:i.toNat=j:=Q_ h;exact⟨by rw[Û Y U,e],`o,`o,U⟩
  .rw[Q_e U]at h;cases h
 .rw[Q_e Y]at h;by_cases U : -(n:Int)<=i
  .rw[Q_d U]at h;have e:(i+n).toNat=j:=Q_ h;exact⟨by rw[seqIndex_neg `o U,e],`o,U,`o⟩
  .rw[Q_e U]at h;cases h
theorem Aj{v:U}(h:im xs i=some v):∃j,seqIndex? i xs.length=some j/\xs[j]? = some v/\j<xs.length/\-(xs.length:Int)<=i/\i<xs.length:=by unfold im at h;cases e:iW xs.length i with
|none=>rw[e]at h;cases h
|some j=>rw[e]at h;obtain⟨b,a,Z,Y⟩:=GJ e;exact⟨j,b,h,a,Z,Y⟩
def rL(b:Expr):Prop:=∀o i,subscripted b false o i=operate [o,i] (é o i)
def kr(X:Cx)(r:R2):Prop:=∀(value slice:Expr)(pz:List (Addr×Obj))(s:d_)(σ:St)(H:Hp)(x y:V)(v u:a_)(Q:VK),Inv X pz σ H s->aS x v->aS y u->r x y H Q ->subscripted slice false v u=operate [v,u] (é v u)->C_ (F_ X.prog X.w) X.A (subscriptTail value slice v u) (EP X pz σ Q) X.xe s
def jt(X:Cx)(id:String)(r:V->List V->Hp->VK->Prop):Prop:=∀(pz:List (Addr×Obj))(s:d_)(σ:St)(H:Hp)(x:V)(xs:List V)(v:a_)(us:List a_)(Q:VK),Inv X pz σ H s->aS x v->aL xs us->r x xs H Q ->C_ (F_ X.prog X.w) X.A (call (.builtin id) (v::us)) (EP X pz σ Q) X.xe s
section
variable{a b:Expr}{ta tb:TE}
theorem kr.or(h:kr X r)(h':kr X r'):kr X (fun x y H Q=>r x y H Q\/r' x y H Q):=by
 intro U Y c s Z H x y v u Q I b a q d;rcases q with q|q
 .exact h U Y c s Z H x y v u Q I b a q d
 .exact h' U Y c s Z H x y v u Q I b a q d
theorem zy(e:kr X r)(g:PE X a ta)(f:PE X b tb)(hs:rL b):PE X (.Subscript a b pos) (yA r ta tb):=by intro d s U H Q I h;exact Subscript_ (pk g f I h fun v u Y x y j i c Z q=>e a b d Y U j x y v u Q i c Z q (hs _ _))
def tH(K:W.Frag):R2:=fun x y H Q=>∃p xs i v,x=.ref p/\y=.int i/\cM K H p xs/\im xs i=some v/\Q v H
def tz(K:W.Frag):R2:=fun x y H Q=>∃p xs i v,x=.ref p/\y=.int i/\dB K H p xs/\im xs i=some v/\Q v H
def tF:R2:=fun x y H Q=>∃z i c,x=.str z/\y=.int i/\z.length<=sizeLine/\im z.cps.toList i=some c/\Q (.str ⟨#[c]⟩) H
theorem OJ:kr X (tH X.K):=by
 intro Z a e s d H x y v u Q I n m h f;obtain⟨p,G,i,z,rfl,rfl,o,B,q⟩:=h;cases n;obtain⟨t,rfl⟩:=m;obtain⟨c,r,b,J⟩:=I.list o;obtain⟨j,Y,F,M,E,C⟩:=Aj B;obtain⟨w,k,U⟩:=r.get F;have A:=r.length;have L:=rG;have fin:EP X e d Q w s:=⟨z,H,I,U,q⟩
 by_cases g:0<=i
 .have hj:i.toNat=j:=by rw[Û g C]at Y;exact Q_ Y
  exact item_listR b.isList g `o (by rw[hj];simpa using k) fin f
 .have hj:(i+(c.toArray.size:Int)).toNat=j:=by rw[seqIndex_neg `o E]at Y;rw[D_,<-A];exact Q_ Y
  exact Ő (x:=w) b.isList.typeIs Ĥ.lookup
   (wpAny_getItem_list_neg (Q:=fun r l=>r=w/\EP X e d Q r l) b.isList `o (by rw[D_] <;> omega) `o (by rw[hj];simpa using k) ⟨rfl,fin⟩) f
theorem Nl:kr X (tz X.K):=by
 intro Y Z b s a H x y v u Q I f e h k;obtain⟨p,C,i,z,rfl,rfl,l,n,q⟩:=h;cases f;obtain⟨t,rfl⟩:=e;obtain⟨g,r,c,E⟩:=I.tuple l;obtain⟨j,A,o,L,J,G⟩:=Aj n;obtain⟨w,B,U⟩:=r.get o;have m:=r.length;have F:=rG;have fin:EP X b a Q w s:=⟨z,H,I,U,q⟩
 exact Ő (x:=w) c.typeIs XD.lookup
  (getItem_tuple (j:=j) (Q:=fun r d=>r=w/\EP X b a Q r d) c `o `o (by rw[D_,<-m];exact A) (by simpa using B) ⟨rfl,fin⟩) k
theorem Nk:kr X tF:=by
 intro U Y n s l H x y v u Q I a Z h b;obtain⟨z,i,c,rfl,rfl,o,e,q⟩:=h;obtain⟨t,rfl⟩:=a;obtain⟨m,rfl⟩:=Z;obtain⟨j,k,w,r,g,f⟩:=Aj e;have d:z.cps.toList.length=z.length:=by simp[Ë]
 rw[d]at k g f;have p:=rG;exact ü (Â s z t) slot_str_getitem.lookup (getItem_str (c:=c) `g `g ⟨.str ⟨#[c]⟩,H,I.tok _,⟨_,rfl⟩,q⟩) b
def Wi(K:W.Frag):R2:=fun x y H Q=>tH K x y H Q\/tz K x y H Q\/tF x y H Q
theorem Ss(U:List a_)(n j:Nat)(u:a_):ZE (·.setIfInBounds j u) { cls:=.type "list",data:=.seq U.toArray n }={ cls:=.type "list",data:=.seq (U.set j u).toArray n }:=by simp[ZE]
theorem Inv.lst{pz:List (Addr×Obj)}{σ:St}{H:Hp}{s:d_}{p:Addr}{xs:List V}(I:Inv X pz σ H s)(h:H p=some (.lst xs)):∃(U:List a_)(n:Nat),aL xs U/\s.heap.get? p=some { cls:=.type "list",data:=.seq U.toArray n }/\xs.length<=sizeLine:=by obtain⟨z,U,n,r,e⟩:=I.hok p _ h;exact⟨U,n,r,e,z⟩
theorem Inv.lstUpd{σ:St}{U its':List a_}(I:Inv X pz σ H s)(h:H p=some (.lst xs))(d:s.heap.get? p=some { cls:=.type "list",data:=.seq U.toArray n })(a:f { cls:=.type "list",data:=.seq U.toArray n }={ cls:=.type "list",data:=.seq its'.toArray Z })(r:aL Y its')(c:Y.length<=sizeLine)(t:Nat):Inv X pz σ (aY H p (.lst Y)) { s with heap:=s.heap.update p f,toks:=t }:=by
 have e:(s.heap.update p f).get? p=some { cls:=.type "list",data:=.seq its'.toArray Z }:=by rw[YH f d (by rw[a] <;> rfl),a]
 refine I.write (by rw[h];trivial) (.inl rfl) (fun b u g q=>(Ħ _ _ (YF g)).trans q) ⟨_,e⟩ ?_;exact⟨c,its',Z,r,e⟩
def EF:V->V->V->Hp->(Hp->Prop)->Prop:=fun o i v H Q=>∃p xs k j,o=.ref p/\i=.int k/\H p=some (.lst xs)/\iW xs.length k=some j/\Q (aY H p (.lst (xs.set j v)))
theorem Qb:iQ X EF:=by
 intro y s g H o i v B C u Q I w x m h;obtain⟨p,l,k,j,rfl,rfl,b,A,q⟩:=h;cases w;obtain⟨t,rfl⟩:=x;obtain⟨U,n,r,Z,z⟩:=I.lst b;obtain⟨Y,F,d,c⟩:=GJ A;have a:=r.length;have E:=rG;have f:Inv X y g (aY H p (.lst (l.set j v))) { s with heap:=s.heap.update p (ZE (·.setIfInBounds j u)) }:=I.lstUpd b Z (Ss U n j u) (r.set m j) (by rw[ZY];exact z) s.toks;by_cases e:0<=k
 .have hk:k.toNat=j:=by rw[Û e c]at Y;exact Q_ Y
  exact W.ki_setAt Z e `o (by rw[D_,<-a];exact c) (by rw[hk];exact⟨_,f,q⟩)
 .have hk:(k+(U.toArray.size:Int)).toNat=j:=by rw[seqIndex_neg `o d]at Y;rw[D_,<-a];exact Q_ Y
  exact W.ki_setBack Z `o (by rw[D_,<-a];exact d) `o (by rw[hk];exact⟨_,f,q⟩)
theorem TZ(lo hi:Option Int)(n:Nat):(ZI lo hi none n).1=((HT.sIx n 0 lo:Nat):Int)/\(ZI lo hi none n).2.1=((HT.sIx n n hi:Nat):Int)/\(ZI lo hi none n).2.2=1:=by
 refine⟨?_,?_,rfl⟩
 .cases lo with
 |none=>simp[ZI,HT.sIx]
 |some i=>
   simp only[ZI,HT.sIx,Q_k]
   grind
 .cases hi with
 |none=>simp[ZI,HT.sIx]
 |some i=>
   simp only[ZI,HT.sIx,Q_k]
   grind
theorem T6(U:List a_)(lo hi:Option Int):slicePick U.toArray lo hi none=((U.drop (HT.sIx U.length 0 lo)).take (HT.sIx U.length U.length hi-HT.sIx U.length 0 lo)).toArray:=by obtain⟨a,Z,Y⟩:=TZ lo hi U.toArray.size;unfold slicePick;rw[a,Z,Y];simp only[sliceRange_one,pick_run] <;> rfl
def Do(K:W.Frag):V->Option Int->Option Int->Hp->VK->Prop:=fun x lo hi H Q=>∃a xs,x=.ref a/\cM K H a xs/\∀p,H p=none->Q (.ref p) (aY H p (.lst (mZ xs lo hi)))
theorem GQ:ko X (Do X.K):=by intro t s m H x v o n f l p Q I c k e d h;obtain⟨a,Z,rfl,j,q⟩:=h;cases c;obtain⟨g,r,Y,i⟩:=I.list j;have U:=r.length;refine⟨"list",_,Ĥ.lookup,Y.isList.typeIs,?_⟩;refine wpAny_getItem_list_slice Y.isList k e d .none `s ?_ `a;rw[T6,<-U];refine⟨.ref s.heap.objs.size,_,I.laid (fun b u q=>c_ _ q) (l_ _) ?_,rfl,q _ (I.hok.fresh (l_ _))⟩;exact⟨S_ (Ko Z f l) i,_,0,(r.drop _).take _,n_ _ rfl⟩
noncomputable def hZ:V->Bool
|.non=>true
|.bl _=>true
|.int _=>true
|.str _=>true
|_=>false
noncomputable def iN:V->V->Bool
|.non,.non=>true
|.bl a,.bl b=>a==b
|.bl a,.int b=>(if a then 1 else 0)==b
|.int a,.bl b=>a==(if b then 1 else 0)
|.int a,.int b=>a==b
|.str a,.str b=>a==b
|_,_=>false
theorem VA(Z:aS y u)(U:aS x v)(d:hZ y=true)(c:hZ x=true):Ï A s u v (iN y x):=by cases y with
|non=>cases Z;cases x with
 |non=>cases U;exact ŧ _
 |bl b=>cases U;exact SeqAt.EqAt.none_bool b
 |int b=>obtain⟨t,rfl⟩:=U;exact SeqAt.EqAt.none_int b t
 |str b=>obtain⟨t,rfl⟩:=U;exact SeqAt.EqAt.none_str b t
 |_=>exact Q_f (show false=true from c) w_
|bl a=>cases Z;cases x with
 |non=>cases U;exact SeqAt.EqAt.bool_none a
 |bl b=>cases U;exact SeqAt.EqAt.bool_bool a b
 |int b=>obtain⟨t,rfl⟩:=U;exact SeqAt.EqAt.bool_int a b t
 |str b=>obtain⟨t,rfl⟩:=U;exact SeqAt.EqAt.bool_str a b t
 |_=>exact Q_f (show false=true from c) w_
|int a=>obtain⟨Y,rfl⟩:=Z;cases x with
 |non=>cases U;exact SeqAt.EqAt.int_none a Y
 |bl b=>cases U;exact SeqAt.EqAt.int_bool a Y b
 |int b=>obtain⟨t,rfl⟩:=U;exact Z_ a Y b t
 |str b=>obtain⟨t,rfl⟩:=U;exact ť a Y b t
 |_=>exact Q_f (show false=true from c) w_
|str a=>obtain⟨Y,rfl⟩:=Z;cases x with
 |non=>cases U;exact SeqAt.EqAt.str_none a Y
 |bl b=>cases U;exact SeqAt.EqAt.str_bool a Y b
 |int b=>obtain⟨t,rfl⟩:=U;exact Ŧ a Y b t
 |str b=>obtain⟨t,rfl⟩:=U;exact SeqAt.EqAt.str_str a Y b t
 |_=>exact Q_f (show false=true from c) w_
|_=>exact Q_f (show false=true from d) w_
def iX(x:V)(u:a_):Bool:=match u with
|.none=>iN .non x
|.bool b=>iN (.bl b) x
|.int i _=>iN (.int i) x
|.str z _=>iN (.str z) x
|_=>false
theorem re(r:aS y u)(f:hZ y=true):iX x u=iN y x:=by cases y with
|non=>cases r;rfl
|bl b=>cases r;rfl
|int i=>obtain⟨t,rfl⟩:=r;rfl
|str z=>obtain⟨t,rfl⟩:=r;rfl
|_=>exact Q_f (f) w_
theorem rM:∀{xs:List V}{us:List a_},aL xs us->xs.all hZ=true->us.any (iX x)=xs.any fun y=>iN y x
|_,_,.nil,_=>rfl
|y::xs,u::us,.cons r t,f=>by rw[Y7,P_]at f;rw[Y8,Y8,re r f.1,rM t f.2]
theorem oE(Y:aS x v)(Z:hZ x=true):∀{xs:List V}{us:List a_},aL xs us->xs.all hZ=true->∀u∈us,Ï A s u v (iX x u)
|_,_,.nil,_=>fun u U=>by cases U
|y::xs,u::us,.cons r t,f=>fun a U=>by
  rw[Y7,P_]at f;rcases s_.mp U with rfl|U
  .rw[re r f.1];exact VA r Y f.1 Z
  .exact oE Y Z t f.2 a U
def yG(x:V)(xs:List V):Bool:=xs.any fun y=>iN y x
def MK(K:W.Frag)(neg:Bool):R2:=fun x y H Q=>∃p xs,y=.ref p/\(cM K H p xs\/dB K H p xs)/\hZ x=true/\xs.all hZ=true/\Q (.bl (if neg then not (yG x xs) else yG x xs)) H
theorem Re:c7 X (X1 .In) (MK X.K false):=by
 intro f s d H x y v u Q I a c h;obtain⟨p,e,rfl,U,b,Y,q⟩:=h;cases c;rcases U with U|U
 .obtain⟨its,r,pl,hz⟩:=I.list U;refine SeqAt.in_listAt _ pl.isList (fun w Z=>oE a b r Y w (by simpa using Z)) ⟨.bl _,H,I,rfl,?_⟩;rw[show its.toArray.any _=its.any (iX x)by simp,rM r Y];exact q
 .obtain⟨its,r,pl,hz⟩:=I.tuple U;refine SeqAt.in_tupleAt _ pl (fun w Z=>oE a b r Y w (by simpa using Z)) ⟨.bl _,H,I,rfl,?_⟩;rw[show its.toArray.any _=its.any (iX x)by simp,rM r Y];exact q
theorem gm.or(h:gm X f r)(h':gm X f r'):gm X f (fun xs H Q=>r xs H Q\/r' xs H Q):=by
 intro a s U H xs Y Q I Z q;rcases q with q|q
 .exact h a s U H xs Y Q I Z q
 .exact h' a s U H xs Y Q I Z q
theorem Ue:gm X (.type "tuple") (fun xs H Q=>∃p U,xs=[.ref p]/\((cM X.K H p U/\∀l,H l=none->Q (.ref l) (aY H l (.tup U)))\/(dB X.K H p U/\Q (.ref p) H))):=by
 intro k s i H xs j Q I r h;obtain⟨p,U,rfl,h⟩:=h;obtain⟨u,rfl,c⟩:=fU r;cases c;rcases h with⟨Y,q⟩|⟨Y,q⟩
 .obtain⟨its,r',pl,hz⟩:=I.list Y;have Z:=r'.length;refine call_tuple_list pl.isList (fun f d=>?_) `a;have a:=I.kept (t':=s.toks) d;have g:=a.laid (t':=s.toks) (fun b o e=>c_ _ e) (l_ _) (show dZ X.prog X.w _ _ _ (.tup U)from⟨hz,its,r',Ğ _ _,_,n_ _ rfl,rfl⟩);exact⟨.ref f.objs.size,_,g,rfl,q _ (a.hok.fresh (l_ _))⟩
 .obtain⟨its,r',pl,hz⟩:=I.tuple Y;exact call_tuple_same pl ⟨.ref p,H,I,rfl,q⟩
def yy(K:W.Frag)(T:String)(x:V)(H:Hp):Prop:=match x with
|.str _=>T = "str"
|.int _=>T = "int"
| .ref p=>(T = "list"/\∃xs,cM K H p xs)\/(T = "tuple"/\((∃o,K.lookup p=some o/\o.cls=.type "tuple"/\o.dict=none)\/∃xs,Rd H p (.tup xs))) \/
   (T = "dict"/\((∃kvs,Rd H p (.dK kvs))\/∃kvs,H p=some (.dT kvs)))\/(T = "set"/\∃S n,H p=some (.set S n))
|_=>False
theorem Fm{σ:St}(I:Inv X pz σ H s)(r:aS x v)(Y:yy X.K T x H):s.TypeIs v T/\∀a,v=.ref a->∃h,s.heap.get? a=some h/\h.dict=none:=by cases x with
|str z=>obtain⟨t,rfl⟩:=r;cases(Y);exact⟨Â s z t,fun _ e=>nomatch e⟩
|int i=>obtain⟨t,rfl⟩:=r;cases(Y);exact⟨Ā s i t,fun _ e=>nomatch e⟩
|ref p=>
  cases r;rcases Y with⟨rfl,j,b⟩|⟨rfl,⟨o,U,f,d⟩|⟨j,b⟩⟩|⟨rfl,U⟩|⟨rfl,S,n,U⟩
  .obtain⟨its,_,pl,_⟩:=I.list b;refine⟨pl.isList.typeIs,fun a e=>?_⟩;cases e;obtain⟨o,n,e,c,d,_⟩:=pl;exact⟨o,e,d⟩
  .refine⟨⟨o,I.kIn p o U,f⟩,fun a e=>?_⟩;cases e;exact⟨o,I.kIn _ o U,d⟩
  .obtain⟨_,its,_,⟨o,ho,f,_⟩,o2,ho2,hd2⟩:=b.ok I.hok;refine⟨⟨o,ho,f⟩,fun a e=>?_⟩
   grind
  .have z:∃o,s.heap.get? p=some o/\o.ExactDict:=by
    rcases U with⟨Z,U⟩|⟨Z,U⟩
    .obtain⟨_,_,_,_,o,_,_,e,ex,_⟩:=(U.ok I.hok)
     exact⟨o,e,ex⟩
    .obtain⟨_,_,_,_,o,_,_,e,ex,_⟩:=I.hok p _ U;exact⟨o,e,ex⟩
   obtain⟨o,e,ex⟩:=z;refine⟨⟨o,e,ex.1⟩,fun a g=>?_⟩;cases g;exact⟨o,e,ex.2.1⟩
  .obtain⟨o,_,_,_,e,ex,_⟩:=I.hok p _ U;refine⟨⟨o,e,ex.1⟩,fun a g=>?_⟩;cases g;exact⟨o,e,ex.2.1⟩
|_=>exact X4 Y
noncomputable def Df(K:W.Frag)(T:String)(r:V->List V->Hp->VK->Prop)(to:TE):TE:=fun σ H Q=>to σ H fun x H1=>yy K T x H1/\r x [] H1 Q
noncomputable def Wh(K:W.Frag)(T:String)(r:V->List V->Hp->VK->Prop)(to:TE)(t:TA):TE:=fun σ H Q=>to σ H fun x H1=>yy K T x H1/\t σ H1 fun xs H2=>r x xs H2 Q
variable{o:Expr}{es:List Expr}{to:TE}{t:TA}{name:Str}{apos cpos:Pos}{T id:String}{r:V->List V->Hp->VK->Prop}
theorem zJ(j:Ã T)(a:Slot T name id)(Z:typeOf (.builtin id)=pure (.type "method_descriptor"))(l:jt X id r)(k:PE X o to)(U:!XH o name X.env (eval o X.env)=eval o X.env)(Y:!(apos.endLine==cpos.line)=true):PE X (.Call (.Attribute o name apos) [] [] cpos) (Df X.K T r to):=by intro d s b H Q I h;refine wpAny_Call_method0_late U Y (bK (k d s b H _ I h) fun v g z=>?_);obtain⟨x,p,e,c,f,i⟩:=z;obtain⟨n,m⟩:=Fm e c f;exact⟨T,id,j,a,Z,n,m,Ť rfl (PySem.evalArgs_none (l d g b p x [] v [] Q e c .nil i))⟩
theorem zx(u:Ã T)(a:Slot T name id)(G:typeOf (.builtin id)=pure (.type "method_descriptor"))(y:jt X id r)(w:PE X o to)(z:PA X (e::es) t)(Y:!XH o name X.env (eval o X.env)=eval o X.env)(J:!((backTo cpos (E_ (e::es) X.env)).all (fun x=>not x.1)&&(YN cpos (X6 [] X.env)).all (fun x=>x.1.isSome)
   && decide ((e::es).length+([]:List ê).length+(if ([]:List ê).isEmpty then 0 else 1)<30))=true)(Z:!(apos.endLine==cpos.line)=true)(hs:!Sx X e es)(U:!Bx X cpos es):PE X (.Call (.Attribute o name apos) (e::es) [] cpos) (Wh X.K T r to t):=by intro c s b H Q I h;refine wpAny_Call_method_late Y J Z rfl (bK (w c s b H _ I h) fun v m e=>?_);obtain⟨x,F,g,d,k,q⟩:=e;obtain⟨B,A⟩:=Fm g d k;refine⟨T,id,u,a,G,B,A,?_⟩;have f:=z cpos c m b F _ g q;rw[hs]at f ⊢;refine Ť (by show(false || (backTo cpos (E_ es X.env)).any (·.1))=false;rw[U] <;> rfl) (Calls.evalArgs_plain ?_);exact bK f fun j l o=>by obtain⟨i,E,C,n,p⟩:=o;exact y c l b E x i v j Q C d n p
end
def MR(X:Cx)(id:String)(r:V->List V->Hp->VK->Prop):Prop:=∀(pz:List (Addr×Obj))(s:d_)(σ:St)(H:Hp)(x:V)(xs:List V)(v:a_)(us:List a_)(Q:VK),Inv X pz σ H s->aS x v->aL xs us->r x xs H Q ->C_ (F_ X.prog X.w) X.A (call (.builtin id) (v::us)) (EP X pz σ Q) X.xe s
theorem aL.one(h:aL [x] us):∃u,us=[u]/\aS x u:=by cases h with
|cons r t=>cases t;exact⟨_,rfl,r⟩
theorem aL.zero:∀{us:List a_},aL [] us->us=[]
|_,.nil=>rfl
theorem aL.dropLast(h:aL xs us):aL xs.dropLast us.dropLast:=by induction h with
|nil=>exact .nil
|cons r t U=>cases t with
 |nil=>exact .nil
 |cons q Y=>exact .cons r U
theorem aL.eraseIdx:∀{xs:List V}{us:List a_}(i:Nat),aL xs us->aL (xs.eraseIdx i) (us.eraseIdx i)
|_,_,_,.nil=>.nil
|_,_,0,.cons _ t=>t
|_,_,i+1,.cons r t=>.cons r (aL.eraseIdx i t)
theorem aL.rep(h:aL xs us):∀k:Nat,aL (p_ k xs).flatten (p_ k us).flatten
|0=>.nil
|k+1=>by exact aL.append h (aL.rep h k)
theorem IT(U:List a_):∀(k:Nat)(Y:List a_),ĉ (fun a Z=>a++Z) Y.toArray (p_ k U.toArray)=(Y++(p_ k U).flatten).toArray
|0,Y=>by simp
|k+1,Y=>by
  have e:Y.toArray++U.toArray=(Y++U).toArray:=`s
  have b:(Y++U)++(p_ k U).flatten=Y++(p_ (k+1) U).flatten:=`g
  rw[<-b,<-IT U k _,<-e,ĳ,ZB]
variable{pz:List (Addr×Obj)}{σ:St}{H:Hp}{s:d_}
section
variable{l b:Addr}{xs ys zs:List V}
theorem Inv.lset{U its':List a_}(I:Inv X pz σ H s)(d:H l=some (.lst xs))(e:s.heap.get? l=some { cls:=.type "list",data:=.seq U.toArray n })(b:f U.toArray=its'.toArray)(Z:aL ys its')(Y:ys.length<=sizeLine):Inv X pz σ (aY H l (.lst ys)) { s with heap:=s.heap.update l (ZE f),toks:=t' }:=by have q:=PySem.IsL.update e f;rw[b]at q;refine I.write (by rw[d];exact trivial) (.inl rfl) (fun g u c a=>(Ħ s.heap _ (YF c)).trans a) ⟨_,q⟩ ?_;exact⟨Y,its',_,Z,q⟩
theorem Inv.lnew(I:Inv X pz σ H s)(Z:aL ys U)(Y:ys.length<=sizeLine):Inv X pz σ (aY H s.heap.objs.size (.lst ys)) { s with heap:=s.heap.push { cls:=.type "list",data:=.seq U.toArray },toks:=t' }:=I.laid (fun _ _ q=>c_ _ q) (l_ _) ⟨Y,U,0,Z,n_ _ rfl⟩
theorem Inv.fresh(I:Inv X pz σ H s):H s.heap.objs.size=none:=I.hok.fresh (l_ _)
theorem Inv.lstM(I:Inv X pz σ H s)(Y:H l=some (.lst xs)):xs.length<=sizeLine/\∃(U:List a_)(n:Nat),aL xs U/\xs.length=U.length/\s.heap.get? l=some { cls:=.type "list",data:=.seq U.toArray n }:=by obtain⟨z,U,n,r,e⟩:=I.hok l _ Y;exact⟨z,U,n,r,r.length,e⟩
theorem Qn(h:n<=sizeLine):Zw n=false:=by unfold Zw;simp_all
end
def Hh:V->List V->Hp->VK->Prop:=fun x vs H Q=>∃l xs y,x=.ref l/\vs=[y]/\H l=some (.lst xs)/\xs.length<sizeLine/\Q .non (aY H l (.lst (xs++[y])))
theorem xg:MR X "list.append" Hh:=by intro i s c H x f v g Q I Z a h;obtain⟨l,d,y,rfl,rfl,Y,j,q⟩:=h;cases Z;obtain⟨u,rfl,b⟩:=a.one;obtain⟨z,U,n,r,k,e⟩:=I.lstM Y;refine YS F.slot_list_append ⟨_,e,rfl⟩ F.entry_list_append (F.args_list_append_2 _ _) (PySem.list_append l U.toArray n u (by rw[D_];omega)) ⟨e,?_⟩;refine⟨.non,_,I.lset (its':=U++[u]) Y e `s (r.append (.cons b .nil)) ?_,rfl,q⟩;rw[XB,ZO];assumption
def Dq:V->List V->Hp->VK->Prop:=fun x vs H Q=>∃l xs y,x=.ref l/\vs=[]/\H l=some (.lst xs)/\xs[xs.length-1]? = some y/\Q y (aY H l (.lst xs.dropLast))
theorem Fw:MR X "list.pop" Dq:=by
 intro m s g H x j v k Q I b c h;obtain⟨l,i,y,rfl,rfl,a,f,q⟩:=h;cases b;have U:=c.zero;subst U;obtain⟨z,Z,n,r,p,e⟩:=I.lstM a;obtain⟨u,o,d⟩:=r.get f;have Y:Z.toArray[Z.toArray.size-1]? = some u:=`g
 refine YS F.slot_list_pop ⟨_,e,rfl⟩ F.entry_list_pop (F.args_list_pop_1 _) (MeetsSeq.list_pop_last l Z.toArray n u Y `g) ⟨e,?_⟩;refine⟨y,_,I.lset a e ?_ r.dropLast ?_,d,q⟩
 .grind
 grind
def Dp:R2:=fun x y H Q=>∃l k xs,x=.ref l/\y=.int k/\H l=some (.lst xs)/\-(2^63)<=k/\k<2^63/\xs.length*k.toNat<=sizeLine /\∀p,H p=none->Q (.ref p) (aY H p (.lst (p_ k.toNat xs).flatten))
theorem OO{U:Type}(xs:List U)(k:Nat):(p_ k xs).flatten.length=k*xs.length:=`a
theorem MY:c7 X (ZJ .Mult) Dp:=by
 intro K s E H x y v u Q I j i h;obtain⟨l,k,G,rfl,rfl,p,A,w,o,q⟩:=h;cases j;obtain⟨t,rfl⟩:=i;obtain⟨z,b,n,r,L,e⟩:=I.lstM p;have c:b.toArray.size*k.toNat<=sizeLine:=`g
 have C:¬ b.toArray.size*k.toNat>(2^63-1)/8:=by
  have:(sizeLine)<=(2^63-1)/8:=`d
  omega
 have Z:¬ (not (ţ k))=true:=by
  rw[fitsIndex_both A w]
  grind
 have U:¬ Zw (b.toArray.size*k.toNat)=true:=by
  rw[Qn c]
  grind
 have Y:ĉ (fun f d=>f++d) #[] (p_ (if b.toArray.isEmpty=true then 0 else k.toNat) b.toArray)=(p_ k.toNat b).flatten.toArray:=by
  have B:∀m,ĉ (fun f d=>f++d) #[] (p_ m b.toArray)=(p_ m b).flatten.toArray:=fun m=>by
   have:=IT b m []
   grind
  rw[B];cases b with
 |nil=>simp
 |cons a J=>rw[Q_e `s]
 refine wpAny_binaryOp_repeat_ref (rfl) ⟨_,e,rfl⟩ (fun g=>Ā g k t) noFill_list_mul F.fills_int_mul F.slot_int_rmul repeat_list F.slot_int_index.lookup
  (YS F.slot_int_rmul (Ā s k t) F.entry_int_rmul (F.args_int_rmul_2 _ _) (int___rmul___int_list k t l b.toArray n)
   ⟨e,rfl,⟨_,e,rfl⟩,YS F.slot_list_mul ⟨_,e,rfl⟩ F.entry_list_mul (F.args_list_mul_2 _ _) (AutoListH.list___mul___list_int_3 l b.toArray n k t Z C U) ⟨e,?_⟩⟩)
 rw[Y];exact⟨.ref _,_,I.lnew (r.rep k.toNat) (by rw[OO,Ď];exact o),rfl,q _ I.fresh⟩
section
variable{κ:Type}[DecidableEq κ]
noncomputable def d6(kvs:List (κ×V))(k:κ):Option V:=(kvs.find? fun kv=>decide (kv.1=k)).map (·.2)
noncomputable def dG(kvs:List (κ×V))(k:κ)(v:V):List (κ×V):=if (kvs.any fun kv=>decide (kv.1=k))=true then kvs.map (fun kv=>if kv.1=k then(kv.1,v)else kv)else kvs++[(k,v)]
theorem wV{k:κ}(e:p.1=k):d6 (p::r) k=some p.2:=by simp[d6,V_,e]
theorem sf{k:κ}(e:¬ p.1=k):d6 (p::r) k=d6 r k:=by simp[d6,V_,e]
theorem Iw(k:κ):∀U:List (κ×V),(U.any fun Y=>decide (Y.1=k))=(d6 U k).isSome
|[]=>rfl
|p::r=>by
  rw[Y8];by_cases e:p.1=k
  .simp only[wV e,Q_c e,Bool.true_or,Option.isSome_some]
  .rw[sf e,Q_b e,Bool.false_or];exact Iw k r
theorem BU(U:List (κ×V))(k:κ)(v:V):(dG U k v).length<=U.length+1:=by
 unfold dG
 grind
theorem dY.isSome_eq(r:dY o u):o.isSome=u.isSome:=by cases o with
|none=>cases u with
 |none=>rfl
 |some _=>exact(r).elim
|some _=>cases u with
 |none=>exact(r).elim
 |some _=>rfl
theorem KV.val(r:KV U vs)(k:κ):dY (d6 U k) (ø vs k):=by induction r with
|nil=>exact True.intro
|@cons p q d Y h t a=>
  obtain⟨Z,c⟩:=h;by_cases e:p.1=k
  .have e':=Z.symm.trans e;have b:ø (q::Y) k=some q.2:=by simp[ø,V_,e']
   rw[wV e,b];exact c
  .have e':¬ q.1=k:=fun z=>e (Z.trans z);have b:ø (q::Y) k=ø Y k:=by simp[ø,V_,e']
   rw[sf e,b];exact a
theorem KV.any(r:KV U vs)(k:κ):(U.any fun Y=>decide (Y.1=k))=vs.any fun Y=>decide (Y.1=k):=by
 unfold KV at r
 induction r with
|nil=>rfl
|cons h t Z=>rw[Y8,Y8,Z,h.1]
theorem KV.repl(r:KV Y vs)(k:κ)(a:aS y u):KV (Y.map fun U=>if U.1=k then(U.1,y)else U) (vs.map fun U=>if U.1=k then(U.1,u)else U):=by induction r with
|nil=>exact .nil
|@cons p q c b h t Z=>
  refine .cons ?_ Z
  grind
theorem KV.put(r:KV U vs)(k:κ)(Y:aS y u):KV (dG U k y) (stored vs k u):=by
 unfold dG stored;rw[r.any k];by_cases e:(vs.any fun Z=>decide (Z.1=k))=true
 .rw[Q_d e,Q_d e];exact r.repl k Y
 .rw[Q_e e,Q_e e];exact Paired.snoc r ⟨rfl,Y⟩
theorem KV.length{vs:List (κ×a_)}(r:KV U vs):U.length=vs.length:=Paired.length r
end
theorem qU(r:aS (kV k) u):(lI P w).is k u=true:=by cases k with
|inl i=>obtain⟨t,e⟩:=(r);subst e;exact(show jR (.inl i) (.int i t)=true by simp[jR,Ű])
|inr x=>obtain⟨t,e⟩:=(r);subst e;exact sw x t
theorem IV:∀{ks:List bL}{us:List a_},aL (ks.map kV) us->ItemsAre (lI P w) ks us
|[],_,r=>by cases r;exact .nil
|k::ks,_,r=>by cases r with
 |cons h t=>exact .cons (qU h) (IV t)
abbrev KT(H:Hp):List (List bL×V)->List (List bL×Addr×a_)->Prop:=Paired fun p q=>p.1=q.1/\H q.2.1=some (.tup (p.1.map kV))/\aS p.2 q.2.2
theorem KT.val(r:KT H U xs)(k:List bL):dY (d6 U k) ((ñ xs k).map (·.2)):=by induction r with
|nil=>exact True.intro
|@cons p q d Y h t a=>
  obtain⟨Z,_,c⟩:=h;by_cases e:p.1=k
  .have e':=Z.symm.trans e;have b:ñ (q::Y) k=some q.2:=by simp[ñ,V_,e']
   rw[wV e,b];exact c
  .have e':¬ q.1=k:=fun z=>e (Z.trans z);have b:ñ (q::Y) k=ñ Y k:=by simp[ñ,V_,e']
   rw[sf e,b];exact a
theorem KT.repl(r:KT H U xs)(k:List bL)(b:aS y u):KT H (U.map fun Z=>if Z.1=k then(Z.1,y)else Z) (xs.map (putAt k u)):=by induction r with
|nil=>exact .nil
|@cons p q g f h t c=>
  rw[R_,R_];refine .cons ?_ c;obtain⟨Y,a,d⟩:=h;unfold putAt;by_cases e:p.1=k
  .rw[Q_d e,Q_d (Y.symm.trans e)];exact⟨Y,a,b⟩
  .rw[Q_e e,Q_e (fun z=>e (Y.trans z))];exact⟨Y,a,d⟩
theorem KT.put(r:KT H U xs)(k:List bL)(a:H b=some (.tup (k.map kV)))(Y:aS y u):KT H (dG U k y) (storedH xs k b u):=by
 have e:(U.any fun Z=>decide (Z.1=k))=(ñ xs k).isSome:=by rw[Iw,(r.val k).isSome_eq,Ě]
 unfold dG storedH;rw[e];by_cases q:(ñ xs k).isSome=true
 .rw[Q_d q,Q_d q];exact r.repl k Y
 .rw[Q_e q,Q_e q];exact Paired.snoc r ⟨rfl,a,Y⟩
theorem KT.keeps(r:KT H U xs)(a:∀b Y,H b=some (.tup Y)->Z b=some (.tup Y)):KT Z U xs:=Paired.mapP r fun _ _ z=>⟨z.1,a _ _ z.2.1,z.2.2⟩
variable{a:Addr}
section
variable{P:z_}{w:M_}{h:Heap}
theorem En(U:HOk P w H h)(e:Rd H a u):dZ P w H h a u:=e.ok U
theorem pJ(Y:HOk P w H h)(e:Rd H a (.dK U)):U.length<=sizeLine/\(a==ZD)=false/\∃vs,KV U vs/\h.DictOf (lI P w) a vs:=En Y e
theorem rn(Y:HOk P w H h)(e:H a=some (.tup (ks.map kV))):(Å (lI P w)).is h ks a:=by
 obtain⟨_,U,r,⟨o,c,b,n,Z⟩,_⟩:=(Y a _ e)
 exact⟨o,U.toArray,n,c,b,Z,by simpa using IV r⟩
theorem qG(b:HOk P w H h)(e:Rd H a (.dT U)):U.length<=sizeLine/\(a==ZD)=false /\∃xs,KT H U xs/\h.DictOfH (Å (lI P w)) a xs:=by
 obtain⟨z,y,xs,r,o,k,n,j,i,g,f,d⟩:=(En b e)
 refine⟨z,y,xs,r,o,k,n,j,i,g,f,fun x Y=>?_,d⟩;have Z:∀{l:List _}{m:List _},KT H l m->∀x∈m,(Å (lI P w)).is h x.1 x.2.1:=by
  intro l m q
  induction q with
 |nil=>simp_all
 |@cons p q u s v t c=>
   intro x Y;rcases s_.mp Y with e|Y
   .exact rn b `a
   .exact c x Y
 exact Z r x Y
end
def ly(H:Hp)(a:Addr)(y:V)(r:Option V):Prop:=(∃kvs k,Rd H a (.dK kvs)/\y=kV k/\r=d6 kvs k)\/∃kvs k b,Rd H a (.dT kvs)/\y=.ref b/\H b=some (.tup (k.map kV))/\r=d6 kvs k
def lx(H:Hp)(a:Addr)(y v:V)(H':Hp):Prop:=(∃kvs k,H a=some (.dK kvs)/\y=kV k/\kvs.length<sizeLine/\H'=aY H a (.dK (dG kvs k v))) \/∃kvs k b,H a=some (.dT kvs)/\y=.ref b/\H b=some (.tup (k.map kV))/\kvs.length<sizeLine/\H'=aY H a (.dT (dG kvs k v))
theorem lx.k{k:bL}(e:H a=some (.dK U))(Y:U.length<sizeLine):lx H a (kV k) v (aY H a (.dK (dG U k v))):=.inl ⟨U,k,e,rfl,Y,rfl⟩
variable{u:a_}{A:N_}{E:a_->d_->Prop}
section
variable{y v:V}{r:a_}{o:Option V}
theorem Q1(n:A.units+1<Y4)(I:Inv X pz σ H s)(g:ly H a y (some v))(m:aS y u)(h:∀w' j,Inv X pz σ H j->aS v w'->Q w' j):C_ (F_ X.prog X.w) A (é (.ref a) u) Q E s:=by
 rcases g with⟨c,k,e,f,l⟩|⟨c,k,b,e,f,r,l⟩
 .subst f;obtain⟨z,q,x,Y,i⟩:=pJ I.hok e;obtain⟨w',d,U⟩:=dY.some_of (by rw[l];exact Y.val k);exact Ó (qU m) i.mapOf d (h w' _ (I.tok _) U)
 .subst f;cases(m);obtain⟨z,q,t,Y,i⟩:=qG I.hok e;obtain⟨w',d,U⟩:=dY.some_of (by rw[l];exact Y.val k);obtain⟨p,o,Z⟩:=Y2.mp d;refine wpAny_getItem_heap (ZF n) (rn I.hok r) i o ?_;rw[Z];exact h w' _ (I.tok _) U
theorem DC(j:A.units+1<Y4)(I:Inv X pz σ H s)(g:ly H a y o)(i:aS y u)(h:∀f,Inv X pz σ H f->Q (.bool o.isSome) f):C_ (F_ X.prog X.w) A (X1 .In u (.ref a)) Q E s:=by
 rcases g with⟨Y,k,e,c,l⟩|⟨Y,k,b,e,c,m,l⟩
 .subst c;obtain⟨z,Z,p,U,d⟩:=pJ I.hok e;refine wpAny_in_of (qU i) Z d.mapOf ?_;rw[<-(U.val k).isSome_eq,<-l];exact h _ (I.tok _)
 .subst c;cases(i);obtain⟨z,Z,n,U,d⟩:=qG I.hok e;refine wpAny_in_heap (ZF j) (rn I.hok m) Z d ?_;have q:=(U.val k).isSome_eq;rw[Ě]at q;rw[<-q,<-l];exact h _ (I.tok _)
theorem OA(j:A.units+1<Y4)(I:Inv X pz σ H s)(g:ly H a y o)(i:aS y u)(h:∀f,Inv X pz σ H f->Q (.bool (not o.isSome)) f):C_ (F_ X.prog X.w) A (X1 .NotIn u (.ref a)) Q E s:=by
 rcases g with⟨Y,k,e,c,l⟩|⟨Y,k,b,e,c,m,l⟩
 .subst c;obtain⟨z,Z,p,U,d⟩:=pJ I.hok e;refine wpAny_notIn_of (qU i) Z d.mapOf ?_;rw[<-(U.val k).isSome_eq,<-l];exact h _ (I.tok _)
 .subst c;cases(i);obtain⟨z,Z,n,U,d⟩:=qG I.hok e;refine wpAny_notIn_heap (ZF j) (rn I.hok m) Z d ?_;have q:=(U.val k).isSome_eq;rw[Ě]at q;rw[<-q,<-l];exact h _ (I.tok _)
theorem Gc(I:Inv X pz σ H s)(Z:uP (H a))(hs:Z4 a s.heap h')(c:∃q,h'.get? a=some q)(Y:dZ X.prog X.w (aY H a U) h' a U):Inv X pz σ (aY H a U) { s with heap:=h',toks:=t' }:=I.write Z (.inl rfl) (fun b q d z=>(hs.2 b d).trans z) c Y
theorem Q2(M:A.units+1<Y4)(I:Inv X pz σ H s)(g:lx H a y v J)(x:aS y u)(B:aS v r)(h:∀t,Inv X pz σ J t->Q () t):C_ (F_ X.prog X.w) A (setItem (.ref a) u r) Q E s:=by
 rcases g with⟨Z,k,e,o,l,p⟩|⟨Z,k,b,e,o,G,l,p⟩
 .subst o p;obtain⟨z,d,L,U,f⟩:=pJ I.hok (.inl e);have j:L.length<=sizeLine:=by rw[<-U.length];exact z
  have n:(dG Z k v).length<=sizeLine:=by have:=BU Z k v;omega
  refine wpAny_setItem_pairs (hsz:=j) (qU x) f fun C Y m=>h _ ?_;have N:∃q,C.get? a=some q:=let⟨q,_,_,i,_⟩:=Y;⟨q,i⟩;exact Gc I (by rw[e];exact True.intro) m N ((fun z d U f=>⟨z,d,_,U,f⟩) n d (U.put k B) Y)
 .subst o p;cases(show u=Value.ref b from x);obtain⟨z,d,K,U,f⟩:=qG I.hok (.inl e);have j:K.length<=sizeLine:=by rw[<-Paired.length U];exact z
  have n:(dG Z k v).length<=sizeLine:=by have:=BU Z k v;omega
  refine wpAny_setItem_heap (hsz:=j) (ZF M) (rn I.hok G) f fun C Y m=>h _ ?_;obtain⟨q,es,ep,i,T,R,P,_,O⟩:=Y;refine Gc I (by rw[e];exact True.intro) m ⟨q,i⟩ ⟨n,d,_,(U.put k G B).keeps fun c ys F=>?_,q,es,ep,i,T,R,P,O⟩;rw[cE (U3 F e (fun z=>nomatch z))];exact F
end
section
variable{kvs:List (bL×V)}{k:bL}
theorem Vj(I:Inv X pz σ H s)(e:Rd H a (.dK kvs))(h:∀t Y,Inv X pz σ H Y->Q (.int kvs.length t) Y):C_ (F_ X.prog X.w) A (call (.builtin "len") [.ref a]) Q E s:=by obtain⟨z,Z,c,U,b⟩:=pJ I.hok e;refine call_len_dict Z b (by rw[<-U.length];rw[G_]at z;omega) ?_;rw[<-U.length];exact h _ _ (I.tok _)
end
theorem PK(h:Heap)(U:ZD<h.objs.size):dZ P w H (h.push { cls:=.type "dict",data:=.dict #[] }) h.objs.size (.dK []):=⟨XY _,beq_eq_false_iff_ne.mpr (YF (I_ U)),[],.nil,Heap.DictOf.new h⟩
def ND:TE:=fun _ H Q=>∀p,H p=none->Q (.ref p) (aY H p (.dK []))
theorem Qu:PE X (.Dict [] [] pos) ND:=fun Y s U H Q I h=>wpAny_Dict_empty ⟨.ref s.heap.objs.size,_,I.laid (fun _ _ q=>c_ _ q) (l_ _) (PK s.heap (by have h:=(I.mod.glob.keeps I.bk).lt;exact ď `d h)),rfl,h _ (I.hok.fresh (l_ _))⟩
def pT(kvs more:List (bL×V)):List (bL×V):=more.foldl (fun acc kv=>dG acc kv.1 kv.2) kvs
theorem KV.merge:∀{U:List (bL×V)}{rs:List (bL×a_)}{Y:List (bL×V)}{vs:List (bL×a_)},KV U rs->KV Y vs->KV (pT Y U) (merged vs rs):=by
 intro U rs Y vs r
 induction r generalizing Y vs with
|nil=>intro q;exact q
|@cons p q c b h t a=>
  intro Z;have e:KV (dG Y p.1 p.2) (stored vs q.1 q.2):=by
   have:=Z.put p.1 h.2
   grind
  exact a e
theorem K6:∀(Y U:List (bL×V)),(pT U Y).length<=U.length+Y.length
|[],U=>by show U.length<=U.length+0;omega
|p::r,U=>by
  have a:=K6 r (dG U p.1 p.2);have Z:=BU U p.1 p.2;show(pT _ r).length<=_
  grind
end L2
namespace Att
open PySem PySem.W PySem.Calls PyProof.Rows
theorem Ur:∀(U:List Int)(vs:List a_),WellAll P h vs (U.map WData.int)->Zb vs U:=by
 intro U
 induction U with
|nil=>intro vs w;cases w;exact .nil
|cons n U Y=>intro vs w;cases w with
 |cons a b=>cases a;exact .cons _ _ (Y _ b)
theorem Rw{l:OpenLaw}(t:l.most=some n)(Y:l.row.toRowW.claim.pre args=true)(q:WellAll P h U args):∃a vs b,U=[Value.ref a]/\args=[WData.list (b.map WData.int)]/\h.get? a=some { cls:=.type "list",data:=.seq vs.toArray }/\Zb vs b/\b.length<=n:=by
 have Z:=(pre_splitW Y).1;have k:l.pre.holds [] { args:=args }=true:=(pre_splitW Y).2;obtain⟨d,r,rfl,p,o⟩:=hasAllW_cons Z;obtain rfl:=hasAllW_nil o;obtain⟨s,rfl,m⟩:=hasW_list p;obtain⟨b,rfl⟩:=items_int m;have c:b.length<=n:=by
  have f:(WTm.not (.lt (.lit (.int (n))) (.len (.arg 0)))).holds [] { args:=[.list (b.map .int)] }=true:=by have f:=(holds_andW k).1;simp_all
  have u:=condW_of f (w_not (w_lt w_lit (w_len_list (w_arg rfl))));simp_all
 cases q with
|cons i g=>cases g;cases i with
 |list j e=>exact⟨_,_,b,rfl,rfl,j,Ur b _ e,c⟩
theorem attach_call{l:OpenLaw}(B:l.most=some n)(N:d.params.defaults=[])(i:∀(w:M_)(c b:d_)(m mb:Str->Option a_)(h:Addr)(o:Obj)(s p e:a_)(a:Addr)(vs:List a_)(k:List Int),Ground q U [] y w c m mb b.heap->x w b.heap ->b.heap.get? h=some o->o.data=.func (docDef d.name d.params d.body d.scope s p e)->b.heap.CodeRec p d.name->m d.name=some (.ref h) ->b.heap.get? a=some { cls:=.type "list",data:=.seq vs.toArray }->Zb vs k->k.length<=n->b.gens = #[] ->ç (F_ l.prog w) ë (.call (.ref h) ⟨[.ref a],[]⟩) (fun r j=>r=.ok (.ret (.bool true))/\OldK b.heap j.heap/\j.os=b.os/\ZT j.gens) b):WalkO q U y x l.row.toRowW d [] (fun f vs=>PySem.call f vs):=by
 intro w c b m mb G Y h o s p e K kV A F M u t E v X Q P LE R L T;obtain rfl:K=.none:=Dflts.none u N;obtain rfl:kV=.none:=Dflts.noKw u;obtain⟨a,vs,k,rfl,rfl,O,Z,g⟩:=Rw B P L;refine enter_call (Zk (i w c b m mb h o s p e a vs k G Y A (fd_plain F) M t O Z g E) fun r j z=>?_);obtain⟨rfl,J,I,H⟩:=z;exact⟨.inl ⟨_,_,[],rfl,fun _=>rfl,.bool true,(postW_of
     (by first|rfl|decide|grind)
     (w_eq_bool (w_res rfl) w_lit) rfl),fun _=>⟨List.Pairwise.nil,fun _ C=>(nomatch C)⟩⟩,J,I,H⟩
end Att
namespace L2
open PySem PySem.Spec PyProof.Rows
theorem Jh:∀{vs:List a_}{U:List Int},Zb vs U->aL (U.map V.int) vs
|_,_,.nil=>.nil
|_,_,.cons n t h=>.cons ⟨t,rfl⟩ (Jh h)
def pw(H:Hp):Prop:=∀b,H b=none\/∃o xs,H b=some (.frz o (.lst xs))
theorem QJ{K:W.Frag}{G:Sp}{c:d_}{vs:List a_}{p:List Int}(M:K.In c.heap)(O:c.heap.Ns K_ i)(g:c.heap.Ns Ý mb)(ST:∀x:Str,x≠"__name__"->mb x=Zi x)(IO:c.heap.NoLimit)(hg:c.gens = #[])(B:c.heap.get? a=some { cls:=.type "list",data:=.seq vs.toArray })(hi:Zb vs p)(hl:p.length<=sizeLine)(hr:Room k ë)(F:∀base:Heap,K.In base->base.Ns K_ i->FnOk P w K i base Q k C L [x] G)(BT:∀(s:d_)(u:a_),ö s L ⟨[u],[]⟩ [(x,u)])(LE:∀H:Hp,pw H->cM K H a (p.map V.int)->G [.ref a] H (fun v _=>v=.bl true) fun _ _ _=>False)(Tm:∀H e f,Q [] H c (fun _ _ _=>False) e f->False):ç (F_ P w) ë (.call (.ref C) ⟨[.ref a],[]⟩) (fun r f=>r=.ok (.ret (.bool true))/\OldK c.heap f.heap/\f.os=c.os/\ZT f.gens) c:=by
 have I:=Jh hi;have Ty:=hi.length;have Z:∀H:Hp,pw H->cM K H a (p.map V.int)->HOk P w H c.heap->(∀b,H b≠none->b=a)->(H a≠none->K.lookup a=none) ->ç (F_ P w) ë (.call (.ref C) ⟨[.ref a],[]⟩) (fun r f=>r=.ok (.ret (.bool true))/\OldK c.heap f.heap/\f.os=c.os/\ZT f.gens) c:=by
  intro H J hS j hA hK;have U:∀{b:Addr}{o:Obj},c.heap.get? b=some o->H b=none->(mU c.heap H).get? b=some o:=fun e n=>W.hideAll_get _ e fun hm=>by have q:=(o_.mp hm).2;simp_all
  have LT:∀{b:Addr}{o:Obj}{t:Array DictEntry}{y:Nat},c.heap.get? b=some o->o.data=.dict t y->H b=none:=fun{b o t y} e d=>by grind
  have Y:∀{b:Addr}{m:Str->Option a_},c.heap.Ns b m->(mU c.heap H).Ns b m:=fun{b m} k=>by obtain⟨o,t,y,e,d,r⟩:=k;exact ⟨o,t,y,U e (LT e d),d,r⟩
  have N:=fun b o e=>U (M b o e) `g;have hM:Mod K i _:=⟨N,Y O,⟨mb,Y g,ST⟩,let⟨mc,h1,h2⟩:=IO;⟨mc,Y h1,h2⟩⟩
  have e0:Env0 P w K i _ ë [] c H:=⟨rfl,hM,fun b o e=>Oj e,ZK ((fun h H=>W.hideAll_size _ _) _ _),trivial,fun b g=>Q_f (show b∈([])from g) `s,j,.of_eq hg⟩
  refine Zk ((F _ N (Y O)).run ë [] c H _ [.ref a] [.ref a] _ _ hr e0 (BT c (.ref a)) (.cons rfl .nil) (LE H J hS)) fun r f h=>?_;cases r with
 |error e=>exact(Tm H e f h).elim
 |ok fl=>cases fl with
  |next=>exact X4 h
  |brk=>exact X4 h
  |cont=>exact X4 h
  |ret u=>obtain⟨v,H',X,l,E,KK,R,q⟩:=h;have T:=q;subst T;obtain rfl:u=Value.bool true:=R;refine⟨rfl,OldK.of_keep fun b o e=>?_,X,l⟩;cases q:H b with
   |none=>exact E.keep b o e q (by intro z;exact Q_f (show b∈([])from z) `s) `s
   |some u=>
     rcases J b with z|⟨ob,xs,z⟩
     .rw[q]at z;cases z
     .have z2:=E.frzs b ob _ z;obtain⟨e1,_⟩:=j b _ z;obtain⟨e2,_⟩:=KK b _ z2;simp_all
 cases A:K.lookup a with
|some o=>have e:=M a o A;rw[B]at e;cases e;refine Z _ (fun _=>.inl rfl) (.inr ⟨_,vs.toArray,_,A,rfl,rfl,rfl,`a,by simpa using I⟩) (fun b u z=>`a) `a fun z=>Q_f rfl z
|none=>
  refine Z (fun b=>if b=a then some _ else none) (fun b=>?_) (.inl (.inr ⟨{ cls:=.type "list",data:=.seq vs.toArray },Q_d rfl⟩)) (fun b u z=>?_) (fun b z=>?_) fun _=>A
  .grind
  .by_cases g:b=a
   .have z':=(Q_d g).symm.trans z;cases z';subst g;exact⟨B,`g,vs,_,I,B⟩
   simp_all
  simp_all
noncomputable abbrev gM{K:W.Frag}{h:Heap}(_:K.In h):W.Frag:=K
theorem mw{l:W.OpenLaw}{K:Params->W.Frag}{E:M_->jN}{A:M_->Sp}{x:Str}(J:l.most=some n)(Id:n<=sizeLine)(IO:d.params.defaults=[])(I:Room k ë)(N:∀(w:M_)(h:Heap),B w h->(K w.params).In h)(F:∀(w:M_)(i:Str->Option a_)(p:Addr)(h:Heap),(K w.params).In h->h.Ns K_ i->i d.name=some (.ref p) ->∃y:X2,(∀(s:d_)(u:a_),ö s y ⟨[u],[]⟩ [(x,u)]) /\∀base:Heap,(K w.params).In base->base.Ns K_ i->FnOk l.prog w (K w.params) i base (E w) k p y [x] (A w))(Cl:∀(w:M_)(H:Hp)(a:Addr)(m:List Int),m.length<=n->pw H->cM (K w.params) H a (m.map V.int)->A w [.ref a] H (fun v _=>v=.bl true) fun _ _ _=>False)(KK:∀(w:M_)(H:Hp)(s:d_)(e:a_)(r:d_),E w [] H s (fun _ _ _=>False) e r->False):W.WalkO q U X B l.row.toRowW d [] (fun f vs=>PySem.call f vs):=by refine Att.attach_call J IO fun w z j i mb p o pm cd R a vs m G Y ho hd LE t BT Z c L=>?_;have C:=N w _ Y;obtain⟨y,M,Q⟩:=F w i p _ C G.T.g t;exact QJ C G.T.g G.T.b G.T.builtins G.T.nolimit L BT Z (S_ c Id) I Q M (fun H P O=>Cl w H a m c P O) fun H e r=>KK w H j e r
noncomputable def aW(s:Stmt):Arguments:=match s with
|.FunctionDef _ a _ _ _ _ _ _ _ _=>a
|_=>{ posonlyargs:=[],args:=[],vararg:=none,kwonlyargs:=[],kw_defaults:=[],kwarg:=none,defaults:=[] }
noncomputable def aO(s:Stmt):List Stmt:=match s with
|.FunctionDef _ _ b _ _ _ _ _ _ _=>b
|_=>[]
noncomputable def aA(s:Stmt):Ze:=match s with
|.FunctionDef _ _ _ _ _ _ sc _ _ _=>sc
|_=>{ kind:=.function,names:=[],isGenerator:=false,isCoroutine:=false }
abbrev fA:jN:=fun _ _ _ _ _ _=>False
abbrev E0:XK:=fun _ _ _=>False
theorem jU:ny fA X E0:=fun _ _ _ _ _ _ _ h=>h.elim
structure Fun(K:W.Frag)(x qual:Str)(st:Stmt)(f:Addr)(fd:X2):Prop where
 ex:∃(oc:a_)(od:Option Addr)(kV doc pm:a_)(an:Option Addr)(cdv ct:a_)(osl:Array (Option a_)),fd=W.fnOf x qual (aW st) (aO st) (aA st) .none kV doc pm an cdv ct/\K.lookup f=some ⟨oc,od,.func fd,osl⟩/\W.codeIn K cdv qual=true
 kp:W.keepIn K (.ref f)=true
section
variable{P:z_}{w:M_}{K:W.Frag}{mg:Str->Option a_}{base:Heap}
theorem Fun.ok{st:Stmt}(F:Fun K x b st f i)(S:FnScope N e (aA st))(g:∀vs H Q E,d vs H Q E->vs.length=e.length)(U:∀(c:a_)(A:N_)(a:List Env)(s:d_)(H:Hp)(vs:List V)(Q:VK)(E:XK),Room k (A.deeper (YK b (aA st) s.heap.objs.size f c))->d vs H Q E ->∃t,dQ (cR fA P w K mg base N b (aA st) f c A a s H E).nox (aO st) t/\t { nx:=fun _ o=>Q .non o,rt:=Q } (bM N vs) H):FnOk P w K mg base fA (k+1) f i e d:=by obtain⟨u,r,kV,n,p,y,c,v,j,rfl,l,Z⟩:=F.ex;refine vz l Z S g fun A a s H vs Q E m Y=>?_;obtain⟨t,h,q⟩:=U c A a s H vs Q E m Y;exact⟨t,h.nox,q⟩
theorem Fun.binds{st:Stmt}(F:Fun K x Y st f g)(h:∀(kV Z c:a_)(e:Option Addr)(a d:a_)(us:List a_),us.length=b.length->Y5 (W.fnOf x Y (aW st) (aO st) (aA st) .none kV Z c e a d) ⟨us,[]⟩=pure (b.zip us)):gO K g b []:=by obtain⟨k,j,kV,Z,c,e,a,d,i,rfl,l,U⟩:=F.ex;exact .all (h kV Z c e a d)
theorem gj{st:Stmt}{kV Z b Y d:a_}(l:K.lookup f=some ⟨h,g,.func (W.fnOf x U (aW st) (aO st) (aA st) .none kV Z b e Y d),a⟩)(c:W.codeIn K Y U=true)(k:W.keepIn K (.ref f)=true):Fun K x U st f (W.fnOf x U (aW st) (aO st) (aA st) .none kV Z b e Y d):=⟨⟨h,g,kV,Z,b,e,Y,d,a,rfl,l,c⟩,k⟩
end
theorem gq(U:Room k A):A.units+1<Y4:=ċ `a U.units
end L2
end
namespace DL
open PySem
section
open PySem.SeqAt
open PySem.AutoSeq1 (wpAny_loadPart')
open PySem.MeetsSeq PySem.MeetsSeq2 PySem.MeetsSeq3
end
end DL
namespace DL
open PySem PyProof.Rows
theorem Tn:isSubtype (.type "tuple") (.type "set")=pure false:=by rw[isSubtype_type];kernel_rfl
theorem TB:isSubtype (.type "tuple") (.type "frozenset")=pure false:=by rw[isSubtype_type];kernel_rfl
section
variable{prog:z_}{w:M_}{A:N_}{E:a_->d_->Prop}{s:d_}
noncomputable abbrev gB(led:Bool):Obj:={ cls:=.type "set",dict:=none,data:=.set #[] 0 (.fresh 0 0 led) }
def zF(prog:z_)(w:M_)(s:d_)(ns:List Int)(n:Nat)(h':Heap):Prop:=h'.SetOf (intKind prog w) s.heap.objs.size (fun k=>(ù (fun i=>ns.getD i 0) n).any (· == k)) (ù (fun i=>ns.getD i 0) n).length/\∀b o,b<s.heap.objs.size->s.heap.get? b=some o->h'.get? b=some o
set_option maxHeartbeats 3200000 in
theorem Tj(I:A.handled=none)(H:s.heap.IsTuple t U)(hi:Zb U.toList n)(J:U.size+1<YY)(L:∀h' r,zF prog w s n U.size h'->R (.ok (.ret .none)) { s with heap:=h',toks:=r }):C_ (F_ prog w) A.in1 (è.«set.__init__» ⟨[.ref s.heap.objs.size,.ref t],[]⟩) (fun fin Y=>match fin with|.done f=>R (.ok f) Y|.again E=>E.quiet=true/\ç (F_ prog w) A E R Y) (fun e Y=>R (.error e) Y) { s with heap:=s.heap.push (gB led) }:=by
 obtain⟨⟨C,u,x,m⟩,g,j,F,h⟩:=H;simp only at j h;subst j;subst h;have d:=c_ (gB led) g;have O:=Tn;have N:=TB;have M:(Value.type "tuple" == Value.type "dict")=false:=`d
 have l:(s.heap.push (gB led)).IsTuple t U:=⟨_,d,rfl,F,rfl⟩
 have K:(s.heap.push (gB led)).get? s.heap.objs.size=some (gB led):=n_ _ rfl;unfold è.«set.__init__» noKeywords ŷ;generalize B:í=PI
 wp_walk
 subst B;refine Yk l (b_ (wpAny_runValue ?_));have Z:t<s.heap.objs.size:=q_ g;have q:(s.heap.push (gB led)).objs.size=s.heap.objs.size+1:=XV ..;have y:t≠(s.heap.push (gB led)).objs.size:=by rw[q];exact I_ (Yh Z)
 have c:s.heap.objs.size∉[(s.heap.push (gB led)).objs.size,t]:=by rw[q];simp only[s_,YZ,Q_j,not_or];exact⟨I_ (Yj _),Yf Z⟩
 have a:∀(i:Nat)(v:a_),U[i]? = some v->∃r,v=.int ((fun i=>n.getD i 0) i) r:=fun i v G=>ě hi i v (by rw[œ];exact G);refine codeAny_set_update_loopS ((ű (A:=A.in1.in1) I _ t y U).toS) s.heap.objs.size c (fun i=>n.getD i 0) a J (U.size-0) 0 _ `o (XY _) ⟨⟨_,n_ _ rfl,rfl,rfl⟩,l.push _⟩ ?_ fun Y p z=>?_
 .exact SetOf_congr ((setObjOf_fresh (knd:=intKind prog w) led).setOf (c_ _ K) (by unfold YY;omega)) (fun _=>rfl) rfl
 .obtain⟨h',g',d',tk',os'⟩:=Y;obtain rfl:g'=s.gens:=p.gens;obtain rfl:d'=s.drawn:=p.drawn;obtain rfl:os'=s.os:=p.os;show C_ _ _ _ _ _ _;refine r_ ?_;show C_ _ _ (ret Value.none) _ _ _;refine r_ (L h' tk' ⟨z,fun b o k e=>?_⟩);refine p.heap b o ?_ (c_ _ (c_ _ e));rw[q];simp only[s_,YZ,Q_j,not_or];exact⟨I_ k,I_ (Yh k)⟩
set_option maxHeartbeats 3200000 in
theorem Th(n:A.handled=none)(m:s.heap.IsTuple t U)(hi:Zb U.toList i)(o:U.size+1<YY)(h:∀h' d,zF prog w s i U.size h'->Q (.ref s.heap.objs.size) { s with heap:=h',toks:=d }):C_ (F_ prog w) A (call (.type "set") [.ref t]) Q E s:=by
 obtain⟨c,v,l⟩:=F.called_set.mro;have H:=F.called_set.made;have G:=F.called_set.sub;refine Á (codeAny_of_tree ?_);show C_ _ _ (callAny (.type "set") _) _ _ _;refine r_ ⟨Code.quiet_builtin _ `k,codeAny_builtin F.entry_type_call ?_⟩;rw[Around.under_plain (weight_type_call_type "set" [.ref t] []) rfl];have C:=F.called_set.notType;have B:=F.called_set.canCreate;have z:=F.typeCall_set_1 (.ref t)
 repeat (any_goals (first|assumption|wp_step))
 refine Zk (code_set_new_1 (.ref t) (E:=E) (Q₁:=fun g a=>∃led:Bool,g=.ref s.heap.objs.size/\a={ s with heap:=s.heap.push (gB led) }) fun led=>⟨led,rfl,rfl⟩) fun r a j=>?_;cases r with
|error e=>exact j
|ok u=>cases u with
 |ret g=>
   obtain⟨led,rfl,rfl⟩:=j;have p:Shared.TypeIs { s with heap:=s.heap.push (gB led) } (.ref s.heap.objs.size) "set" := ⟨_,n_ _ rfl,rfl⟩
   have y:=F.called_set.init.lookup;have x:=F.called_set.init.bind (.ref s.heap.objs.size)
   repeat (any_goals (first|assumption|wp_step))
   refine Zk (codeAny_call_builtin (R:=wants (fun r Z=>r=.none/\∃h' d,Z={ s with heap:=h',toks:=d }/\zF prog w s i U.size h') E) F.called_set.init.plain F.entry_set_init (check_set_init_1 p ?_)) fun f Z Y=>?_
   .refine Tj (A:=A.in1) (led:=led) n m hi o fun q d k=>?_;exact⟨rfl,q,d,rfl,k⟩
   .cases f with
   |error e=>exact Y
   |ok b=>cases b with
    |ret r=>
      obtain⟨rfl,h',d,rfl,k⟩:=Y
      repeat (any_goals (first|assumption|wp_step))
      exact h _ _ k
    |_=>exact Y.elim
 |_=>exact j.elim
end
end DL
namespace DL
open PySem PyProof.Rows PySem.W
noncomputable def rm{α:Type}(c:Nat->Nat->Bool):KasT α->α
|.ret a=>a
|.ask i j k=>rm c (k (c i j))
inductive Asks(n:Nat){α:Type}(P:α->Prop):KasT α->Prop where
 |ret {a:α}:P a->Asks n P (.ret a)
 |ask {i j:Nat} {k:Bool->KasT α}:i<n->j<n->(∀b,Asks n P (k b))->Asks n P (.ask i j k)
theorem Asks.bind{f:U->KasT Y}(h:Asks n P t)(c:∀a,P a->Asks n Z (f a)):Asks n Z (t.bind f):=by induction h with
|ret h=>exact c _ h
|ask e d _ b=>exact .ask e d b
theorem Asks.run{t:KasT U}(h:Asks n P t)(c:Nat->Nat->Bool):P (rm c t):=by induction h with
|ret h=>exact h
|ask _ _ _ Y=>exact Y _
theorem Ri(a:∀i j C,i<n->j<n->C (c i j) s->U i j C s){t:KasT Y}(h:Asks n P t):Q (rm c t) s->t.kasWp U Q s:=by induction h with
|ret _=>exact fun q=>q
|ask d b _ Z=>exact fun q=>a _ _ _ d b (Z _ q)
def gp(n:Nat)(p:Array Nat):Prop:=p.toList.Perm (j_ n)
theorem gp.bd(h:gp n p)(Y:0<n)(k:Nat):p.getD k 0<n:=by
 by_cases U:k<p.size
 .have e:p.getD k 0=p[k]:=by simp[Array.getD,U]
  rw[e];exact u_.mp (h.mem_iff.mp `s)
 simp_all
theorem gp.rev(h:gp n p)(i j:Nat):gp n (kas_rev p i j):=(Œ.mp (mirror_perm p i j _)).trans h
theorem gp.bub(h:gp n p)(i j:Nat):gp n (bubble p i j):=(Œ.mp (bubble_perm p i j)).trans h
section
variable{n:Nat}(hn:0<n)
include hn
theorem AW(h:gp n p):∀f k,Asks n (fun _=>True) (kas_asc p f k)
|0,k=>.ret trivial
|f+1,k=>.ask (h.bd hn _) (h.bd hn _) fun b=>by cases b with
 |true=>exact .ret trivial
 |false=>exact AW h f _
theorem wY:∀f (p:Array Nat) k q,gp n p->Asks n (fun r=>gp n r.1) (kas_desc f p k q)
|0,p,k,q,h=>.ret h
|f+1,p,k,q,h=>.ask (h.bd hn _) (h.bd hn _) fun b=>by cases b with
 |true=>
   rw[Q_d rfl];split
   .exact wY f _ _ _ (h.rev _ _)
   .exact wY f _ _ _ h
 |false=>refine .ask (h.bd hn _) (h.bd hn _) fun b=>?_;cases b with
  |true=>exact .ret h
  |false=>exact wY f _ _ _ h
theorem Jd(h:gp n p)(a b:Nat):Asks n (fun r=>gp n r.2) (kas_tail3 a b p):=Asks.bind (AW hn (h.rev 0 a) _ _) fun m _=>.ret (h.rev 0 a)
theorem J7(h:gp n p)(a b:Nat):Asks n (fun r=>gp n r.2) (kas_descPart a b p):=by
 refine Asks.bind (wY hn _ p _ _ h) fun r U=>?_;split
 .exact Jd hn (U.rev _ _) _ _
 .exact Jd hn U _ _
theorem Sg(h:gp n p)(a:Nat):Asks n (fun r=>gp n r.2) (kas_count a p):=by
 refine Asks.bind (AW hn h _ _) fun k _=>?_;split
 .exact .ret h
 .split
  .refine .ask (h.bd hn _) (h.bd hn _) fun b=>?_;cases b with
  |true=>exact .ret h
  |false=>exact J7 hn (h.rev _ _) _ _
  .exact J7 hn h _ _
theorem Bo(h:gp n p)(k:Nat):∀f l r,Asks n (fun _=>True) (kas_place p k f l r)
|0,l,r=>.ret trivial
|f+1,l,r=>by
  unfold kas_place;split
  .exact .ret trivial
  .refine .ask (h.bd hn _) (h.bd hn _) fun b=>?_;cases b with
  |true=>exact Bo h k f _ _
  |false=>exact Bo h k f _ _
theorem Im:∀f (p:Array Nat) k,gp n p->Asks n (gp n) (kas_bin f p k)
|0,p,k,h=>.ret h
|f+1,p,k,h=>Asks.bind (Bo hn h k _ _ _) fun l _=>Im f _ _ (h.bub _ _)
theorem Jc:Asks n (gp n) (kas_sort n):=by
 refine Asks.bind (Sg hn (by unfold gp;simp) n) fun r U=>?_;split
 .exact Im hn _ _ _ U
 .exact .ret U
end
def lU(n:Nat)(c:Nat->Nat->Bool):List Nat:=if n<2 then j_ n else(rm c (kas_sort n)).toList
theorem By(n:Nat)(c:Nat->Nat->Bool):(lU n c).Perm (j_ n):=by
 unfold lU;split
 .exact .refl _
 .exact(Jc `o).run c
noncomputable def lq:List Int->List Int->Bool
|[],[]=>false
|[],_::_=>true
|_::_,[]=>false
|x::xs,y::ys=>if x=y then lq xs ys else decide (x<y)
def jL(fin:Bool):List (List Int)->List (List Int)->Bool
|k::ks,l::ls=>if k=l then jL fin ks ls else lq k l
|_,_=>fin
def gZ(ks ls:List (List Int)):Bool:=jL (decide (ks.length<ls.length)) ks ls
end DL
namespace DL
open PySem PyProof.Rows PySem.W PySem.Calls
section
variable{prog:z_}{w:M_}{A:N_}{E:a_->d_->Prop}{s:d_}
theorem R7{vs:List a_}(i:s.heap.get? a=some (ò "list" vs.toArray n))(p:vs.length<2)(h:∀h' c,(∀b o,b≠a->s.heap.get? b=some o->h'.get? b=some o)->h'.get? a=some (ò "list" vs.toArray c)->P (.done (.ret .none)) { s with heap:=h' }):C_ (F_ prog w) A (è.«list.sort» ⟨[.ref a],[]⟩) P E s:=by
 have U:vs.length<=sizeLine:=by rw[G_];omega
 have j:=fun(h:Heap)(f:Array a_->Array a_)=>Z2 h a (ZE f);obtain⟨l,m⟩:∃l,(s.heap.update a (ZE fun _=>(#[]:Array a_))).get? a=some (ò "list" #[] l):=⟨_,get?_update_seq i fun _=>#[]⟩
 rw[list_sort_plain];refine b_ (listItems_at i rfl (b_ (listUpdate_at i rfl ?_ (by rw[D_];exact U) (XY _))));refine b_ (seqEpoch_at m rfl (b_ (wpAny_newTuple (b_ (wpAny_newList (YR ?_) (XY _))) (by show vs.length<=_;exact U))))
 dsimp only
 have g:vs.toArray.size<2:=by rw[D_];exact p
 rw[Q_d g,Q_d g];refine b_ (r_ ?_);have q:(pure ():StateT SortSt Sem Unit).run (ĝ general' (vs.toArray.zip vs.toArray) #[] 7 none)=pure ((),ĝ general' (vs.toArray.zip vs.toArray) #[] 7 none):=rfl;rw[q];refine b_ (r_ ?_)
 dsimp only
 have d:(arrOf (ĝ general' (vs.toArray.zip vs.toArray) #[] 7 none)).map (·.2)=vs.toArray:=by show((vs.toArray.zip vs.toArray).map (·.2))=vs.toArray;apply Array.ext';simp[ĺ]
 rw[d];have Y:∀b o,(s.heap.update a (ZE fun _=>(#[]:Array a_))).get? b=some o->(((s.heap.update a (ZE fun _=>(#[]:Array a_))).push (ò "tuple" vs.toArray 0)).push (ò "list" #[] 0)).get? b=some o:=fun b o e=>c_ _ (c_ _ e);have Z:=Y _ _ m;refine b_ (seqEpoch_at Z rfl (b_ (listUpdate_at Z rfl ?_ (XY _) (by rw[D_];exact Nat.le_succ_of_le U))));simp only[bne_self_eq_false,Ŏ,if_false];refine r_ (h _ _ (fun b o k e=>?_) (get?_update_seq Z fun _=>vs.toArray));exact((j _ _).2 b k).trans (Y b o (((j _ _).2 b k).trans e))
theorem T0{vs:List a_}(i:s.heap.IsList l vs.toArray)(k:vs.length<2)(h:∀h' c D,(∀b o,s.heap.get? b=some o->h'.get? b=some o)->s.heap.objs.size<=D->h'.get? D=some (ò "list" vs.toArray c)->Q (.ref D) { s with heap:=h' }):C_ (F_ prog w) A (call (.builtin "sorted") [.ref l]) Q E s:=by
 refine Calls.call_function_entry kind_sorted plain_sorted entry_sorted (args_sorted1 _) ?_;refine b_ (r_ (b_ (collect_list i ?_ (by rw[G_];omega))));refine b_ (wpAny_newList ?_ (by rw[G_];omega));generalize f:((s.heap.push _).update s.heap.objs.size _)=Z;have a:Z.objs.size=s.heap.objs.size+1:=by rw[<-f,Heap.size_update,size_push']
 have Y:∀b o,s.heap.get? b=some o->(Z.push (ò "list" vs.toArray 0)).get? b=some o:=fun b o q=>by have d:=q_ q;refine c_ _ ?_;rw[<-f,X5 _ _ _ _ (I_ d)];exact c_ _ q
 have U:(Z.push _).get? Z.objs.size=some (ò "list" vs.toArray 0):=n_ _ rfl;refine b_ (YR (Yy slot_list_sort ⟨_,U,rfl⟩ entry_list_sort ?_ (args_list_sort _)));refine R7 U k fun h' c g j=>?_;refine⟨_,rfl,r_ ⟨_,rfl,h h' c _ (fun b o e=>g b o ?_ (Y b o e)) `a j⟩⟩;rw[a];exact I_ (Yh (q_ e))
end
end DL
namespace DL
open PySem PySem.Spec PyProof.Rows L2 PySem.W PySem.Calls
structure Lft(fr:List Addr)(a:Addr)(oe:Obj)(vs:Array a_)(T:Option Addr)(v:a_)(h h':Heap):Prop where
 keep:∀b o,b∉fr->b≠a->T≠some b->h.get? b=some o->h'.get? b=some o
 slot:∀b o,h.get? b=some o->(∀vs:Array a_,o.data≠Data.fields vs)->∃sl,h'.get? b=some { cls:=o.cls,dict:=o.dict,data:=o.data,slots:=sl }
 obj:∃tb ot ts,(h.get? tb=none\/T=some tb)/\tb≠a/\h'.get? a=some { cls:=oe.cls,dict:=oe.dict,data:=.fields (vs.setIfInBounds 1 (.ref tb)),slots:=oe.slots }/\h'.get? tb=some ot/\ot.data=.fields ts/\ts[3]? = some v
noncomputable abbrev DB(fl:Option Addr):a_:=fl.elim Value.none fun f=>à f
theorem Lft.self(l:h.get? a=some U)(f:U.data=.fields vs)(z:vs[1]? = some (.ref T))(Z:T≠a)(k:h.get? T=some oT)(g:oT.data=.fields Y)(i:Y[3]? = some v):Lft j a U vs (some T) v h h:=by
 refine⟨fun b o _ _ _ e=>e,fun b o e _=>⟨o.slots,e⟩,T,oT,Y,.inr rfl,Z,?_,k,g,i⟩;rw[l];obtain⟨c,d,n,m⟩:=U;have:=f;subst this;have:vs.setIfInBounds 1 (.ref T)=vs:=`g
 rw[this]
variable{M:ð}{E:a_->d_->Prop}{s:d_}{a:Addr}
section
variable{A:N_}{B:Heap}{env:Env}{outer:List Env}{L:Addr}{oe:Obj}{vs:Array a_}{Q:Unit->d_->Prop}
theorem Gf{KK:Bool}(J:A.frames=some (env::outer))(x:s.heap.FunFrames B (env::outer))(N:env.frame=some L)(R:s.heap.get? a=some oe)(w:oe.data=.fields vs)(hs:1<vs.size)(q:∀h',Lft (dF (env::outer)) a oe vs none (à ↑L) s.heap h'->Q () { heap:=h',gens:=s.gens,drawn:=s.drawn,toks:=s.toks,os:=s.os }) :
  C_ M A (do
   let f <-PySem.frameOf env;let pl <-entryPlaceOf L KK;let b <-EntryCells.newEntry l f Value.none (à ↑L) Value.none pl
   setField (Value.ref a) 1 b) Q E s:=by
 have IO:a∉dF _:=fun z=>by
  obtain⟨_,o,F,m⟩:=x.mem z
  grind
 refine b_ (wpAny_frameOf_fun J x N fun h H=>?_);refine b_ (wpAny_entryPlaceOf fun pl r=>?_);obtain⟨Tm,Z,X⟩:=H;have P:=(Z a IO).trans R;have n:∀i,i.length<=100->i[3]? = some (à ↑L)->C_ M A ((do
   let b <-newFields "traceback" i
   setField (Value.ref a) 1 b)) Q E { heap:=h,gens:=s.gens,drawn:=s.drawn,toks:=s.toks,os:=s.os }:=fun i k O=>by
  refine b_ ?_;have p:sizeOk (Data.fields i.toArray):=by
   have:=by simpa using k
   exact S_ this `d
  refine ZL ?_ p;have ST:h.get? h.objs.size=none:=by cases z:h.get? h.objs.size with
  |none=>rfl
  |some o=>exact Q_f (q_ z) (X0 _)
  have Y:h.objs.size≠a:=fun z=>by grind
  generalize Cl:h.objs.size=j at *;have C:(h.push { cls:=.type "traceback",dict:=none,data:=.fields i.toArray }).get? a=some oe:=c_ _ P;have T:(h.push { cls:=.type "traceback",dict:=none,data:=.fields i.toArray }).get? j=some { cls:=.type "traceback",dict:=none,data:=.fields i.toArray }:=by rw[<-Cl];exact n_ _ rfl
  generalize G:h.push { cls:=.type "traceback",dict:=none,data:=.fields i.toArray }=h3' at *;refine Zh C w hs ?_;have u:∀g,Yp g oe={ cls:=oe.cls,dict:=oe.dict,data:=.fields (g vs),slots:=oe.slots }:=fun g=>by obtain⟨c,d,da,t⟩:=oe;have:=w;subst this;rfl
  have y:=YH (Yp fun v=>v.setIfInBounds 1 (.ref j)) C (by rw[u];rfl);rw[u]at y;have U:∀b,b≠a->(h3'.update a (Yp fun v=>v.setIfInBounds 1 (.ref j))).get? b=h3'.get? b:=fun b K=>X5 _ _ _ _ K;refine q _ ⟨fun b o m I _ e=>?_,fun b o e m=>?_,j,_,_,.inl ?_,Y,y,(U j Y).trans T,rfl,by simpa using O⟩
  .have hb2:=(Z b m).trans e;rw[U b I,<-G];exact c_ _ hb2
  .obtain⟨t,F⟩:=X b o e;have Id:b≠a:=fun z=>by grind
   refine⟨t,?_⟩;rw[U b Id,<-G];exact c_ _ F
  .cases z:s.heap.get? j with
  |none=>rfl
  |some o=>grind
 refine n _ ?_ rfl;rcases r with rfl|⟨x1,x2,x3,x4,x5,x6,_,rfl⟩ <;> simp
theorem AT(C:U.frame=env.frame)(w:A.frames=some (env::outer))(x:s.heap.FunFrames B (env::outer))(m:env.frame=some L)(h:s.heap.get? a=some oe)(d:oe.data=.fields vs)(F:(vs[1]? = some Value.none/\T=none)\/∃c oT j v,T=some c/\vs[1]? = some (.ref c)/\c≠a/\s.heap.get? c=some oT/\oT.data=.fields j/\j[3]? = some v)(q:∀h' v,Lft (dF (env::outer)) a oe vs T v s.heap h'->Q () { heap:=h',gens:=s.gens,drawn:=s.drawn,toks:=s.toks,os:=s.os }):C_ M A (õ (.ref a) U) Q E s:=by
 have G:õ (.ref a) U=õ (.ref a) env:=by unfold õ PySem.frameOf;rw[C]
 rw[G];have u:1<vs.size:=`g
 unfold õ;simp only[m];rcases F with⟨z,rfl⟩|⟨c,oT,j,v,rfl,z,g,r,k,n⟩
 .refine b_ (XE h d z ?_);exact Gf w x m h d u fun h' l=>q h' _ l
 refine b_ (XE h d z ?_);refine b_ (XE r k n ?_);by_cases t:(v==à ↑L)=true
 .rw[Q_d t];exact r_ (q _ _ (Lft.self h d z g r k n))
 .rw[Q_e t];have Z:=(YC.mp n).1;refine b_ (Zh r k Z ?_);have p:∀b,b≠c->(s.heap.update c (Yp fun v=>v.setIfInBounds 3 Value.none)).get? b=s.heap.get? b:=fun b f=>X5 _ _ _ _ f;refine Gf w (x.of_keeps fun b o e i=>?_) m ((p a (YF g)).trans h) d u fun h' l=>q h' (à ↑L) ⟨fun b o i y Y e=>?_,fun b o e i=>?_,?_⟩
  .grind
  .have f:b≠c:=fun z=>Y (by rw[z]);exact l.keep b o i y `s ((p b f).trans e)
  .have f:b≠c:=fun z=>by grind
   exact l.slot b o ((p b f).trans e) i
  .obtain⟨tb,ot,ts',t1,t2⟩:=l.obj
   grind
theorem Be(fl:Option Addr)(hs:1<vs.size)(l:Lft r a oe vs T v h s.heap)(q:∀h',Lft r a oe vs T (DB fl) h h'->Q () { heap:=h',gens:=s.gens,drawn:=s.drawn,toks:=s.toks,os:=s.os }):C_ M A (setFlight (.ref a) fl) Q E s:=by
 obtain⟨f,Z,w,y,n,m,k,j,x⟩:=l.obj;have U:=(YC.mp x).1;have p:∀g,Yp g Z={ cls:=Z.cls,dict:=Z.dict,data:=.fields (g w),slots:=Z.slots }:=fun g=>by obtain⟨c,d,G,B⟩:=Z;have:=j;subst this;rfl
 refine b_ (XE m rfl (XI hs) ?_);refine Zh k j U ?_;have u:∀b,b≠f->(s.heap.update f (Yp fun v=>v.setIfInBounds 3 (DB fl))).get? b=s.heap.get? b:=fun b F=>X5 _ _ _ _ F;have t:=YH (Yp fun v=>v.setIfInBounds 3 (DB fl)) k (by rw[p];rfl);rw[p]at t;refine q _ ⟨fun b o i C Y e=>(u b fun z=>?_).trans (l.keep b o i C Y e),fun b o e i=>?_,f,_,_,y,n,(u a (YF n)).trans m,t,rfl,XI U⟩
 .grind
 .obtain⟨B,e1⟩:=l.slot b o e i
  grind
end
def Ve(h B:Heap)(a:Addr)(cls:a_)(od:Option Addr):Prop:=∃oe vs,h.get? a=some oe/\oe.cls=cls/\(∀dx,od=some dx->oe.dict=some dx)/\oe.data=.fields vs /\(vs[1]? = some Value.none\/∃T oT ts v,vs[1]? = some (.ref T)/\B.get? T=none/\T≠a/\h.get? T=some oT/\oT.data=.fields ts/\ts[3]? = some v)
structure Fly(P:z_)(w:M_)(st:List Env)(H:Hp)(s:d_)(H':Hp)(a:Addr)(cls:a_)(od:Option Addr)(s':d_):Prop where
 os:s'.os=s.os
 bare:ZT s'.gens
 un:Un (dF st) [] H H' s.heap s'.heap
 hok:HOk P w H' s'.heap
 ex:∃B:Heap,B.StaysIn s'.heap/\B.get? a=none/\s'.heap.FunFrames B st/\Ve s'.heap B a cls od /\(∀b o,s.heap.get? b=some o->b∉dF st->∃o',B.get? b=some o')/\∀b u,H' b=some u->∃o',B.get? b=some o'
variable{X:Cx}{pz:List (Addr×Obj)}{σ:L2.St}{H:Hp}
section
variable{P:z_}{w:M_}{st:List Env}{H':Hp}{s':d_}{cls:a_}{od:Option Addr}
theorem Fly.inv(F:Fly X.prog X.w X.stack H s H' a cls od s')(I:Inv X pz σ H s):Inv X pz σ H' s':=I.call' F.os F.un F.hok F.bare fun b z=>Q_f z `s
theorem Fly.step(F:Fly P w st H s H' a cls od s'):∃B j vs T,s'.heap.FunFrames B st/\s'.heap.get? a=some j/\j.data=.fields vs/\j.cls=cls/\1<vs.size /\((vs[1]? = some Value.none/\T=none)\/∃i oT g v,T=some i/\vs[1]? = some (.ref i)/\i≠a/\s'.heap.get? i=some oT/\oT.data=.fields g/\g[3]? = some v) /\∀h' v,Lft (dF st) a j vs T v s'.heap h'->Fly P w st H s H' a cls od { heap:=h',gens:=s'.gens,drawn:=s'.drawn,toks:=s'.toks,os:=s'.os }:=by
 obtain⟨B,I,Y,U,⟨j,vs,r1,C,r3,r4,A⟩,t,x⟩:=F.ex;have Z:1<vs.size:=by rcases A with z|⟨_,_,_,_,z,_⟩ <;> exact(YC.mp z).1
 obtain⟨T,G,h1⟩:∃T,(∀b,T=some b->B.get? b=none)/\((vs[1]? = some Value.none/\T=none)\/∃i oT g v,T=some i/\vs[1]? = some (.ref i)/\i≠a/\s'.heap.get? i=some oT/\oT.data=.fields g/\g[3]? = some v):=by
  rcases A with z|⟨T,oT,g,v,O,N,M,L,K,J⟩
  .exact⟨none,fun b e=>(nomatch e),.inl ⟨z,rfl⟩⟩
  .exact⟨some T,fun b e=>by cases e;exact N,.inr ⟨T,oT,g,v,rfl,O,M,L,K,J⟩⟩
 refine⟨B,j,vs,T,U,r1,r4,C,Z,h1,fun h' v l=>?_⟩;have d:∀b o,(∃E,B.get? b=some E)->s'.heap.get? b=some o->h'.get? b=some o:=fun b o ⟨E,e⟩ h=>by refine l.keep b o (fun z=>?_) (fun z=>by rw[z,Y]at e;cases e) (fun z=>by rw[G b z]at e;cases e) h;rw[(U.mem z).1]at e;cases e
 obtain⟨k,ot,g,m,t2,t3,X,R,Q⟩:=l.obj;have BT:B.get? k=none:=by
  rcases m with m|m
  .cases z:B.get? k with
  |none=>rfl
  |some o=>have:=I k o z;rw[m]at this;cases this
  .exact G k m
 refine⟨F.os,F.bare,⟨fun b o e n f z=>d b o (t b o e f) (F.un.keep b o e n f z),fun b o e n f z=>?_,F.un.free,fun b o e z=>?_,F.un.tups,F.un.frzs,F.un.tbls⟩,fun b u e=>?_,B,fun b o e=>d b o ⟨o,e⟩ (I b o e),Y,U.of_keeps fun b o e p=>?_,⟨_,_,t3,C,r3,rfl,.inr ⟨k,ot,g,_,XI Z,BT,t2,X,R,Q⟩⟩,t,x⟩
 .obtain⟨sl,e1⟩:=F.un.slot b o e n f z;obtain⟨_,o2,r,p⟩:=U.mem f;rw[e1]at r;cases r;obtain⟨Cl,y⟩:=l.slot b _ e1 p;exact⟨Cl,y⟩
 .obtain⟨o1,e1⟩:=F.un.there b o e z;by_cases f:b∈dF st
  .obtain⟨_,o2,r,p⟩:=U.mem f;obtain⟨sl,y⟩:=l.slot b _ r p;exact⟨_,y⟩
  .exact⟨o1,d b o1 (t b o e f) e1⟩
 .refine(F.hok b u e).stay (fun c v q e1=>d c v ?_ e1) (fun _ z=>z) fun _ _ z=>z;rcases q with q|q
  .rw[q];exact x b u e
  .exact x c _ q
 .obtain⟨sl,e1⟩:=l.slot b o e p;exact⟨_,e1,rfl⟩
theorem Fly.out(F:Fly X.prog X.w X.stack H s H' a cls od s')(I:Inv X pz σ H s)(p:X.stack=X.env::X.outer)(r:X.env.frame=some X.env.locals)(U:X.ex=[]):Fly X.prog X.w X.outer X.H₀ X.s₀ H' a cls od s':=by
 have d:=F.inv I;obtain⟨B,k,Z,Y,h,i,j⟩:=F.ex;have c:dF X.stack=X.env.locals::dF X.outer:=by unfold dF;grind
 rw[p]at Y;have m:=(show X.env.scope.kind≠ScopeKind.module/\(∃L o,X.env.frame=some L/\B.get? L=none/\s'.heap.get? L=some o/\∀(f:Array a_),o.data≠Data.fields f)/\s'.heap.FunFrames B X.outer by exact Y).2.2;refine⟨d.os,F.bare,U▸d.base,F.hok,B,k,Z,m,h,fun b o e n=>?_,j⟩;obtain⟨g,l⟩:=I.base.there b o e (by rw[U];simp);refine i b g l ?_;rw[c];intro z;rcases s_.mp z with z|z
 .have h1:=q_ e;have q:=I.ok.above
  grind
 .exact n z
theorem Fly.leaves(F:Fly X.prog X.w X.stack H s H' a cls od s')(I:Inv X pz σ H s)(U:X.stack=X.env::X.outer)(Y:X.env.frame=some X.env.locals)(h:X.ex=[])(q:∀b,Fly X.prog X.w X.outer X.H₀ X.s₀ H' a cls od b->Q () b):C_ M X.A (leaving X.env (.ref a)) Q E s':=by obtain⟨B,k,i,T,Z,f,e,j,m,g,d⟩:=F.step;rw[U]at Z;exact b_ (AT rfl (by rw[I.ok.frames,U]) Z Y f e g fun c v l=>Be none `g l (fun c l=>q _ ((d c _ (by rw[U];exact l)).out I U Y h)))
end
noncomputable def jj(P:z_)(w:M_):jN:=fun outer H s E e s'=>∃a cls H' od,e=.ref a/\Fly P w outer H s H' a cls od s'/\E cls od H'
theorem MW(x:dZ P w H h a o):∃u,h.get? a=some u:=by cases o with
|lst Y=>obtain⟨_,_,_,_,e⟩:=x;exact⟨_,e⟩
|tup Y=>obtain⟨_,_,_,_,o,e,_⟩:=x;exact⟨_,e⟩
|dK U=>obtain⟨_,_,_,_,o,_,_,e,_⟩:=x;exact⟨_,e⟩
|dT U=>obtain⟨_,_,_,_,o,_,_,e,_⟩:=x;exact⟨_,e⟩
|set S n=>obtain⟨o,_,_,_,e,_⟩:=x;exact⟨_,e⟩
|ins C j Z=>obtain⟨_,_,_,e,_⟩:=x;exact⟨_,e⟩
|own y=>exact x
|xd Z=>obtain⟨_,⟨_,_,_,e,_⟩,_⟩:=x;exact⟨_,e⟩
|rng g i=>obtain⟨_,_,_,e⟩:=x;exact⟨_,e⟩
|frz d u=>obtain⟨e,_⟩:=x;exact⟨_,e⟩
|tbl c=>exact⟨_,(x)⟩
|met f y=>exact⟨_,(x)⟩
|ext b=>exact x.2.1
noncomputable abbrev kP:List a_:=[Value.type "ValueError",Value.type "Exception",Value.type "BaseException",Value.type "object"]
theorem Qe(t:OwnTail h U Y)(Z:U.contains v=true):Y.contains v=true:=by induction t with
|base=>exact Z
|own _ _ _ _ a=>grind
theorem OF{K:W.Frag}{a:String}(k:K.In h)(e:excIn K C U a=true):∃b N nm q bs hdct sn sub ab col dd k0 k1 k2 k3 k5 f,h.get? C=some (À nm q C N bs b hdct sn sub ab col dd k0 k1 k2 k3 k5 a)/\h.Ns N f/\f (YO "__init__")=none/\OwnTail h U b:=by
 unfold excIn at e;split at e
 .rename_i dict cd sl hk;split at e
  .rename_i C' b k0 k1 k2 k3 n k5 hm hs;simp only[P_,beq_iff_eq,đ]at e;obtain⟨⟨⟨⟨⟨rfl,rfl⟩,m⟩,i⟩,g⟩,j⟩:=e;have Z:=isNs_of_in k g;obtain⟨nm,bs,c,d,q,hdct,sn,sub,ab,col,Y⟩:=cd;have r:c=Value.ref C'::b:=hm;have p:Y=false:=m;subst r p;have o:sl = #[k0,k1,k2,k3,some (Value.builtin n),k5]:=by cases sl with
   |mk l=>exact Q_g Array.mk hs
   subst o;exact⟨b,d,nm,q,bs,hdct,sn,sub,ab,col,dict,k0,k1,k2,k3,k5,h.nsMap d,k _ _ hk,Heap.Ns.of_isNs Z,nsMap_none_of_in k g j,tail_of_in k i⟩
  .cases e
 .cases e
structure XC(K:W.Frag)(mg:Str->Option a_)(x:Str)(C:Addr):Prop where
 bound:mg x=some (.ref C)
 exc:excIn K C kP "ValueError.__new__" = true
section
variable{x:Str}{C:Addr}{np cpos pos:Pos}{e₀:Expr}{rest:List Expr}{t:TA}
theorem Fly.made(I:Inv X pz σ H s)(m:s.heap.MadeExcOf h' e Y vs):Fly X.prog X.w X.stack H s H e Y none { heap:=h',gens:=s.gens,drawn:=s.drawn,toks:=s.toks,os:=s.os }:=by
 obtain⟨t,a,r,p⟩:=m.there;have U:∀b o,(hideAll s.heap (dF X.stack)).get? b=some o->h'.get? b=some o:=fun b o e=>m.keeps b o (of_hideAll _ e);refine⟨rfl,I.bare,Un.kept m.keeps,I.hok.kept m.keeps,_,U,?_,?_,⟨_,_,a,rfl,(fun _ e=>nomatch e),rfl,.inl rfl⟩,fun b o e n=>⟨o,hideAll_get _ e n⟩,fun b u e=>?_⟩
 .cases q:(hideAll s.heap _).get? e with
 |none=>rfl
 |some o=>have:=of_hideAll _ q;rw[m.new]at this;cases this
 .have ff:=I.stack;have c:∀l,(∀b∈dF l,b∈dF X.stack)->s.heap.FunFrames X.base l->h'.FunFrames (hideAll s.heap (dF X.stack)) l:=by
   intro l
   induction l with
  |nil=>intro _ _;trivial
  |cons k l d=>
    intro Z f;obtain⟨f1,⟨L,o,f2,v,j,i⟩,h⟩:=f;refine⟨f1,⟨L,o,f2,hideAll_none _ (Z L ?_),m.keeps _ _ j,i⟩,d (fun b g=>Z b ?_) h⟩
    .unfold dF;grind
    .unfold dF;rw[Zp,f2];exact h_ _ g
  grind
 .obtain⟨o,eo⟩:=MW (I.hok b u e);exact⟨o,hideAll_get _ eo fun z=>by rw[I.stkFree b z]at e;cases e⟩
theorem PX{Q:Flow->d_->Prop}(I:Inv X pz σ H s)(o:X.calm=true)(c:XC X.K X.mg x C)(n:Gl X x)(p:PA X (Y::rest) t)(h:t σ H fun vs d=>vs.length<=sizeLine/\∀b a i,Inv X pz σ d b->Fly X.prog X.w X.stack d b d a (.ref C) none i->X.xe (.ref a) i)(U:!!Nq x)(g:!Sx X Y rest)(f:!Bx X cpos rest):C_ (F_ X.prog X.w) X.A (exec (.Raise (some (.Call (.Name x np) (Y::rest) [] cpos)) none pos) X.env) Q X.xe s:=by
 obtain⟨G,N,nm,q,bs,hdct,sn,sub,ab,col,dd,k0,k1,k2,k3,k5,B,y,v,u,k⟩:=OF I.ok.mod.kin c.exc;refine wpAny_Raise_call_subT (nm:=nm) (q:=q) (C:=C) (N:=N) (bs:=bs) (hdct:=hdct) (sn:=sn) (sub:=sub) (ab:=ab) (col:=col) (dd:=dd) (k0:=k0) (k1:=k1) (k2:=k2) (k3:=k3) (k5:=k5) F.excBase_ValueError (Qe k `k) (I.ok.hd o) ?_ u ?_
 .rw[g];exact f
 refine nH I n c.bound ⟨rfl,?_⟩ U;rw[g];refine evalArgs_plain ?_;have j:=p cpos pz s σ H _ I h;rw[g]at j;refine bK j fun z b w=>?_;obtain⟨vs,d,Z,r,l,q⟩:=w;refine ⟨rfl,?_,Z.bk _ _ y,?_,?_,fun E e m=>q b e _ Z (Fly.made Z m)⟩
 .rw[<-r.length];exact l
 .exact v.keeps Z.bk
 .exact k.keeps Z.bk
end
end DL
namespace DL
open PySem PySem.Spec PyProof.Rows L2
inductive D where
 |non|bl (b:Bool)|int (i:Int)|str (x:Str)
 |tup (ds:List D)|lst (ds:List D)
 |dic (kvs:List (bL×D))
 |obj (c:Nat) (fs:List (Str×D))
instance:Inhabited D:=⟨.non⟩
inductive Res(α:Type) where
 |ok (a:α)|exc (x:D)|stuck
noncomputable def Res.bind{α β:Type}(r:Res α)(f:α->Res β):Res β:=match r with
|.ok a=>f a
|.exc x=>.exc x
|.stuck=>.stuck
@[simp] theorem bind_ok(a:U)(f:U->Res Y):(Res.ok a).bind f=f a:=rfl
def fin{α:Type}(r:Res α)(q:α->Prop)(x:D->Prop):Prop:=match r with
|.ok a=>q a
|.exc e=>x e
|.stuck=>False
theorem bQ{q Y:U->Prop}(h:fin r q x)(hq:∀a,q a->Y a):fin r Y x:=by cases r with
|ok a=>exact hq a h
|exc e=>exact h
|stuck=>exact h
theorem cC{f:Y->Res U}(h:fin (r.bind f) q x):fin r (fun a=>fin (f a) q x) x:=by cases r with
|ok a=>exact h
|exc e=>exact h
|stuck=>exact h
abbrev GH:=Addr->Option D
inductive Scl:V->D->Prop where
 |non:Scl .non .non
 |bl (b:Bool):Scl (.bl b) (.bl b)
 |int (i:Int):Scl (.int i) (.int i)
 |str (x:Str):Scl (.str x) (.str x)
inductive KC(K:W.Frag)(a:Addr):D->Prop where
|lst {xs:List V} {ds:List D}:cM K (fun _=>none) a xs->Paired Scl xs ds->KC K a (.lst ds)
|tup {xs:List V} {ds:List D}:dB K (fun _=>none) a xs->Paired Scl xs ds->(∃o,K.lookup a=some o/\o.cls=.type "tuple"/\o.dict=none)->KC K a (.tup ds)
inductive RG(K:W.Frag)(G:GH):V->D->Prop where
 |scl {v:V} {d:D}:Scl v d->RG K G v d
 |ref {a:Addr} {d:D}:G a=some d->RG K G (.ref a) d
 |kc {a:Addr} {d:D}:KC K a d->RG K G (.ref a) d
abbrev cZ(K:W.Frag)(G:GH):List V->List D->Prop:=Paired (RG K G)
abbrev hJ(K:W.Frag)(G:GH):List (bL×V)->List (bL×D)->Prop:=Paired fun p q=>p.1=q.1/\RG K G p.2 q.2
noncomputable abbrev xD(nm:Str)(ds:List (Str×D)):D:=.obj 0 (("__class__",.str nm)::ds)
def XN(K:W.Frag)(nm:Str)(C:Addr):Prop:=∃o cd,K.lookup C=some o/\o.data=Data.cls cd/\cd.name=nm
def m6(a C:Addr)(od:Option Addr):Heap->Prop:=fun h=>∃oe vs,h.get? a=some oe/\oe.cls=.ref C/\(∀dx,od=some dx->oe.dict=some dx)/\oe.data=.fields vs
def XF(G:GH)(od:Option Addr)(ds:List (Str×D)):Prop:=match od with
|none=>ds=[]
|some dx=>G dx=some (.obj 1 ds)
theorem XF.mono(h:XF G U ds)(Z:∀a d,G a=some d->Y a=some d):XF Y U ds:=by cases U with
|none=>exact h
|some b=>exact Z _ _ h
abbrev jh(K:W.Frag)(G:GH):List (Str×V)->List (Str×D)->Prop:=Paired fun p q=>p.1=q.1/\RG K G p.2 q.2
noncomputable abbrev iD(nm:Str)(ds:List (Str×D)):D:=.obj 2 (("__class__",.str nm)::ds)
inductive OB(K:W.Frag)(G:GH)(H:Hp)(a:Addr):D->Prop where
 |lst {xs:List V} {ds:List D}:Rd H a (.lst xs)->cZ K G xs ds->OB K G H a (.lst ds)
 |tup {xs:List V} {ds:List D}:Rd H a (.tup xs)->cZ K G xs ds->OB K G H a (.tup ds)
 |dic {ob:Obj} {ps:List (bL×V)} {kvs:List (bL×D)}:H a=some (.frz ob (.dK ps))->hJ K G ps kvs->OB K G H a (.dic kvs)
 |exc {nm:Str} {C:Addr} {od:Option Addr} {ds:List (Str×D)}:H a=some (.ext (m6 a C od))->XN K nm C->XF G od ds->OB K G H a (xD nm ds)
 |fld {fs:List (Str×V)} {ds:List (Str×D)}:H a=some (.xd fs)->jh K G fs ds->OB K G H a (.obj 1 ds)
 |ins {nm:Str} {C dx:Addr} {fs:List (Str×V)} {ds:List (Str×D)}:H a=some (.ins C dx fs)->XN K nm C->jh K G fs ds->OB K G H a (iD nm ds)
def bZ(K:W.Frag)(G:GH)(H:Hp):Prop:=∀a d,G a=some d->OB K G H a d
inductive OwnO(K:W.Frag)(G:GH)(H:Hp)(a:Addr):D->Prop where
 |lst {xs:List V} {ds:List D}:H a=some (.lst xs)->cZ K G xs ds->OwnO K G H a (.lst ds)
 |dic {ps:List (bL×V)} {kvs:List (bL×D)}:H a=some (.dK ps)->hJ K G ps kvs->OwnO K G H a (.dic kvs)
structure Own(K:W.Frag)(G:GH)(H:Hp)(a:Addr)(d:D):Prop where
 un:G a=none
 ob:OwnO K G H a d
structure Grow(K:W.Frag)(G:GH)(H:Hp)(G':GH)(H':Hp):Prop where
 ok:bZ K G' H'
 he:∀a o,H a=some o->H' a=some o
 ge:∀a d,G a=some d->G' a=some d
 gf:∀a,H a≠none->G' a=G a
variable{K:W.Frag}{G G' G2:GH}{H H' H2:Hp}
section
variable{G1:GH}{H1:Hp}{a p:Addr}{d:D}{v:V}
theorem Rd.mono(h:Rd H a u)(U:∀a o,H a=some o->H' a=some o):Rd H' a u:=by
 rcases h with h|⟨o,h⟩
 .exact .inl (U _ _ h)
 .exact .inr ⟨o,U _ _ h⟩
theorem Rd.isS(h:Rd H a u):H a≠none:=by rcases h with h|⟨o,h⟩ <;> rw[h] <;> simp
theorem RG.mono(h:RG K G v d)(U:∀a d,G a=some d->G' a=some d):RG K G' v d:=by cases h with
|scl s=>exact .scl s
|ref e=>exact .ref (U _ _ e)
|kc k=>exact .kc k
theorem cZ.mono(h:cZ K G xs ds)(U:∀a d,G a=some d->G' a=some d):cZ K G' xs ds:=Paired.mono (fun _ _ r=>r.mono U) h
theorem hJ.mono(h:hJ K G xs ds)(U:∀a d,G a=some d->G' a=some d):hJ K G' xs ds:=Paired.mono (fun _ _ r=>⟨r.1,r.2.mono U⟩) h
theorem OB.mono(h:OB K G H a d)(Y:∀a d,G a=some d->G' a=some d)(U:∀o,H a=some o->H' a=some o):OB K G' H' a d:=by
 have Z:∀{u:HO},Rd H a u->Rd H' a u:=fun r=>by
  rcases r with r|⟨o,r⟩
  .exact .inl (U _ r)
  .exact .inr ⟨o,U _ r⟩
 cases h with
|lst r s=>exact .lst (Z r) (s.mono Y)
|tup r s=>exact .tup (Z r) (s.mono Y)
|dic r s=>exact .dic (U _ r) (hJ.mono s Y)
|exc r n f=>exact .exc (U _ r) n (f.mono Y)
|fld r s=>exact .fld (U _ r) (Paired.mono (fun _ _ r=>⟨r.1,r.2.mono Y⟩) s)
|ins r n s=>exact .ins (U _ r) n (Paired.mono (fun _ _ r=>⟨r.1,r.2.mono Y⟩) s)
theorem OB.isS(h:OB K G H a d):H a≠none:=by cases h with
|lst r s=>exact Rd.isS r
|tup r s=>exact Rd.isS r
|dic r s=>rw[r];simp
|exc r n f=>rw[r];simp
|fld r s=>rw[r];simp
|ins r n s=>rw[r];simp
theorem bZ.isN(g:bZ K G H)(h:H p=none):G p=none:=by cases e:G p with
|none=>rfl
|some d=>exact Q_f h (g p d e).isS
theorem OwnO.isS(h:OwnO K G H a d):H a≠none:=by cases h with
|lst r s=>rw[r];simp
|dic r s=>rw[r];simp
theorem OwnO.mono(h:OwnO K G H a d)(Y:∀a d,G a=some d->G' a=some d)(U:∀o,H a=some o->H' a=some o):OwnO K G' H' a d:=by cases h with
|lst r s=>exact .lst (U _ r) (s.mono Y)
|dic r s=>exact .dic (U _ r) (hJ.mono s Y)
theorem Own.mono(h:Own K G H a d)(w:Grow K G H G' H'):Own K G' H' a d:=⟨by rw[w.gf a h.ob.isS];exact h.un,h.ob.mono w.ge fun o e=>w.he _ _ e⟩
def fz(H:Hp)(a:Addr)(ob:Obj):Hp:=match H a with
|some (.dK ps)=>aY H a (.frz ob (.dK ps))
|_=>H
theorem qH(h:b≠a):fz H a U b=H b:=by unfold fz;cases e:H a with
|none=>rfl
|some u=>cases u <;> first|rfl|exact cE h
theorem Ny(h:H a=some (.lst xs)):fz H a U=H:=by unfold fz;rw[h]
theorem OwnO.fast(h:OwnO K G H a d)(U:Obj):OB K G (fz H a U) a d:=by cases h with
|lst r s=>rw[Ny r];exact .lst (.inl r) s
|dic r s=>exact .dic ((fun h=>by unfold fz;rw[h];exact cS) r) s
theorem bZ.fast(g:bZ K G H)(Z:G a=none)(U:Obj):bZ K G (fz H a U):=fun b d e=>by
 have Y:b≠a:=`g
 exact(g b d e).mono `g fun o z=>by rw[qH Y];exact z
theorem Grow.refl(g:bZ K G H):Grow K G H G H:=⟨g,fun _ _ e=>e,fun _ _ e=>e,fun _ _=>rfl⟩
theorem Grow.trans(x:Grow K G H G1 H1)(y:Grow K G1 H1 G2 H2):Grow K G H G2 H2:=
 ⟨y.ok,fun a o e=>y.he _ _ (x.he _ _ e),fun a d e=>y.ge _ _ (x.ge _ _ e),fun a h=>by
  have U:H1 a≠Option.none:=by cases e:H a with
  |none=>exact Q_f e h
  |some o=>rw[x.he _ _ e];simp
  rw[y.gf a U,x.gf a h]⟩
noncomputable def gset(G:GH)(a:Addr)(d:D):GH:=fun b=>if b=a then some d else G b
theorem iC:gset G a d a=some d:=Q_d rfl
theorem kG(h:b≠a):gset G a d b=G b:=Q_e h
theorem kF(U:G a=none):∀b e,G b=some e->gset G a d b=some e:=fun b e h=>by
 have:b≠a:=`g
 rw[kG this];exact h
theorem bZ.gset(g:bZ K G H)(U:G a=none)(o:OB K G H a d):bZ K (gset G a d) H:=fun b e h=>by
 by_cases Y:b=a
 .subst Y;rw[iC]at h;cases h;exact o.mono (kF U) fun _ q=>q
 .rw[kG Y]at h;exact(g b e h).mono (kF U) fun _ q=>q
theorem zT(U:H p=none):∀a u,H a=some u->aY H p o a=some u:=fun a u e=>by rw[cE (nO e U)];exact e
theorem Grow.new(g:bZ K G H)(U:H p=none)(o:HO):Grow K G H G (aY H p o):=⟨fun a d e=>(g a d e).mono `g fun u q=>zT U _ _ q,fun a u e=>zT U _ _ e,fun _ _ e=>e,fun _ _=>rfl⟩
theorem Grow.newF(g:bZ K G H)(U:H p=none)(Z:OB K G (aY H p o) p d):Grow K G H (gset G p d) (aY H p o):=by have w:=Grow.new g U o;have Y:=g.isN U;exact⟨w.ok.gset Y Z,w.he,fun a e h=>kF Y a e h,fun a h=>kG (by rintro rfl;exact h U)⟩
theorem Grow.frz(w:Grow K G H G' H')(Y:H a=none)(o:Own K G' H' a d)(U:Obj):Grow K G H (gset G' a d) (fz H' a U):=⟨(w.ok.fast o.un U).gset o.un (o.ob.fast U),fun b u e=>by rw[qH `g];exact w.he b u e,fun b e h=>kF o.un b e (w.ge b e h),fun b h=>by rw[kG `g];exact w.gf b h⟩
theorem RG.lst{ds:List D}(g:bZ K G H)(h:RG K G v (.lst ds)):∃a xs,v=.ref a/\cM K H a xs/\cZ K G xs ds:=by cases h with
|scl s=>cases s
|ref e=>cases g _ _ e with
 |lst r s=>exact⟨_,_,rfl,.inl r,s⟩
|kc k=>cases k with
 |lst r s=>
   refine⟨_,_,rfl,?_,Paired.mono (fun _ _ z=>.scl z) s⟩;rcases r with(r|⟨o,r⟩)|r
   .cases r
   .cases r
   .exact .inr r
theorem RG.tup(g:bZ K G H)(h:RG K G v (.tup ds)):∃a xs,v=.ref a/\dB K H a xs/\cZ K G xs ds:=by cases h with
|scl s=>cases s
|ref e=>cases g _ _ e with
 |tup r s=>exact⟨_,_,rfl,.inl r,s⟩
|kc k=>cases k with
 |tup r s _=>
   refine⟨_,_,rfl,?_,Paired.mono (fun _ _ z=>.scl z) s⟩;rcases r with(r|⟨o,r⟩)|r
   .cases r
   .cases r
   .exact .inr r
theorem RG.dic{U:List (bL×D)}(g:bZ K G H)(h:RG K G v (.dic U)):∃a Y,v=.ref a/\Rd H a (.dK Y)/\hJ K G Y U:=by cases h with
|scl s=>cases s
|ref e=>cases g _ _ e with
 |dic r s=>exact⟨_,_,rfl,.inr ⟨_,r⟩,s⟩
|kc k=>cases k
theorem RG.int(g:bZ K G H)(h:RG K G v (.int i)):v=.int i:=by cases h with
|scl s=>cases s;rfl
|ref e=>cases g _ _ e
|kc k=>cases k
theorem RG.str(g:bZ K G H)(h:RG K G v (.str x)):v=.str x:=by cases h with
|scl s=>cases s;rfl
|ref e=>cases g _ _ e
|kc k=>cases k
theorem RG.bl(g:bZ K G H)(h:RG K G v (.bl b)):v=.bl b:=by cases h with
|scl s=>cases s;rfl
|ref e=>cases g _ _ e
|kc k=>cases k
theorem RG.non(g:bZ K G H)(h:RG K G v .non):v=.non:=by cases h with
|scl s=>cases s;rfl
|ref e=>cases g _ _ e
|kc k=>cases k
def RB(K:W.Frag)(G:GH)(H:Hp)(v:V)(d:D):Prop:=RG K G v d\/∃a,v=.ref a/\Own K G H a d
theorem RG.rb(h:RG K G v d):RB K G H v d:=.inl h
theorem RB.mono(h:RB K G H v d)(w:Grow K G H G' H'):RB K G' H' v d:=by
 rcases h with h|⟨a,e,h⟩
 .exact .inl (h.mono w.ge)
 .exact .inr ⟨a,e,h.mono w⟩
theorem RB.lst{ds:List D}(g:bZ K G H)(h:RB K G H v (.lst ds)):∃a xs,v=.ref a/\cM K H a xs/\cZ K G xs ds:=by
 rcases h with h|⟨a,e,h⟩
 .exact h.lst g
 .cases h.ob with
 |lst r s=>exact⟨a,_,e,cM.of r,s⟩
theorem RB.tup(g:bZ K G H)(h:RB K G H v (.tup ds)):∃a xs,v=.ref a/\dB K H a xs/\cZ K G xs ds:=by
 rcases h with h|⟨a,e,h⟩
 .exact h.tup g
 .cases h.ob
theorem RB.dic{U:List (bL×D)}(g:bZ K G H)(h:RB K G H v (.dic U)):∃a Y,v=.ref a/\Rd H a (.dK Y)/\hJ K G Y U:=by
 rcases h with h|⟨a,e,h⟩
 .exact h.dic g
 .cases h.ob with
 |dic r s=>exact⟨a,_,e,.inl r,s⟩
theorem RB.int(g:bZ K G H)(h:RB K G H v (.int i)):v=.int i:=by
 rcases h with h|⟨a,e,h⟩
 .exact h.int g
 .cases h.ob
theorem RB.str(g:bZ K G H)(h:RB K G H v (.str x)):v=.str x:=by
 rcases h with h|⟨a,e,h⟩
 .exact h.str g
 .cases h.ob
theorem RB.bl(g:bZ K G H)(h:RB K G H v (.bl b)):v=.bl b:=by
 rcases h with h|⟨a,e,h⟩
 .exact h.bl g
 .cases h.ob
theorem RB.non(g:bZ K G H)(h:RB K G H v .non):v=.non:=by
 rcases h with h|⟨a,e,h⟩
 .exact h.non g
 .cases h.ob
theorem Paired.get:∀{l:List Y}{r:List U}{i:Nat}{b:U},Paired F l r->r[i]? = some b->∃a,l[i]? = some a/\F a b
|_,_,_,_,.nil,e=>by simp at e
|_,_,0,_,.cons h _,e=>by simp at e;subst e;exact⟨_,rfl,h⟩
|_,_,i+1,b,.cons _ t,e=>by obtain⟨a,c,Z⟩:=Paired.get (i:=i) t (by simpa using e);exact⟨a,by simpa using c,Z⟩
theorem Paired.app{l Z:List Y}{r r':List U}(h:Paired F l r)(q:Paired F Z r'):Paired F (l++Z) (r++r'):=by induction h with
|nil=>exact q
|cons h _ a=>exact .cons h a
theorem Paired.tk{l:List Y}{r:List U}(n:Nat)(h:Paired F l r):Paired F (l.take n) (r.take n):=by induction h generalizing n with
|nil=>cases n <;> exact .nil
|cons h _ Z=>cases n with
 |zero=>exact .nil
 |succ n=>exact .cons h (Z n)
theorem Paired.dr{l:List Y}{r:List U}(n:Nat)(h:Paired F l r):Paired F (l.drop n) (r.drop n):=by induction h generalizing n with
|nil=>cases n <;> exact .nil
|cons h t Z=>cases n with
 |zero=>exact .cons h t
 |succ n=>exact Z n
theorem Paired.st{a:Y}{b:U}(h:F a b)(n:Nat)(p:Paired F l r):Paired F (l.set n a) (r.set n b):=by induction p generalizing n with
|nil=>exact .nil
|cons q t Z=>cases n with
 |zero=>exact .cons h t
 |succ n=>exact .cons q (Z n)
theorem Paired.er{l:List Y}{r:List U}(n:Nat)(p:Paired F l r):Paired F (l.eraseIdx n) (r.eraseIdx n):=by induction p generalizing n with
|nil=>exact .nil
|cons q t Z=>cases n with
 |zero=>exact t
 |succ n=>exact .cons q (Z n)
end
inductive Md where
 |sh|ow|bw
 deriving DecidableEq
abbrev aJ:=List (Option D)
structure GE where
 gh:GH
 h0:Hp
 hd:Nat->Option (Option V×Option D)
def Bw(K:W.Frag)(h0:Hp)(G:GH)(H:Hp)(v:V)(d:D):Prop:=RG K G v d\/∃a,v=V.ref a/\Own K G H a d/\h0 a≠none
theorem Bw.grow(h:Bw K U G H v d)(w:Grow K G H Z Y):Bw K U Z Y v d:=by
 rcases h with h|⟨a,e,c,b⟩
 .exact .inl (h.mono w.ge)
 .exact .inr ⟨a,e,c.mono w,b⟩
theorem Bw.rb(h:Bw K Y G H v d):RB K G H v d:=by
 rcases h with h|⟨a,e,U,Z⟩
 .exact .inl h
 .exact .inr ⟨a,e,U⟩
def Lk(r:aJ)(st:L2.St)(i:Nat)(o:Option V×Option D):Prop:=st[i]? = some o.1/\∀d,r[i]? = some (some d)->o.2=some d
structure SI(X:Cx)(g:GE)(m:List Md)(r:aJ)(G:GH)(st:L2.St)(H:Hp):Prop where
 gok:bZ X.K G H
 old:∀a o,g.h0 a=some o->H a=some o
 ge:∀a d,g.gh a=some d->G a=some d
 gf:∀a,g.h0 a≠none->G a=g.gh a
 lm:m.length=st.length
 lr:r.length=st.length
 sh:∀(i:Nat) d,r[i]? = some (some d)->m[i]? = some .sh->∃v,st[i]? = some (some v)/\RG X.K G v d
 ow:∀(i:Nat) d,r[i]? = some (some d)->m[i]? = some .ow->∃a,st[i]? = some (some (V.ref a))/\Own X.K G H a d/\g.h0 a=none
 bw:∀(i:Nat) d,r[i]? = some (some d)->m[i]? = some .bw->∃v,st[i]? = some (some v)/\Bw X.K g.h0 G H v d
 dis:∀(i j:Nat) a d e,i≠j->r[i]? = some (some d)->r[j]? = some (some e)->m[i]? = some .ow->m[j]? = some .ow->st[i]? = some (some (V.ref a))->st[j]? = some (some (V.ref a))->False
 lk:∀(i:Nat) o,g.hd i=some o->m[i]? = some .bw->Lk r st i o
variable{X:Cx}{g:GE}{m:List Md}{r:aJ}
section
variable{st:L2.St}
theorem SI.grow(s:SI X g m r G st H)(w:Grow X.K G H G' H'):SI X g m r G' st H' where
 gok:=w.ok
 old:=fun a o e=>w.he _ _ (s.old a o e)
 ge:=fun a d e=>w.ge _ _ (s.ge a d e)
 gf:=fun a h=>by
  have U:H a≠none:=by cases e:g.h0 a with
  |none=>exact Q_f e h
  |some o=>rw[s.old _ _ e];simp
  rw[w.gf a U,s.gf a h]
 lm:=s.lm
 lr:=s.lr
 sh:=fun i d U b=>by obtain⟨v,Z,Y⟩:=s.sh i d U b;exact⟨v,Z,Y.mono w.ge⟩
 ow:=fun i d U b=>by obtain⟨a,Z,Y,c⟩:=s.ow i d U b;exact⟨a,Z,Y.mono w,c⟩
 bw:=fun i d U b=>by obtain⟨v,Z,Y⟩:=s.bw i d U b;exact⟨v,Z,Y.grow w⟩
 dis:=s.dis
 lk:=s.lk
theorem SI.grown(s:SI X g m r G st H):Grow X.K g.gh g.h0 G H:=⟨s.gok,s.old,s.ge,s.gf⟩
theorem SI.frz(s:SI X g m r G st H)(i:Nat)(hi:m[i]? = some .ow):(∃u,(∀a d,G a=some d->u a=some d)/\SI X g (m.set i .sh) r u st H)\/∃a,∀x,∃u,(∀a d,G a=some d->u a=some d)/\SI X g (m.set i .sh) r u st (fz H a x):=by
 have l:i<m.length:=(e_.mp hi).1;by_cases t:∃d,r[i]? = some (some d)
 .obtain⟨d,hd⟩:=t;obtain⟨a,A,p,y⟩:=s.ow i d hd hi;refine .inr ⟨a,fun x=>⟨gset G a d,kF p.un,(s.gok.fast p.un x).gset p.un (p.ob.fast x),fun b o e=>by rw[qH (by rintro rfl;rw[y]at e;cases e)];exact s.old b o e,fun b e h=>kF p.un b e (s.ge b e h),fun b h=>?_,by simpa using s.lm,s.lr,?_,?_,?_,?_,fun j o c Z=>?_⟩⟩
  .rw[kG (by rintro rfl;exact h y)];exact s.gf b h
  .intro j e c Z;by_cases Y:i=j
   .subst Y;rw[hd]at c;cases c;exact⟨_,A,.ref iC⟩
   .rw[f_ Y]at Z;obtain⟨v,n,f⟩:=s.sh j e c Z;exact⟨v,n,f.mono (kF p.un)⟩
  .intro j e c Z;by_cases Y:i=j
   .subst Y;rw[t_ l]at Z;cases Z
   .rw[f_ Y]at Z;obtain⟨b,n,f,w⟩:=s.ow j e c Z;have U:b≠a:=by
     rintro rfl
     exact s.dis i j b d e Y hd c hi Z A n
    exact⟨b,n,⟨by rw[kG U];exact f.un,f.ob.mono (kF p.un) fun _ z=>by rw[qH U];exact z⟩,w⟩
  .intro j e c Z;by_cases Y:i=j
   .subst Y;rw[t_ l]at Z;cases Z
   .rw[f_ Y]at Z;obtain⟨v,n,f⟩:=s.bw j e c Z;refine⟨v,n,?_⟩;rcases f with f|⟨b,rfl,f,w⟩
    .exact .inl (f.mono (kF p.un))
    .have U:b≠a:=by rintro rfl;exact w y
     exact .inr ⟨b,rfl,⟨by rw[kG U];exact f.un,f.ob.mono (kF p.un) fun _ z=>by rw[qH U];exact z⟩,w⟩
  .intro j k b e e' hjk c hk Z hm' n f;have Y:i≠j:=by
    rintro rfl
    rw[t_ l]at Z;cases Z
   have q:i≠k:=by
    rintro rfl
    rw[t_ l]at hm';cases hm'
   rw[f_ Y]at Z;rw[f_ q]at hm';exact s.dis j k b e e' hjk c hk Z hm' n f
  .refine s.lk j o c ?_;by_cases Y:i=j
   .subst Y;rw[t_ l]at Z;cases Z
   .rw[f_ Y]at Z;exact Z
 .refine .inl ⟨G,fun _ _ z=>z,s.gok,s.old,s.ge,s.gf,by simpa using s.lm,s.lr,?_,?_,?_,?_,fun j o c Z=>?_⟩
  .intro j e c Z;have Y:i≠j:=by rintro rfl;exact t ⟨e,c⟩
   rw[f_ Y]at Z;exact s.sh j e c Z
  .intro j e c Z;have Y:i≠j:=by rintro rfl;exact t ⟨e,c⟩
   rw[f_ Y]at Z;exact s.ow j e c Z
  .intro j e c Z;have Y:i≠j:=by rintro rfl;exact t ⟨e,c⟩
   rw[f_ Y]at Z;exact s.bw j e c Z
  .intro j k b e e' hjk c hk Z hm' n f;have Y:i≠j:=by rintro rfl;exact t ⟨e,c⟩
   have q:i≠k:=by rintro rfl;exact t ⟨e',hk⟩
   rw[f_ Y]at Z;rw[f_ q]at hm';exact s.dis j k b e e' hjk c hk Z hm' n f
  .refine s.lk j o c ?_;by_cases Y:i=j
   .subst Y;rw[t_ l]at Z;cases Z
   .rw[f_ Y]at Z;exact Z
end
theorem PE.imp(h:PE X e t)(i:∀σ H Q,t' σ H Q->t σ H Q):PE X e t':=fun U s σ H Q I q=>h U s σ H Q I (i σ H Q q)
theorem PT.imp(h:PT X e t)(i:∀σ H Q,t' σ H Q->t σ H Q):PT X e t':=fun U s σ H Q I q=>h U s σ H Q I (i σ H Q q)
theorem PW.imp(h:PW X e t)(i:∀σ H Q,t' σ H Q->t σ H Q):PW X e t':=fun U Y s σ H Q I q=>h U Y s σ H Q I (i σ H Q q)
theorem PA.imp(h:PA X e t)(i:∀σ H Q,t' σ H Q->t σ H Q):PA X e t':=fun U Y s σ H Q I q=>h U Y s σ H Q I (i σ H Q q)
theorem PS.imp(h:PS X e t)(i:∀D σ H,t' D σ H->t D σ H):PS X e t':=fun U s σ H D I q=>h U s σ H D I (i D σ H q)
theorem dQ.imp(h:dQ X e t)(i:∀D σ H,t' D σ H->t D σ H):dQ X e t':=fun U s σ H D I q=>h U s σ H D I (i D σ H q)
def MS(X:Cx)(σ:L2.St)(G:GH)(H':Hp)(e:a_)(x:D)(s':d_):Prop:=∃pz s H1 a C od nm ds,e=.ref a/\x=xD nm ds/\XN X.K nm C/\XF G od ds/\Inv X pz σ H1 s/\Fly X.prog X.w X.stack H1 s H' a (.ref C) od s'
def XW(X:Cx)(σ:L2.St)(G:GH)(H:Hp)(x:D):Prop:=∀pz e s' G' H',Grow X.K G H G' H'->Inv X pz σ H' s'->MS X σ G' H' e x s'->X.xe e s'
theorem XW.grow(h:XW X σ G H x)(w:Grow X.K G H Y U):XW X σ Y U x:=fun b e a d c Z I q=>h b e a d c (w.trans Z) I q
abbrev FE:=aJ->Res D
noncomputable def tE(X:Cx)(g:GE)(m:List Md)(f:FE):TE:=fun σ H Q=>∃r G,SI X g m r G σ H/\fin (f r) (fun d=>∀v G' H',Grow X.K G H G' H'->RG X.K G' v d->Q v H') (XW X σ G H)
def tB(X:Cx)(g:GE)(m:List Md)(f:FE):TE:=fun σ H Q=>∃r G,SI X g m r G σ H/\fin (f r) (fun d=>∀v G' H',Grow X.K G H G' H'->RB X.K G' H' v d->Q v H') (XW X σ G H)
noncomputable def tO(X:Cx)(g:GE)(m:List Md)(f:FE):TE:=fun σ H Q=>∃r G,SI X g m r G σ H/\fin (f r) (fun d=>∀a G' H',Grow X.K G H G' H'->H a=none->Own X.K G' H' a d->Q (.ref a) H') (XW X σ G H)
noncomputable def tQ(X:Cx)(g:GE)(m:List Md)(f:aJ->Res Bool):TT:=fun σ H Q=>∃r G,SI X g m r G σ H/\fin (f r) (fun b=>∀G' H',Grow X.K G H G' H'->Q b H') (XW X σ G H)
noncomputable def tL(X:Cx)(g:GE)(m:List Md)(f:aJ->Res (List D)):TA:=fun σ H Q=>∃r G,SI X g m r G σ H/\fin (f r) (fun ds=>∀vs G' H',Grow X.K G H G' H'->cZ X.K G' vs ds->Q vs H') (XW X σ G H)
noncomputable def C9(X:Cx)(g:GE)(m:List Md)(f:aJ->Res (List D)):TA:=fun σ H Q=>∃r G,SI X g m r G σ H/\fin (f r) (fun ds=>∀vs G' H',Grow X.K G H G' H'->Paired (RB X.K G' H') vs ds->Q vs H') (XW X σ G H)
def SE(X:Cx)(g:GE)(m:List Md)(e:Expr)(f:FE):Prop:=PE X e (tE X g m f)
def SB(X:Cx)(g:GE)(m:List Md)(e:Expr)(f:FE):Prop:=PE X e (tB X g m f)
def SO(X:Cx)(g:GE)(m:List Md)(e:Expr)(f:FE):Prop:=PE X e (tO X g m f)
def SQ(X:Cx)(g:GE)(m:List Md)(e:Expr)(f:aJ->Res Bool):Prop:=PT X e (tQ X g m f)
def SW(X:Cx)(g:GE)(m:List Md)(e:Expr)(f:aJ->Res Bool):Prop:=PW X e (tQ X g m f)
def SA(X:Cx)(g:GE)(m:List Md)(es:List Expr)(f:aJ->Res (List D)):Prop:=PA X es (tL X g m f)
def iP(X:Cx)(g:GE)(m:List Md)(es:List Expr)(f:aJ->Res (List D)):Prop:=PA X es (C9 X g m f)
variable{a e b c:Expr}{f fa fb:FE}{pos:Pos}
section
variable{fc:FE}
theorem SE.toB(h:SE X g m e f):SB X g m e f:=PE.imp h fun a H Q y=>by obtain⟨r,G,U,q⟩:=y;exact ⟨r,G,U,bQ q fun d k v Z Y w z=>k v Z Y w z.rb⟩
theorem Inv.fast{σ:L2.St}(I:Inv X pz σ H s)(a:Addr):∃g,Inv X pz σ (fz H a g) s:=by cases e:H a with
|none=>exact⟨{ cls:=.none,data:=.fields #[] },by unfold fz;rw[e];exact I⟩
|some u=>cases u with
 |dK f=>
   obtain⟨c,b,d,Z,o,h,i,U,Y⟩:=(I.hok a _ e)
   have j:fz H a o=aY H a (.frz o (.dK f)):=by unfold fz;rw[e]
   refine⟨o,?_⟩;rw[j];exact I.write (by rw[e];exact trivial) (.inl rfl) `a ⟨o,U⟩ (⟨U,c,b,d,Z,o,h,i,U,Y⟩)
 |_=>exact⟨{ cls:=.none,data:=.fields #[] },by unfold fz;rw[e];exact I⟩
theorem SO.toE(h:SO X g m e f):SE X g m e f:=by intro i s Z H Q I ⟨r,G,b,q⟩;refine bK (h i s Z H (fun v Y=>∃a,v=.ref a/\∀U,Q v (fz Y a U)) I ⟨r,G,b,bQ q fun d k a t Y w j o=>⟨a,rfl,fun U=>k _ _ _ (w.frz j o U) (.ref iC)⟩⟩) fun u p y=>?_;obtain⟨v,Y,n,c,a,_,z⟩:=y;obtain⟨U,l⟩:=Inv.fast n a;exact⟨v,_,l,c,z U⟩
theorem SO.toB(h:SO X g m e f):SB X g m e f:=h.toE.toB
theorem rN(h:PE X e (tC v))(s:Scl v d):SE X g m e fun _=>.ok d:=PE.imp h fun Y H Q k=>by obtain⟨r,G,U,q⟩:=k;exact q v G H (Grow.refl U.gok) (.scl s)
theorem q9{j}:SE X g m (.Constant (.int i) j pos) fun _=>.ok (.int i):=rN (fun _ _ _ H _ I h=>wpAny_Constant_int ⟨.int i,H,I.tok _,⟨_,rfl⟩,h⟩) (.int i)
theorem oY{j}:SE X g m (.Constant (.bool i) j pos) fun _=>.ok (.bl i):=rN yY (.bl i)
theorem gU{j}:SE X g m (.Constant .none j pos) fun _=>.ok .non:=rN (fun _ _ _ H _ I h=>Constant_none ⟨.non,H,I,rfl,h⟩) .non
theorem cX{j}:SE X g m (.Constant (.str i) j pos) fun _=>.ok (.str i):=rN E4 (.str i)
noncomputable def gH(r:aJ)(i:Nat):Res D:=match r[i]? with
|some (some d)=>.ok d
|_=>.stuck
theorem AN(h:fin (gH r i) q x):∃d,r[i]? = some (some d)/\q d:=by
 unfold gH at h;split at h
 .rename_i d e;exact⟨d,e,h⟩
 .exact h.elim
theorem Fd(Y:Gl X x)(U:X.mg x=some u)(r:aS v u)(s:Scl v d)(Z:!!Nq x):SE X g m (.Name x pos) fun _=>.ok d:=rN (wz Y U r Z) s
theorem oW{k:D->D->Res i}{R:V->V->Hp->Prop}(l:SI X g m r G σ H)(h:fin ((fa r).bind fun c=>(fb r).bind fun b=>k c b) q (XW X σ G H))(s:∀c b Z Y d U,Grow X.K G H d U->RB X.K d U Z c->RB X.K d U Y b->fin (k c b) q (XW X σ G H)->R Z Y U):tB X g m fa σ H fun Z n=>tB X g m fb σ n fun Y U=>R Z Y U:=by refine⟨r,G,l,bQ (cC h) fun c a Z t n f p=>⟨r,t,l.grow f,?_⟩⟩;cases e:fb r with
|ok b=>rw[e]at a;exact fun Y d U j o=>s c b Z Y d U (f.trans j) (p.mono j) o a
|exc x=>rw[e]at a;exact(a).grow f
|stuck=>rw[e]at a;exact a
noncomputable def eu{α:Type}:Option α->Res α
|some a=>.ok a
|none=>.stuck
@[simp] theorem opt_some(a:U):eu (some a)=.ok a:=rfl
theorem dz{q:U->Prop}(h:fin (eu o) q x):∃a,o=some a/\q a:=by cases o with
|none=>exact h.elim
|some a=>exact⟨a,rfl,h⟩
def hU(K:W.Frag)(r:R2)(k:D->D->Option D):Prop:=∀(G:GH)(H:Hp)(v1 v2:V)(d1 d2 d:D)(Q:VK),bZ K G H->RB K G H v1 d1->RB K G H v2 d2->k d1 d2=some d ->(∀v G' H',Grow K G H G' H'->RG K G' v d->Q v H')->r v1 v2 H Q
def f2(fa fb:FE)(k:D->D->Option D):FE:=fun r=>(fa r).bind fun d1=>(fb r).bind fun d2=>eu (k d1 d2)
theorem zt(i:hU X.K R k)(h:PE X e (yA R (tB X g m fa) (tB X g m fb))):SE X g m e (f2 fa fb k):=by refine PE.imp h fun t H Q k=>?_;obtain⟨r,G,b,q⟩:=k;refine oW b q fun l j a Z p n w f c U=>?_;obtain⟨d,e,U⟩:=dz U;exact i p n a Z l j d Q w.ok f c e fun v s o Y z=>U v s o (w.trans Y) z
theorem lR(U:c7 X (ZJ op) R)(Y:hU X.K R k)(c:SB X g m a fa)(Z:SB X g m b fb):SE X g m (.BinOp a op b pos) (f2 fa fb k):=zt Y (DT U c Z)
theorem vF(l:c7 X (X1 op) R)(U:hU X.K R k)(c:SB X g m a fa)(Z:SB X g m b fb)(Y:Yx op b=false):SE X g m (.Compare a [op] [b] pos) (f2 fa fb k):=zt U ((fun U c Z Y=>by intro j s d H Q I h;exact wpAny_Compare1 (pk c Z I h fun v u e x y o n i f q=>U j e d o x y v u Q n i f q) Y) l c Z Y)
noncomputable def uJ:D->Option Bool
|.bl b=>some b
|_=>none
def bY(f:FE):aJ->Res Bool:=fun r=>(f r).bind fun d=>eu (uJ d)
theorem nr(n:c7 X (X1 op) R)(o:hU X.K R k)(t:SB X g m a fa)(s:SB X g m b fb)(p:Yx op b=false):SQ X g m (.Compare a [op] [b] pos) (bY (f2 fa fb k)):=by
 refine PT.imp (Hg n t s p) fun C H Q a=>?_;obtain⟨r,G,i,q⟩:=a;have e:bY (f2 fa fb k) r=(fa r).bind fun Y=>(fb r).bind fun Z=>(eu (k Y Z)).bind fun d=>eu (uJ d):=by unfold bY f2;cases fa r with
 |ok Y=>cases fb r <;> rfl
 |exc _=>rfl
 |stuck=>rfl
 rw[e]at q;refine oW i q fun Y Z h f A x w l j U=>?_;obtain⟨d,e,U⟩:=dz (cC U);obtain⟨b,u,U⟩:=dz U;cases d with
|bl E=>exact o A x h f Y Z _ _ w.ok l j e fun v B y c z=>⟨_,z.bl c.ok,U B y (w.trans c)⟩
|_=>cases u
end
instance decMul(i j:Int):Decidable (jO i j):=by unfold jO;infer_instance
instance decDiv(i j:Int):Decidable (ng i j):=by unfold ng;infer_instance
instance decPow(i j:Int):Decidable (pC i j):=by unfold pC;infer_instance
noncomputable def pO(k:Int->Int->D):D->D->Option D
|.int a,.int b=>some (k a b)
|_,_=>none
noncomputable def nj(C:Int->Int->Prop)[∀a b,Decidable (C a b)](k:Int->Int->D):D->D->Option D
|.int a,.int b=>if C a b then some (k a b)else none
|_,_=>none
@[simp] theorem intsC_int(C:Int->Int->Prop)[∀a b,Decidable (C a b)](k:Int->Int->D)(a b:Int):nj C k (.int a) (.int b)=if C a b then some (k a b)else none:=rfl
theorem oB(hs:∀i j,Scl (gv i j) (U i j)):hU K (mC gv) (pO U):=by
 intro G H b a f c d Q g Z Y e q;unfold pO at e;split at e
 .cases e;exact⟨_,_,Z.int g,Y.int g,q _ G H (Grow.refl g) (.scl (hs _ _))⟩
 .cases e
theorem sj{C:Int->Int->Prop}[∀a b,Decidable (C a b)]{gv:Int->Int->V}{U:Int->Int->D}(hs:∀i j,Scl (gv i j) (U i j)):hU K (rI C gv) (nj C U):=by
 intro G H f c k h d Q g Z Y e q;unfold nj at e;split at e
 .split at e
  .rename_i hc;cases e;exact⟨_,_,Z.int g,Y.int g,hc,q _ G H (Grow.refl g) (.scl (hs _ _))⟩
  .cases e
 .cases e
abbrev sY:D->D->Option D:=pO fun a b=>.int (a-b)
abbrev cK:D->D->Option D:=nj jO fun a b=>.int (a*b)
abbrev gP:D->D->Option D:=nj ng fun a b=>.int (a/b)
abbrev bS:D->D->Option D:=nj (fun _ b=>0<b) fun a b=>.int (a%b)
abbrev jc:D->D->Option D:=nj pC fun a b=>.int (a^b.toNat)
abbrev nS:D->D->Option D:=pO fun a b=>.bl (decide (a<b))
abbrev MO:D->D->Option D:=pO fun a b=>.bl (decide (a<=b))
abbrev lL:D->D->Option D:=pO fun a b=>.bl (decide (b<a))
variable{p q:FQ}{es:List Expr}{fl:aJ->Res (List D)}
section
variable{fc:FE}
theorem VG(Y:SB X g m a fa)(U:SB X g m b fb):SE X g m (.BinOp a .Sub b pos) (f2 fa fb sY):=lR (tT fun _ _ _ _ _ _ _ q=>sub_int q) (oB fun _ _=>.int _) Y U
theorem i0(Z:SB X g m a fa)(Y:SB X g m b fb):SE X g m (.BinOp a .Mult b pos) (f2 fa fb cK):=lR (tU fun _ _ _ _ _ _ _ U q=>mul_int q U.ok) (sj fun _ _=>.int _) Z Y
theorem j9(Z:SB X g m a fa)(Y:SB X g m b fb):SE X g m (.BinOp a .FloorDiv b pos) (f2 fa fb gP):=lR (tU fun i j _ _ _ _ _ U q=>by have d:(0:Int)<j:=U.1;have c:j<1073741824:=U.2;exact floordiv_int `o (by rw[Ŗ i `o];exact q) (.inl (PyProof.noPylong_small `o))) (sj fun _ _=>.int _) Z Y
theorem fj(Z:SB X g m a fa)(Y:SB X g m b fb):SE X g m (.BinOp a .Mod b pos) (f2 fa fb bS):=lR (tU fun i j _ _ _ _ _ U q=>by have c:(0:Int)<j:=U;exact mod_int' `o (by rw[Int.fmod_eq_emod_of_nonneg i `o];exact q)) (sj fun _ _=>.int _) Z Y
theorem Eu(Z:SB X g m a fa)(Y:SB X g m b fb):SE X g m (.BinOp a .Pow b pos) (f2 fa fb jc):=lR (tU fun _ _ _ _ _ _ _ U q=>pow_int_small U.1 U.2.1 U.2.2 q) (sj fun _ _=>.int _) Z Y
theorem Dj(Y:SB X g m a fa)(U:SB X g m b fb):SE X g m (.Compare a [.Lt] [b] pos) (f2 fa fb nS):=vF yX (oB fun _ _=>.bl _) Y U (ma _)
theorem Dk(Y:SB X g m a fa)(U:SB X g m b fb):SE X g m (.Compare a [.Gt] [b] pos) (f2 fa fb lL):=vF DR (oB fun _ _=>.bl _) Y U (ma _)
theorem kW(Y:SB X g m a fa)(U:SB X g m b fb):SQ X g m (.Compare a [.Lt] [b] pos) (bY (f2 fa fb nS)):=nr yX (oB fun _ _=>.bl _) Y U (ma _)
theorem jH(Y:SB X g m a fa)(U:SB X g m b fb):SQ X g m (.Compare a [.Gt] [b] pos) (bY (f2 fa fb lL)):=nr DR (oB fun _ _=>.bl _) Y U (ma _)
def f1(fa:FE)(k:D->Option D):FE:=fun r=>(fa r).bind fun d=>eu (k d)
noncomputable def tY:D->Option D
|.int a=>some (.int (-a))
|_=>none
theorem zq(f:SB X g m a fa):SE X g m (.UnaryOp .USub a pos) (f1 fa tY):=by
 refine PE.imp (V1 (V8 fun _ _ _ _ _ q=>neg_int q) f) fun k H Q z=>?_;obtain⟨r,G,Y,q⟩:=z;refine ⟨r,G,Y,bQ (cC q) fun d c v j h U Z=>?_⟩
 obtain⟨l,e,b⟩:=dz c;cases d with
|int i=>cases e;exact⟨i,Z.int U.ok,b _ j h U (.scl (.int _))⟩
|_=>cases e
noncomputable def iE:D->Option Bool
|.non=>some false
|.bl b=>some b
|.int i=>some (i != 0)
|.str y=>if y.length<=sizeLine then some ((y.length:Int) != 0)else none
|.lst ds=>some (not ds.isEmpty)
|.tup ds=>some (not ds.isEmpty)
|.dic kvs=>some (not kvs.isEmpty)
|.obj _ _=>none
theorem A8{l:List Y}{r:List U}(h:Paired F l r):l.isEmpty=r.isEmpty:=by cases h <;> rfl
theorem GW{b:Bool}(U:bZ K G H)(h:RB K G H v d)(e:iE d=some b):pq K v H b:=by cases d with
|non=>cases e;rw[h.non U];rfl
|bl j=>cases e;rw[h.bl U];rfl
|int i=>cases e;rw[h.int U];rfl
|str y=>
  rw[h.str U];have Z:(if y.length<=sizeLine then some ((y.length:Int) != 0)else none)=some b:=e;by_cases c:y.length<=sizeLine
  .rw[Q_d c]at Z;cases Z;exact⟨c,rfl⟩
  .rw[Q_e c]at Z;cases Z
|lst g=>cases e;obtain⟨a,Y,rfl,s,r⟩:=h.lst U;exact .inl ⟨Y,s,by rw[A8 r]⟩
|tup g=>cases e;obtain⟨a,Y,rfl,s,r⟩:=h.tup U;exact .inr (.inl ⟨Y,s,by rw[A8 r]⟩)
|dic f=>cases e;obtain⟨a,Y,rfl,s,r⟩:=h.dic U;exact .inr (.inr ⟨Y,s,by rw[A8 r]⟩)
|obj _ _=>cases e
def dX(f:FE):aJ->Res Bool:=fun r=>(f r).bind fun d=>eu (iE d)
theorem iS(j:SB X g m a fa)(i:!!!!∀U,isTrue a X.env U=(do let v <-U;YU a.pos;Ys [v] (î v))):SQ X g m a (dX fa):=by
 refine PT.imp (qe j i) fun n H Q z=>?_;obtain⟨r,G,Z,q⟩:=z;refine ⟨r,G,Z,bQ (cC q) fun d h v l k Y c=>?_⟩
 obtain⟨b,e,f⟩:=dz h;exact⟨b,GW Y.ok c e,f l k Y⟩
abbrev FQ:=aJ->Res Bool
def fN(p q:FQ):FQ:=fun r=>(p r).bind fun c=>if c=true then q r else .ok false
def js(p q:FQ):FQ:=fun r=>(p r).bind fun c=>if c=true then .ok true else q r
def gK(p:FQ):FQ:=fun r=>(p r).bind fun c=>.ok (not c)
variable{rest:List Expr}
theorem gX{r:Res U}{G b:GH}(h:fin r P (XW X σ G H))(w:Grow X.K G H b Z)(c:∀a,P a->Y a):fin r Y (XW X σ b Z):=by
   have h:=(bQ h c)
   cases r with
  |ok a=>exact h
  |exc e=>exact(fun _ x=>x.grow w) e h
  |stuck=>exact h
theorem rA(Z:SQ X g m a p):SW X g m (.BoolOp .And [a] pos) p:=by intro b Y s U H Q I h;refine isTrue_and (bK (Z Y s U H Q I h) fun c d e=>?_);cases c with
  |true=>exact isTrue_and_nil e
  |false=>exact e
theorem lQ(U:SQ X g m a p):SW X g m (.BoolOp .Or [a] pos) p:=E8 U
theorem rc(h:SQ X g m a p)(f:SW X g m (.BoolOp .And (b::rest) pos) q):SW X g m (.BoolOp .And (a::b::rest) pos) (fN p q):=by
 refine PW.imp (M9 h f) fun n H Q y=>?_;obtain⟨r,G,Y,k⟩:=y;refine ⟨r,G,Y,bQ (cC k) fun c Z d i U=>?_⟩
 cases c with
|true=>exact⟨r,d,Y.grow U,gX Z U fun b z l j e=>z l j (U.trans e)⟩
|false=>exact Z d i U
theorem gD(h:SQ X g m a p)(f:SW X g m (.BoolOp .Or (b::rest) pos) q):SW X g m (.BoolOp .Or (a::b::rest) pos) (js p q):=by
 refine PW.imp (DV h f) fun n H Q y=>?_;obtain⟨r,G,Y,k⟩:=y;refine ⟨r,G,Y,bQ (cC k) fun c Z d i U=>?_⟩
 cases c with
|true=>exact Z d i U
|false=>exact⟨r,d,Y.grow U,gX Z U fun b z l j e=>z l j (U.trans e)⟩
theorem SW.toQ(h:SW X g m e p):SQ X g m e p:=PW.pt h
theorem kt(b:SQ X g m a p):SQ X g m (.UnaryOp .Not a pos) (gK p):=PT.imp (pU b) fun f H Q z=>by obtain⟨r,G,Y,k⟩:=z;exact ⟨r,G,Y,bQ (cC k) fun c Z e d U=>Z e d U⟩
def kQ(fa fb:FE):FE:=fun r=>(fa r).bind fun d=>(eu (uJ d)).bind fun c=>if c=true then fb r else .ok (.bl false)
def CZ(fa:FE):FE:=fun r=>(fa r).bind fun d=>(eu (uJ d)).bind fun c=>.ok (.bl (not c))
theorem nv{op}(h:SE X g m a fa):SE X g m (.BoolOp op [a] pos) fa:=E3 h
theorem nu(n:SE X g m a fa)(l:SE X g m (.BoolOp .And (b::rest) pos) fb):SE X g m (.BoolOp .And (a::b::rest) pos) (kQ fa fb):=by
 refine PE.imp (FC n l) fun s H Q y=>?_;obtain⟨r,G,Y,k⟩:=y;refine ⟨r,G,Y,bQ (cC k) fun d j v f o U i=>?_⟩
 obtain⟨c,e,Z⟩:=dz (cC j);cases d with
|bl t=>cases e;refine⟨_,i.bl U.ok,?_⟩;cases c with
 |true=>exact⟨r,f,Y.grow U,gX Z U fun b z v q p h=>z v q p (U.trans h)⟩
 |false=>exact Z _ f o U (.scl (.bl _))
|_=>cases e
theorem VF(h:SE X g m a fa):SE X g m (.UnaryOp .Not a pos) (CZ fa):=by
 refine PE.imp (M2 h) fun l H Q z=>?_;obtain⟨r,G,Y,k⟩:=z;refine ⟨r,G,Y,bQ (cC k) fun d f v j i U Z=>?_⟩
 obtain⟨c,e,b⟩:=dz (cC f);cases d with
|bl n=>cases e;exact⟨_,Z.bl U.ok,b _ j i U (.scl (.bl _))⟩
|_=>cases e
def nV(p:FQ)(fa fb:FE):FE:=fun r=>(p r).bind fun c=>if c=true then fa r else fb r
theorem lS(i:SQ X g m c p)(l:SE X g m a fa)(j:SE X g m b fb):SE X g m (.IfExp c a b pos) (nV p fa fb):=by
 refine PE.imp (Qv i l j) fun n H Q y=>?_;obtain⟨r,G,Z,k⟩:=y;refine ⟨r,G,Z,bQ (cC k) fun c f h o U=>?_⟩
 cases c with
|true=>exact⟨r,h,Z.grow U,gX f U fun b z v e d Y=>z v e d (U.trans Y)⟩
|false=>exact⟨r,h,Z.grow U,gX f U fun b z v e d Y=>z v e d (U.trans Y)⟩
variable{fr:aJ->Res (List D)}
noncomputable def aE:aJ->Res (List D):=fun _=>.ok []
def aI(fa:FE)(fl:aJ->Res (List D)):aJ->Res (List D):=fun r=>(fa r).bind fun d=>(fl r).bind fun ds=>.ok (d::ds)
theorem cI:SA X g m [] aE:=PA.imp ky fun Y H Q z=>by obtain⟨r,G,U,k⟩:=z;exact k [] G H (Grow.refl U.gok) .nil
theorem bN(h:SE X g m e fa)(f:SA X g m es fl)(hs:!Sx X e es):SA X g m (e::es) (aI fa fl):=by
 refine PA.imp (gR h f hs) fun n H Q y=>?_;obtain⟨r,G,Z,k⟩:=y;refine ⟨r,G,Z,bQ (cC k) fun d c v l q U b=>⟨r,l,Z.grow U,?_⟩⟩
 exact gX (cC c) U fun p z o j i Y a=>z _ j i (U.trans Y) (.cons (b.mono Y.ge) a)
theorem bC:iP X g m [] aE:=PA.imp ky fun Y H Q z=>by obtain⟨r,G,U,k⟩:=z;exact k [] G H (Grow.refl U.gok) .nil
theorem bB(h:SB X g m e fa)(f:iP X g m es fl)(hs:!Sx X e es):iP X g m (e::es) (aI fa fl):=by
 refine PA.imp (gR h f hs) fun n H Q y=>?_;obtain⟨r,G,Z,k⟩:=y;refine ⟨r,G,Z,bQ (cC k) fun d c v l q U b=>⟨r,l,Z.grow U,?_⟩⟩
 exact gX (cC c) U fun p z o j i Y a=>z _ j i (U.trans Y) (.cons (b.mono Y) a)
noncomputable def sz(ds:List D):Option (List D):=if ds.length<=sizeLine then some ds else none
theorem vH(h:sz ds=some U):U=ds/\ds.length<=sizeLine:=by unfold sz at h;grind
def ik(fl:aJ->Res (List D)):FE:=fun r=>(fl r).bind fun ds=>(eu (sz ds)).bind fun ds=>.ok (.tup ds)
def gT(fl:aJ->Res (List D)):FE:=fun r=>(fl r).bind fun ds=>(eu (sz ds)).bind fun ds=>.ok (.lst ds)
theorem fQ{x1}(h:SA X g m es fl):SE X g m (.Tuple es x1 pos) (ik fl):=by
 refine PE.imp (M3 h) fun i H Q z=>?_;obtain⟨r,G,a,k⟩:=z;refine ⟨r,G,a,bQ (cC k) fun n c j q o U Y=>?_⟩
 obtain⟨f,e,b⟩:=dz (cC c);obtain⟨rfl,l⟩:=vH e;have Z:=Paired.length Y;refine⟨`o,fun p d=>?_⟩;exact b _ _ _ (U.trans (Grow.newF U.ok d (.tup (.inl cS) Y))) (.ref iC)
theorem dR(h:SA X g m es fl):SO X g m (.List es pos) (gT fl):=by
 refine PE.imp (M1 h) fun l H Q z=>?_;obtain⟨r,G,b,k⟩:=z;refine ⟨r,G,b,bQ (cC k) fun t d n j u U Z=>?_⟩
 obtain⟨i,e,c⟩:=dz (cC d);obtain⟨rfl,s⟩:=vH e;have a:=Paired.length Z;refine⟨`o,fun p Y=>?_⟩;have f:H p=none:=by cases q:H p with
 |none=>rfl
 |some o=>rw[U.he _ _ q]at Y;cases Y
 exact c p j _ (U.trans (Grow.new U.ok Y _)) f ⟨U.ok.isN Y,.lst cS Z⟩
end
def yP(K:W.Frag)(r:List V->Hp->VK->Prop)(k:List D->Option D):Prop:=∀(G:GH)(H:Hp)(vs:List V)(ds:List D)(d:D)(Q:VK),bZ K G H->Paired (RB K G H) vs ds->k ds=some d ->(∀v G' H',Grow K G H G' H'->RG K G' v d->Q v H')->r vs H Q
def MG(K:W.Frag)(r:List V->Hp->VK->Prop)(k:List D->Option D):Prop:=∀(G:GH)(H:Hp)(vs:List V)(ds:List D)(d:D)(Q:VK),bZ K G H->Paired (RB K G H) vs ds->k ds=some d ->(∀a G' H',Grow K G H G' H'->H a=none->Own K G' H' a d->Q (.ref a) H')->r vs H Q
def fC(fl:aJ->Res (List D))(k:List D->Option D):FE:=fun r=>(fl r).bind fun ds=>eu (k ds)
theorem Grow.back(w:Grow K G H Z Y){a:Addr}(U:Y a=none):H a=none:=by cases q:H a with
|none=>rfl
|some o=>rw[w.he _ _ q]at U;cases U
section
variable{fc:FE}{p p2:Pos}{x:Str}{id T:String}{R:List V->Hp->VK->Prop}{k:List D->Option D}
theorem iG(i:yP X.K R k)(h:PE X e (yB R (C9 X g m fl))):SE X g m e (fC fl k):=by
 refine PE.imp h fun s H Q k=>?_;obtain⟨r,G,a,q⟩:=k;refine ⟨r,G,a,bQ (cC q) fun j f Z o l U b=>?_⟩
 obtain⟨d,e,c⟩:=dz f;exact i o l Z j d Q U.ok b e fun v p n Y z=>c v p n (U.trans Y) z
theorem Es(j:MG X.K R k)(h:PE X e (yB R (C9 X g m fl))):SO X g m e (fC fl k):=by
 refine PE.imp h fun t H Q k=>?_;obtain⟨r,G,a,q⟩:=k;refine ⟨r,G,a,bQ (cC q) fun l f Z p n U b=>?_⟩
 obtain⟨d,e,c⟩:=dz f;exact j p n Z l d Q U.ok b e fun v s o Y i z=>c v s o (U.trans Y) (U.back i) z
noncomputable def lenD:List D->Option D
|[.str y]=>if y.length<=sizeLine then some (.int y.length)else none
|[.lst ds]=>some (.int ds.length)
|[.tup ds]=>some (.int ds.length)
|[.dic kvs]=>some (.int kvs.length)
|_=>none
theorem Nr:yP K (fun xs H Q=>(∃x n,xs=[x]/\uR K x H n/\Q (.int n) H)\/∃a Y,xs=[V.ref a]/\Rd H a (.dK Y)/\Q (.int Y.length) H) lenD:=by
 intro G H b c d Q U Z e q;unfold lenD at e;split at e
 .split at e
  .cases e;cases Z with
  |cons r t=>cases t;exact .inl ⟨_,_,rfl,by rw[r.str U];exact⟨by assumption,rfl⟩,q _ G H (Grow.refl U) (.scl (.int _))⟩
  .cases e
 .cases e;cases Z with
 |cons r t=>cases t;obtain⟨a,xs,rfl,s,r⟩:=r.lst U;have:=Paired.length r;exact .inl ⟨_,_,rfl,.inl ⟨xs,s,rfl⟩,q _ G H (Grow.refl U) (.scl (by rw[this];exact .int _))⟩
 .cases e;cases Z with
 |cons r t=>cases t;obtain⟨a,xs,rfl,s,r⟩:=r.tup U;have:=Paired.length r;exact .inl ⟨_,_,rfl,.inr ⟨xs,s,rfl⟩,q _ G H (Grow.refl U) (.scl (by rw[this];exact .int _))⟩
 .cases e;cases Z with
 |cons r t=>cases t;obtain⟨a,xs,rfl,s,r⟩:=r.dic U;have:=Paired.length r;exact .inr ⟨_,_,rfl,s,q _ G H (Grow.refl U) (.scl (by rw[this];exact .int _))⟩
 .cases e
theorem di(d:Gl X "len")(c:X.mg "len" = none)(Z:iP X g m (e::es) fl)(f:!Sx X e es)(Y:!Bx X pos es):SE X g m (.Call (.Name "len" p) (e::es) [] pos) (fC fl lenD):=iG Nr (nJ (gm.or PC (by intro o s j H k l Q I r h;obtain⟨a,U,rfl,Z,q⟩:=h;obtain⟨u,rfl,b⟩:=fU r;cases b;exact Vj I Z fun t n i=>⟨.int U.length,H,i,⟨t,rfl⟩,q⟩)) d c PySem.boot_len Z `d (rfl) f Y)
noncomputable def vQ:List D->Option D
|[.lst ds]=>some (.lst ds)
|[.tup ds]=>some (.lst ds)
|_=>none
theorem Ob:MG K (fun xs H Q=>∃p U,xs=[.ref p]/\(cM K H p U\/dB K H p U)/\∀l,H l=none->Q (.ref l) (aY H l (.lst U))) vQ:=by
 intro G H h i d Q Y f e q;have fin:∀{U:List V}{c:List D},cZ K G U c->(∀(a:Addr)(g:GH)(b:Hp),Grow K G H g b->H a=none->Own K g b a (.lst c)->Q (.ref a) b)->∀l,H l=none->Q (.ref l) (aY H l (.lst U)):=fun r q l Z=>q l G _ (Grow.new Y Z _) Z ⟨Y.isN Z,.lst cS r⟩;unfold vQ at e;split at e
 .cases e;cases f with
 |cons r t=>cases t;obtain⟨a,xs,rfl,s,r⟩:=r.lst Y;exact⟨a,xs,rfl,.inl s,fin r q⟩
 .cases e;cases f with
 |cons r t=>cases t;obtain⟨a,xs,rfl,s,r⟩:=r.tup Y;exact⟨a,xs,rfl,.inr s,fin r q⟩
 .cases e
theorem vU(C:Gl X "list")(B:X.mg "list" = none)(F:iP X g m (e::es) fl)(E:!Sx X e es)(i:!Bx X pos es) :
  SO X g m (.Call (.Name "list" p) (e::es) [] pos) (fC fl vQ):=Es Ob (nL (by
     intro z s x H G J Q I r h;obtain⟨p,d,rfl,Z,q⟩:=h;obtain⟨u,rfl,y⟩:=fU r;cases y;have fin:∀(U:List a_),aL d U->d.length<=sizeLine->∀(c:Heap)(t:Nat),(∀b v,s.heap.get? b=some v->c.get? b=some v) ->c.get? s.heap.objs.size=some { cls:=.type "list",dict:=none,data:=.seq U.toArray t,slots:=#[] }->EP X z x Q _ { s with heap:=c }:=fun U Y f c t A e=>⟨.ref s.heap.objs.size,_,I.laid A (l_ _) (show dZ X.prog X.w _ c _ (.lst d)from⟨f,U,t,Y,e⟩),rfl,q _ (I.hok.fresh (l_ _))⟩
     rcases Z with Z|Z
     .obtain⟨U,Y,pl,f⟩:=I.list Z;have a:=Y.length;obtain⟨o,j,l,n,k⟩:=pl.isList;exact call_list_seq p (.inl rfl) j l k `g `g
     .obtain⟨U,Y,pl,f⟩:=I.tuple Z;have a:=Y.length;obtain⟨o,j,l,n,k⟩:=pl;exact call_list_seq p (.inr rfl) j l k `g `g) C B rfl F `d (rfl) E i)
noncomputable def tupD:List D->Option D
|[.lst ds]=>some (.tup ds)
|[.tup ds]=>some (.tup ds)
|_=>none
theorem i8(h:Gl X "tuple")(c:X.mg "tuple" = none)(j:iP X g m (e::es) fl)(i:!Sx X e es)(Z:!Bx X pos es) :
  SE X g m (.Call (.Name "tuple" p) (e::es) [] pos) (fC fl tupD):=iG (by
     intro G H k n d Q U b e q;unfold tupD at e;split at e
     .cases e;cases b with
     |cons r t=>cases t;obtain⟨a,Y,rfl,s,r⟩:=r.lst U;exact⟨a,Y,rfl,.inl ⟨s,fun l f=>q _ _ _ (Grow.newF U f (.tup (.inl cS) r)) (.ref iC)⟩⟩
     .cases e;cases b with
     |cons r t=>
       cases t;rcases r with r|⟨a,_,o⟩
       .obtain⟨a,Y,rfl,s,r'⟩:=r.tup U;exact⟨a,Y,rfl,.inr ⟨s,q _ G H (Grow.refl U) r⟩⟩
       .cases o.ob
     .cases e) (nL Ue h c rfl j `d (rfl) i Z)
def ixD:D->D->Option D
|.lst ds,.int i=>im ds i
|.tup ds,.int i=>im ds i
|.str z,.int i=>if z.length<=sizeLine then(im z.cps.toList i).map fun c=>.str ⟨#[c]⟩else none
|_,_=>none
theorem Mw(r:cZ K G xs ds)(h:im ds i=some d):∃v,im xs i=some v/\RG K G v d:=by unfold im at h ⊢;rw[Paired.length r];cases e:iW ds.length i with
|none=>rw[e]at h;cases h
|some j=>rw[e]at h;exact Paired.get r h
theorem zi:hU K (Wi K) ixD:=by
 intro G H j h l k d Q U b Z e q;unfold ixD at e;split at e
 .obtain⟨a,xs,rfl,s,r⟩:=b.lst U;obtain⟨v,f,Y⟩:=Mw r e;exact .inl ⟨a,xs,_,v,rfl,Z.int U,s,f,q v G H (Grow.refl U) Y⟩
 .obtain⟨a,xs,rfl,s,r⟩:=b.tup U;obtain⟨v,f,Y⟩:=Mw r e;exact .inr (.inl ⟨a,xs,_,v,rfl,Z.int U,s,f,q v G H (Grow.refl U) Y⟩)
 .split at e
  .rename_i z i hz;cases g:im z.cps.toList i with
  |none=>rw[g]at e;cases e
  |some c=>rw[g]at e;cases e;exact .inr (.inr ⟨z,i,c,b.str U,Z.int U,hz,g,q _ G H (Grow.refl U) (.scl (.str _))⟩)
  .cases e
 .cases e
def eI{α:Type}(xs:List α)(lo hi:Option Int):List α:=(xs.drop (HT.sIx xs.length 0 lo)).take (HT.sIx xs.length xs.length hi-HT.sIx xs.length 0 lo)
theorem uW{xs:List Y}{ds:List U}(r:Paired F xs ds)(lo hi:Option Int):Paired F (eI xs lo hi) (eI ds lo hi):=by unfold eI;rw[Paired.length r];exact Paired.tk _ (Paired.dr _ r)
abbrev FP:=aJ->Res (Option Int)
noncomputable def tP(X:Cx)(g:GE)(m:List Md)(f:FP):TO:=fun σ H Q=>∃r G,SI X g m r G σ H/\fin (f r) (fun o=>∀G' H',Grow X.K G H G' H'->Q o H') (XW X σ G H)
def nY(X:Cx)(g:GE)(m:List Md)(e:Option Expr)(f:FP):Prop:=PO X e (tP X g m f)
theorem PO.imp{e:Option Expr}(h:PO X e t)(i:∀σ H Q,t' σ H Q->t σ H Q):PO X e t':=fun U s σ H Q I q=>h U s σ H Q I (i σ H Q q)
noncomputable def Wj:D->Option Int
|.int i=>some i
|_=>none
def jm(f:FE):FP:=fun r=>(f r).bind fun d=>(eu (Wj d)).bind fun i=>.ok (some i)
theorem ic:nY X g m none fun _=>.ok none:=PO.imp (by intro Z s U H Q I h;exact r_ ⟨none,H,I,.none,h⟩) fun U H Q k=>by obtain⟨r,G,Y,q⟩:=k;exact q G H (Grow.refl Y.gok)
theorem ie(h:SB X g m e f):nY X g m (some e) (jm f):=by
 refine PO.imp (Po h) fun l H Q z=>?_;obtain⟨r,G,Y,q⟩:=z;refine ⟨r,G,Y,bQ (cC q) fun d b v k c U Z=>?_⟩
 obtain⟨i,e,a⟩:=dz (cC b);cases d with
|int j=>cases e;exact⟨_,Z.int U.ok,a k c U⟩
|_=>cases e
def qz(d:D)(lo hi:Option Int):Option D:=match d with
|.tup ds=>if HT.sIx ds.length 0 lo=0/\HT.sIx ds.length ds.length hi=ds.length then none else some (.tup (eI ds lo hi))
|.lst ds=>some (.lst (eI ds lo hi))
|_=>none
def nU(fa:FE)(fl fh:FP):FE:=fun r=>(fa r).bind fun d=>(fl r).bind fun lo=>(fh r).bind fun hi=>eu (qz d lo hi)
theorem N4{R:V->Option Int->Option Int->Hp->Prop}{fl i:FP}{q:D->Prop}(b:SI X g m r G σ H)(h:fin (nU fa fl i r) q (XW X σ G H))(n:∀d lo hi v a U d',Grow X.K G H a U->RB X.K a U v d->qz d lo hi=some d'->q d'->R v lo hi U):tB X g m fa σ H fun x j=>tP X g m fl σ j fun l U=>tP X g m i σ U fun u c=>R x l u c:=by refine⟨r,G,b,bQ (cC h) fun d t v y j Y k=>⟨r,y,b.grow Y,gX (cC t) Y fun lo s a U Z=>⟨r,a,(b.grow Y).grow Z,?_⟩⟩⟩;refine gX (cC s) (Y.trans Z) fun hi p w c f=>?_;obtain⟨d',e,o⟩:=dz p;exact n d lo hi v w c d' ((Y.trans Z).trans f) ((k.mono Z).mono f) e o
theorem lT{lo hi:Option Expr}{fl j:FP}(o:SB X g m e f)(n:nY X g m lo fl)(l:nY X g m hi j):SE X g m (.Subscript e (.Slice lo hi none p2) pos) (nU f fl j):=by refine PE.imp (AC (ko.or GQ Fh) o n l) fun u H Q z=>?_;obtain⟨r,G,k,q⟩:=z;refine N4 k q fun d lo hi v y x t w h e i=>?_;cases d with
|tup U=>
  obtain⟨a,b,rfl,s,r⟩:=h.tup w.ok;have Z:(if HT.sIx U.length 0 lo=0/\HT.sIx U.length U.length hi=U.length then none else some (D.tup (eI U lo hi)))=some t:=e;by_cases Y:HT.sIx U.length 0 lo=0/\HT.sIx U.length U.length hi=U.length
  .rw[Q_d Y]at Z;cases Z
  rw[Q_e Y]at Z;cases Z;rw[<-Paired.length r]at Y;refine .inr ⟨a,b,rfl,s,Y,fun p c=>?_⟩;exact i _ _ _ (w.trans (Grow.newF w.ok c (.tup (.inl cS) (uW r lo hi)))) (.ref iC)
|lst U=>cases e;obtain⟨a,b,rfl,s,r⟩:=h.lst w.ok;exact .inl ⟨a,b,rfl,s,fun p c=>i _ _ _ (w.trans (Grow.newF w.ok c (.lst (.inl cS) (uW r lo hi)))) (.ref iC)⟩
|_=>cases e
end
inductive Out where
 |nx (r:aJ)|rt (d:D)|bk (r:aJ)|ct (r:aJ)|exc (x:D) (r:aJ)|stuck
abbrev FS:=aJ->Out
def bO(G G':GH):Prop:=∀a d,G a=some d->G' a=some d
theorem bO.refl(G:GH):bO G G:=fun _ _ e=>e
theorem bO.trans(a:bO G Y)(b:bO Y U):bO G U:=fun x d e=>b x d (a x d e)
noncomputable def forget(m:List Md)(r:aJ):aJ:=YQ (fun md o=>if md=Md.sh then o else none) m r
noncomputable def fg(m:List Md):List Md:=m.map fun _=>Md.sh
theorem sr{i:Nat}(h:(forget m r)[i]? = some (some d)):r[i]? = some (some d)/\m[i]? = some .sh:=by unfold forget at h;rw[İ]at h;cases Y:m[i]? with
|none=>rw[Y]at h;cases h
|some a=>cases Z:r[i]? with
 |none=>rw[Y,Z]at h;cases h
 |some o=>
   rw[Y,Z]at h;have U:(if a=Md.sh then o else none)=some d:=Q_ h;split at U
   .rename_i hm;subst hm;rw[U];exact⟨rfl,rfl⟩
   .cases U
section
variable{st:L2.St}
theorem SI.forget(s:SI X g m r G st H):SI X g (fg m) (forget m r) G st H where
 gok:=s.gok
 old:=s.old
 ge:=s.ge
 gf:=s.gf
 lm:=by rw[fg,i_];exact s.lm
 lr:=by rw[DL.forget,Z3,s.lm,s.lr,Nat.min_self]
 sh:=fun i d h _=>s.sh i d (sr h).1 (sr h).2
 ow:=fun i d h U=>by rw[fg,H_,(sr h).2]at U;cases U
 bw:=fun i d h U=>by rw[fg,H_,(sr h).2]at U;cases U
 dis:=fun i j a d e _ h _ U=>by rw[fg,H_,(sr h).2]at U;cases U
 lk:=fun i o _ U=>by rw[fg,H_]at U;cases q:m[i]? <;> rw[q]at U <;> cases U
theorem SI.set(s:SI X g m r G st H)(i:Nat)(t:RG X.K G v d):SI X g (m.set i .sh) (r.set i (some d)) G (st.set i (some v)) H where
 gok:=s.gok
 old:=s.old
 ge:=s.ge
 gf:=s.gf
 lm:=by simp[s.lm]
 lr:=by simp[s.lr]
 sh:=fun j e h Y=>by
  by_cases U:i=j
  .subst U;have Z:i<r.length:=by have:=(e_.mp h).1;simpa using this
   rw[t_ Z]at h;cases h;exact⟨v,by rw[t_ (by rw[<-s.lr];exact Z)],t⟩
  .rw[f_ U]at h Y;rw[f_ U];exact s.sh j e h Y
 ow:=fun j e h Y=>by
  by_cases U:i=j
  .subst U;have Z:i<m.length:=by have:=(e_.mp Y).1;simpa using this
   rw[t_ Z]at Y;cases Y
  .rw[f_ U]at h Y;rw[f_ U];exact s.ow j e h Y
 bw:=fun j e h Y=>by
  by_cases U:i=j
  .subst U;have Z:i<m.length:=by have:=(e_.mp Y).1;simpa using this
   rw[t_ Z]at Y;cases Y
  .rw[f_ U]at h Y;rw[f_ U];exact s.bw j e h Y
 dis:=fun j k a x w c q l Y b p n=>by
  have U:i≠j:=by
   rintro rfl
   have Z:i<m.length:=by have:=(e_.mp Y).1;simpa using this
   rw[t_ Z]at Y;cases Y
  have f:i≠k:=by
   rintro rfl
   have Z:i<m.length:=by have:=(e_.mp l).1;rw[ZY,s.lr,<-s.lm]at this;exact this
   rw[t_ Z]at b;cases b
  rw[f_ U]at q Y p;rw[f_ f]at l b n;exact s.dis j k a x w c q l Y b p n
 lk:=fun j o u Y=>by
  have U:i≠j:=by
   rintro rfl
   have Z:i<m.length:=by have:=(e_.mp Y).1;simpa using this
   rw[t_ Z]at Y;cases Y
  rw[f_ U]at Y;have:=s.lk j o u Y;exact⟨by rw[f_ U];exact this.1,fun d h=>this.2 d (by rw[f_ U]at h;exact h)⟩
theorem SI.setO(s:SI X g m r G st H)(i:Nat){a:Addr}(w:Own X.K G H a d)(y:g.h0 a=none)(t:∀(j:Nat)(b:Addr)(e:D),r[j]? = some (some e)->m[j]? = some Md.ow->st[j]? = some (some (V.ref b))->b≠a):SI X g (m.set i .ow) (r.set i (some d)) G (st.set i (some (V.ref a))) H where
 gok:=s.gok
 old:=s.old
 ge:=s.ge
 gf:=s.gf
 lm:=by simp[s.lm]
 lr:=by simp[s.lr]
 sh:=fun j e h Y=>by
  by_cases U:i=j
  .subst U;have Z:i<m.length:=by have:=(e_.mp Y).1;simpa using this
   rw[t_ Z]at Y;cases Y
  .rw[f_ U]at h Y;rw[f_ U];exact s.sh j e h Y
 ow:=fun j e h Y=>by
  by_cases U:i=j
  .subst U;have Z:i<r.length:=by have:=(e_.mp h).1;simpa using this
   rw[t_ Z]at h;cases h;exact⟨a,by rw[t_ (by rw[<-s.lr];exact Z)],w,y⟩
  .rw[f_ U]at h Y;rw[f_ U];exact s.ow j e h Y
 bw:=fun j e h Y=>by
  by_cases U:i=j
  .subst U;have Z:i<m.length:=by have:=(e_.mp Y).1;simpa using this
   rw[t_ Z]at Y;cases Y
  .rw[f_ U]at h Y;rw[f_ U];exact s.bw j e h Y
 dis:=fun j k b v u n q p Y l f c=>by
  by_cases U:i=j
  .subst U;rw[f_ n]at p l c;have Z:i<st.length:=by have:=(e_.mp f).1;simpa using this
   rw[t_ Z]at f;have e:a=b:=by injection f with f;injection f with f;injection f
   exact t k b u p l c e.symm
  .by_cases hik:i=k
   .subst hik;rw[f_ U]at q Y f;have Z:i<st.length:=by have:=(e_.mp c).1;simpa using this
    rw[t_ Z]at c;have e:a=b:=by injection c with c;injection c with c;injection c
    exact t j b v q Y f e.symm
   .rw[f_ U]at q Y f;rw[f_ hik]at p l c;exact s.dis j k b v u n q p Y l f c
 lk:=fun j o x Y=>by
  have U:i≠j:=by
   rintro rfl
   have Z:i<m.length:=by have:=(e_.mp Y).1;simpa using this
   rw[t_ Z]at Y;cases Y
  rw[f_ U]at Y;have:=s.lk j o x Y;exact⟨by rw[f_ U];exact this.1,fun d h=>this.2 d (by rw[f_ U]at h;exact h)⟩
theorem SI.other(s:SI X g m r G st H){p:Addr}(n:G p=none)(t:g.h0 p=none)(Z:∀(i:Nat),m[i]?≠some Md.ow)(o:HO):SI X g m r G st (aY H p o) where
 gok:=fun b e h=>(s.gok b e h).mono `g fun Y q=>by rw[cE `g];exact q
 old:=fun b Y h=>by rw[cE `g];exact s.old b Y h
 ge:=s.ge
 gf:=s.gf
 lm:=s.lm
 lr:=s.lr
 sh:=s.sh
 ow:=fun i d _ h=>Q_f h (Z i)
 bw:=fun i d l k=>by
  obtain⟨v,f,U⟩:=s.bw i d l k;refine⟨v,f,?_⟩;rcases U with U|⟨a,rfl,U,c⟩
  .exact .inl U
  .have ha:a≠p:=`g
   exact .inr ⟨a,rfl,⟨U.un,U.ob.mono `g fun Y z=>by rw[cE ha];exact z⟩,c⟩
 dis:=fun i j a d e _ _ _ h=>Q_f h (Z i)
 lk:=s.lk
theorem SI.less(s:SI X g m r G st H)(Y:r'.length=r.length)(h:∀(i:Nat) d,r'[i]? = some (some d)->r[i]? = some (some d)):SI X g m r' G st H:=⟨s.gok,s.old,s.ge,s.gf,s.lm,Y.trans s.lr,fun i d a b=>s.sh i d (h i d a) b,fun i d a b=>s.ow i d (h i d a) b,fun i d a b=>s.bw i d (h i d a) b,fun i j a d e n p q x y=>s.dis i j a d e n (h i d p) (h j e q) x y,fun i o Z U=>by have:=s.lk i o Z U;exact⟨this.1,fun d c=>this.2 d (h i d c)⟩⟩
theorem SI.held(s:SI X g m r G st H){j:Nat}{b:Addr}{e:D}(h:r[j]? = some (some e))(Y:m[j]? = some .ow)(hs:st[j]? = some (some (V.ref b))):H b≠none:=by
 obtain⟨a,U,Z,_⟩:=s.ow j e h Y;rw[hs]at U;injection U with U;injection U with U;injection U with U
 rw[U];exact Z.ob.isS
theorem SI.setN(s:SI X g m r G st H)(w:Grow X.K G H Z Y)(i:Nat){a:Addr}(U:H a=none)(c:Own X.K Z Y a d):SI X g (m.set i .ow) (r.set i (some d)) Z (st.set i (some (V.ref a))) Y:=by
 refine(s.grow w).setO i c ?_ fun j b e k h f=>?_
 .cases q:g.h0 a with
 |none=>rfl
 |some o=>rw[s.old _ _ q]at U;cases U
 .rintro rfl
  exact s.held k h f U
theorem SI.mut(s:SI X g m r G st H)(p:m[i]? = some .ow)(t:r[i]? = some (some d)):∃a,st[i]? = some (some (V.ref a))/\Own X.K G H a d/\∀(u:HO)(d':D),OwnO X.K G (aY H a u) a d'->SI X g m (r.set i (some d')) G st (aY H a u):=by
 obtain⟨a,B,A,y⟩:=s.ow i d t p;have L:i<r.length:=(e_.mp t).1;refine⟨a,B,A,fun u d' J=>?_⟩;have Y:∀(j:Nat)(b:Addr)(e:D),j≠i->r[j]? = some (some e)->m[j]? = some .ow->st[j]? = some (some (V.ref b))->b≠a:=fun j b e x l f n z=>by subst z;exact s.dis i j b d e (YF x) t l p f B n
 refine⟨fun b e h=>?_,fun b o h=>?_,s.ge,s.gf,s.lm,by simp[s.lr],?_,?_,?_,?_,fun j o x Z=>?_⟩
 .have hb:b≠a:=by rintro rfl;rw[A.un]at h;cases h
  exact(s.gok b e h).mono (fun _ _ z=>z) fun o q=>by rw[cE hb];exact q
 .have hb:b≠a:=by rintro rfl;rw[y]at h;cases h
  rw[cE hb];exact s.old b o h
 .intro j e h Z;have c:i≠j:=by rintro rfl;rw[p]at Z;cases Z
  rw[f_ c]at h;exact s.sh j e h Z
 .intro j e h Z;by_cases c:i=j
  .subst c;rw[t_ L]at h;cases h;exact⟨a,B,⟨A.un,J⟩,y⟩
  .rw[f_ c]at h;obtain⟨b,l,f,n⟩:=s.ow j e h Z;have hb:=Y j b e (YF c) h Z l;exact⟨b,l,⟨f.un,f.ob.mono (fun _ _ z=>z) fun o z=>by rw[cE hb];exact z⟩,n⟩
 .intro j e h Z;have c:i≠j:=by rintro rfl;rw[p]at Z;cases Z
  rw[f_ c]at h;obtain⟨v,l,f⟩:=s.bw j e h Z;refine⟨v,l,?_⟩;rcases f with f|⟨b,rfl,f,n⟩
  .exact .inl f
  .have hb:b≠a:=by rintro rfl;exact n y
   exact .inr ⟨b,rfl,⟨f.un,f.ob.mono (fun _ _ z=>z) fun o z=>by rw[cE hb];exact z⟩,n⟩
 .have bound:∀(j:Nat) e,(r.set i (some d'))[j]? = some (some e)->∃O,r[j]? = some (some O):=fun j e h=>by
   by_cases c:i=j
   .subst c;exact⟨d,t⟩
   .rw[f_ c]at h;exact⟨e,h⟩
  intro j k b Q P w l f I F E C;obtain⟨N,l⟩:=bound j Q l;obtain⟨M,f⟩:=bound k P f;exact s.dis j k b N M w l f I F E C
 .have c:i≠j:=by rintro rfl;rw[p]at Z;cases Z
  have:=s.lk j o x Z;exact⟨this.1,fun U h=>this.2 U (by rw[f_ c]at h;exact h)⟩
end
def RV(ro:Bool)(K:W.Frag)(H0:Hp)(G:GH)(H:Hp)(v:V)(d:D):Prop:=match ro with
|false=>RG K G v d
|true=>(∃a,v=.ref a/\H0 a=none/\Own K G H a d)\/(d=.non/\v=.non)
def dA(X:Cx)(g:GE)(ro:Bool)(m' mb:List Md)(G:GH)(D:Ends):Out->Prop
|.nx r'=>∀σ' G' H',bO G G'->SI X g m' r' G' σ' H'->D.nx σ' H'
|.rt d=>∀v G' H',Grow X.K g.gh g.h0 G' H'->RV ro X.K g.h0 G' H' v d->D.rt v H'
|.bk r'=>∀σ' G' H',bO G G'->SI X g mb r' G' σ' H'->D.bk σ' H'
|.ct r'=>∀σ' G' H',bO G G'->SI X g mb r' G' σ' H'->D.ct σ' H'
|.exc x r'=>∀pz e s' σ' G' H',bO G G'->SI X g (fg m') r' G' σ' H'->Inv X pz σ' H' s'->MS X σ' G' H' e x s'->X.xe e s'
|.stuck=>False
def tS(X:Cx)(g:GE)(ro:Bool)(m m' mb:List Md)(f:FS):TS:=fun D σ H=>∃r G,SI X g m r G σ H/\dA X g ro m' mb G D (f r)
def SS(X:Cx)(g:GE)(ro:Bool)(mb m:List Md)(st:Stmt)(f:FS)(m':List Md):Prop:=m'.length=m.length/\PS X st (tS X g ro m m' mb f)
def fP(X:Cx)(g:GE)(ro:Bool)(mb m:List Md)(st:List Stmt)(f:FS)(m':List Md):Prop:=m'.length=m.length/\dQ X st (tS X g ro m m' mb f)
theorem wX(h:m'.length=m.length):fg m'=fg m:=by unfold fg;rw[ZC,ZC,h]
theorem dA.x{D:Ends}{x:DL.D}(h:dA X g ro m' mb G D (.exc x (forget m r)))(U:SI X g m r G σ H)(a:m'.length=m.length):XW X σ G H x:=fun Z e Y d c w I b=>h Z e Y σ d c w.ge (by rw[wX a];exact(U.grow w).forget) I b
variable{ro:Bool}{m' m1 mb:List Md}{pos':Pos}{sts:List Stmt}{s1:FS}
section
variable{tg:Expr}{fc:FE}{st:Stmt}{sts':List Stmt}{s2:FS}
theorem dA.gle{G c:GH}{D:Ends}(h:dA X g ro m' mb G D o)(w:bO G c):dA X g ro m' mb c D o:=by cases o with
|nx b=>exact fun U Z Y q a=>h U Z Y (w.trans q) a
|rt d=>exact h
|bk b=>exact fun U Z Y q a=>h U Z Y (w.trans q) a
|ct b=>exact fun U Z Y q a=>h U Z Y (w.trans q) a
|exc x b=>exact fun i e f U Z Y q=>h i e f U Z Y (w.trans q)
|stuck=>exact h
noncomputable def seqF(s1 s2:FS):FS:=fun r=>match s1 r with
|.nx r'=>s2 r'
|o=>o
noncomputable def bI:FS:=fun r=>.nx r
theorem aN:fP X g ro mb m [] bI m:=⟨rfl,dQ.imp mh fun D U H k=>by obtain⟨r,G,Y,q⟩:=k;exact q U G H (bO.refl G) Y⟩
theorem aH(c:SS X g ro mb m st s1 m1)(a:fP X g ro mb m1 sts s2 m'):fP X g ro mb m (st::sts) (seqF s1 s2) m':=by refine⟨a.1.trans c.1,dQ.imp (nK c.2 a.2) fun D k H ⟨r,G,h,q⟩=>⟨r,G,h,?_⟩⟩;unfold seqF at q;cases e:s1 r with
|nx Z=>rw[e]at q;exact fun Y b f w U=>⟨Z,b,U,dA.gle q w⟩
|rt d=>rw[e]at q;exact q
|bk Z=>rw[e]at q;exact q
|ct Z=>rw[e]at q;exact q
|exc x Z=>rw[e]at q;exact fun j e i Y b f w U=>q j e i Y b f w (by rw[wX a.1];exact U)
|stuck=>rw[e]at q;exact q
theorem kK:SS X g ro mb m st (fun _=>.stuck) m:=⟨rfl,PS.imp (fun _ _ _ _ _ _ h=>h.elim) fun D U H ⟨r,G,Y,q⟩=>q⟩
theorem oF:fP X g ro mb m sts (fun _=>.stuck) m:=⟨rfl,dQ.imp (fun _ _ _ _ _ _ h=>h.elim) fun D U H ⟨r,G,Y,q⟩=>q⟩
theorem q8(i:Nat)(hi:m[i]? = some .ow)(h:SS X g ro mb (m.set i .sh) st s1 m'):SS X g ro mb m st s1 m':=by
 refine⟨h.1.trans `s,fun c s b H D I k=>?_⟩;obtain⟨r,G,d,q⟩:=k;rcases d.frz i hi with⟨Z,Y,U⟩|⟨a,z⟩
 .exact h.2 c s b H D I ⟨r,Z,U,dA.gle q Y⟩
 .obtain⟨ob,I2⟩:=Inv.fast I a;obtain⟨Z,Y,U⟩:=z ob;exact h.2 c s b _ D I2 ⟨r,Z,U,dA.gle q Y⟩
def onE{α:Type}(m:List Md)(r:aJ)(x:Res α)(k:α->Out):Out:=match x with
|.ok a=>k a
|.exc e=>.exc e (forget m r)
|.stuck=>.stuck
@[simp] theorem onE_ok(m:List Md)(r:aJ)(a:U)(k:U->Out):onE m r (.ok a) k=k a:=rfl
theorem i7{k:U->Out}{D:Ends}(Y:SI X g m r G σ H)(Z:m'.length=m.length)(h:dA X g ro m' mb G D (onE m r x k)):fin x (fun a=>dA X g ro m' mb G D (k a)) (XW X σ G H):=by cases x with
|ok a=>exact h
|exc e=>exact dA.x h Y Z
|stuck=>exact h
def aP(m:List Md)(i:Nat)(f:FE):FS:=fun r=>onE m r (f r) fun d=>.nx (r.set i (some d))
theorem fF(i:Nat)(k:X.N.Nodup)(hi:X.N[i]? = some x)(Z:ju X.env.scope x)(j:SO X g m e f)(hs:!X7 e (some (.Name x pos')) pos.line X.env=pure false)(h:!!!Fx X x):SS X g ro mb m (.Assign [.Name x pos'] e pos) (aP m i f) (m.set i .ow):=by
 have Y:(m.set i .ow).length=m.length:=`s
 refine⟨Y,PS.imp (rK k hi Z j hs h) fun D o H ⟨r,G,U,q⟩=>⟨r,G,U,?_⟩⟩;exact bQ (i7 U Y q) fun d q a n l w c b=>q _ n l w.ge (U.setN w i c b)
def jW(m:List Md)(f:FE):FS:=fun r=>onE m r (f r) fun _=>.nx r
theorem iT(Z:SE X g m e f)(hs:!X7 e none pos.line X.env=pure false):SS X g ro mb m (.Expr e pos) (jW m f) m:=⟨rfl,PS.imp (rV Z hs) fun D Y H k=>by obtain⟨r,G,U,q⟩:=k;exact ⟨r,G,U,bQ (i7 U rfl q) fun d q v b a w _=>q Y b a w.ge (U.grow w)⟩⟩
def retF(m:List Md)(f:FE):FS:=fun r=>onE m r (f r) fun d=>.rt d
theorem bA(Z:SE X g m e f):SS X g false mb m (.Return (some e) pos) (retF m f) m:=⟨rfl,PS.imp (rJ Z) fun D c H k=>by obtain⟨r,G,U,q⟩:=k;exact ⟨r,G,U,bQ (i7 U rfl q) fun d q v b a w Y=>q v b a (U.grow w).grown Y⟩⟩
def eM(m:List Md)(p:FQ)(s1 s2:FS):FS:=fun r=>onE m r (p r) fun c=>if c=true then s1 r else s2 r
theorem cA(a:SQ X g m c p)(Y:fP X g ro mb m sts s1 m')(b:fP X g ro mb m sts' s2 m'):SS X g ro mb m (.If c sts sts' pos) (eM m p s1 s2) m':=by refine⟨Y.1,PS.imp (pE a Y.2 b.2) fun D d H ⟨r,G,U,q⟩=>⟨r,G,U,bQ (i7 U Y.1 q) fun c q Z e w=>?_⟩⟩;cases c with
|true=>exact⟨r,Z,U.grow w,dA.gle q w.ge⟩
|false=>exact⟨r,Z,U.grow w,dA.gle q w.ge⟩
theorem qm(i:Nat)(h:fP X g ro mb m sts s1 m')(hi:m'[i]? = some .ow):fP X g ro mb m sts s1 (m'.set i .sh):=by
 refine⟨by simp[h.1],fun k s y H D I ⟨r,G,A,q⟩=>?_⟩;refine bK (h.2 k s y H ⟨fun Y Z=>D.nx Y Z\/∃a,∀c,D.nx Y (fz Z a c),D.rt,D.bk,D.ct⟩ I ⟨r,G,A,?_⟩) fun f o p=>?_
 .cases e:s1 r with
 |nx j=>
   rw[e]at q;intro Y v Z w b;rcases b.frz i hi with⟨n,l,U⟩|⟨a,z⟩
   .exact .inl (q Y n Z (w.trans l) U)
   .refine .inr ⟨a,fun c=>?_⟩;obtain⟨n,l,U⟩:=z c;exact q Y n _ (w.trans l) U
 |rt d=>rw[e]at q;exact q
 |bk j=>rw[e]at q;exact q
 |ct j=>rw[e]at q;exact q
 |exc x j=>rw[e]at q;exact fun k e o Y v Z w b=>q k e o Y v Z w (by rw[wX (m:=m') `s];exact b)
 |stuck=>rw[e]at q;exact q
 .cases f with
 |next=>
   obtain⟨Y,Z,t,z|⟨a,z⟩⟩:=p
   .exact⟨Y,Z,t,z⟩
   .obtain⟨c,I2⟩:=Inv.fast t a;exact⟨Y,_,I2,z c⟩
 |brk=>exact p
 |cont=>exact p
 |ret u=>exact p
end
abbrev FT:=D->aJ->Option aJ
abbrev lO:=List D->aJ->Option aJ
noncomputable def tG(X:Cx)(g:GE)(m m':List Md)(ft:FT):TG:=fun v σ H Q=>∃r G d,SI X g m r G σ H/\RG X.K G v d/\∃r',ft d r=some r'/\∀σ',SI X g m' r' G σ' H->Q σ' H
noncomputable def Wf(X:Cx)(g:GE)(m m':List Md)(ft:lO):lM:=fun vs σ H Q=>∃r G ds,SI X g m r G σ H/\cZ X.K G vs ds/\∃r',ft ds r=some r'/\∀σ',SI X g m' r' G σ' H->Q σ' H
theorem PG.imp(h:PG X e t)(i:∀v σ H Q,t' v σ H Q->t v σ H Q):PG X e t':=fun U s σ H v u Q I r q=>h U s σ H v u Q I r (i v σ H Q q)
theorem lv.imp{e:List Expr}(h:lv X e t)(i:∀v σ H Q,t' v σ H Q->t v σ H Q):lv X e t':=fun U s σ H v u Q I r q=>h U s σ H v u Q I r (i v σ H Q q)
def SG(X:Cx)(g:GE)(m:List Md)(tg:Expr)(ft:FT)(m':List Md):Prop:=m'.length=m.length/\PG X tg (tG X g m m' ft)
structure SGs(X:Cx)(g:GE)(m:List Md)(ts:List Expr)(n:Nat)(ft:lO)(m':List Md):Prop where
 ml:m'.length=m.length
 ln:∀ds r r',ft ds r=some r'->ds.length=n
 pg:lv X ts (Wf X g m m' ft)
noncomputable def bD(i:Nat):FT:=fun d r=>some (r.set i (some d))
noncomputable def gI(ft:lO):FT:=fun d r=>match d with
|.tup ds=>ft ds r
|.lst ds=>ft ds r
|_=>none
noncomputable def gz:lO:=fun ds r=>match ds with
|[]=>some r
|_=>none
noncomputable def dg(ft:FT)(fts:lO):lO:=fun ds r=>match ds with
|[]=>none
|d::ds=>(ft d r).bind fun r'=>fts ds r'
variable{ft:FT}
section
variable{tg:Expr}{ts:List Expr}{fts:lO}{n:Nat}
theorem EX(i:Nat)(b:X.N.Nodup)(hi:X.N[i]? = some x)(Z:ju X.env.scope x)(a:!!!Fx X x):SG X g m (.Name x pos) (bD i) (m.set i .sh):=⟨`s,PG.imp (Gq b hi Z a) fun v c H Q z=>by obtain⟨r,G,d,U,Y,f,e,k⟩:=z;cases e;exact k _ (U.set i Y)⟩
theorem jY:SGs X g m [] 0 gz m:=by
 refine⟨rfl,fun U r b e=>?_,lv.imp Pn fun v Y H Q ⟨r,G,U,Z,a,b,e,k⟩=>?_⟩
 .cases U with
 |nil=>rfl
 |cons _ _=>cases e
 .cases a with
 |nil=>cases e;exact⟨rfl,k Y Z⟩
 |cons _ _=>cases e
theorem fE(h:SG X g m tg ft m1)(f:SGs X g m1 ts n fts m')(hs:!(Ye (tg::ts) X.env).map (·.2)=å tg X.env::(Ye ts X.env).map (·.2)):SGs X g m (tg::ts) (n+1) (dg ft fts) m':=by
 refine⟨f.ml.trans h.1,fun Z r U e=>?_,lv.imp (Qy h.2 f.pg hs) fun v o H Q ⟨r,G,Z,j,c,U,e,k⟩=>?_⟩
 .cases Z with
 |nil=>cases e
 |cons d Z=>have Y:((ft d r).bind fun U=>fts Z U)=some U:=e;cases q:ft d r with
  |none=>rw[q]at Y;cases Y
  |some a=>rw[q]at Y;have:=f.ln Z a U Y;simp[this]
 .cases c with
 |nil=>cases e
 |@cons s d p Z c l=>have Y:((ft d r).bind fun U=>fts Z U)=some U:=e;cases q:ft d r with
  |none=>rw[q]at Y;cases Y
  |some a=>rw[q]at Y;exact⟨_,_,rfl,r,G,d,j,c,a,q,fun i b=>⟨a,G,Z,b,l,U,Y,k⟩⟩
theorem M6(w:X.calm=true)(h:lv X ts t)(p:(Ye ts X.env).length=n)(U:(Ye ts X.env).findIdx? (·.1)=none):PG X (.Tuple ts k pos) (fun v σ H Q=>∃a xs,v=.ref a/\cM X.K H a xs/\xs.length=n/\t xs σ H Q):=by intro d s σ H v u Q I r Z;obtain⟨a,xs,y,m,q,Z⟩:=Z;subst y;cases r;obtain⟨Y,c,⟨o,f,j,i,A,g⟩,B⟩:=I.list m;rw[PyProof.Rows.assign_Tuple];refine b_ (ý ?_);unfold unpack;rw[U,show(Ye ts X.env).length=Y.toArray.size by simp[p,<-q,c.length]];refine b_ (YR (W.kun_itemsOf (I.ok.hd w) ⟨o,j,i,f,g⟩ fun x l=>?_));have z:Inv X d σ H { s with heap:=x }:=I.kept (t':=s.toks) fun b o e=>l b o (I_ (q_ e)) e;exact h d _ σ H xs _ Q z (by simpa using c) Z
theorem PG.or(h:PG X e t)(h':PG X e t'):PG X e (fun v σ H Q=>t v σ H Q\/t' v σ H Q):=fun U s σ H v u Q I r q=>q.elim (h U s σ H v u Q I r) (h' U s σ H v u Q I r)
theorem jQ{k:Nat}(l:X.calm=true)(h:SGs X g m ts n fts m')(j:!(Ye ts X.env).length=n)(U:!(Ye ts X.env).findIdx? (·.1)=none):SG X g m (.Tuple ts k pos) (gI fts) m':=by refine⟨h.ml,PG.imp (PG.or (M5 l h.pg j U) (M6 l h.pg j U)) fun v o H Q z=>?_⟩;obtain⟨r,G,d,b,i,c,e,k⟩:=z;cases d with
|tup Z=>obtain⟨a,f,rfl,s,Y⟩:=i.tup b.gok;exact .inl ⟨a,f,rfl,s,(Paired.length Y).trans (h.ln Z r c e),r,G,Z,b,Y,c,e,k⟩
|lst Z=>obtain⟨a,f,rfl,s,Y⟩:=i.lst b.gok;exact .inr ⟨a,f,rfl,s,(Paired.length Y).trans (h.ln Z r c e),r,G,Z,b,Y,c,e,k⟩
|_=>cases e
end
structure Yields(K:W.Frag)(J:It)(ds:List D)(G0:GH):Prop where
 go:∀G H (i:Nat),bO G0 G->bZ K G H->i<ds.length->J.go i H
 yld:∀G H (i:Nat) x H' d,bO G0 G->bZ K G H->J.yld i H x H'->ds[i]? = some d->∃G',Grow K G H G' H'/\RG K G' x d
 stop:∀G H,bO G0 G->bZ K G H->J.stop ds.length H
abbrev FI:=aJ->Res (List D)
noncomputable def tI(X:Cx)(g:GE)(m:List Md)(f:FI):TI:=fun σ H R=>∃r G,SI X g m r G σ H/\fin (f r) (fun ds=>∀J G' H',Grow X.K G H G' H'->Yields X.K J ds G'->R J H') (XW X σ G H)
def iZ(X:Cx)(g:GE)(m:List Md)(tg iter:Expr)(f:FI):Prop:=PI X tg iter (tI X g m f)
theorem PI.imp(h:PI X U e t)(i:∀σ H Q,t' σ H Q->t σ H Q):PI X U e t':=fun Y s σ H R I q=>h Y s σ H R I (i σ H R q)
theorem As{a:Addr}{c:GH}(g:RG K c (.ref a) (.lst ds)):Yields K (yN K a) ds c:=by
 have Z:∀G H,bO c G->bZ K G H->∃U,cM K H a U/\cZ K G U ds:=fun G H w Y=>by obtain⟨b,U,e,s,r⟩:=(g.mono w).lst Y;cases e;exact⟨U,s,r⟩
 refine⟨fun G H i w Y k=>?_,fun G H i x l d w Y y e=>?_,fun G H w Y=>?_⟩
 .obtain⟨U,s,r⟩:=Z G H w Y;have j:=Paired.length r;exact⟨U,U[i],s,m_ `o⟩
 .obtain⟨U,s,r⟩:=Z G H w Y;obtain⟨rfl,y⟩:=y;obtain⟨v,h,f⟩:=Paired.get r e;have:=y U s;rw[h]at this;cases this;exact⟨G,Grow.refl Y,f⟩
 .obtain⟨U,s,r⟩:=Z G H w Y;exact⟨U,s,ZK (Paired.length r)⟩
theorem zW{a:Addr}{c:GH}(g:RG K c (.ref a) (.tup ds)):Yields K (DM K a) ds c:=by
 have Z:∀G H,bO c G->bZ K G H->∃U,dB K H a U/\cZ K G U ds:=fun G H w Y=>by obtain⟨b,U,e,s,r⟩:=(g.mono w).tup Y;cases e;exact⟨U,s,r⟩
 refine⟨fun G H i w Y k=>?_,fun G H i x l d w Y y e=>?_,fun G H w Y=>?_⟩
 .obtain⟨U,s,r⟩:=Z G H w Y;have j:=Paired.length r;exact⟨U,U[i],s,m_ `o⟩
 .obtain⟨U,s,r⟩:=Z G H w Y;obtain⟨rfl,y⟩:=y;obtain⟨v,h,f⟩:=Paired.get r e;have:=y U s;rw[h]at this;cases this;exact⟨G,Grow.refl Y,f⟩
 .obtain⟨U,s,r⟩:=Z G H w Y;exact⟨U,s,ZK (Paired.length r)⟩
noncomputable def d9(lo:Int)(n:Nat):List D:=(j_ n).map fun(i:Nat)=>D.int (lo+(i:Int))
theorem Fp{lo:Int}{a:GH}:Yields K (uS lo n) (d9 lo n) a:=by
 have Y:(d9 lo n).length=n:=by simp[d9]
 refine⟨fun G H i w Z U=>(by rw[Y]at U;exact U),fun G H i x b d w Z y e=>?_,fun G H w Z=>(by rw[Y];exact l_ _)⟩;obtain⟨rfl,rfl⟩:=y;have U:i<n:=by have:=(e_.mp e).1;rw[Y]at this;exact this
 unfold d9 at e;rw[H_,Zq U]at e;cases e;exact⟨G,Grow.refl Z,.scl (.int _)⟩
noncomputable def dh:D->Option (List D)
|.lst ds=>some ds
|.tup ds=>some ds
|_=>none
variable{iter:Expr}
section
variable{tg:Expr}
def cF(k:D->Option (List D))(f:FE):FI:=fun r=>(f r).bind fun d=>eu (k d)
theorem zK{g:TE}(r:PE X l g):PI X tg l (fun σ H R=>g σ H fun x Y=>(∃a,x=.ref a/\(∃xs,cM X.K Y a xs)/\R (yN X.K a) Y)\/∃a,x=.ref a/\(∃xs,dB X.K Y a xs)/\R (DM X.K a) Y):=by
 intro m s σ H R I h;refine bK (r m s σ H _ I h) fun v Z z=>?_;obtain⟨x,Y,U,i,k⟩:=z;rcases k with⟨a,e,⟨xs,d⟩,q⟩|⟨a,e,⟨xs,d⟩,q⟩
 .subst e;cases i;obtain⟨c,j,p,n⟩:=U.list d;refine ĥ p.isList ?_;refine⟨Z.heap.objs.size,[Z.heap.objs.size],_,_,Y,rfl,U.kept fun b o e=>c_ _ e,RA a _,⟨_,n_ _ rfl,rfl,rfl⟩,fun b f=>?_,q⟩;have e:=by simpa using f
  subst e;exact U.fpOk (l_ _) (U.hok.fresh (l_ _))
 .subst e;cases i;obtain⟨c,j,p,n⟩:=U.tuple d;refine Yk (p) ?_;refine⟨Z.heap.objs.size,[Z.heap.objs.size],_,_,Y,rfl,U.kept fun b o e=>c_ _ e,Sa a _,⟨_,n_ _ rfl,rfl,rfl⟩,fun b f=>?_,q⟩;have e:=by simpa using f
  subst e;exact U.fpOk (l_ _) (U.hok.fresh (l_ _))
theorem n4(h:SE X g m e f):iZ X g m tg e (cF dh f):=by
 refine PI.imp (zK h) fun k H R z=>?_;obtain⟨r,G,i,q⟩:=z;refine ⟨r,G,i,bQ (cC q) fun d q v c b w U=>?_⟩
 obtain⟨l,e,q⟩:=dz q;cases d with
|lst Z=>obtain⟨a,Y,rfl,s,j⟩:=U.lst w.ok;exact .inl ⟨a,rfl,⟨Y,s⟩,q _ c b w (As U)⟩
|tup Z=>obtain⟨a,Y,rfl,s,j⟩:=U.tup w.ok;exact .inr ⟨a,rfl,⟨Y,s⟩,q _ c b w (zW U)⟩
|_=>cases e
structure YieldsC(K:W.Frag)(J:It)(ds:List D)(G0:GH)(H0:Hp):Prop where
 go:∀G H (i:Nat),Grow K G0 H0 G H->i<ds.length->J.go i H
 yld:∀G H (i:Nat) x H' d,Grow K G0 H0 G H->J.yld i H x H'->ds[i]? = some d->∃G',Grow K G H G' H'/\RG K G' x d
 stop:∀G H,Grow K G0 H0 G H->J.stop ds.length H
theorem Yields.toC(y:Yields K J ds U):YieldsC K J ds U Z:=⟨fun G H i w Y=>y.go G H i w.ge w.ok Y,fun G H i x a d w q e=>y.yld G H i x a d w.ge w.ok q e,fun G H w=>y.stop G H w.ge w.ok⟩
noncomputable def Wd(X:Cx)(g:GE)(m:List Md)(f:FI):TI:=fun σ H R=>∃r G,SI X g m r G σ H/\fin (f r) (fun ds=>∀J G' H',Grow X.K G H G' H'->YieldsC X.K J ds G' H'->R J H') (XW X σ G H)
def g9(X:Cx)(g:GE)(m:List Md)(tg iter:Expr)(f:FI):Prop:=PI X tg iter (Wd X g m f)
theorem iZ.toC(h:iZ X g m tg iter fi):g9 X g m tg iter fi:=PI.imp h fun a H R z=>by obtain⟨r,G,U,q⟩:=z;exact ⟨r,G,U,bQ q fun b k J Z Y w y=>k J Z Y w y.toC⟩
theorem NK{a:Addr}{b:GH}(o:Own K b Z a (.lst ds)):YieldsC K (yN K a) ds b Z:=by
 have Y:∀G H,Grow K b Z G H->∃U,cM K H a U/\cZ K G U ds:=fun G H w=>by cases(o.mono w).ob with
 |lst r s=>exact⟨_,cM.of r,s⟩
 refine⟨fun G H i w h=>?_,fun G H i x j d w y e=>?_,fun G H w=>?_⟩
 .obtain⟨U,s,r⟩:=Y G H w;have g:=Paired.length r;exact⟨U,U[i],s,`a⟩
 .obtain⟨U,s,r⟩:=Y G H w;obtain⟨rfl,y⟩:=y;obtain⟨v,f,c⟩:=Paired.get r e;have:=y U s;rw[f]at this;cases this;exact⟨G,Grow.refl w.ok,c⟩
 .obtain⟨U,s,r⟩:=Y G H w;exact⟨U,s,ZK (Paired.length r)⟩
theorem dN(h:SB X g m e f):g9 X g m tg e (cF dh f):=by
 refine PI.imp (zK h) fun i H R k=>?_;obtain⟨r,G,c,q⟩:=k;refine ⟨r,G,c,bQ (cC q) fun d q v b Z w U=>?_⟩
 obtain⟨j,e,q⟩:=dz q;cases d with
|lst Y=>
  rcases U with U|⟨a,rfl,o⟩
  .obtain⟨a,xs,rfl,s,rs⟩:=U.lst w.ok;exact .inl ⟨a,rfl,⟨xs,s⟩,q _ b Z w (As U).toC⟩
  .cases o.ob with
  |lst r s=>exact .inl ⟨a,rfl,⟨_,cM.of r⟩,q _ b Z w (NK o)⟩
|tup Y=>
  rcases U with U|⟨a,rfl,o⟩
  .obtain⟨a,xs,rfl,s,rs⟩:=U.tup w.ok;exact .inr ⟨a,rfl,⟨xs,s⟩,q _ b Z w (zW U).toC⟩
  .cases o.ob
|_=>cases e
def fY:List D->Option (List D)
|[.int j]=>if-(2^62)<=j/\j<2^62 then some (d9 0 j.toNat)else none
|_=>none
def jb:List D->Option (List D)
|[.int i,.int j]=>if-(2^62)<=i/\i<2^62/\-(2^62)<=j/\j<2^62 then some (d9 i (j-i).toNat)else none
|_=>none
def eD(k:List D->Option (List D))(fl:aJ->Res (List D)):FI:=fun r=>(fl r).bind fun ds=>eu (k ds)
theorem kM{b:Pos}(d:Gl X "range")(c:X.mg "range" = none)(f:iP X g m [a] fl)(hs:!E_ [a] X.env=[(false,eval a X.env)]):iZ X g m tg (.Call (.Name "range" b) [a] [] pos) (eD fY fl):=by
 refine PI.imp (Rf d c f hs) fun k H R z=>?_;obtain⟨r,G,U,q⟩:=z;refine ⟨r,G,U,bQ (cC q) fun o q n i h w Y=>?_⟩
 obtain⟨l,e,q⟩:=dz q;unfold fY at e;split at e
 .split at e
  .rename_i j hj;cases e;cases Y with
  |cons Z t=>cases t;exact⟨j,by rw[Z.int w.ok],hj.1,hj.2,q _ i h w Fp⟩
  .cases e
 .cases e
theorem QD{f:Pos}(k:Gl X "range")(h:X.mg "range" = none)(l:iP X g m [a,b] fl)(hs:!E_ [a,b] X.env=[(false,eval a X.env),(false,eval b X.env)])(U:!E_ [b] X.env=[(false,eval b X.env)]):iZ X g m tg (.Call (.Name "range" f) [a,b] [] pos) (eD jb fl):=by
 refine PI.imp (Rh k h l hs U) fun p H R z=>?_;obtain⟨r,G,Y,q⟩:=z;refine ⟨r,G,Y,bQ (cC q) fun v q u o n w Z=>?_⟩
 obtain⟨s,e,q⟩:=dz q;unfold jb at e;split at e
 .split at e
  .rename_i i j hj;cases e;cases Z with
  |cons d t=>cases t with
   |cons c t=>cases t;exact⟨i,j,by rw[d.int w.ok,c.int w.ok],hj,q _ o n w Fp⟩
  .cases e
 .cases e
noncomputable def bG(ft:FT)(body:FS):List D->FS
|[],r=>.nx r
|d::ds,r=>match ft d r with
 |none=>.stuck
 |some r1=>match body r1 with
  |.nx r'=>bG ft body ds r'
  |.ct r'=>bG ft body ds r'
  |.bk r'=>.nx r'
  |o=>o
def jz(m:List Md)(fi:FI)(ft:FT)(body:FS):FS:=fun r=>onE m r (fi r) fun ds=>bG ft body ds r
theorem ir(hp:Z8 (F_ X.prog X.w) X.A X.env X.xe)(hc:X.calm=true)(hi:iZ X g m tg iter fi)(hg:SG X g m tg ft m)(hb:fP X g ro m m sts s1 m)(hs:!!!!Ix X iter):SS X g ro mb m (.For tg iter sts [] pos) (jz m fi ft s1) m:=by
 refine⟨rfl,PS.imp (vV hp hc hi hg.2 hb.2 hs) fun D N H ⟨r,G,K,q⟩=>⟨r,G,K,bQ (i7 K rfl q) fun j q J B H0 O Y=>?_⟩⟩;refine⟨fun i n N H=>∃r G,SI X g m r G N H/\bO B G/\i<=j.length/\n=j.length-i/\dA X g ro m mb G D (bG ft s1 (j.drop i) r),⟨j.length,r,B,K.grow O,bO.refl B,XY _,rfl,dA.gle q O.ge⟩,?_⟩
 rintro i n F u ⟨P,z,c,f,hi,rfl,a⟩
 by_cases h:i<j.length
 .have hd:=X3 h;rw[hd]at a;unfold bG at a;refine .inr ⟨Y.go z u i f c.gok h,fun s v=>∃r G,SI X g m r G s v/\bO B G/\dA X g ro m mb G D _,fun s v w=>by obtain⟨k,C,I,E,q'⟩:=w;exact ⟨_,`o,k,C,I,E,h,rfl,q'⟩,fun x v y=>?_⟩;obtain⟨C,o,T⟩:=Y.yld z u i x v j[i] f c.gok y (m_ h);have E:=f.trans o.ge;cases M:ft j[i] P with
 |none=>simp only[M]at a;exact a.elim
 |some L=>simp only[M]at a;refine⟨P,C,j[i],c.grow o,T,L,M,fun Q Id=>⟨L,C,Id,?_⟩⟩;cases p:s1 L with
  |nx k=>simp only[p]at a;exact fun b l t U Z=>⟨k,l,Z,E.trans U,dA.gle a (bO.trans o.ge U)⟩
  |ct k=>simp only[p]at a;exact fun b l t U Z=>⟨k,l,Z,E.trans U,dA.gle a (bO.trans o.ge U)⟩
  |bk k=>simp only[p]at a;exact fun b l t U Z=>a b l t (bO.trans o.ge U) Z
  |rt d=>simp only[p]at a;exact a
  |exc x k=>simp only[p]at a;exact fun pz e R b l t U=>a pz e R b l t (bO.trans o.ge U)
  |stuck=>simp only[p]at a;exact a
 .have e:i=j.length:=`o
  subst e;rw[Zl]at a;exact .inl ⟨Y.stop z u f c.gok,a F z u (bO.refl _) c⟩
noncomputable def gt(m:List Md):List Md:=m.map fun x=>if x=Md.sh then Md.sh else Md.bw
noncomputable def yU(m:List Md)(r:aJ)(st:L2.St)(G:GH)(H:Hp):GE:=⟨G,H,fun i=>if m[i]? = some Md.ow\/m[i]? = some Md.bw then some ((st[i]?).join,(r[i]?).join)else none⟩
theorem sx{i:Nat}(h:m[i]? = some x):(gt m)[i]? = some (if x=Md.sh then Md.sh else Md.bw):=by unfold gt;rw[H_,h];rfl
theorem Qi{i:Nat}(h:(gt m)[i]? = some Md.sh):m[i]? = some Md.sh:=by cases q:m[i]? with
|none=>unfold gt at h;rw[H_,q]at h;cases h
|some x=>rw[sx q]at h;cases x <;> first|rfl|(simp at h)
theorem Ia{i:Nat}(h:(gt m)[i]? = some Md.ow):False:=by cases q:m[i]? with
|none=>unfold gt at h;rw[H_,q]at h;cases h
|some x=>rw[sx q]at h;cases x <;> simp at h
theorem lockM_bw{i:Nat}(h:(gt m)[i]? = some Md.bw):m[i]? = some Md.ow\/m[i]? = some Md.bw:=by cases q:m[i]? with
|none=>unfold gt at h;rw[H_,q]at h;cases h
|some x=>rw[sx q]at h;cases x with
 |sh=>simp at h
 |ow=>exact .inl rfl
 |bw=>exact .inr rfl
theorem SI.lock{st:L2.St}(s:SI X g m r G st H):SI X (yU m r st G H) (gt m) r G st H where
 gok:=s.gok
 old:=fun _ _ e=>e
 ge:=fun _ _ e=>e
 gf:=fun _ _=>rfl
 lm:=by unfold gt;rw[i_];exact s.lm
 lr:=s.lr
 sh:=fun i d h U=>s.sh i d h (Qi U)
 ow:=fun i d h U=>(Ia U).elim
 bw:=fun i d h U=>by
  rcases lockM_bw U with z|z
  .obtain⟨a,h1,h2,_⟩:=s.ow i d h z;exact⟨_,h1,.inr ⟨a,rfl,h2,h2.ob.isS⟩⟩
  .obtain⟨v,h1,h2⟩:=s.bw i d h z;refine⟨v,h1,?_⟩;rcases h2 with h2|⟨a,e,h2,_⟩
   .exact .inl h2
   .exact .inr ⟨a,e,h2,h2.ob.isS⟩
 dis:=fun i j a d e _ _ _ U=>(Ia U).elim
 lk:=fun i o h U=>by
  have Y:(if m[i]? = some Md.ow\/m[i]? = some Md.bw then some _ else none)=some o:=h;rw[Q_d (lockM_bw U)]at Y;cases Y;have b:=by have:=(e_.mp U).1;unfold gt at this;rw[i_,s.lm]at this;exact this
  refine⟨?_,fun d Z=>by rw[Z];rfl⟩;simp_all
theorem SI.unlock{st k:L2.St}(s:SI X g m r G st H)(n:SI X (yU m r st G H) (gt m) r' B k A):SI X g m r' B k A:=by
 have w:Grow X.K G H B A:=n.grown;have U:∀(i:Nat),(m[i]? = some Md.ow\/m[i]? = some Md.bw)->k[i]? = some (st[i]?).join/\∀d,r'[i]? = some (some d)->r[i]? = some (some d):=fun i p=>by
  have Z:(gt m)[i]? = some Md.bw:=by rcases p with z|z <;> rw[sx z] <;> simp
  obtain⟨f,l⟩:=n.lk i ((st[i]?).join,(r[i]?).join) (Q_d p) Z;refine⟨f,fun d y=>?_⟩;have:=l d y;cases q:r[i]? with
 |none=>rw[q]at this;cases this
 |some o=>rw[q]at this;rw[show o=some d from this]
 have Y:∀(i:Nat) v,(m[i]? = some Md.ow\/m[i]? = some Md.bw)->st[i]? = some (some v)->k[i]? = some (some v):=fun i v p h=>by rw[(U i p).1,h];rfl
 refine⟨n.gok,fun a o e=>n.old a o (s.old a o e),fun a d e=>n.ge a d (s.ge a d e),fun a h=>?_,?_,n.lr,fun i d h Z=>?_,fun i d h Z=>?_,fun i d h Z=>?_,fun i j a d e x f l u t M L=>?_,fun i o p Z=>?_⟩
 .have f:H a≠none:=by cases e:g.h0 a with
  |none=>exact Q_f e h
  |some o=>rw[s.old _ _ e];simp
  rw[w.gf a f,s.gf a h]
 .have:=n.lm;unfold gt at this;rw[i_]at this;exact this
 .exact n.sh i d h (by rw[sx Z];simp)
 .obtain⟨a,f,l,h3⟩:=s.ow i d ((U i (.inl Z)).2 d h) Z;exact⟨a,Y i _ (.inl Z) f,l.mono w,h3⟩
 .obtain⟨v,f,l⟩:=s.bw i d ((U i (.inr Z)).2 d h) Z;exact⟨v,Y i _ (.inr Z) f,l.grow w⟩
 .have e1:=(U i (.inl u)).2 d f;have J:=(U j (.inl t)).2 e l;obtain⟨b,E,_,_⟩:=s.ow i d e1 u;obtain⟨c,C,_,_⟩:=s.ow j e J t;have I:=Y i _ (.inl u) E;have F:=Y j _ (.inl t) C;rw[M]at I;rw[L]at F;cases I;cases F;exact s.dis i j a d e x e1 J u t E C
 .obtain⟨f,l⟩:=s.lk i o p Z;refine⟨?_,fun d y=>l d ((U i (.inr Z)).2 d y)⟩;rw[(U i (.inr Z)).1,f];rfl
theorem SI.unlockX{G f:GH}{st Y:L2.St}{H c:Hp}(s:SI X g m r G st H)(U:SI X (yU m r st G H) (fg (gt m)) r' f Y c):SI X g (fg m) r' f Y c:=by
 have w:Grow X.K G H f c:=U.grown;have p:fg (gt m)=fg m:=wX (by unfold gt;rw[i_]);rw[p]at U;have b:∀{i:Nat}{x:Md},(fg m)[i]? = some x->x=Md.sh:=fun{i x} h=>by unfold fg at h;simp_all
 refine⟨U.gok,fun a o e=>U.old a o (s.old a o e),fun a d e=>U.ge a d (s.ge a d e),fun a h=>?_,U.lm,U.lr,U.sh,fun i d h Z=>(nomatch (b Z)),fun i d h Z=>(nomatch (b Z)),fun i j a d e n k u l q=>(nomatch (b l)),fun i o t Z=>(nomatch (b Z))⟩;have k:H a≠none:=by cases e:g.h0 a with
 |none=>exact Q_f e h
 |some o=>rw[s.old _ _ e];simp
 rw[w.gf a k,s.gf a h]
theorem v4(hp:Z8 (F_ X.prog X.w) X.A X.env X.xe)(hc:X.calm=true)(hi:g9 X g m tg iter fi)(hg:∀g',SG X g' (gt m) tg ft (gt m))(hb:∀g',fP X g' ro (gt m) (gt m) sts s1 (gt m))(hs:!!!!Ix X iter):SS X g ro mb m (.For tg iter sts [] pos) (jz m fi ft s1) m:=by
 have KK:PG X tg (fun v k H Q=>∃g',tG X g' _ _ ft v k H Q):=fun N s k H v u Q I r w=>(by obtain⟨g',q⟩:=w;exact (hg g').2 N s k H v u Q I r q);have LE:dQ X sts (fun D k H=>∃g',tS X g' ro _ _ _ s1 D k H):=fun N s k H D I V=>(by obtain⟨g',q⟩:=V;exact (hb g').2 N s k H D I q);refine⟨rfl,PS.imp (vV hp hc hi KK LE hs) fun D k H ⟨r,G,si,q⟩=>⟨r,G,si,bQ (i7 si rfl q) fun j q J G0 H0 w0 Y=>?_⟩⟩;have F:=si.grow w0;refine⟨fun i n l E=>∃M t,SI X _ _ M t l E/\i<=j.length/\n=j.length-i/\dA X g ro m mb t D (bG ft s1 (j.drop i) M),⟨j.length,r,G0,F.lock,XY _,rfl,dA.gle q w0.ge⟩,?_⟩
 rintro i n l E ⟨M,t,o,hi,rfl,b⟩
 have R:=o.grown;by_cases h:i<j.length
 .have hd:=X3 h;rw[hd]at b;unfold bG at b;refine .inr ⟨Y.go t E i R h,fun K P=>∃f B,SI X _ _ f B K P/\dA X g ro m mb B D _,fun K P W=>by obtain⟨f,B,T,q'⟩:=W;exact ⟨_,`o,f,B,T,h,rfl,q'⟩,fun x P y=>?_⟩;obtain⟨B,L,rv⟩:=Y.yld t E i x P j[i] R y (m_ h);cases Cl:ft j[i] M with
 |none=>simp only[Cl]at b;exact b.elim
 |some r2=>simp only[Cl]at b;refine⟨_,M,B,j[i],o.grow L,rv,r2,Cl,fun σ2 IO=>⟨_,r2,B,IO,?_⟩⟩;cases C:s1 r2 with
  |nx f=>simp only[C]at b;exact fun c p O Z U=>⟨f,p,U,dA.gle b (bO.trans L.ge Z)⟩
  |ct f=>simp only[C]at b;exact fun c p O Z U=>⟨f,p,U,dA.gle b (bO.trans L.ge Z)⟩
  |bk f=>simp only[C]at b;exact fun c p O Z U=>b c p O (bO.trans L.ge Z) (F.unlock U)
  |rt d=>simp only[C]at b;intro v G2 H2 wr Id;refine b v G2 H2 (F.grown.trans wr) ?_;cases ro with
   |false=>exact Id
   |true=>
     rcases Id with⟨a,e1,e2,e3⟩|z
     .exact .inl ⟨a,e1,F.grown.back e2,e3⟩
     .exact .inr z
  |exc x f=>simp only[C]at b;exact fun N e s' c p O Z U=>b N e s' c p O (bO.trans L.ge Z) (F.unlockX U)
  |stuck=>simp only[C]at b;exact b
 .have e:i=j.length:=`o
  subst e;rw[Zl]at b;exact .inl ⟨Y.stop t E R,b l t E (bO.refl _) (F.unlock o)⟩
def gW(m:List Md)(p:FQ)(body:FS):Nat->FS
|0,_=>.stuck
|n+1,r=>onE m r (p r) fun c=>if c=true then(match body r with
  |.nx r'=>gW m p body n r'
  |.ct r'=>gW m p body n r'
  |.bk r'=>.nx r'
  |o=>o)else .nx r
theorem p5(n:Nat)(E:Z8 (F_ X.prog X.w) X.A X.env X.xe)(F:SQ X g m c p)(I:fP X g ro m m sts s1 m):SS X g ro mb m (.While c sts [] pos) (gW m p s1 n) m:=by
 refine⟨rfl,PS.imp (QB E F I.2) fun D u H w=>?_⟩;obtain⟨r,G,L,q⟩:=w;refine⟨fun n u H=>∃r G,SI X g m r G u H/\dA X g ro m mb G D (gW m p s1 n r),`g,?_⟩
 rintro n s M ⟨t,K,b,v⟩
 cases n with
|zero=>exact v.elim
|succ n=>refine⟨t,K,b,bQ (i7 b rfl v) fun c Z z J f=>?_⟩;cases c with
 |false=>exact Z s z J f.ge (b.grow f)
 |true=>refine⟨fun k y=>∃r G,SI X g m r G k y/\dA X g ro m mb G D _,fun k y h=>⟨n,Yj _,h⟩,t,z,b.grow f,?_⟩;cases j:s1 t with
  |nx l=>simp only[j]at Z;exact fun a i o U Y=>⟨l,i,Y,dA.gle Z (bO.trans f.ge U)⟩
  |ct l=>simp only[j]at Z;exact fun a i o U Y=>⟨l,i,Y,dA.gle Z (bO.trans f.ge U)⟩
  |bk l=>simp only[j]at Z;exact fun a i o U Y=>Z a i o (bO.trans f.ge U) Y
  |rt d=>simp only[j]at Z;exact Z
  |exc x l=>simp only[j]at Z;exact fun C e B a i o U=>Z C e B a i o (bO.trans f.ge U)
  |stuck=>simp only[j]at Z;exact Z
def iO(m:List Md)(f:FE)(ft:FT):FS:=fun r=>onE m r (f r) fun d=>match ft d r with
|some r'=>.nx r'
|none=>.stuck
theorem vE(k:SE X g m e f)(a:SG X g m tg ft m')(hs:!Ö [tg] e pos.line X.env=pure false)(j:!Ø [tg] e X.env=pure none)(l:!(Ye [tg] X.env).map (·.2)=[å tg X.env]):SS X g ro mb m (.Assign [tg] e pos) (iO m f ft) m':=by refine⟨a.1,PS.imp (E6 k a.2 hs j l) fun D o H ⟨r,G,Z,q⟩=>⟨r,G,Z,bQ (i7 Z a.1 q) fun d q v c n w h=>?_⟩⟩;cases b:ft d r with
|none=>simp only[b]at q;exact q.elim
|some i=>simp only[b]at q;exact⟨r,c,d,Z.grow w,h,i,b,fun U Y=>q U c n w.ge Y⟩
end
noncomputable def qA:Res D->Res D
|.ok d=>.ok d
|_=>.stuck
inductive ArgsOk(K:W.Frag)(G:GH)(H:Hp):List Md->List V->List D->Prop where
 |nil:ArgsOk K G H [] [] []
 |sh {v:V} {d:D} {ms:List Md} {vs:List V} {ds:List D}:RG K G v d->ArgsOk K G H ms vs ds->ArgsOk K G H (.sh::ms) (v::vs) (d::ds)
 |bw {v:V} {d:D} {ms:List Md} {vs:List V} {ds:List D}:RB K G H v d->ArgsOk K G H ms vs ds->ArgsOk K G H (.bw::ms) (v::vs) (d::ds)
theorem ArgsOk.len(h:ArgsOk K G H ms vs ds):vs.length=ms.length/\ds.length=ms.length:=by induction h with
|nil=>exact⟨rfl,rfl⟩
|sh h t U=>exact⟨Q_g (· + 1) U.1,Q_g (· + 1) U.2⟩
|bw h t U=>exact⟨Q_g (· + 1) U.1,Q_g (· + 1) U.2⟩
theorem ArgsOk.app(hs:Paired Scl U dds):∀{ms:List Md}{vs:List V}{ds:List D},ArgsOk K G H ms vs ds->ArgsOk K G H (ms++p_ dds.length .sh) (vs++U) (ds++dds)
|_,_,_,.nil=>by induction hs with
 |nil=>exact .nil
 |cons h t Y=>exact .sh (.scl h) Y
|_,_,_,.sh h t=>.sh h (t.app hs)
|_,_,_,.bw h t=>.bw h (t.app hs)
theorem ArgsOk.get:∀{ms:List Md}{vs:List V}{ds:List D}{i:Nat}{d:D},ArgsOk K G H ms vs ds->ds[i]? = some d->∃v,vs[i]? = some v/\((ms[i]? = some .sh/\RG K G v d)\/(ms[i]? = some .bw/\RB K G H v d))
|_,_,_,_,_,.nil,e=>by simp at e
|_,_,_,0,_,.sh h t,e=>by simp at e;subst e;exact⟨_,rfl,.inl ⟨rfl,h⟩⟩
|_,_,_,0,_,.bw h t,e=>by simp at e;subst e;exact⟨_,rfl,.inr ⟨rfl,h⟩⟩
|_,_,_,i+1,d,.sh h t,e=>by obtain⟨v,Y,U⟩:=t.get (i:=i) (d:=d) (by simpa using e);exact⟨v,by simpa using Y,by simpa using U⟩
|_,_,_,i+1,d,.bw h t,e=>by obtain⟨v,Y,U⟩:=t.get (i:=i) (d:=d) (by simpa using e);exact⟨v,by simpa using Y,by simpa using U⟩
noncomputable def nQ(K:W.Frag)(ro:Bool)(ms:List Md)(F:List D->Res D):Sp:=fun vs H Q _=>∃G ds,bZ K G H/\ArgsOk K G H ms vs ds/\fin (F ds) (fun d=>∀v G' H',Grow K G H G' H'->RV ro K H G' H' v d->Q v H') fun _=>False
noncomputable def bV(ro:Bool):Out->Res D
|.nx _=>if ro=true then .stuck else .ok .non
|.rt d=>.ok d
|.exc x _=>.exc x
|_=>.stuck
noncomputable def cH(n:Nat)(ds:List D):aJ:=ds.map some++p_ (n-ds.length) none
noncomputable def gw(n:Nat)(ms:List Md):List Md:=ms++p_ (n-ms.length) .sh
variable{w:M_}
section
variable{P:z_}{mg:Str->Option a_}{base:Heap}
theorem r6(l:bZ X.K G H)(rs:ArgsOk X.K G H ms vs ds)(r:ms.length<=N.length):SI X ⟨G,H,fun _=>none⟩ (gw N.length ms) (cH N.length ds) G (L2.bM N vs) H:=by
 obtain⟨q,p⟩:=rs.len;have c:(L2.bM N vs).length=N.length:=by unfold L2.bM;rw[XB,i_,YG];omega
 have n:(cH N.length ds).length=N.length:=by unfold cH;rw[XB,i_,YG];omega
 have m:(gw N.length ms).length=N.length:=by unfold gw;rw[XB,YG];omega
 have Z:∀(i:Nat) d,(cH N.length ds)[i]? = some (some d)->i<ms.length/\(gw N.length ms)[i]? = ms[i]?/\∃v,(L2.bM N vs)[i]? = some (some v)/\((ms[i]? = some .sh/\RG X.K G v d)\/(ms[i]? = some .bw/\RB X.K G H v d)):=fun i d h=>by
  unfold cH at h;by_cases b:i<ds.length
  .rw[J_ (by simpa using b),H_]at h;have k:ds[i]? = some d:=by cases z:ds[i]? with
   |none=>rw[z]at h;cases h
   |some s=>rw[z]at h;cases h;rfl
   obtain⟨v,g,f⟩:=rs.get k;refine⟨`o,?_,v,?_,f⟩
   .unfold gw;rw[J_ `o]
   .unfold L2.bM;rw[J_ (by rw[i_];omega),H_,g];rfl
  .rw[XQ (by simpa using b),Ya]at h;split at h <;> cases h
 refine⟨l,fun _ _ e=>e,fun _ _ e=>e,fun _ _=>rfl,by rw[m,c],by rw[c,n],fun i d h Y=>?_,fun i d h Y=>?_,fun i d h Y=>?_,fun i j a d e _ h _ Y=>?_,fun i o h=>nomatch h⟩
 .obtain⟨_,hq,v,h1,h2⟩:=Z i d h;rw[hq]at Y;rcases h2 with⟨_,h2⟩|⟨U,h2⟩
  .exact⟨v,h1,h2⟩
  .rw[Y]at U;cases U
 .obtain⟨_,hq,v,h1,h2⟩:=Z i d h;rw[hq]at Y;rcases h2 with⟨U,h2⟩|⟨U,h2⟩ <;> rw[Y]at U <;> cases U
 .obtain⟨_,hq,v,h1,h2⟩:=Z i d h;rw[hq]at Y;rcases h2 with⟨U,h2⟩|⟨U,h2⟩
  .rw[Y]at U;cases U
  .refine⟨v,h1,?_⟩;rcases h2 with h2|⟨a,rfl,h2⟩
   .exact .inl h2
   .exact .inr ⟨a,rfl,h2,h2.ob.isS⟩
 .obtain⟨_,hq,v,h1,h2⟩:=Z i d h;rw[hq]at Y;rcases h2 with⟨U,h2⟩|⟨U,h2⟩ <;> rw[Y]at U <;> cases U
theorem Iq{fs:FS}(q:fin (bV ro (fs r)) (fun d=>∀v Y U,Grow X.K G H Y U->RV ro X.K H Y U v d->Q v U) fun _=>False):dA X ⟨G,H,fun _=>none⟩ ro m' [] G { nx:=fun _ U=>Q .non U,rt:=Q } (fs r):=by cases e:fs r with
|nx Z=>rw[e]at q;cases ro with
 |false=>exact fun a Y U _ c=>q .non Y U c.grown (.scl .non)
 |true=>exact q.elim
|rt d=>rw[e]at q;exact fun v Y U b f=>q v Y U b f
|bk Z=>rw[e]at q;exact q.elim
|ct Z=>rw[e]at q;exact q.elim
|exc x Z=>rw[e]at q;exact q.elim
|stuck=>rw[e]at q;exact q
theorem EU{x a:Str}{st:Stmt}{f:Addr}{N c:List Str}{m':List Md}(F:Fun K x a st f i)(S:FnScope N c (aA st))(Y:ms.length=c.length)(U:∀(b:a_)(A:N_)(Z:List Env)(s:d_)(H:Hp)(g:GE)(E:XK),Room k (A.deeper (YK a (aA st) s.heap.objs.size f b)) ->fP (cR fA P w K mg base N a (aA st) f b A Z s H E).nox g ro [] (gw N.length ms) (aO st) fs m'):FnOk P w K mg base fA (k+1) f i c (nQ K ro ms fun ds=>bV ro (fs (cH N.length ds))):=by
 refine F.ok S (fun j H Q E k=>by obtain⟨G,ds,e,d,q⟩:=k;exact d.len.1.trans Y) fun b A Z s H j Q E l h=>?_;obtain⟨G,ds,e,d,q⟩:=h;have m:c.length<=N.length:=by have:=Q_g Zg S.pre;grind
 exact⟨_,(U b A Z s H _ E l).2,_,G,r6 e d `o,Iq q⟩
end
section
variable{k:Nat}{fa:Addr}{fd:X2}{ps:List Str}{F:List D->Res D}{dvs:List V}{ds:List a_}{dds:List D}{x:Str}{p:Pos}{ms:List Md}
noncomputable def nP(X:Cx)(g:GE)(m:List Md)(ms:List Md)(f:aJ->Res (List D)):TA:=fun σ H Q=>∃r G,SI X g m r G σ H/\fin (f r) (fun ds=>∀vs G' H',Grow X.K G H G' H'->ArgsOk X.K G' H' ms vs ds->Q vs H') (XW X σ G H)
def gL(X:Cx)(g:GE)(m:List Md)(es:List Expr)(ms:List Md)(f:aJ->Res (List D)):Prop:=PA X es (nP X g m ms f)
theorem aR:gL X g m [] [] aE:=PA.imp ky fun Y H Q z=>by obtain⟨r,G,U,k⟩:=z;exact k [] G H (Grow.refl U.gok) .nil
theorem aQ(i:SE X g m e f)(h:gL X g m es ms fl)(hs:!Sx X e es):gL X g m (e::es) (.sh::ms) (aI f fl):=by
 refine PA.imp (gR i h hs) fun o H Q y=>?_;obtain⟨r,G,Z,k⟩:=y;refine ⟨r,G,Z,bQ (cC k) fun d c v n s U b=>⟨r,n,Z.grow U,?_⟩⟩
 exact gX (cC c) U fun q z p l j Y a=>z _ l j (U.trans Y) (.sh (b.mono Y.ge) a)
theorem aF(i:SB X g m e f)(h:gL X g m es ms fl)(hs:!Sx X e es):gL X g m (e::es) (.bw::ms) (aI f fl):=by
 refine PA.imp (gR i h hs) fun o H Q y=>?_;obtain⟨r,G,Z,k⟩:=y;refine ⟨r,G,Z,bQ (cC k) fun d c v n s U b=>⟨r,n,Z.grow U,?_⟩⟩
 exact gX (cC c) U fun q z p l j Y a=>z _ l j (U.trans Y) (.bw (b.mono Y) a)
def cG(fl:aJ->Res (List D))(dds:List D)(F:List D->Res D):FE:=fun r=>(fl r).bind fun ds=>qA (F (ds++dds))
theorem IP(b:bZ X.K G H)(rs:ArgsOk X.K G H ms vs Z)(U:Paired Scl dvs dds)(q:fin (qA (F (Z++dds))) (fun d=>∀v a Y,Grow X.K G H a Y->RV ro X.K H a Y v d->Q v Y) fun _=>False):nQ X.K ro (ms++p_ dds.length .sh) F (vs++dvs) H Q E0:=by refine⟨G,_,b,rs.app U,?_⟩;cases e:F _ with
|ok d=>rw[e]at q;exact q
|exc x=>rw[e]at q;exact q.elim
|stuck=>rw[e]at q;exact q.elim
theorem Bc{r:Res U}{q:U->Prop}{x:D->Prop}(h:fin r q x)(Y:∀e,r≠.exc e):fin r q fun _=>False:=by cases r with
|ok a=>exact h
|exc e=>simp_all
|stuck=>exact h
theorem Fy(r:Res D)(e:D):qA r≠.exc e:=by cases r <;> simp[qA]
end
theorem PH:∀(l:List (Str×Zv))(U:List (Str×Addr)),(∀x∈l,x.2=.free->∃c,env.cells.lookup x.1=some c)->(∀x c,U.lookup x=some c->env.cells.lookup x=some c) ->∃Z,(forIn l U (fun(x:Str×Zv)(U:List (Str×Addr))=>if (x.2==NameKind.free)=true then(do let a <-cellOf env x.1;pure (ForInStep.yield ((x.1,a)::U)))else pure (ForInStep.yield U)):Sem (List (Str×Addr)))=pure Z /\(∀x c,Z.lookup x=some c->env.cells.lookup x=some c)/\(∀x,(x,NameKind.free)∈l->∃c,Z.lookup x=some c)/\(∀x c,U.lookup x=some c->∃b,Z.lookup x=some b):=by
 intro l
 induction l with
|nil=>intro U _ h;exact⟨U,rfl,h,fun x Y=>(by cases Y),fun x c h=>⟨c,h⟩⟩
|cons y l o=>
  intro U f p;obtain⟨n,k⟩:=y;by_cases e:k=.free
  .subst e;obtain⟨c,r⟩:=f (n,.free) g_ rfl;have t:cellOf env n=pure c:=by unfold cellOf;rw[r]
   have g:∀x b,((n,c)::U).lookup x=some b->env.cells.lookup x=some b:=fun x b h=>by rw[Yz]at h;cases q:x==n with
   |true=>rw[q]at h;cases h;rw[Y9 q];exact r
   |false=>rw[q]at h;exact p x b h
   obtain⟨Z,m,j,i,d⟩:=o ((n,c)::U) (fun x Y=>f x (h_ _ Y)) g;refine⟨Z,?_,j,fun x Y=>?_,fun x b h=>?_⟩
   .rw[<-m];rw[ZZ];show(cellOf env n >>= fun a=>pure (ForInStep.yield ((n,a)::U))) >>= _=_;rw[t];rfl
   .rcases s_.mp Y with z|z
    .cases z;exact d n c (by rw[Yz];simp)
    .exact i x z
   .cases q:x==n with
   |true=>exact d x c (by rw[Yz,q])
   |false=>exact d x b (by rw[Yz,q];exact h)
  .obtain⟨Z,m,j,i,d⟩:=o U (fun x Y=>f x (h_ _ Y)) p;have s:(k==NameKind.free)=false:=by simpa using e
   refine⟨Z,?_,j,fun x Y=>?_,d⟩
   .rw[<-m,ZZ];simp only[s,Ŏ,if_false];rfl
   .rcases s_.mp Y with z|z
    .cases z;exact Q_f rfl e
    .exact i x z
theorem Si(Z:∀x∈U.names,x.2=.free->∃c,env.cells.lookup x.1=some c):∃Y,ā U env=pure Y/\(∀x c,Y.lookup x=some c->env.cells.lookup x=some c)/\(∀x,(x,NameKind.free)∈U.names->∃c,Y.lookup x=some c):=by obtain⟨Y,e,b,a,_⟩:=PH U.names [] Z `a;refine⟨Y,?_,b,a⟩;have d:ā U env=((forIn U.names _ _) >>= fun f=>pure f):=rfl;rw[d,e];rfl
theorem LB{f:Str->Zv->Zv}:∀(l:List (Str×Zv))(x:Str),(l.map fun y=>(y.1,f y.1 y.2)).lookup x=(l.lookup x).map (f x)
|[],x=>rfl
|(n,k)::l,x=>by rw[R_,Yz,Yz];cases q:x==n with
 |true=>simp[Y9 q]
 |false=>exact LB l x
noncomputable def gC(env:Env)(n:Str)(k:Zv):Zv:=if (k==.free&&env.scope.kind==.function&&env.kindOf n==some .cell)=true then .cell else k
theorem LD(U:Ze)(env:Env)(x:Str):(ú U env).names.lookup x=(U.names.lookup x).map (gC env x):=by
 rw[<-LB];congr 1;apply YV;intro y _;obtain⟨n,k⟩:=y;show(if (k==NameKind.free&&env.scope.kind==.function&&env.kindOf n==some .cell)=true then(n,NameKind.cell)else(n,k))=(n,gC env n k)
 unfold gC;split <;> rfl
structure CompSc(X:Cx)(scope:Ze)(N':List Str)(nl:Nat)(cap:List Nat):Prop where
 kind:scope.kind=.function
 nocell:∀y∈scope.names,y.2≠.cell
 names:∀y∈scope.names,y.2=.local->scope.names.lookup y.1=some .local
 freeK:∀y∈scope.names,y.2=.free->X.env.kindOf y.1=some .cell\/X.env.kindOf y.1=some .free
 len:N'.length=nl+cap.length
 capN:∀j,j<cap.length->∃x,N'[nl+j]? = some x/\X.N[cap.getD j 0]? = some x/\scope.names.lookup x=some .free
noncomputable def eG(X:Cx)(s₀:d_)(H₀:Hp)(N':List Str)(scope:Ze)(cl:List (Str×Addr))(C:Addr)(fp:List Addr):Cx where
 prog:=X.prog
 w:=X.w
 K:=X.K
 mg:=X.mg
 base:=X.base
 A:=X.A
 N:=N'
 s₀:=s₀
 H₀:=H₀
 env:=ó scope cl C X.env
 outer:=X.stack
 stack:=X.stack
 ex:=fp
 fn:=fun _=>false
 calm:=X.calm
 pn:=[]
 xe:=fun _ _=>False
variable{pz:List (Addr×Obj)}{σ:L2.St}{s:d_}{scope:Ze}{N':List Str}{nl:Nat}{cap:List Nat}{cl:List (Str×Addr)}{C:Addr}{fp:List Addr}
theorem Vs(I:Inv X pz σ H s)(i:CompSc X scope N' nl cap)(g:∀x c,cl.lookup x=some c->X.env.cells.lookup x=some c)(t:∀x,(x,NameKind.free)∈scope.names->∃c,cl.lookup x=some c)(d:∀b∈fp,e8 X pz H b/\b<s.heap.objs.size)(l:s.heap.objs.size<=C):(eG X s H N' scope cl C fp).Ok where
 mod:=I.ok.mod
 kind:=i.kind
 glob:=I.ok.glob
 blt:=I.ok.blt
 above:=l
 inj:=fun x y c a b=>I.ok.inj x y c (g x c a) (g y c b)
 has:=fun x r=>by
  have Y:(scope.names.lookup x).map (gC X.env x)=some .cell\/(scope.names.lookup x).map (gC X.env x)=some .free:=by rw[<-LD];exact r
  cases e:scope.names.lookup x with
 |none=>simp_all
 |some k=>
   have j:=PySem.mem_of_lookup e;have p:k=.free:=by
    have U:gC X.env x k=.cell\/gC X.env x k=.free:=`a
    unfold gC at U;split at U
    .simp_all
    .rcases U with z|z
     .exact Q_f z (i.nocell _ j)
     .exact z
   subst p;exact t x j
 cab:=fun x c h=>by cases h
 hd:=I.ok.hd
 frames:=I.ok.frames
 stk:=.inl rfl
 exf:=fun b Z=>⟨I_ (y_ (d b Z).2 l),fun x c e=>(d b Z).1.2.2.2.2.1 x c (g x c e)⟩
 bs:=I.bs
 bsz:=S_ I.ok.bsz I.sz
 noex:=fun b o e Z=>by
  obtain⟨_,_,_,q,_⟩:=(d b Z).1;rcases q with z|z
  .exact I.ok.noex b o e z
  .exact Q_f (y_ (q_ e) (S_ I.ok.bsz z)) (X0 _)
 exfs:=fun b Z f=>by
  obtain⟨_,n,m,_⟩:=(d b Z).1;rcases s_.mp (I.stkSub b f)with z|z
  .exact n z
  .exact m z
 funs:=I.stack
 frf:=I.stkFree
def iq(ft:FT)(q:FQ)(fe:FE)(r0:aJ):List D->Res (List D)
|[]=>.ok []
|d::ds=>(eu (ft d r0)).bind fun r1=>(q r1).bind fun c=>if c=true then(fe r1).bind fun v=>(iq ft q fe r0 ds).bind fun vs=>.ok (v::vs)else iq ft q fe r0 ds
noncomputable def dI(nl:Nat)(cap:List Nat)(r:aJ):aJ:=p_ nl none++cap.map fun i=>r.getD i none
noncomputable def bX(nl:Nat)(cap:List Nat)(m:List Md):List Md:=p_ nl Md.sh++cap.map fun i=>if m.getD i Md.sh=Md.sh then Md.sh else Md.bw
noncomputable def gl(nl:Nat)(cap:List Nat)(st:L2.St):L2.St:=p_ nl none++cap.map fun i=>st.getD i none
theorem rW{U:Type}{u:U}{h:Nat->U}(hi:nl<=i):(p_ nl u++cap.map h)[i]? = (cap[i-nl]?).map h:=by rw[XQ (by simpa using hi),YG,H_]
theorem Vo(I:Inv X pz σ H s)(P:(eG X s H N' scope cl C fp).Ok)(y:CompSc X scope N' nl cap)(r:∀x c,cl.lookup x=some c->X.env.cells.lookup x=some c)(h2:∀x,(x,NameKind.free)∈scope.names->∃c,cl.lookup x=some c)(hN:X.N.Nodup){f:d_}{m:Hp}{G:Str->Option a_}(BT:f.os=s.os)(hb:ZT f.gens)(J:∀b o,s.heap.get? b=some o->f.heap.get? b=some o)(Cl:f.heap.Ns C G)(hC:s.heap.objs.size<=C)(Id:m C=none)(hH:∀b,H b=none->b<s.heap.objs.size->m b=none)(M:Un (dF X.stack) fp H m s.heap f.heap)(A:HOk X.prog X.w m f.heap):Inv (eG X s H N' scope cl C fp) [] (gl nl cap σ) m f:=by
 refine⟨P,BT,hb,M,⟨G,Cl,fun i x v e1 d e3=>?_⟩,fun x c e=>?_,Id,fun x c e=>?_,fun p T=>Q_f (show p∈([]:List (Addr×Obj))from T) `s,A,?_⟩
 .have hi:nl<=i:=by
   by_cases z:i<nl
   .unfold gl at d;rw[J_ (by simpa using z),Ya]at d;split at d <;> cases d
   .omega
  unfold gl at d;rw[rW hi]at d;cases t:cap[i-nl]? with
 |none=>rw[t]at d;cases d
 |some j=>
   rw[t]at d;have hj:i-nl<cap.length:=(e_.mp t).1;obtain⟨a,F,E,B⟩:=y.capN (i-nl) hj;have ed:cap.getD (i-nl) 0=j:=by rw[T_,t];rfl
   rw[ed]at E;have ei:nl+(i-nl)=i:=`o
   rw[ei]at F;have Y:N'[i]? = some x:=e1;rw[F]at Y;have ex:a=x:=Q_ Y;subst ex;have R:σ[j]? = some (some v):=by have z:σ.getD j none=some v:=Q_ d;rw[T_]at z;cases q:σ[j]? with
   |none=>rw[q]at z;cases z
   |some o=>rw[q]at z;rw[show o=some v from z]
   have U:=PySem.mem_of_lookup B;have K:=y.freeK _ U rfl;obtain⟨mx,IO,hl⟩:=I.loc;obtain⟨u,O,Q⟩:=hl j a v E R (.inr K);refine⟨u,O,.inr ?_⟩;obtain⟨c,L⟩:=h2 a U;have Z:Env.kindOf (eG X s H N' scope cl C fp).env a=some .cell\/Env.kindOf (eG X s H N' scope cl C fp).env a=some .free:=by
    have z:(ú scope X.env).names.lookup a=some (gC X.env a .free):=by rw[LD,B];rfl
    show(ú scope X.env).names.lookup a=_\/(ú scope X.env).names.lookup a=_;rw[z];unfold gC;split
    .exact .inl rfl
    .exact .inr rfl
   refine⟨Z,c,L,?_⟩;rcases Q with⟨k,_⟩|⟨_,c',l,g⟩
   .rcases K with z|z <;> rw[k]at z <;> cases z
   .rw[r a c L]at l;cases l;obtain⟨o,h,n⟩:=g;exact⟨o,J c o h,n⟩
 .obtain⟨v,o,h,n⟩:=I.cell x c (r x c e);exact⟨v,o,J c o h,n⟩
 .obtain⟨v,o,h,n⟩:=I.cell x c (r x c e);exact hH c (I.freeC x c (r x c e)) (q_ h)
 .show(gl nl cap σ).length=N'.length;rw[y.len];simp[gl]
section
variable{prog:z_}{A:N_}{R:Result->d_->Prop}
theorem OU{j Z g:Expr}{p:Pos}(I:Nat->d_->Prop)(f:∀n s,I n s->C_ (F_ prog w) A (pyNext it) (fun r o=>match r with
  |none=>R (.ok .next) o
  |some v=>C_ (F_ prog w) A (Ô Z it v) (fun _ U=>C_ (F_ prog w) A (å Z env v) (fun _ u=>
     C_ (F_ prog w) A (forIn i true fun c r=>if r=true then do let ok <-isTrue c env (eval c env);pure (ForInStep.yield ok)else pure (ForInStep.yield r)) (fun ok l=>
      if ok=true then C_ (F_ prog w) A (eval j env) (fun x t=>C_ (F_ prog w) A (call (.builtin "list.append") [k,x]) (fun _ q=>∃m,m<n/\I m q) (Z5 (F_ prog w) A env fun e a=>R (.error e) a) t) (Z5 (F_ prog w) A env fun e a=>R (.error e) a) l
      else ∃m,m<n/\I m l) (Z5 (F_ prog w) A env fun e a=>R (.error e) a) u) (Z5 (F_ prog w) A env fun e a=>R (.error e) a) U)
     (Z5 (F_ prog w) A env fun e a=>R (.error e) a) o) (Z5 (F_ prog w) A env fun e a=>R (.error e) a) s)(n:Nat)(h:I n s):ç (F_ prog w) A (.compLoop (.ListComp j [⟨Z,g,i,0⟩] d p) 0 it k env) R s:=by refine codeAny_loop rfl I (fun n s B=>?_) n h;refine wpAny_noted ?_;refine b_ (ý (b_ (X_ (f n s B) (fun r o z=>?_) fun _ _ b=>b)));cases r with
|none=>exact r_ z
|some v=>refine b_ (X_ z (fun _ U Y=>?_) fun _ _ b=>b);refine b_ (X_ Y (fun _ u F=>b_ (X_ F (fun ok l y=>?_) fun _ _ b=>b)) fun _ _ b=>b);cases ok with
 |false=>exact r_ ⟨rfl,y⟩
 |true=>exact b_ (b_ (X_ y (fun x t E=>b_ (X_ E (fun _ q C=>r_ (r_ ⟨rfl,C⟩)) fun _ _ b=>b)) fun _ _ b=>b))
end
def lN(X:Cx)(g:GE)(m:List Md)(ifs:List Expr)(f:FQ):Prop:=∀(pz:List (Addr×Obj))(s:d_)(σ:L2.St)(H:Hp)(Q:Bool->Hp->Prop),Inv X pz σ H s->tQ X g m f σ H Q ->C_ (F_ X.prog X.w) X.A (forIn ifs true fun c r=>if r=true then do let ok <-isTrue c X.env (eval c X.env);pure (ForInStep.yield ok)else pure (ForInStep.yield r)) (TP X pz σ Q) X.xe s
theorem rB:lN X g m [] fun _=>.ok true:=fun Z s Y H Q I k=>by obtain⟨r,G,U,q⟩:=k;exact wpAny_tests_nil ⟨H,I,q G H (Grow.refl U.gok)⟩
theorem nz(h:SQ X g m c p):lN X g m [c] p:=fun Y s U H Q I q=>wpAny_tests_one (h Y s U H Q I q)
def ji(ft:FT)(nl:Nat):Prop:=∀d r r1,ft d r=some r1->r1.length=r.length/\∀i,nl<=i->r1[i]? = r[i]?
def vB(ft:lO)(nl:Nat):Prop:=∀d r r1,ft d r=some r1->r1.length=r.length/\∀i,nl<=i->r1[i]? = r[i]?
theorem oq(h:i<nl):ji (bD i) nl:=fun d r U e=>by
 cases e
 grind
theorem HR:vB gz nl:=fun U r Y e=>by cases U with
|nil=>cases e;exact⟨rfl,fun _ _=>rfl⟩
|cons _ _=>cases e
theorem w9(g:ji ft nl)(f:vB U nl):vB (dg ft U) nl:=fun Y r a e=>by cases Y with
|nil=>cases e
|cons d Y=>have b:((ft d r).bind fun c=>U Y c)=some a:=e;cases q:ft d r with
 |none=>simp_all
 |some Z=>rw[q]at b;obtain⟨k,j⟩:=g d r Z q;obtain⟨i,h⟩:=f Y Z a b;simp_all
theorem EW(h:vB U nl):ji (gI U) nl:=fun d r Z e=>by cases d with
|tup Y=>exact h Y r Z e
|lst Y=>exact h Y r Z e
|_=>cases e
variable{elt:Expr}{ifs:List Expr}{fe:FE}
section
variable{s2:d_}{tg:Expr}{J:It}{it:Addr}{tn:Nat->Heap->Prop}{ds vs:List D}{E:a_->d_->Prop}
theorem OR(i:Nat):(bX nl cap m)[i]?≠some Md.ow:=fun h=>by
 by_cases Y:i<nl
 .unfold bX at h;rw[J_ (by simpa using Y),Ya]at h;split at h <;> cases h
 .unfold bX at h;rw[rW `o]at h;cases e:cap[i-nl]? with
 |none=>rw[e]at h;cases h
 |some j=>rw[e]at h;have U:(if m.getD j Md.sh=Md.sh then Md.sh else Md.bw)=Md.ow:=Q_ h;split at U <;> cases U
theorem SI.wish{st:L2.St}(s:SI X g m r G st H):SI (X.wish E) g m r G st H:=⟨s.gok,s.old,s.ge,s.gf,s.lm,s.lr,s.sh,s.ow,s.bw,s.dis,s.lk⟩
theorem SI.unwish{st:L2.St}(s:SI (X.wish E) g m r G st H):SI X g m r G st H:=⟨s.gok,s.old,s.ge,s.gf,s.lm,s.lr,s.sh,s.ow,s.bw,s.dis,s.lk⟩
noncomputable def De(El:W.Frag->GH->Hp->GH->Hp->V->D->Prop)(xp:Bool)(X:Cx)(g:GE)(m:List Md)(f:FE):TE:=fun σ H Q=>∃r G,SI X g m r G σ H/\fin (f r) (fun d=>∀v G' H',Grow X.K G H G' H'->El X.K G H G' H' v d->Q v H') fun x=>xp=true/\XW X σ G H x
theorem HL(j:X.xe=fun _ _=>False)(h:PE X e fun σ H Q=>∃r G,SI X g m r G σ H/\fin (f r) (fun d=>∀v Y U,Grow X.K G H Y U->El X.K G H Y U v d->Q v U) (XW X σ G H))(E:a_->d_->Prop):PE (X.wish E) e (De El false (X.wish E) g m f):=by
 intro a s σ H Q I ⟨r,G,Z,q⟩;refine X_ (h a s σ H Q I.unwish ⟨r,G,Z.unwish,?_⟩) (fun u i k=>by obtain⟨v,c,b,z⟩:=k;exact ⟨v,c,b.wish E,z⟩) fun _ _ z=>by grind
 cases e:f r with
|ok d=>rw[e]at q;exact q
|exc x=>rw[e]at q;exact Q_f q.1 w_
|stuck=>rw[e]at q;exact q
theorem Px{a:List U}{b:U}{c:Res (List U)}:((c.bind fun vs=>.ok (b::vs)).bind fun rest=>.ok (a++rest))=c.bind fun rest=>.ok (a++[b]++rest):=by cases c <;> simp[Res.bind]
theorem Bs{Rl:Addr->GH->Hp->List V->List D->Prop}(R0:∀p G H,Rl p G H [] [])(Rg:∀{p G H I k ws ds},Rl p G H ws ds->Grow X.K G H I k->Rl p I k ws ds)(Rn:∀{p G H ws ds},Rl p G H ws ds->ws.length=ds.length)(Ra:∀{p G H I k ws ds v d},Rl p G H ws ds->Grow X.K G H I k->Grow X.K G2 H2 G H->H p=some (.lst ws)->El X.K G H I k v d->Rl p I (aY k p (.lst (ws++[v]))) (ws++[v]) (ds++[d]))(hN:X.N.Nodup)(WI:X.calm=true)(sc:CompSc X scope N' nl cap)(h1:∀x c,cl.lookup x=some c->X.env.cells.lookup x=some c)(h2:∀x,(x,NameKind.free)∈scope.names->∃c,cl.lookup x=some c)(I2:Inv X pz σ H2 s2)(si:SI X g m r G2 σ H2)(T:Turn X.prog X.w X.K tg J fp it tn)(st:tn 0 s2.heap)(hf:∀b∈fp,e8 X pz H2 b)(Y:YieldsC X.K J ds G2 H2)(hsz:ds.length<=sizeLine)(hg:∀C,SG (eG X s2 H2 N' scope cl C fp) ⟨G2,H2,fun _=>none⟩ (bX nl cap m) tg ft (bX nl cap m))(W3:ji ft nl)(hq:∀C,lN (eG X s2 H2 N' scope cl C fp) ⟨G2,H2,fun _=>none⟩ (bX nl cap m) ifs q)(he:∀C E,PE ((eG X s2 H2 N' scope cl C fp).wish E) elt (De El xp ((eG X s2 H2 N' scope cl C fp).wish E) ⟨G2,H2,fun _=>none⟩ (bX nl cap m) fe))(W1:iq ft q fe (dI nl cap r) ds=BT)(WB:BT≠.stuck)(WN:(∃vs,BT=.ok vs)\/(xp=true/\∀r e,q r≠.exc e)){RR:a_->Addr->Result->d_->Prop}(hX:xp=true->∀x,BT=.exc x->∀(p C:Addr)(s1:d_)(H1:Hp),Inv X pz σ H1 s1->(∃mm,s1.heap.Ns C mm)->H1 C=none->C≠X.env.locals->X.s₀.heap.objs.size<=C->(∀x c,X.env.cells.lookup x=some c->c≠C)->(∀z∈X.pn++pz,z.1≠C) ->∀(a T:Addr)(od:Option Addr)(nm:Str)(fs:List (Str×D))(I:GH)(k:Hp)(B:d_),x=xD nm fs->XN X.K nm T->XF I od fs->Grow X.K G2 H2 I k->Fly X.prog X.w X.stack H1 s1 k a (.ref T) od B->Z5 (F_ X.prog X.w) X.A (ó scope cl C X.env) (fun e B=>RR (.ref p) C (.error e) B) (.ref a) B)(Xe:∀vs,BT=.ok vs->∀(p C:Addr)(B:d_)(k:Hp)(I:GH),Inv X pz σ k B->(∃mm,B.heap.Ns C mm)->k C=none->C≠X.env.locals->X.s₀.heap.objs.size<=C->(∀x c,X.env.cells.lookup x=some c->c≠C)->(∀z∈X.pn++pz,z.1≠C) ->Grow X.K G2 H2 I k->H2 p=none->(∃ws,k p=some (.lst ws)/\I p=none/\Rl p I k ws vs)->RR (.ref p) C (.ok .next) B):C_ (F_ X.prog X.w) X.A (newList []) (fun acc s3=>C_ (F_ X.prog X.w) X.A (newFunctionEnv scope X.env.globals cl [] X.env.qual none .none (some X.env)) (fun WF s4=>ç (F_ X.prog X.w) X.A (.compStart (.ListComp elt [⟨tg,iter,ifs,0⟩] scope pos) 0 (.ref it) acc { WF with scope:=ú scope X.env }) (RR acc WF.locals) s4) E s3) E s2:=by
 refine ZL (wpAny_newFunctionEnv sc.nocell (by intro y hy;simp at hy) (fun WW WH Wm=>?_) sc.kind);generalize WC:s2.heap.push { cls:=.type "list",dict:=none,data:=.seq ([]).toArray }=HH at WH Wm ⊢;have hC:HH.objs.size=s2.heap.objs.size+1:=by rw[<-WC,XV]
 have WP:s2.heap.objs.size≠HH.objs.size:=by rw[hC];exact I_ (Yj _)
 have Z:s2.heap.objs.size<=HH.objs.size:=by rw[hC];exact É _
 have Cl:∀b,b<s2.heap.objs.size->b≠HH.objs.size/\b≠s2.heap.objs.size:=fun b s=>⟨by rw[hC];exact I_ (Yh s),I_ s⟩
 have old:=fun b o e=>Wm.extBut b o (Cl b (q_ e)).1 (c_ _ (WC▸c_ _ e));have WZ:=Wm.extBut _ _ WP (c_ _ (WC▸n_ _ rfl));have IO:=I2.hok.fresh (l_ _);have Wo:∀b∈fp,e8 X pz H2 b/\b<s2.heap.objs.size:=fun b s=>⟨hf b s,by obtain⟨o,e,_⟩:=T.obj 0 s2.heap st b s;exact q_ e⟩
 have ok:=Vs I2 sc h1 h2 Wo Z;generalize U:eG X s2 H2 N' scope cl HH.objs.size fp=l at ok;have W0:=si.gok.isN IO;have w0:Grow X.K G2 H2 G2 (aY H2 s2.heap.objs.size (.lst [])):=Grow.new si.gok IO _;have WX:HOk X.prog X.w (aY H2 s2.heap.objs.size (.lst [])) WW:=I2.hok.laid old (l_ _) ⟨XY _,[],0,.nil,WZ⟩;have IC:Inv l [] (gl nl cap σ) (aY H2 s2.heap.objs.size (.lst [])) { s2 with heap:=WW,toks:=s2.toks+([]:List (Str×a_)).length }:=by
  subst U;refine Vo I2 ok sc h1 h2 hN rfl I2.bare old WH Z ?_ (fun b s R=>?_) (Un.laid old (l_ _) IO) WX
  .rw[cE (YF WP)];exact I2.hok.fresh Z
  .rw[cE (Cl b R).2];exact s
 have SC:SI l ⟨G2,H2,fun _=>none⟩ (bX nl cap m) (dI nl cap r) G2 (gl nl cap σ) (aY H2 s2.heap.objs.size (.lst [])):=by
  subst U;have WV:(bX nl cap m).length=nl+cap.length:=by simp[bX]
  have WJ:(dI nl cap r).length=nl+cap.length:=by simp[dI]
  have Wt:(gl nl cap σ).length=nl+cap.length:=by simp[gl]
  have LE:∀(i:Nat) d,(dI nl cap r)[i]? = some (some d)->nl<=i/\∃j,cap[i-nl]? = some j/\r[j]? = some (some d):=fun i d h=>by
   by_cases M:i<nl
   .unfold dI at h;rw[J_ (by simpa using M),Ya]at h;split at h <;> cases h
   .refine⟨`o,?_⟩;unfold dI at h;rw[rW `o]at h;cases e:cap[i-nl]? with
   |none=>rw[e]at h;cases h
   |some j=>rw[e]at h;refine⟨j,rfl,?_⟩;have h':r.getD j none=some d:=Q_ h;rw[T_]at h';cases e2:r[j]? with
    |none=>rw[e2]at h';cases h'
    |some o=>rw[e2]at h';rw[show o=some d from h']
  have KK:∀(i j:Nat) md,nl<=i->cap[i-nl]? = some j->(bX nl cap m)[i]? = some md->md=if m.getD j Md.sh=Md.sh then Md.sh else Md.bw:=fun i j md M O h=>by unfold bX at h;rw[rW M,O]at h;exact(Q_ h).symm
  have Wn:∀(i j:Nat) v,nl<=i->cap[i-nl]? = some j->σ[j]? = some (some v)->(gl nl cap σ)[i]? = some (some v):=fun i j v M O h=>by unfold gl;rw[rW M,O];show some (σ.getD j none)=_;rw[T_,h];rfl
  have mj:∀(j:Nat) d,r[j]? = some (some d)->m[j]? = some (m.getD j Md.sh):=fun j d h=>by
   have hl:j<m.length:=by have:=(e_.mp h).1;rw[si.lr,<-si.lm]at this;exact this
   rw[T_,m_ hl];rfl
  refine⟨w0.ok,w0.he,w0.ge,w0.gf,by rw[WV,Wt],by rw[WJ,Wt],fun i d h hm=>?_,fun i d h hm=>?_,fun i d h hm=>?_,fun i j a d e _ h _ hm=>?_,fun i o h=>nomatch h⟩
  .obtain⟨M,j,O,hr⟩:=LE i d h;have e:=KK i j _ M O hm;have Wy:m.getD j Md.sh=Md.sh:=by
    by_cases z:m.getD j Md.sh=Md.sh
    .exact z
    .rw[Q_e z]at e;cases e
   obtain⟨v,h1,h2⟩:=si.sh j d hr (by rw[mj j d hr,Wy]);exact⟨v,Wn i j v M O h1,h2.mono w0.ge⟩
  .obtain⟨M,j,O,hr⟩:=LE i d h;have e:=KK i j _ M O hm;split at e <;> cases e
  .obtain⟨M,j,O,hr⟩:=LE i d h;have e:=KK i j _ M O hm;have Wy:m.getD j Md.sh≠Md.sh:=by intro z;rw[Q_d z]at e;cases e
   have Wp:=mj j d hr;cases q:m.getD j Md.sh with
  |sh=>exact Q_f q Wy
  |ow=>rw[q]at Wp;obtain⟨a,h1,h2,_⟩:=si.ow j d hr Wp;exact⟨_,Wn i j _ M O h1,.inr ⟨a,rfl,h2.mono w0,h2.ob.isS⟩⟩
  |bw=>
    rw[q]at Wp;obtain⟨v,h1,h2⟩:=si.bw j d hr Wp;refine⟨v,Wn i j _ M O h1,?_⟩;rcases h2 with h2|⟨a,rfl,h2,_⟩
    .exact .inl (h2.mono w0.ge)
    .exact .inr ⟨a,rfl,h2.mono w0,h2.ob.isS⟩
  .obtain⟨M,j',O,hr⟩:=LE i d h;have e:=KK i j' _ M O hm;split at e <;> cases e
 have WE:=T.keep _ _ _ st fun b _ o e=>old b o e;have WG:∀(k:Hp),(∀b∈fp,k b=none)->∀b∈fp,e8 l [] k b:=fun k hn b s=>by
  subst U;obtain⟨z0,z1,z2,z3,z4,z5⟩:=hf b s;refine⟨hn b s,?_,?_,?_,?_,?_⟩
  .exact(Cl b (Wo b s).2).1
  .intro hfs;rcases s_.mp (I2.stkSub b hfs)with z|z
   .exact z1 z
   .exact z2 z
  .exact .inl s
  .exact fun x c e=>z4 x c (h1 x c e)
  .intro p hp;exact Q_f (show p∈([])from hp) `s
 have eA:l.A=X.A:=Eq.rec rfl U;have eP:l.prog=X.prog:=Eq.rec rfl U;have eW:l.w=X.w:=Eq.rec rfl U;have eK:l.K=X.K:=Eq.rec rfl U;have eX:l.xe=fun _ _=>False:=Eq.rec rfl U;have eE:l.env=ó scope cl HH.objs.size X.env:=Eq.rec rfl U;have eC:l.calm=true:=Eq.rec WI U;have eH:l.H₀=H2:=Eq.rec rfl U;have Xd:PG l tg (tG l _ _ _ ft):=Eq.rec (hg _).2 U;have hq':lN l _ _ ifs q:=Eq.rec (hq _) U;have WO:∀E,PE (l.wish E) elt (De El xp (l.wish E) _ _ fe):=Eq.rec (he _) U;have eS:l.stack=X.stack:=Eq.rec rfl U;have WT:∀{P:List _}{k:Hp}{B:d_}{σ':L2.St},Inv l P σ' k B->Inv X pz σ k B/\(∃mm,B.heap.Ns HH.objs.size mm)/\k HH.objs.size=none/\HH.objs.size≠X.env.locals/\X.s₀.heap.objs.size<=HH.objs.size/\(∀x c,X.env.cells.lookup x=some c->c≠HH.objs.size)/\∀z∈X.pn++pz,z.1≠HH.objs.size:=fun{P k B σ'} J1=>by
  subst U;have un:=J1.base;refine⟨?_,(let⟨mm,hn,_⟩:=J1.loc;⟨mm,hn⟩),J1.free,(Yf (y_ I2.lt Z)),(S_ I2.sz Z),(fun x c e z=>?_),(fun z hz e=>?_)⟩
  .refine I2.call' J1.os un J1.hok J1.bare fun b s=>?_;obtain⟨z0,z1,z2,z3,z4,z5⟩:=hf b s;exact⟨z3,z1,z4,z5⟩
  .obtain⟨v,o,ho,_⟩:=I2.cell x c e;exact Q_f (y_ (q_ ho) Z) (by rw[z];exact X0 _)
  .have:=(I2.pin z hz).1;exact Q_f (y_ (q_ this) Z) (by rw[e];exact X0 _)
 have Wz:ç (F_ X.prog X.w) X.A (.compLoop (.ListComp elt [⟨tg,iter,ifs,0⟩] scope pos) 0 (.ref it) (.ref s2.heap.objs.size) (ó scope cl HH.objs.size X.env)) (RR (.ref s2.heap.objs.size) HH.objs.size)
   { s2 with heap:=WW,toks:=s2.toks+([]:List (Str×a_)).length }:=by
  refine OU (fun n B=>∃(i:Nat)(σ':L2.St)(k:Hp)(I:GH)(ws:List V)(F:List D),Inv l [] σ' k B/\SI l _ _ _ I σ' k/\tn i B.heap/\(∀b∈fp,k b=none)/\Grow X.K G2 H2 I k /\k s2.heap.objs.size=some (.lst ws)/\I s2.heap.objs.size=none/\Rl s2.heap.objs.size I k ws F/\BT=((iq ft q fe _ (ds.drop i)).bind fun rest=>.ok (F++rest))/\F.length<=i/\i<=ds.length/\n=ds.length-i) ?_ ds.length
   ⟨0,_,_,G2,[],[],IC,SC,WE,fun b s=>?_,w0,cS,W0,R0 _ _ _,by rw[Ç,W1];cases BT <;> rfl,l_ _,XY _,rfl⟩
  rotate_left
  .rw[cE (Cl b (Wo b s).2).2];exact(hf b s).1
  rintro n s3 ⟨i,σ3,H3,G3,ws,F,I3,S3,st3,fr3,w3,hp3,hg3,rs3,f,hd3,hi3,rfl⟩
  have Id:∀{α:Type}{t:Sem α}{Q:α->d_->Prop}{B:d_}{E':a_->d_->Prop},C_ (F_ l.prog l.w) l.A t Q l.xe B->C_ _ X.A t Q E' B:=fun h=>by rw[eP,eW,eA,eX]at h;exact X_ h (fun _ _ z=>z) fun _ _ z=>z.elim
  by_cases R:i<ds.length
  .have hd:=X3 R;rw[hd]at f;unfold iq at f;have WM:=T.item l eP eW eK eC i [] s3 σ3 H3 (Z5 (F_ X.prog X.w) X.A (ó scope cl HH.objs.size X.env) fun e B=>RR (.ref s2.heap.objs.size) HH.objs.size (.error e) B) I3 (WG H3 fr3) st3 (Y.go G3 H3 i w3 R);rw[eA]at WM;refine bK WM fun rr s4 g=>?_;obtain⟨u,hr,h4⟩:=g;subst hr;refine bK h4 fun _ s5 W=>?_;obtain⟨x,H5,I5,r5,y5,st5,fr5⟩:=W;obtain⟨G5,w5,W2⟩:=Y.yld G3 H3 i x H5 ds[i] w3 y5 (m_ R);have Xf:=w3.trans w5;cases Wu:ft ds[i] _ with
  |none=>rw[Wu]at f;exact Q_f f WB
  |some r1=>
    rw[Wu]at f;simp  at f;have Xb:=I5.pinned (WG H5 fr5) (T.obj _ _ st5);have S5:=S3.grow (by rw[eK];exact w5);have WY:RG l.K G5 x ds[i]:=by rw[eK];exact W2
    have WL:=Xd _ s5 σ3 H5 x u (fun L H6=>H6=H5/\SI l _ _ r1 G5 L H5) Xb r5 ⟨_,G5,ds[i],S5,WY,r1,Wu,fun L W7=>⟨rfl,W7⟩⟩;rw[eE]at WL;refine bK (Id WL) fun _ s6 J=>?_;obtain⟨L,H6,I6,e6,S6⟩:=J;subst e6;obtain⟨Xa,fl2⟩:=W3 _ _ _ Wu;cases LT:q r1 with
   |stuck=>rw[LT]at f;exact Q_f f WB
   |exc xx=>
     rw[LT]at f;rcases WN with⟨vs,z⟩|z
     .rw[z]at f;cases f
     .exact Q_f LT (z.2 r1 xx)
   |ok b1=>
     rw[LT]at f;simp  at f;have WQ:=hq' _ s6 L H6 (fun b H7=>b=b1/\∃G7,Grow X.K G5 H6 G7 H7) I6 ⟨r1,G5,S6,by rw[LT];exact fun G7 H7 w7=>⟨rfl,G7,by rw[eK]at w7;exact w7⟩⟩;rw[eE]at WQ;refine bK (Id WQ) fun b s7 N=>?_;obtain⟨H7,I7,eb,G7,w7⟩:=N;subst eb;have S7:=S6.grow (by rw[eK];exact w7);have Wq:=Xf.trans w7;have Wv:=w7.he _ _ (w5.he _ _ hp3);have WR:G7 s2.heap.objs.size=none:=by rw[w7.gf _ (by rw[w5.he _ _ hp3];simp),w5.gf _ (by rw[hp3];simp)];exact hg3
     have back:∀{Ww:L2.St}{H8:Hp}{G8:GH}{s8:d_},Inv l _ Ww H8 s8->Inv l [] Ww H8 s8/\tn _ s8.heap/\∀b∈fp,H8 b=none:=fun{Ww H8 G8 s8} I8=>by refine⟨I8.unpinned,T.keep _ _ _ st5 fun b s o e=>(I8.pin _ (XM _ (XM _ (xq s e)))).1,fun b s=>?_⟩;obtain⟨o,e,_⟩:=T.obj _ _ st5 b s;exact(I8.pin _ (XM _ (XM _ (xq s e)))).2.1
     have less:∀{Ww:L2.St}{H8:Hp}{G8:GH},SI l _ _ r1 G8 Ww H8->SI l ⟨G2,H2,fun _=>none⟩ (bX nl cap m) _ G8 Ww H8:=fun h=>h.less Xa.symm fun j d O=>by
      by_cases W8:j<nl
      .exact Q_f O ((fun M d=>fun h=>by unfold dI at h;rw[J_ (by simpa using M),Ya]at h;split at h <;> cases h) W8 d)
      .rw[fl2 j `o];exact O
     cases b with
    |false=>obtain⟨W6,t7,f7⟩:=back (G8:=G7) I7;exact⟨_,`o,i+1,L,H7,G7,ws,F,W6,less S7,t7,f7,Wq,Wv,WR,Rg rs3 (w5.trans w7),f,`o,R,rfl⟩
    |true=>rw[Q_d rfl]at f ⊢;cases Tm:fe r1 with
     |stuck=>rw[Tm]at f;exact Q_f f WB
     |exc xx=>
       rw[Tm]at f;have ST:=f;rcases WN with⟨vs,z⟩|z
       .rw[z]at ST;cases ST
       have Wx:=WO (Z5 (F_ X.prog X.w) X.A (ó scope cl HH.objs.size X.env) fun e B=>RR (.ref s2.heap.objs.size) HH.objs.size (.error e) B) _ s7 L H7 (fun _ _=>False) (I7.wish _) ⟨r1,G7,S7.wish,by rw[Tm];refine⟨z.1,fun P e B I k w' _ C=>?_⟩;obtain⟨pins1,s1,H1,a,T,od,nm,fs,ee,ex,xn,xf,I1,fl⟩:=C;subst ee;obtain⟨t1,t2,t3,t4,t5,t6,t7⟩:=WT I1.unwish;have WK:=fl;have WU:=w';have xn':=xn;rw[eP,eW,eS]at WK;rw[eK]at WU xn';exact hX z.1 xx ST _ _ s1 H1 t1 t2 t3 t4 t5 t6 t7 a T od nm fs I k B ex xn' xf (Wq.trans WU) WK⟩;have Ty:=Wx;rw[eP,eW,eA,eE]at Ty;exact X_ Ty (fun _ _ G=>by obtain⟨_,_,_,_,z⟩:=G;exact z.elim) fun _ _ z=>z
     |ok d1=>
       rw[Tm]at f;simp  at f;rw[Px]at f
       .have Wx:=WO (fun _ _=>False) _ s7 L H7 (fun v H8=>∃G8,Grow X.K G7 H7 G8 H8/\El X.K G7 H7 G8 H8 v d1) (I7.wish _) ⟨r1,G7,S7.wish,by rw[Tm];exact fun v G8 H8 w8 rv=>⟨G8,by rw[eK]at w8;exact w8,by rw[eK]at rv;exact rv⟩⟩;have Ty:=Wx;rw[eP,eW,eA,eE]at Ty;refine X_ Ty (fun u8 s8 H=>?_) fun _ _ z=>z.elim;obtain⟨v8,H8,I8,r8,G8,w8,rv8⟩:=H;replace I8:=I8.unwish;have W9:=w8.he _ _ Wv;have WA:G8 s2.heap.objs.size=none:=by rw[w8.gf _ (by rw[Wv];simp)];exact WR
        have S8:=S7.grow (by rw[eK];exact w8);have hlen:=Rn rs3;have Xc:=xg _ s8 L H8 (.ref s2.heap.objs.size) [v8] _ [u8] (fun v H9=>H9=aY H8 s2.heap.objs.size _) I8 rfl (.cons r8 .nil) ⟨_,ws,v8,rfl,rfl,W9,`o,rfl⟩;refine bK (Id Xc) fun u9 s9 S=>?_;obtain⟨v9,H9,I9,r9,e9⟩:=S;subst e9;obtain⟨W5,t9,f9⟩:=back (G8:=G8) I9;have W4:=Ra (Rg rs3 (w5.trans w7)) w8 Wq Wv rv8;have Ws:=Wq.trans w8;refine⟨_,`o,i+1,L,_,G8,_,_,W5,less (S8.other WA IO OR _),t9,f9,?_,cS,WA,W4,f,by rw[XB,ZO];omega,R,rfl⟩;refine⟨fun b e s=>(Ws.ok b e s).mono (fun _ _ z=>z) fun o z=>?_,fun b o s=>?_,Ws.ge,Ws.gf⟩
        .rw[cE (by rintro rfl;rw[WA]at s;cases s)];exact z
        .rw[cE (by rintro rfl;rw[IO]at s;cases s)];exact Ws.he b o s
  .have e:i=ds.length:=`o
   subst e;rw[Zl]at f;have ST:BT=.ok F:=by rw[f];show Res.ok _=_;rw[W_]
   have dn:=T.done l eP eW eK eC ds.length [] s3 σ3 H3 (Z5 (F_ X.prog X.w) X.A (ó scope cl HH.objs.size X.env) fun e B=>RR (.ref s2.heap.objs.size) HH.objs.size (.error e) B) I3 (WG H3 fr3) st3 (Y.stop G3 H3 w3);rw[eA]at dn;refine bK dn fun rr s4 k'=>?_;obtain⟨hr,I4⟩:=k';subst hr;obtain⟨t1,t2,t3,t4,t5,t6,t7⟩:=WT I4;exact Xe F ST _ _ _ _ G3 t1 t2 t3 t4 t5 t6 t7 w3 IO ⟨_,hp3,hg3,rs3⟩
 exact codeAny_compStart_list Wz (T.self X.A 0 _ _ _ WE Wz)
end
noncomputable def tX:Res (List D)->Res (List D)
|.ok d=>.ok d
|_=>.stuck
@[simp] theorem noXL_ok(d:List D):tX (.ok d)=.ok d:=rfl
def dE(nl:Nat)(cap:List Nat)(fi:FI)(ft:FT)(q:FQ)(fe:FE):FE:=fun r=>(fi r).bind fun ds=>(eu (sz ds)).bind fun ds=>(tX (iq ft q fe (dI nl cap r) ds)).bind fun vs=>.ok (.lst vs)
section
variable{tg:Expr}{spos:Pos}{fi:FI}
theorem IS(h:fin (dE nl cap fi ft q fe r) P x):fin (fi r) (fun ds=>∃vs,ds.length<=sizeLine/\iq ft q fe (dI nl cap r) ds=.ok vs/\P (.lst vs)) x:=by refine bQ (cC h) fun ds b=>?_;obtain⟨Z,c,U⟩:=dz (cC b);obtain⟨rfl,a⟩:=vH c;cases Y:iq ft q fe _ Z with
|ok vs=>rw[Y]at U;exact⟨vs,a,rfl,U⟩
|exc x=>rw[Y]at U;exact U.elim
|stuck=>rw[Y]at U;exact U.elim
theorem CompSc.clo{pz:List (Addr×Obj)}{σ:L2.St}{H:Hp}{s:d_}(Y:CompSc X scope N' nl cap)(Z:X.Ok):∃U,ā scope X.env=pure U/\(∀x c,U.lookup x=some c->X.env.cells.lookup x=some c)/\(∀x,(x,NameKind.free)∈scope.names->∃c,U.lookup x=some c):=Si fun y a b=>Z.has y.1 (Y.freeK y a b)
theorem zH(hN:X.N.Nodup)(U:X.calm=true)(u:CompSc X scope N' nl cap)(hi:g9 X g m tg iter fi)(hg:∀s0 n l C j g',SG (eG X s0 n N' scope l C j) g' (bX nl cap m) tg ft (bX nl cap m))(LE:ji ft nl)(hq:∀s0 n l C j g',lN (eG X s0 n N' scope l C j) g' (bX nl cap m) ifs q)(he:∀s0 n l C j g',SE (eG X s0 n N' scope l C j) g' (bX nl cap m) elt fe)(hs:!!!!Ix X iter):SO X g m (.ListComp elt [⟨tg,iter,ifs,0⟩] scope pos) (dE nl cap fi ft q fe):=by
 intro pz s σ H Q I h;obtain⟨r,G,L,k⟩:=h;obtain⟨l,E,h1,h2⟩:=u.clo (pz:=pz) (σ:=σ) (H:=H) (s:=s) I.ok;have k1:=IS k;refine Zx rfl hs E u.kind u.names (bK (hi pz s σ H (fun J f=>∃c i t,Grow X.K G H c f/\YieldsC X.K J i c f/\i.length<=sizeLine/\iq ft q fe _ i=.ok t /\(∀a c f,Grow X.K G H c f->H a=none->Own X.K c f a _->Q _ f)) I ⟨r,G,L,bQ k1 fun i ⟨t,z1,z2,z3⟩ J c f w y=>⟨c,i,t,w,y,z1,z2,z3⟩⟩) fun v s1 z=>bK z fun itv s2 Cl=>?_);obtain⟨it,j,tn,J,H2,rfl,I2,T,O,hf,G2,i,t,x,Y,A,Z,hQ⟩:=Cl;refine Bs (El:=fun K _ _ c _ v d=>RG K c v d) (Rl:=fun _ G _ F i=>cZ X.K G F i) (fun _ _ _=>.nil) (fun h w=>h.mono w.ge) Paired.length (fun h w _ _ e=>Paired.snoc (h.mono w.ge) e) hN U u h1 h2 I2 (L.grow x) T O hf Y A (fun C=>hg _ _ _ _ _ _) LE (fun C=>hq _ _ _ _ _ _) (fun C=>HL rfl (he _ _ _ _ _ _)) Z nofun (.inl ⟨_,rfl⟩) nofun fun _ z=>?_;cases z;intro p C s' f c I' Id ST KK LT BT IO M hp ⟨F,o1,R,P⟩;have ho:Own X.K c f p _:=⟨R,.lst o1 P⟩
 obtain⟨mm,hn⟩:=Id;refine⟨mm,hn,fun h' B=>⟨.ref p,f,?_,rfl,hQ p c f (x.trans M) (x.back hp) ho⟩⟩;exact I'.turned (fun b o hb e=>B.extBut b o hb e) ST KK.symm.symm (.inr LT) BT IO
theorem Ru(i:Nat)(Q:X.N.Nodup)(U:X.calm=true)(hy:X.N[i]? = some y)(Z:X.env.scope.names.lookup y=some .local)(B:CompSc X scope N' nl cap)(hi:g9 X g m tg iter fi)(hg:∀s0 u n C l g',SG (eG X s0 u N' scope n C l) g' (bX nl cap m) tg ft (bX nl cap m))(Ty:ji ft nl)(hq:∀s0 u n C l g',lN (eG X s0 u N' scope n C l) g' (bX nl cap m) ifs q)(he:∀s0 u n C l g',SE (eG X s0 u N' scope n C l) g' (bX nl cap m) elt fe)(LT:!X7 (.ListComp elt [⟨tg,iter,ifs,0⟩] scope pos) (some (.Name y pos')) spos.line X.env=pure true)(hs:!!!!Ix X iter):SS X g ro mb m (.Assign [.Name y pos'] (.ListComp elt [⟨tg,iter,ifs,0⟩] scope pos) spos) (aP m i (dE nl cap fi ft q fe)) (m.set i .ow):=by
 refine⟨`s,?_⟩;intro pz s σ H D0 I h;obtain⟨r,G,A,k⟩:=h;obtain⟨n,M,h1,h2⟩:=B.clo (pz:=pz) (σ:=σ) (H:=H) (s:=s) I.ok;have k1:=IS (i7 A `s k);rw[exec_Assign_Name_used _ _ _ _ LT];refine b_ (ý (b_ ?_));refine b_ (X_ (Zx rfl hs M B.kind B.names (bK (hi pz s σ H (fun J f=>∃c j z,Grow X.K G H c f/\YieldsC X.K J j c f/\j.length<=sizeLine/\iq ft q fe _ j=.ok z /\(∀t c f,bO G c->SI X g _ _ c t f->D0.nx t f)) I ⟨r,G,A,bQ k1 fun j ⟨z,z1,z2,z3⟩ J c f w y=>⟨c,j,z,w,y,z1,z2,z3⟩⟩) fun v s1 E=>bK E fun itv s2 KK=>?_)) (fun _ s' hq=>r_ (r_ hq)) fun _ _ e=>e);obtain⟨it,l,tn,J,H2,rfl,I2,T,R,hf,G2,j,z,x,Y,F,Cl,hQ⟩:=KK;refine Bs (El:=fun K _ _ c _ v d=>RG K c v d) (Rl:=fun _ G _ O j=>cZ X.K G O j) (fun _ _ _=>.nil) (fun h w=>h.mono w.ge) Paired.length (fun h w _ _ e=>Paired.snoc (h.mono w.ge) e) Q U B h1 h2 I2 (A.grow x) T R hf Y F (fun C=>hg _ _ _ _ _ _) Ty (fun C=>hq _ _ _ _ _ _) (fun C=>HL rfl (he _ _ _ _ _ _)) Cl nofun (.inl ⟨_,rfl⟩) nofun fun _ E=>?_;cases E;intro p C s' f c I' LE Wo Wn Id IO ST P hp ⟨O,o1,o2,o3⟩;have ho:Own X.K c f p _:=⟨o2,.lst o1 o3⟩
 obtain⟨mm,hn⟩:=LE;refine Ģ (Je I' Q hy (.inl Z) (v:=.ref p) rfl (fun s'' Tm u=>?_) (.inr Z));obtain⟨a,L,ha⟩:=u;have Wm:C≠a:=`g
 refine⟨mm,hn.sameBut L Wm,fun h' BT=>?_⟩;refine⟨_,f,Tm.turned (fun b o hb e=>BT.extBut b o hb e) Wo Wn (.inr Id) IO ST,?_⟩;exact hQ _ c f (x.trans P).ge (A.setN (x.trans P) i (x.back hp) ho)
end
end DL
namespace DL
open PySem PySem.Spec PyProof.Rows L2 PySem.W PySem.Calls
section
variable{P:z_}{w:M_}{st:List Env}{H H':Hp}{s s':d_}{a C:Addr}{cls:a_}{od:Option Addr}
theorem PN(h:Heap)(a:Addr):(h.update a fun o=>{ o with data:=.freed }).get? a=none:=by cases e:(h.update a fun o=>{ o with data:=.freed }).get? a with
|none=>rfl
|some u=>exfalso;unfold Heap.get? Heap.update at e;simp only[Array.getElem?_modify,Q_k]at e;cases q:h.objs[a]? with
 |none=>rw[q]at e;cases e
 |some o=>rw[q]at e;obtain⟨c,d,Y,U⟩:=o;cases e
theorem Fly.less(F:Fly P w st H s H' a cls od s')(hC:H' C=none)(Cl:s.heap.get? C=some A)(E:C∉dF st)(i:∀b,b≠C->j.get? b=s'.heap.get? b):Fly P w st H { s with heap:=s.heap.update C fun o=>{ o with data:=.freed } } H' a cls od { s' with heap:=j }:=by
 obtain⟨B,X,Y,BT,⟨y,m,x,t,r,p,r5⟩,R,hH⟩:=F.ex;have aC:a≠C:=fun z=>by grind
 have d:∀{h:Heap} {b o},(h.update C fun o=>{ o with data:=.freed }).get? b=some o->b≠C/\h.get? b=some o:=fun{h b o} e=>by
  have g:b≠C:=fun z=>by rw[z,PN]at e;cases e
  exact⟨g,by rw[X5 _ _ _ _ g]at e;exact e⟩
 have U:∀{h:Heap} {b},h.get? b=none->(h.update C fun o=>{ o with data:=.freed }).get? b=none:=fun{h b} e=>by cases q:(h.update C fun o=>{ o with data:=.freed }).get? b with
 |none=>rfl
 |some o=>grind
 have Z:∀{h:Heap} {b o},b≠C->h.get? b=some o->(h.update C fun o=>{ o with data:=.freed }).get? b=some o:=fun{h b o} g e=>by rw[X5 _ _ _ _ g];exact e
 refine⟨F.os,F.bare,⟨fun b o e n f z=>?_,fun b o e n f z=>?_,fun b o e n z=>F.un.free b o (d e).2 n z,fun b o e z=>?_,F.un.tups,F.un.frzs,F.un.tbls⟩,fun b u e=>?_,_,fun b o e=>?_,U Y,?_,⟨y,m,(i a aC).trans x,t,r,p,?_⟩,fun b o e n=>?_,fun b u e=>?_⟩
 .exact(i b (d e).1).trans (F.un.keep b o (d e).2 n f z)
 .obtain⟨sl,e1⟩:=F.un.slot b o (d e).2 n f z
  grind
 .obtain⟨o1,e1⟩:=F.un.there b o (d e).2 z
  grind
 .refine(F.hok b u e).stay (fun c v hc e1=>(i c ?_).trans e1) (fun _ z=>z) fun _ _ z=>z
  grind
 .exact(i b (d e).1).trans (X b o (d e).2)
 .have all:∀l,(∀b,b∈dF l->b∈dF st)->s'.heap.FunFrames B l->j.FunFrames _ l:=fun l=>by induction l with
  |nil=>intro _ _;trivial
  |cons e l O=>
    intro k Q;obtain⟨N,⟨L,o,M,K,J,I⟩,G⟩:=Q;have T:L∈dF (e::l):=by unfold dF;grind
    refine⟨N,⟨L,o,M,U K,(i L fun z=>E (z▸k L T)).trans J,I⟩,O (fun b g=>k b ?_) G⟩;unfold dF at g ⊢
    grind
  grind
 .grind
 .obtain⟨o1,e1⟩:=R b o (d e).2 n
  grind
 .grind
theorem Fly.passed(F:Fly P w st H s H' a cls od s')(d:s'.heap.get? a=some h)(c:h.data=.fields vs)(z:vs[1]? = some (.ref n))(q:∀b,Fly P w st H s H' a cls od b->E (.ref a) b):C_ M A (PySem.passOn U (.ref a) env:Sem e) Q E s':=by
 obtain⟨B,o,m,T,G,g,f,x,Z,t,Y⟩:=F.step;rw[d]at g;cases g;rw[c]at f;cases f;rcases t with⟨y,_⟩|⟨C,oT,u,v,rfl,y,l,k,j,i⟩
 .rw[z]at y;cases y
 refine b_ (XE d c y ?_);exact b_ (Be _ Z (Lft.self d c y l k j i) fun r p=>wpAny_throw (q _ (Y r _ p)))
end
def ES(nl:Nat)(cap:List Nat)(fi:FI)(ft:FT)(q:FQ)(fe:FE):FE:=fun r=>(fi r).bind fun ds=>(eu (sz ds)).bind fun ds=>(iq ft q fe (dI nl cap r) ds).bind fun vs=>.ok (.lst vs)
section
variable{X:Cx}{g:GE}{m mb:List Md}{scope:Ze}{N':List Str}{nl:Nat}{cap:List Nat}{elt tg iter:Expr}{ifs:List Expr}{pos pos' spos:Pos}{fi:FI}{ft:FT}{q:FQ}{fe:FE}{ro:Bool}
theorem Oi(Id:X.stack=X.env::X.outer)(Wo:X.env.frame=some X.env.locals)(hN:X.N.Nodup)(LT:X.calm=true)(M:CompSc X scope N' nl cap)(hi:g9 X g m tg iter fi)(hg:∀s0 A t C n g',SG (eG X s0 A N' scope t C n) g' (bX nl cap m) tg ft (bX nl cap m))(Ws:ji ft nl)(hq:∀s0 A t C n g',lN (eG X s0 A N' scope t C n) g' (bX nl cap m) ifs q)(Wm:∀r e,q r≠.exc e)(he:∀s0 A t C n E g',SE ((eG X s0 A N' scope t C n).wish E) g' (bX nl cap m) elt fe)(hs:!!!!Ix X iter):SO X g m (.ListComp elt [⟨tg,iter,ifs,0⟩] scope pos) (ES nl cap fi ft q fe):=by
 intro pz s σ H Q I h;obtain⟨r,G,L,k⟩:=h;obtain⟨t,hcl,h1,h2⟩:=M.clo (pz:=pz) (σ:=σ) (H:=H) (s:=s) I.ok;refine Zx rfl hs hcl M.kind M.names (bK (hi pz s σ H (fun J f=>∃c i,Grow X.K G H c f/\YieldsC X.K J i c f/\i.length<=sizeLine /\fin (iq ft q fe (dI nl cap r) i) (fun R=>∀a c f,Grow X.K G H c f->H a=none->Own X.K c f a (.lst R)->Q (.ref a) f) (XW X σ G H)) I ⟨r,G,L,bQ (cC k) fun i z J c f w y=>?_⟩) fun v s1 hv=>bK hv fun itv s2 Ty=>?_)
 .obtain⟨ds',e2,z2⟩:=dz (cC z);obtain⟨rfl,hl⟩:=vH e2;exact⟨c,_,w,y,hl,cC z2⟩
 obtain⟨it,n,tn,J,H2,rfl,I2,T,Wp,hf,G2,i,F,Y,hsz,j⟩:=Ty;refine Bs (xp:=true) (fe:=fe) (El:=fun K _ _ c _ v d=>RG K c v d) (Rl:=fun _ G _ ws i=>cZ X.K G ws i) (fun _ _ _=>.nil) (fun h w=>h.mono w.ge) Paired.length (fun h w _ _ e=>Paired.snoc (h.mono w.ge) e) hN LT M h1 h2 I2 (L.grow F) T Wp hf Y hsz (fun C=>hg _ _ _ _ _ _) Ws (fun C=>hq _ _ _ _ _ _)
  (fun C E=>PE.imp (he _ _ _ _ _ E _) fun σ H Q ⟨r,G,L,z⟩=>⟨r,G,L,?_⟩) rfl (fun z=>by rw[z]at j;exact j) (.inr ⟨rfl,Wm⟩) (fun _ x hx p C s1 H1 O Cl U Z P LE KK a T' od nm fs c f s' ex xn xf wg fl=>?_) fun R hv=>?_
 .grind
 .rw[hx]at j;obtain⟨B,oe,R,T2,ST,r1,r4,r2,Wt,Wq,Wn⟩:=fl.step;rw[Id]at ST;have nf:C∉dF X.stack:=fun z=>by
   rcases s_.mp (O.stkSub C z)with z|z
   .exact Z z
   .obtain⟨_,o,ho,_⟩:=O.ok.funs.mem z;exact Q_f (y_ (q_ ho) P) (X0 _)
  refine AT (env:=X.env) rfl (by rw[O.ok.frames,Id]) ST Wo r1 r4 Wq fun h' v l=>?_;have F2:=Wn h' v (by rw[Id];exact l);obtain⟨mm,oC,es,ep,IO,rC⟩:=Cl;have Tm:=F2.un.keep C oC IO U nf `s;refine⟨mm,⟨oC,es,ep,Tm,rC⟩,fun h2 sb Wu _=>?_⟩;have F3:=F2.less (F2.un.free C oC IO U `s) IO nf fun b u=>sb.2 b u;have I3:=O.turned (t':=s1.toks) (h':=s1.heap.update C fun o=>{ o with data:=.freed }) (fun b o u e=>by rw[X5 _ _ _ _ u];exact e) U Z (.inr P) LE KK;obtain⟨tb,ot,ts,t1,t2,t3,t4,t5,t6⟩:=l.obj;have aC:a≠C:=fun z=>by grind
  exact F3.passed ((sb.2 a aC).trans t3) rfl (XI Wt) fun s'' F4=>j pz _ s'' c f (F.trans wg) (F4.inv I3) ⟨pz,_,H1,a,T',od,nm,fs,rfl,ex,xn,xf,I3,F4⟩
 .rw[hv]at j;intro p C s' f c I' Cl U Z P LE KK w' hp ⟨ws,o1,o2,o3⟩;have ho:Own X.K c f p _:=⟨o2,.lst o1 o3⟩
  obtain⟨mm,hn⟩:=Cl;exact⟨mm,hn,fun h' hsb=>⟨.ref p,f,I'.turned (fun b o u e=>hsb.extBut b o u e) U Z (.inr P) LE KK,rfl,j p c f (F.trans w') (F.back hp) ho⟩⟩
end
def lw(K:W.Frag)(r:V->List V->Hp->VK->Prop)(mk:D->List D->Option D):Prop:=∀(G:GH)(H:Hp)(a:Addr)(d:D)(vs:List V)(ds:List D)(d':D)(Q:VK),bZ K G H->Own K G H a d->cZ K G vs ds->mk d ds=some d' ->(∀o',OwnO K G (aY H a o') a d'->Q .non (aY H a o'))->r (.ref a) vs H Q
noncomputable def C1(T:String):D->Bool
|.lst _=>T == "list"
|.dic _=>T == "dict"
|_=>false
def c6(T:String)(m:List Md)(i:Nat)(fl:aJ->Res (List D))(mk:D->List D->Option D):FS:=fun r=>match r[i]? with
|some (some d)=>if C1 T d=true then onE m r (fl r) fun ds=>(match mk d ds with
 |some d'=>.nx (r.set i (some d'))
 |none=>.stuck)else .stuck
|_=>.stuck
variable{X:Cx}{g:GE}{m mb:List Md}{e a b o:Expr}{f fa fb:FE}{pos pos':Pos}
section
variable{es:List Expr}{fl:aJ->Res (List D)}{apos cpos:Pos}{ro:Bool}{x name:Str}{T id:String}{R:V->List V->Hp->VK->Prop}{mk:D->List D->Option D}
theorem oh(i:Nat)(p:m[i]? = some .ow)(C:Ã T)(b:Slot T name id)(IO:typeOf (.builtin id)=pure (.type "method_descriptor"))(LE:jt X id R)(L:lw X.K R mk)(P:X.N[i]? = some x)(J:eJ X.env.scope x)(O:SA X g m (e::es) fl)(M:!!Nq x)(LT:!!Nc x)(Y:!XH (.Name x pos') name X.env (eval (.Name x pos') X.env)=eval (.Name x pos') X.env)(Cl:!((backTo cpos (E_ (e::es) X.env)).all (fun x=>not x.1)&&(YN cpos (X6 [] X.env)).all (fun x=>x.1.isSome)&&decide ((e::es).length+([]:List ê).length+(if ([]:List ê).isEmpty then 0 else 1)<30))=true)(Z:!(apos.endLine==cpos.line)=true)(KK:!Sx X e es)(U:!Bx X cpos es):SS X g ro mb m (.Expr (.Call (.Attribute (.Name x pos') name apos) (e::es) [] cpos) pos) (c6 T m i fl mk) m:=
 ⟨rfl,PS.imp (rV (zx C b IO LE (eL P J M LT) O Y Cl Z KK U)) fun D0 z H h=>by obtain⟨r,G,f,k⟩:=h;unfold c6 at k;cases c:r[i]? with
   |none=>simp only[c]at k;exact(k).elim
   |some E=>cases E with
    |none=>simp only[c]at k;exact(k).elim
    |some d=>
      simp only[c]at k;by_cases l:C1 T d=true
      .rw[Q_d l]at k;obtain⟨a,q,Q,h3⟩:=f.mut p c;refine⟨_,q,(by cases Q.ob with
         |lst r s=>exact .inl ⟨Y9 l,_,cM.of r⟩
         |dic r s=>exact .inr (.inr (.inl ⟨Y9 l,.inl ⟨_,.inl r⟩⟩))),r,G,f,bQ (i7 f rfl k) fun t j A v H' w B=>?_⟩
       cases o:mk d t with
      |none=>simp only[o]at j;exact(j).elim
      |some u=>simp only[o]at j;obtain⟨a',y,Id,n⟩:=(f.grow w).mut p c;rw[q]at y;cases y;exact L v H' a d A t u _ w.ok Id B o fun I F=>j z v _ w.ge (n I u F)
      .rw[Q_e l]at k;exact(k).elim⟩
noncomputable def appD:D->List D->Option D
|.lst ds,[d]=>if ds.length<sizeLine then some (.lst (ds++[d]))else none
|_,_=>none
theorem EK{K:W.Frag}:lw K Hh appD:=by
 intro G H a d b f g Q c Z U e q;unfold appD at e;split at e
 .split at e
  .cases e;cases Z.ob with
  |lst r s=>cases U with
   |cons Y t=>cases t;have:=Paired.length s;exact⟨a,_,_,rfl,rfl,r,`o,q _ (.lst cS (Paired.snoc s Y))⟩
  .cases e
 .cases e
noncomputable def zg(x:Int)(n:Nat):Nat:=if x<0 then(x+(n:Int)).toNat else min x.toNat n
def dW{α:Type}(xs:List α)(x:Int)(y:α):List α:=xs.take (zg x xs.length)++y::xs.drop (zg x xs.length)
def Hk:V->List V->Hp->VK->Prop:=fun x vs H Q=>∃l xs i y,x=.ref l/\vs=[.int i,y]/\H l=some (.lst xs)/\-(2^63)<=i/\i<2^63/\xs.length<sizeLine/\Q .non (aY H l (.lst (dW xs i y)))
theorem Rm:jt X "list.insert" Hk:=by
 intro w s k H x o v p Q I c d h;obtain⟨l,m,i,y,rfl,rfl,a,j,g,A,q⟩:=h;cases c;obtain⟨u,Z,rfl,⟨t,rfl⟩,b⟩:=Ej d;obtain⟨z,Y,n,r,f,e⟩:=I.lstM a;have U:¬(not (ţ i))=true:=by rw[fitsIndex_both j g];grind
 refine YS PySem.F.slot_list_insert ⟨_,e,rfl⟩ PySem.F.entry_list_insert (PySem.F.args_list_insert_3 _ _ _) (AutoListH.list_insert_list_int_val_1 l Y.toArray n i t Z U `a) ⟨e,?_⟩;refine⟨.non,_,I.lset (its':=dW Y i Z) a e ?_ ?_ ?_,rfl,q⟩
 .rw[D_];unfold dW zg
  grind
 .unfold dW;rw[f];exact aL.append (r.take _) (.cons b (r.drop _))
 .unfold dW
  grind
def insD:D->List D->Option D
|.lst ds,[.int i,d]=>if ds.length<sizeLine/\-(2^63)<=i/\i<2^63 then some (.lst (dW ds i d))else none
|_,_=>none
theorem Nf{x:Z}{y:Y}(h:Paired F l r)(i:Int)(U:F x y):Paired F (dW l i x) (dW r i y):=by unfold dW;rw[Paired.length h];exact Paired.app (Paired.tk _ h) (.cons U (Paired.dr _ h))
theorem Ng{K:W.Frag}:lw K Hk insD:=by
 intro G H a d f g h Q c b U e q;unfold insD at e;split at e
 .split at e
  .rename_i hl;cases e;cases b.ob with
  |lst r s=>cases U with
   |cons Z t=>cases t with
    |cons Y t=>cases t;have:=Paired.length s;exact⟨a,_,_,_,rfl,by rw[Z.int c],r,hl.2.1,hl.2.2,`o,q _ (.lst cS (Nf s _ Y))⟩
  .cases e
 .cases e
end
noncomputable def dw:D->Bool
|.non=>true
|.bl _=>true
|.int _=>true
|.str _=>true
|_=>false
noncomputable def ja:D->V
|.non=>.non
|.bl b=>.bl b
|.int i=>.int i
|.str x=>.str x
|_=>.non
def eqs(a b:D):Bool:=iN (ja a) (ja b)
section
variable{K:W.Frag}{G:GH}{H:Hp}{v:V}{d:D}
theorem RB.flat(h:RB K G H v d)(U:bZ K G H)(Y:dw d=true):v=ja d/\hZ v=true:=by cases d with
|non=>rw[h.non U];exact⟨rfl,rfl⟩
|bl b=>rw[h.bl U];exact⟨rfl,rfl⟩
|int i=>rw[h.int U];exact⟨rfl,rfl⟩
|str x=>rw[h.str U];exact⟨rfl,rfl⟩
|_=>cases Y
theorem zb(h:cZ K G xs ds)(Y:bZ K G H)(U:ds.all dw=true):xs=ds.map ja/\xs.all hZ=true:=by induction h with
|nil=>exact⟨rfl,rfl⟩
|cons r t Z=>
  rw[Y7,P_]at U;obtain⟨b,a⟩:=RB.flat r.rb Y U.1
  grind
end
noncomputable def g0:D->Option bL
|.int i=>some (.inl i)
|.str x=>some (.inr x)
|_=>none
noncomputable def gc(kvs:List (bL×D))(k:bL):Bool:=kvs.any fun kv=>decide (kv.1=k)
noncomputable def dc(kvs:List (bL×D))(k:bL):Option D:=(kvs.find? fun kv=>decide (kv.1=k)).map (·.2)
def kn(x c:D):Option Bool:=match c with
|.lst ds=>if dw x=true/\ds.all dw=true then some (ds.any fun y=>eqs y x)else none
|.tup ds=>if dw x=true/\ds.all dw=true then some (ds.any fun y=>eqs y x)else none
|.dic kvs=>(g0 x).map (gc kvs)
|.str y=>match x with
 |.str z=>some (not ((XG y z 0 y.length 1).isEmpty))
 |_=>none
|_=>none
def g6(x c:D):Option D:=(kn x c).map .bl
def eZ(x c:D):Option D:=(kn x c).map fun b=>.bl (not b)
theorem ET{K:W.Frag}(h:hJ K G Z Y)(d:D)(e:dc Y k=some d):∃v,d6 Z k=some v/\RG K G v d:=by induction h with
|nil=>cases e
|@cons p q Z Y r t g=>
  obtain⟨f,b⟩:=p;obtain⟨m,n⟩:=q;obtain⟨l,c⟩:=r;have U:=l;subst U;by_cases a:f=k
  .subst a;have:=by simpa[dc,V_]using e
   subst this;exact⟨b,wV rfl,c⟩
  .have e':dc Y k=some d:=by simpa[dc,V_,a]using e
   obtain⟨v,j,i⟩:=g e';exact⟨v,by rw[sf a];exact j,i⟩
theorem QL{K:W.Frag}(h:hJ K G Z Y)(e:dc Y k=none):d6 Z k=none:=by induction h with
|nil=>rfl
|@cons p q Z Y r t c=>
  obtain⟨b,f⟩:=p;obtain⟨i,j⟩:=q;obtain⟨d,g⟩:=r;have U:=d;subst U;by_cases a:b=k
  .subst a;simp[dc,V_]at e
  .have e':dc Y k=none:=by simpa[dc,V_,a]using e
   rw[sf a];exact c e'
theorem NA(U:List (bL×D))(k:bL):gc U k=(dc U k).isSome:=by induction U with
|nil=>rfl
|cons p r Y=>
  by_cases e:p.1=k
  .simp[gc,dc,V_,e]
  .have h1:gc (p::r) k=gc r k:=by simp[gc,e]
   have Z:dc (p::r) k=dc r k:=by simp[dc,V_,e]
   rw[h1,Z,Y]
theorem zM{K:W.Frag}(U:bZ K G H)(h:RB K G H v d)(e:g0 d=some k):v=kV k:=by cases d with
|int i=>cases e;exact h.int U
|str x=>cases e;exact h.str U
|_=>cases e
section
variable{c:Expr}{fc:FE}
noncomputable def Ds(neg:Bool):R2:=fun y x H Q=>∃a o,x=.ref a/\ly H a y o/\Q (.bl (if neg then not o.isSome else o.isSome)) H
def jG(K:W.Frag)(neg:Bool):R2:=fun x y H Q=>MK K neg x y H Q\/Ds neg x y H Q\/∃i j,x=.str i/\y=.str j/\Q (.bl (if neg then not (not ((XG j i 0 j.length 1).isEmpty))else not ((XG j i 0 j.length 1).isEmpty))) H
theorem FB(Z:X.A.units+1<Y4):c7 X (X1 .In) (jG X.K false):=c7.or Re (c7.or ((fun Z=>by intro c s b H y x u v Q I U Y h;obtain⟨a,k,rfl,d,q⟩:=h;cases Y;exact DC Z I d U fun g e=>⟨.bl _,H,e,rfl,q⟩) Z) (by intro c s b H x y v u Q I Y U h;obtain⟨i,j,rfl,rfl,q⟩:=h;obtain⟨t,rfl⟩:=Y;obtain⟨f,rfl⟩:=U;exact in_str (dM I q rfl)))
theorem Oq(d:X.A.units+1<Y4):c7 X (X1 .NotIn) (jG X.K true):=c7.or (by
   intro f s e H x y v u Q I U Y h;obtain⟨p,m,rfl,Z,g,b,q⟩:=h;cases Y;rcases Z with Z|Z
   .obtain⟨its,r,pl,hz⟩:=I.list Z;refine SeqAt.notIn_listAt _ pl.isList (fun w c=>oE U g r b w (by simpa using c)) ⟨.bl _,H,I,rfl,?_⟩;rw[show its.toArray.any _=its.any (iX x)by simp,rM r b];exact q
   .obtain⟨its,r,pl,hz⟩:=I.tuple Z;refine SeqAt.notIn_tupleAt _ pl (fun w c=>oE U g r b w (by simpa using c)) ⟨.bl _,H,I,rfl,?_⟩;rw[show its.toArray.any _=its.any (iX x)by simp,rM r b];exact q) (c7.or ((fun d=>by intro f s e H y x u v Q I Y U h;obtain⟨a,z,rfl,k,q⟩:=h;cases U;exact OA d I k Y fun o l=>⟨.bl _,H,l,rfl,q⟩) d) (by intro f s e H x y v u Q I U Y h;obtain⟨i,j,rfl,rfl,q⟩:=h;obtain⟨t,rfl⟩:=U;obtain⟨n,rfl⟩:=Y;exact notIn_str ⟨.bl _,H,I,rfl,q⟩))
theorem F0{K:W.Frag}(Z:Bool):hU K (jG K Z) (fun x c=>(kn x c).map fun b=>.bl (if Z then not b else b)):=by
 intro G H r o g B d Q U l j e q;have h:∀{f:List V}{Y:List D}{p:Addr},cZ K G f Y->o=.ref p->(cM K H p f\/dB K H p f)->dw g=true->Y.all dw=true->d=.bl (if Z then not (Y.any fun y=>eqs y g)else Y.any fun y=>eqs y g)->jG K Z r o H Q:=fun{f Y p} rs e2 hs hf hfs ed=>by
  obtain⟨A,f1⟩:=RB.flat l U hf;obtain⟨w,u⟩:=zb rs U hfs;refine .inl ⟨p,f,e2,hs,f1,u,q _ G H (Grow.refl U) ?_⟩;have:yG r f=Y.any fun y=>eqs y g:=by unfold yG;rw[w,Z6,A];rfl
  rw[this,ed];exact .scl (.bl _)
 cases B with
|lst Y=>
  by_cases a:dw g=true/\Y.all dw=true
  .simp only[kn,Q_d a,ş]at e;obtain⟨p,f,e2,hs,rs⟩:=j.lst U;exact h rs e2 (.inl hs) a.1 a.2 (Q_ e).symm
  .simp only[kn,Q_e a,Š]at e;cases e
|tup Y=>
  by_cases a:dw g=true/\Y.all dw=true
  .simp only[kn,Q_d a,ş]at e;obtain⟨p,f,e2,hs,rs⟩:=j.tup U;exact h rs e2 (.inr hs) a.1 a.2 (Q_ e).symm
  .simp only[kn,Q_e a,Š]at e;cases e
|dic i=>simp only[kn]at e;cases n:g0 g with
 |none=>rw[n]at e;cases e
 |some k=>
   rw[n]at e;cases e;obtain⟨p,m,rfl,hs,rs⟩:=j.dic U;refine .inr (.inl ⟨p,d6 m k,rfl,by rw[zM U l n];exact .inl ⟨m,k,hs,rfl,rfl⟩,q _ G H (Grow.refl U) ?_⟩);have:(d6 m k).isSome=gc i k:=by rw[NA];cases s:dc i k with
   |none=>rw[QL rs s];rfl
   |some d=>obtain⟨v,t,_⟩:=ET rs d s;rw[t];rfl
   rw[this];exact .scl (.bl _)
|str y=>cases g with
 |str z=>cases e;exact .inr (.inr ⟨z,y,l.str U,j.str U,q _ G H (Grow.refl U) (.scl (.bl _))⟩)
 |_=>cases e
|_=>cases e
theorem DX{K:W.Frag}:hU K (jG K false) g6:=by
 have h:=F0 (K:=K) false;have e:(fun x c=>(kn x c).map fun b=>D.bl (if false=true then not b else b))=g6:=by funext x c;unfold g6;cases kn x c <;> rfl
 exact h
theorem MU{K:W.Frag}:hU K (jG K true) eZ:=by
 have h:=F0 (K:=K) true;have e:(fun x c=>(kn x c).map fun b=>D.bl (if true=true then not b else b))=eZ:=by funext x c;unfold eZ;cases kn x c <;> rfl
 exact h
theorem oX(U:X.A.units+1<Y4)(c:SB X g m a fa)(Z:SB X g m b fb)(Y:!Yx .In b=false):SE X g m (.Compare a [.In] [b] pos) (f2 fa fb g6):=vF (FB U) DX c Z Y
theorem kY(U:X.A.units+1<Y4)(c:SB X g m a fa)(Z:SB X g m b fb)(Y:!Yx .In b=false):SQ X g m (.Compare a [.In] [b] pos) (bY (f2 fa fb g6)):=nr (FB U) DX c Z Y
theorem n9(U:X.A.units+1<Y4)(c:SB X g m a fa)(Z:SB X g m b fb)(Y:!Yx .NotIn b=false):SQ X g m (.Compare a [.NotIn] [b] pos) (bY (f2 fa fb eZ)):=nr (Oq U) MU c Z Y
noncomputable def uB:D->D->Option D
|.non,.non=>some (.bl true)
|_,.non=>some (.bl false)
|_,_=>none
noncomputable def mS:D->D->Option D
|.non,.non=>some (.bl false)
|_,.non=>some (.bl true)
|_,_=>none
theorem RB.isnon{K:W.Frag}(U:bZ K G H)(h:RB K G H v d):(v=.non↔d=.non):=by
 constructor
 .intro e;subst e;rcases h with h|⟨a,e,_⟩
  .cases h with
  |scl s=>cases s;rfl
  .cases e
 .intro e;subst e;exact h.non U
theorem UW{K:W.Frag}:hU K (fun x y H Q=>y=.non/\Q (.bl (decide (x=.non))) H) uB:=by intro G H g f Z c d Q U b a e q;have Y:=b.isnon U;cases c with
|non=>refine⟨a.non U,q _ G H (Grow.refl U) ?_⟩;cases Z with
 |non=>cases e;rw[Q_c (Y.mpr rfl)];exact .scl (.bl _)
 |_=>cases e;rw[Q_b (fun z=>by have:=Y.mp z;cases this)];exact .scl (.bl _)
|_=>cases Z <;> cases e
theorem Ni{K:W.Frag}:hU K (fun x y H Q=>y=.non/\Q (.bl (not (decide (x=.non)))) H) mS:=by intro G H g f Z c d Q U b a e q;have Y:=b.isnon U;cases c with
|non=>refine⟨a.non U,q _ G H (Grow.refl U) ?_⟩;cases Z with
 |non=>cases e;rw[Q_c (Y.mpr rfl)];exact .scl (.bl _)
 |_=>cases e;rw[Q_b (fun z=>by have:=Y.mp z;cases this)];exact .scl (.bl _)
|_=>cases Z <;> cases e
theorem mD(c:SB X g m a fa)(Z:SB X g m b fb):SQ X g m (.Compare a [.Is] [b] pos) (bY (f2 fa fb uB)):=nr (by
   intro e s d H x y v u Q I Y U h;obtain⟨rfl,q⟩:=h;cases U;refine is_none_gen (dM I q ?_);cases x <;> first
    |(rfl)
    |(obtain⟨t,rfl⟩:=Y;rfl)) UW c Z (ma _)
theorem Ex(c:SB X g m a fa)(Z:SB X g m b fb):SQ X g m (.Compare a [.IsNot] [b] pos) (bY (f2 fa fb mS)):=nr (by
   intro e s d H x y v u Q I Y U h;obtain⟨rfl,q⟩:=h;cases U;refine isnot_none_gen (dM I q ?_);cases x <;> first
    |(rfl)
    |(obtain⟨t,rfl⟩:=Y;rfl)) Ni c Z (ma _)
end
end DL
section
namespace DL
open PySem PySem.Spec PyProof.Rows L2
variable{X:Cx}{g:GE}{m mb:List Md}{e a b o c:Expr}{f fa fb:FE}{pos pos':Pos}
section
variable{fc:FE}{p1 p2:Pos}{ro:Bool}{x:Str}
def Dr:R2:=fun x y H Q=>∃a v,x=.ref a/\ly H a y (some v)/\Q v H
theorem Nj(j:X.A.units+1<Y4):kr X Dr:=by
 intro Y Z r s n H x y v u Q I i f h l;obtain⟨a,w,rfl,d,q⟩:=h;cases i;exact ü ((fun I g=>by
    rcases g with⟨c,k,e,_,_⟩|⟨c,k,b,e,_,_,_⟩
    .obtain⟨_,_,vs,_,dd⟩:=pJ I.hok e;exact dd.typeIs
    .obtain⟨_,_,xs,_,dd⟩:=qG I.hok e;exact dd.typeIs) I d) PySem.F.slot_dict_getitem.lookup (Q1 j I d f fun o p m U=>⟨w,H,m,U,q⟩) l
def cD:D->D->Option D
|.dic kvs,k=>(g0 k).bind (dc kvs)
|c,k=>ixD c k
theorem df(r:X.A.units+1<Y4)(t:SB X g m a fa)(s:SB X g m b fb)(hs:rL b:=by intro _ _;rfl):SE X g m (.Subscript a b pos) (f2 fa fb cD):=zt (by intro G H i h x Y d Q U c Z e q;cases x with
  |dic j=>obtain⟨a,p,rfl,hs,o⟩:=c.dic U;have f:(g0 Y).bind (dc j)=some d:=e;cases l:g0 Y with
   |none=>rw[l]at f;cases f
   |some k=>rw[l]at f;obtain⟨v,w,u⟩:=ET o d f;refine .inl ⟨a,v,rfl,?_,q v G H (Grow.refl U) u⟩;rw[zM U Z l,<-w];exact .inl ⟨p,k,hs,rfl,rfl⟩
  |lst n=>exact .inr (zi G H i h _ Y d Q U c Z e q)
  |tup n=>exact .inr (zi G H i h _ Y d Q U c Z e q)
  |str n=>exact .inr (zi G H i h _ Y d Q U c Z e q)
  |_=>cases e) (zy (kr.or (Nj r) (OJ.or (Nl.or Nk))) t s hs)
theorem oz:SO X g m (.Dict [] [] pos) fun _=>.ok (.dic []):=PE.imp Qu fun Y H Q ⟨r,G,U,q⟩ p hp=>q p G _ (Grow.new U.gok hp _) hp ⟨U.gok.isN hp,.dic cS .nil⟩
noncomputable def f8(kvs:List (bL×D))(k:bL)(d:D):List (bL×D):=if (kvs.any fun kv=>decide (kv.1=k))=true then kvs.map fun kv=>if kv.1=k then(kv.1,d)else kv else kvs++[(k,d)]
theorem Pt{K:W.Frag}(h:hJ K G Z U):(Z.any fun Y=>decide (Y.1=k))=U.any fun Y=>decide (Y.1=k):=by induction h with
|nil=>rfl
|cons r t a=>rw[Y8,Y8,a,r.1]
theorem DU{K:W.Frag}(r:hJ K G Z U)(h:RG K G v d):hJ K G (dG Z k v) (f8 U k d):=by
 unfold dG f8;rw[Pt r];by_cases Y:(U.any fun a=>decide (a.1=k))=true
 .rw[Q_d Y,Q_d Y];clear Y
  induction r with
 |nil=>exact .nil
 |@cons p q Z U r t b=>
   refine .cons ?_ b
   grind
 .rw[Q_e Y,Q_e Y];exact Paired.snoc r ⟨rfl,h⟩
def gA:D->D->D->Option D
|.lst ds,.int k,v=>(iW ds.length k).map fun j=>.lst (ds.set j v)
|.dic kvs,k,v=>(g0 k).bind fun k=>if kvs.length<sizeLine then some (.dic (f8 kvs k v))else none
|_,_,_=>none
def EE:V->V->V->Hp->(Hp->Prop)->Prop:=fun o i v H Q=>∃p H',o=.ref p/\lx H p i v H'/\Q H'
theorem Pe(a:X.A.units+1<Y4):iQ X EE:=by intro g s e H o i v j k u Q I Y Z U h;obtain⟨p,d,rfl,b,q⟩:=h;cases Y;exact Q2 a I b Z U fun f c=>⟨d,c,q⟩
theorem iQ.or(h:iQ X t)(h':iQ X t'):iQ X (fun o i v H Q=>t o i v H Q\/t' o i v H Q):=by
 intro b s U H o i v c d u Q I Z a Y q;rcases q with q|q
 .exact h b s U H o i v c d u Q I Z a Y q
 .exact h' b s U H o i v c d u Q I Z a Y q
theorem NB{K:W.Frag}{a:Addr}{c b:V}(o:bZ K G H)(t:Own K G H a d)(l:RB K G H c k)(i:RG K G b v)(e:gA d k v=some d')(q:∀m,OwnO K G (aY H a m) a d'->Q (aY H a m)):EF (.ref a) c b H Q\/EE (.ref a) c b H Q:=by cases t.ob with
|@lst p h r s=>cases k with
 |int k=>have Y:(iW h.length k).map (fun j=>D.lst (h.set j v))=some d':=e;cases g:iW h.length k with
  |none=>rw[g]at Y;cases Y
  |some j=>rw[g]at Y;cases Y;exact .inl ⟨a,p,k,j,rfl,l.int o,r,by rw[Paired.length s];exact g,q _ (.lst cS (Paired.st i j s))⟩
 |_=>cases e
|@dic w U r s=>have Y:(g0 k).bind (fun k=>if U.length<sizeLine then some (D.dic (f8 U k v))else none)=some d':=e;cases f:g0 k with
 |none=>rw[f]at Y;cases Y
 |some u=>
   rw[f]at Y;have Z:(if U.length<sizeLine then some (D.dic (f8 U u v))else none)=some d':=Y;by_cases n:U.length<sizeLine
   .rw[Q_d n]at Z;cases Z;have:=Paired.length s;refine .inr ⟨a,_,rfl,?_,q _ (.dic cS (DU s i))⟩;rw[zM o l f];exact lx.k r `o
   .rw[Q_e n]at Z;cases Z
def putF(m:List Md)(i:Nat)(fk fv:FE):FS:=fun r=>onE m r (fv r) fun v=>match r[i]? with
|some (some d)=>onE m r (fk r) fun k=>(match gA d k v with
 |some d'=>.nx (r.set i (some d'))
 |none=>.stuck)
|_=>.stuck
theorem lB(i:Nat)(J:X.A.units+1<Y4)(t:m[i]? = some .ow)(P:X.N[i]? = some x)(I:eJ X.env.scope x)(K:SB X g m b fb)(L:SE X g m e f)(M:!!Nq x)(Z:!!Nc x)(O:!!!!∀v,å (.Subscript (.Name x p1) b p2) X.env v=(do
   let ov <-Ys [v] (eval (.Name x p1) X.env);let iv <-Ys [v,ov] (eval b X.env)
   YU p2
   Ys [v,ov,iv] (setItem ov iv v)
   release [v,ov,iv] []))(hs:!Ö [.Subscript (.Name x p1) b p2] e pos.line X.env=pure false)(F:!Ø [.Subscript (.Name x p1) b p2] e X.env=pure none)(p:!(Ye [.Subscript (.Name x p1) b p2] X.env).map (·.2)=[å (.Subscript (.Name x p1) b p2) X.env]):SS X g ro mb m (.Assign [.Subscript (.Name x p1) b p2] e pos) (putF m i fb f) m:=by refine⟨rfl,PS.imp (E6 L (M4 (eL P I M Z) K (iQ.or Qb (Pe J)) O) hs F p) fun D0 u H ⟨r,G,c,k⟩=>⟨r,G,c,?_⟩⟩;refine bQ (i7 c rfl k) fun v h vv T H1 j w=>?_;cases l:r[i]? with
|none=>simp only[l]at h;exact(h).elim
|some z=>cases z with
 |none=>simp only[l]at h;exact(h).elim
 |some d=>simp only[l]at h;obtain⟨a,p,h2,h3⟩:=(c.grow j).mut t l;refine⟨_,p,r,T,c.grow j,?_⟩;refine bQ (i7 (c.grow j) rfl (dA.gle h j.ge)) fun E o kv R H2 n y=>?_;cases s:gA d E v with
  |none=>simp only[s]at o;exact(o).elim
  |some Q=>simp only[s]at o;obtain⟨a',U,Y,q⟩:=((c.grow j).grow n).mut t l;rw[p]at U;cases U;exact NB n.ok Y y (w.mono n.ge) s fun C B=>o u R _ n.ge (q C Q B)
end
mutual
noncomputable def cU:D->PyData
|.non=>.none
|.bl b=>.bool b
|.int i=>.int i
|.str x=>.str x
|.tup ds=>.tuple (zjl ds)
|.lst ds=>.list (zjl ds)
|.dic _=>.none
|.obj _ _=>.none
noncomputable def zjl:List D->List PyData
|[]=>[]
|d::ds=>cU d::zjl ds
end
noncomputable def db:Nat->D->Prop
|_,.non=>True
|_,.bl _=>True
|_,.int _=>True
|_,.str x=>PyData.strOk x=true
|0,.tup _=>False
|0,.lst _=>False
|k+1,.tup ds=>∀d∈ds,db k d
|k+1,.lst ds=>∀d∈ds,db k d
|_,.dic _=>False
|_,.obj _ _=>False
theorem nF:db (k+1) (.lst ds)↔∀d∈ds,db k d:=by simp only[db]
theorem GP:db (k+1) (.tup ds)↔∀d∈ds,db k d:=by simp only[db]
noncomputable def nW(a b:D):Bool:=Í (cU a) (cU b)
section
variable{pz:List (Addr×Obj)}{σ:L2.St}{H:Hp}{s:d_}{G:GH}
theorem Jj(b:∀(d:D)(v:V)(u:a_),db k d->RG X.K G v d->L2.aS v u->∃Y,Reads s.heap u (cU d) Y)(ds:List D)(vs:List V)(us:List a_)(h:∀d∈ds,db k d)(r:cZ X.K G vs ds)(q:aL vs us):∃Y,ReadsAll s.heap us (zjl ds) Y:=by induction r generalizing us with
|nil=>cases q;exact⟨[],.nil⟩
|cons r t U=>cases q with
 |cons a Z=>obtain⟨g,e⟩:=b _ _ _ (h _ g_) r a;obtain⟨f,c⟩:=U _ `a Z;exact⟨_,.cons e c⟩
theorem wR(I:Inv X pz σ H s)(Z:bZ X.K G H):∀(k:Nat)(d:D)(v:V)(u:a_),db k d->RB X.K G H v d->L2.aS v u->∃e,Reads s.heap u (cU d) e:=by
 intro k
 induction k with
|zero=>intro d v u Y r U;cases d with
 |non=>rw[r.non Z]at U;cases U;exact⟨_,.none⟩
 |bl b=>rw[r.bl Z]at U;cases U;exact⟨_,.bool b⟩
 |int i=>rw[r.int Z]at U;obtain⟨t,rfl⟩:=U;exact⟨_,.int i t⟩
 |str x=>rw[r.str Z]at U;obtain⟨t,rfl⟩:=U;exact⟨_,.str x t⟩
 |tup _=>unfold db at Y;exact Y.elim
 |lst _=>unfold db at Y;exact Y.elim
 |dic _=>unfold db at Y;exact Y.elim
 |obj _ _=>unfold db at Y;exact Y.elim
|succ k C=>intro d v u Y r U;cases d with
 |non=>rw[r.non Z]at U;cases U;exact⟨_,.none⟩
 |bl b=>rw[r.bl Z]at U;cases U;exact⟨_,.bool b⟩
 |int i=>rw[r.int Z]at U;obtain⟨t,rfl⟩:=U;exact⟨_,.int i t⟩
 |str x=>rw[r.str Z]at U;obtain⟨t,rfl⟩:=U;exact⟨_,.str x t⟩
 |tup B=>obtain⟨a,f,rfl,g,l⟩:=r.tup Z;cases U;obtain⟨c,j,m,_⟩:=I.tuple g;obtain⟨o,p,w,n,q⟩:=m;obtain⟨e,h⟩:=Jj (k:=k) (fun d v u A z y=>C d v u A z.rb y) B f c (GP.mp Y) l j;refine⟨e,?_⟩;unfold cU;exact .tuple p w q (by simpa using h)
 |lst B=>obtain⟨a,f,rfl,g,l⟩:=r.lst Z;cases U;obtain⟨c,j,m,_⟩:=I.list g;obtain⟨o,p,w,n,q⟩:=m.isList;obtain⟨e,h⟩:=Jj (k:=k) (fun d v u A z y=>C d v u A z.rb y) B f c (nF.mp Y) l j;refine⟨a::e,?_⟩;unfold cU;exact .list p w q (by simpa using h)
 |dic _=>unfold db at Y;exact Y.elim
 |obj _ _=>unfold db at Y;exact Y.elim
theorem Av(U:∀d,db k d->XZ (cU d)=true/\Yi (cU d)<=k):∀ds:List D,(∀d∈ds,db k d)->Ĕ (zjl ds)=true/\ĕ (zjl ds)<=k
|[],_=>by unfold zjl Ĕ ĕ;exact⟨rfl,XY _⟩
|d::ds,h=>by obtain⟨c,b⟩:=U d (h d g_);obtain⟨a,Z⟩:=Av U ds fun x Y=>h x (h_ _ Y);unfold zjl Ĕ ĕ;rw[c,a];exact⟨rfl,Nat.max_le.mpr ⟨b,Z⟩⟩
theorem N0:∀(k:Nat)(d:D),db k d->XZ (cU d)=true/\Yi (cU d)<=k:=by
 intro k
 induction k with
|zero=>intro d U;cases d with
 |non=>unfold cU XZ Yi;grind
 |bl b=>unfold cU XZ Yi;grind
 |int i=>unfold cU XZ Yi;grind
 |str x=>unfold db at U;unfold cU XZ Yi;simp_all
 |tup _=>unfold db at U;exact U.elim
 |lst _=>unfold db at U;exact U.elim
 |dic _=>unfold db at U;exact U.elim
 |obj _ _=>unfold db at U;exact U.elim
|succ k Z=>intro d U;cases d with
 |non=>unfold cU XZ Yi;grind
 |bl b=>unfold cU XZ Yi;grind
 |int i=>unfold cU XZ Yi;grind
 |str x=>unfold db at U;unfold cU XZ Yi;simp_all
 |tup Y=>
   obtain⟨c,a⟩:=Av Z Y (GP.mp U);unfold cU XZ Yi
   grind
 |lst Y=>
   obtain⟨c,a⟩:=Av Z Y (nF.mp U);unfold cU XZ Yi
   grind
 |dic _=>unfold db at U;exact U.elim
 |obj _ _=>unfold db at U;exact U.elim
theorem xi(h:db 60 d):Ŭ (cU d)=true:=by obtain⟨a,b⟩:=N0 60 d h;unfold Ŭ;rw[a,Q_c (S_ b `d)];rfl
end
section
variable{fc:FE}
def pG(a b:D):Bool:=dw a&&dw b&&mz (ja a) (ja b)
open Classical in
def jM(a b:D):Option Bool:=if pG a b=true then some (eqs a b)else if db 60 a/\db 60 b then some (nW a b)else none
def eqD(a b:D):Option D:=(jM a b).map .bl
def neD(a b:D):Option D:=(jM a b).map fun c=>.bl (not c)
theorem AK{a b:D}(h:pG a b=false)(Y:db 60 a)(U:db 60 b):jM a b=some (nW a b):=by unfold jM;simp_all
theorem AL{a b:D}(h:pG a b=true):jM a b=some (eqs a b):=by unfold jM;rw[Q_d h]
@[simp] theorem eqB_int(a b:Int):jM (.int a) (.int b)=some (a==b):=AL rfl
@[simp] theorem eqB_str(a b:Str):jM (.str a) (.str b)=some (a==b):=AL rfl
@[simp] theorem eqB_non_int(b:Int):jM .non (.int b)=some false:=AL rfl
theorem Iz{a b:D}(h:mz (ja a) (ja b)=true)(Y:dw a=true)(U:dw b=true):decide (ja a=ja b)=eqs a b:=by
 cases a <;> cases b <;> first
  |grind
  |grind
  |exact Q_f (h) w_
  |exact Ak
  |exact zz
  |exact Al
  |rfl
  |simp[ja,eqs,iN]
def Ac(K:W.Frag)(neg:Bool):R2:=fun x y H Q=>∃(G:GH)(d1 d2:D),bZ K G H/\RB K G H x d1/\RB K G H y d2/\db 60 d1/\db 60 d2/\Q (.bl (if neg then not (nW d1 d2) else nW d1 d2)) H
theorem Jz(e:X.A.units+64<Y4):c7 X (X1 .Eq) (Ac X.K false):=by intro l s k H x y v u Q I b a h;obtain⟨G,j,i,Z,d,c,Y,U,q⟩:=h;obtain⟨n,g⟩:=wR I Z 60 j x v Y d b;obtain⟨m,f⟩:=wR I Z 60 i y u U c a;exact SeqAt.compareEq_shaped g f (xi Y) (xi U) e ⟨.bl _,H,I,rfl,q⟩
theorem eq_cases{a b:D}{c:Bool}(h:jM a b=some c):(pG a b=true/\c=eqs a b)\/(db 60 a/\db 60 b/\c=nW a b):=by
 unfold jM at h
 grind
theorem MA{K:W.Frag}:hU K (fun x y H Q=>ML x y H Q\/Ac K false x y H Q) eqD:=by intro G H m l g f d Q Y b a e q;unfold eqD at e;cases Z:jM g f with
|none=>rw[Z]at e;cases e
|some c=>
  rw[Z]at e;cases e;rcases eq_cases Z with⟨U,rfl⟩|⟨i,h,rfl⟩
  .unfold pG at U;rw[P_,P_]at U;obtain⟨k,_⟩:=RB.flat b Y U.1.1;obtain⟨j,_⟩:=RB.flat a Y U.1.2;refine .inl ⟨`a,?_⟩;rw[k,j,Iz U.2 U.1.1 U.1.2];exact q _ G H (Grow.refl Y) (.scl (.bl _))
  .exact .inr ⟨G,g,f,Y,b,a,i,h,q _ G H (Grow.refl Y) (.scl (.bl _))⟩
theorem U4{K:W.Frag}:hU K (fun x y H Q=>MJ x y H Q\/Ac K true x y H Q) neD:=by intro G H m l g f d Q Y b a e q;unfold neD at e;cases Z:jM g f with
|none=>rw[Z]at e;cases e
|some c=>
  rw[Z]at e;cases e;rcases eq_cases Z with⟨U,rfl⟩|⟨i,h,rfl⟩
  .unfold pG at U;rw[P_,P_]at U;obtain⟨k,_⟩:=RB.flat b Y U.1.1;obtain⟨j,_⟩:=RB.flat a Y U.1.2;refine .inl ⟨`a,?_⟩;rw[k,j,Iz U.2 U.1.1 U.1.2];exact q _ G H (Grow.refl Y) (.scl (.bl _))
  .exact .inr ⟨G,g,f,Y,b,a,i,h,q _ G H (Grow.refl Y) (.scl (.bl _))⟩
theorem eY(U:X.A.units+64<Y4)(Z:SB X g m a fa)(Y:SB X g m b fb):SE X g m (.Compare a [.Eq] [b] pos) (f2 fa fb eqD):=vF (c7.or DQ (Jz U)) MA Z Y (ma _)
theorem cP(U:X.A.units+64<Y4)(Z:SB X g m a fa)(Y:SB X g m b fb):SQ X g m (.Compare a [.Eq] [b] pos) (bY (f2 fa fb eqD)):=nr (c7.or DQ (Jz U)) MA Z Y (ma _)
theorem o4(U:X.A.units+64<Y4)(k:SB X g m a fa)(j:SB X g m b fb):SQ X g m (.Compare a [.NotEq] [b] pos) (bY (f2 fa fb neD)):=nr (c7.or VZ ((fun U=>by intro t s r H x y v u Q I e d h;obtain⟨G,p,o,c,i,f,Z,Y,q⟩:=h;obtain⟨z,n⟩:=wR I c 60 p x v Z i e;obtain⟨w,l⟩:=wR I c 60 o y u Y f d;exact SeqAt.compareNe_shaped n l (xi Z) (xi Y) U ⟨.bl _,H,I,rfl,q⟩) U)) U4 k j (ma _)
def zB(fa fb fc:FE)(k k':D->D->Option D):FE:=fun r=>(fa r).bind fun x=>(fb r).bind fun y=>(eu (k x y)).bind fun z=>(eu (uJ z)).bind fun c=>if c=true then(fc r).bind fun w=>eu (k' y w)else .ok (.bl false)
def Ey(K:W.Frag):R2:=fun x y H Q=>∃l b xs zs,x=.ref l/\y=.ref b/\cM K H l xs/\cM K H b zs/\xs.length+zs.length<=sizeLine/\∀p,H p=none->Q (.ref p) (aY H p (.lst (xs++zs)))
theorem Gi:c7 X (ZJ .Add) (Ey X.K):=by
 intro N s J H x y v u Q I p o h;obtain⟨l,b,M,L,rfl,rfl,z,A,R,q⟩:=h;cases p;cases o;obtain⟨a,r,t,_⟩:=I.list z;obtain⟨U,f,G,_⟩:=I.list A;have P:=r.length;have O:=f.length;obtain⟨⟨C,B,k,m⟩,g,j,n,i⟩:=t.isList;obtain⟨⟨IO,E,T,Z⟩,c,Y,w,d⟩:=G.isList;simp only at j i Y d;subst j i Y d;have e:a.toArray++U.toArray=(a++U).toArray:=`s
 refine ÿ ⟨_,g,rfl⟩ ⟨_,c,rfl⟩ noFill_list_add seq_list_add PySem.F.slot_list_add PySem.F.entry_list_add (PySem.F.args_list_add_2 _ _) (list_addW _ _ a.toArray U.toArray n w B E m Z `z) ⟨g,c,?_⟩;rw[e];exact⟨.ref _,_,I.lnew (t':=s.toks) (r.append f) (by rw[XB];omega),rfl,q _ I.fresh⟩
noncomputable def addA:D->D->Option D
|.int a,.int b=>some (.int (a+b))
|.str a,.str b=>if a.length+b.length<=sizeLine then some (.str (a++b))else none
|.lst a,.lst b=>if a.length+b.length<=sizeLine then some (.lst (a++b))else none
|.tup (x::a),.tup b=>if (x::a).length+b.length<=sizeLine then some (.tup (x::a++b))else none
|_,_=>none
theorem F1{K:W.Frag}:hU K (fun x y H Q=>(∃i j,x=.int i/\y=.int j/\Q (.int (i+j)) H)\/(∃i j,x=.str i/\y=.str j/\i.length+j.length<=sizeLine/\Q (.str (i++j)) H)\/Ey K x y H Q\/Ez K x y H Q) addA:=by
 intro G H u t w v d Q U Y f e q;unfold addA at e;split at e
 .cases e;exact .inl ⟨_,_,Y.int U,f.int U,q _ G H (Grow.refl U) (.scl (.int _))⟩
 .split at e
  .rename_i hl;cases e;exact .inr (.inl ⟨_,_,Y.str U,f.str U,hl,q _ G H (Grow.refl U) (.scl (.str _))⟩)
  .cases e
 .split at e
  .rename_i hl;cases e;obtain⟨a,h,rfl,l,c⟩:=Y.lst U;obtain⟨b,g,rfl,k,Z⟩:=f.lst U;have r:=Paired.length c;have o:=Paired.length Z;exact .inr (.inr (.inl ⟨a,b,h,g,rfl,rfl,l,k,`o,fun p m=>q _ _ _ (Grow.newF U m (.lst (.inl cS) (Paired.app c Z))) (.ref iC)⟩))
  .cases e
 .split at e
  .rename_i x0 a0 b0 hl;cases e;rcases Y with Y|⟨z,_,n⟩
   .obtain⟨a,h,rfl,l,c⟩:=Y.tup U;obtain⟨b,g,rfl,k,Z⟩:=f.tup U;have r:=Paired.length c;have o:=Paired.length Z;refine .inr (.inr (.inr ⟨a,b,h,g,rfl,rfl,l,k,?_,`o,fun s=>?_,fun _ p m=>q _ _ _ (Grow.newF U m (.tup (.inl cS) (Paired.app c Z))) (.ref iC)⟩))
    .rintro rfl
     cases c
    .subst s;cases Z;refine q _ G H (Grow.refl U) ?_;rw[W_];exact Y
   .cases n.ob
  .cases e
 .cases e
theorem d5(Y:SB X g m a fa)(U:SB X g m b fb):SE X g m (.BinOp a .Add b pos) (f2 fa fb addA):=lR (c7.or FA (c7.or JV (c7.or Gi Gj))) F1 Y U
end
end DL
end
namespace DL
open PySem PySem.Spec PyProof.Rows L2
structure DefAt(K:W.Frag)(mg:Str->Option a_)(x:Str)(st:Stmt):Prop where
 ex:∃f fd,mg x=some (.ref f)/\Fun K x x st f fd
structure Callee(P:z_)(w:M_)(K:W.Frag)(mg:Str->Option a_)(base:Heap)(x:Str)(ps:List Str)(ds:List a_)(k:Nat)(ro:Bool)(ms:List Md)(F:List D->Res D):Prop where
 ex:∃f fd,mg x=some (.ref f)/\W.keepIn K (.ref f)=true/\gO K fd ps ds/\FnOk P w K mg base fA k f fd ps (nQ K ro ms F)
variable{w:M_}{K:W.Frag}
section
variable{P:z_}{mg:Str->Option a_}{base:Heap}
theorem MT{st:Stmt}(A:DefAt K mg x st)(S:FnScope N b (aA st))(Y:ms.length=b.length)(e:∀(kV c d:a_)(l:Option Addr)(Z j:a_)(us:List a_),us.length=b.length->Y5 (W.fnOf x x (aW st) (aO st) (aA st) .none kV c d l Z j) ⟨us,[]⟩=pure (b.zip us))(U:∀(f:Addr)(Z:a_)(A:N_)(a:List Env)(s:d_)(H:Hp)(g:GE)(E:XK),Room k (A.deeper (YK x (aA st) s.heap.objs.size f Z)) ->fP (cR fA P w K mg base N x (aA st) f Z A a s H E).nox g ro [] (gw N.length ms) (aO st) fs m'):Callee P w K mg base x b [] (k+1) ro ms fun ds=>bV ro (fs (cH N.length ds)):=by obtain⟨f,i,h,F⟩:=A.ex;exact⟨f,i,h,F.kp,F.binds e,EU F S Y (U f)⟩
structure DefAtD(K:W.Frag)(mg:Str->Option a_)(x:Str)(st:Stmt)(dds:List a_):Prop where
 ex:∃(f T:Addr)(o:Obj)(n:Nat)(oc:a_)(od:Option Addr)(kV doc pm:a_)(an:Option Addr)(cdv ct:a_)(osl:Array (Option a_)),mg x=some (.ref f)/\K.lookup T=some o/\o.data=.seq dds.toArray n/\K.lookup f=some ⟨oc,od,.func (W.fnOf x x (aW st) (aO st) (aA st) (.ref T) kV doc pm an cdv ct),osl⟩/\W.codeIn K cdv x=true/\W.keepIn K (.ref f)=true
theorem rR{st:Stmt}(A:DefAtD K mg x st dds)(S:FnScope N d (aA st))(Y:ms.length=d.length)(m:Nat)(O:m+ds.length=d.length)(C:∀(T:Addr)(kV c e:a_)(i:Option Addr)(a h:a_)(us:List a_),us.length=m->∃l:Option (Array a_)->Sem (List (Str×a_)),Y5 (W.fnOf x x (aW st) (aO st) (aA st) (.ref T) kV c e i a h) ⟨us,[]⟩=seqItems? (.ref T) >>= l/\l (some dds.toArray)=pure (d.zip (us++ds)))(U:∀(f:Addr)(a:a_)(A:N_)(b:List Env)(s:d_)(H:Hp)(g:GE)(E:XK),Room k (A.deeper (YK x (aA st) s.heap.objs.size f a)) ->fP (cR fA P w K mg base N x (aA st) f a A b s H E).nox g ro [] (gw N.length ms) (aO st) fs m'):Callee P w K mg base x d ds (k+1) ro ms fun r=>bV ro (fs (cH N.length r)):=by
 obtain⟨f,T,o,n,M,L,kV,c,e,i,a,h,u,I,F,B,v,Z,y⟩:=A.ex;refine⟨f,W.fnOf x x (aW st) (aO st) (aA st) (.ref T) kV c e i a h,I,y,fun s us J R=>?_,?_⟩
 .obtain⟨l,e1,e2⟩:=C T kV c e i a h us `g;exact BindsTo.of_defaults rfl (J _ _ F) B e1 e2
 .have hpl:d.length<=N.length:=by have:=Q_g Zg S.pre;grind
  refine vz v Z S (fun t H Q E k=>by obtain⟨G,ds,p,j,q⟩:=k;exact j.len.1.trans Y) fun A b s H t Q E z w=>?_;obtain⟨G,ds,p,j,q⟩:=w;exact⟨_,(U f a A b s H _ E z).2.nox,_,G,r6 p j `o,Iq q⟩
end
variable{X:Cx}{g:GE}{m:List Md}{e:Expr}{es:List Expr}{fl:aJ->Res (List D)}{p pos:Pos}
section
variable{k:Nat}{ps:List Str}{F:List D->Res D}{dvs:List V}{ds:List a_}{dds:List D}{x:Str}{i:Nat}{ms ms':List Md}
theorem Vn(c:Callee X.prog X.w X.K X.mg X.base x ps ds k false ms' F)(o:Room k X.A)(y:gL X g m (e::es) ms fl)(U:!ms'=ms++p_ dds.length .sh)(s:!Gl X x)(u:aL dvs ds:=by exact .nil)(Y:Paired Scl dvs dds:=by exact .nil)(Z:!!Nq x)(t:!Sx X e es)(a:!Bx X pos es):SE X g m (.Call (.Name x p) (e::es) [] pos) (cG fl dds F):=by
 subst U;obtain⟨f,O,E,C,B,z⟩:=c.ex;refine PE.imp (qb z o s E C B u jU y Z t a) fun L H Q w=>?_;obtain⟨r,G,j,q⟩:=w;refine ⟨r,G,j,?_⟩
 cases b:fl r with
|ok M=>unfold cG at q;rw[b]at q;intro N R P h n;exact IP h.ok n Y (bQ (Bc q (Fy _)) fun d k v J I i l=>k v J I (h.trans i) l)
|exc x=>unfold cG at q;rw[b]at q;exact q
|stuck=>unfold cG at q;rw[b]at q;exact q
theorem v_(i:Nat)(a:!m[i]? = some .sh)(c:!X.N[i]? = some x)(Z:eJ X.env.scope x:=by first|exact Or.inl rfl|exact Or.inr (Or.inl rfl)|exact Or.inr (Or.inr rfl))(b:!!Nq x)(U:!!Nc x):SE X g m (.Name x p) fun r=>gH r i:=by refine PE.imp (eL c Z b U) fun j H Q z=>?_;obtain⟨r,G,Y,q⟩:=z;obtain⟨d,e,k⟩:=AN q;obtain⟨v,h,f⟩:=Y.sh i d e a;exact⟨v,h,k v G H (Grow.refl Y.gok) f⟩
theorem aB(i:Nat)(f:!!i<m.length)(l:!X.N[i]? = some x)(b:eJ X.env.scope x:=by first|exact Or.inl rfl|exact Or.inr (Or.inl rfl)|exact Or.inr (Or.inr rfl))(j:!!Nq x)(U:!!Nc x) :
  SB X g m (.Name x p) fun r=>gH r i:=by refine PE.imp (eL l b j U) fun n H Q z=>?_;obtain⟨r,G,Y,q⟩:=z;obtain⟨d,e,k⟩:=AN q;have c:=m_ f;cases h:m[i]with
    |sh=>obtain⟨v,a,Z⟩:=Y.sh i d e `a;exact⟨v,a,k v G H (Grow.refl Y.gok) Z.rb⟩
    |ow=>obtain⟨v,a,Z,_⟩:=Y.ow i d e `a;exact⟨_,a,k _ G H (Grow.refl Y.gok) (.inr ⟨v,rfl,Z⟩)⟩
    |bw=>obtain⟨v,a,Z⟩:=Y.bw i d e `a;exact⟨_,a,k _ G H (Grow.refl Y.gok) Z.rb⟩
end
noncomputable def rX(osc:Ze)(ON:List Str)(sc:Ze)(N':List Str)(nl:Nat)(cap:List Nat):Bool:=decide (sc.kind=.function)&&sc.names.all (fun y=>decide (y.2≠.cell))&&sc.names.all (fun y=>decide (y.2≠.local) || decide (sc.names.lookup y.1=some .local)) &&
 sc.names.all (fun y=>decide (y.2≠.free) || (decide (osc.names.lookup y.1=some .cell) || decide (osc.names.lookup y.1=some .free)))&&decide (N'.length=nl+cap.length) &&
 (j_ cap.length).all fun j=>match N'[nl+j]?,ON[cap.getD j 0]? with
 |some x,some y=>decide (x=y)&&decide (sc.names.lookup x=some .free)
 |_,_=>false
theorem sv(g:X.env.scope=osc)(f:X.N=ON)(h:rX osc ON a N' nl cap=true):CompSc X a N' nl cap:=by subst g f;unfold rX at h;simp only[P_,U_,Q_i,Bool.or_eq_true]at h;obtain⟨⟨⟨⟨⟨o,n⟩,m⟩,l⟩,k⟩,i⟩:=h;refine⟨o,n,fun y Y c=>(m y Y).resolve_left fun z=>z c,fun y Y e=>(l y Y).resolve_left fun z=>z e,k,fun j d=>?_⟩;have U:=i j (u_.mpr d);cases Z:N'[nl+j]? with
|none=>rw[Z]at U;cases U
|some x=>cases b:X.N[cap.getD j 0]? with
 |none=>rw[Z,b]at U;cases U
 |some y=>rw[Z,b]at U;simp only[P_,Q_i]at U;exact⟨x,rfl,by rw[U.1],U.2⟩
variable{mb:List Md}{a b:Expr}{f fa fb:FE}{pos':Pos}
section
variable{c:Expr}{fc:FE}
theorem P9{k p:D->D->Option D}(N:c7 X (X1 op) R)(Z:c7 X (X1 U) u)(O:hU X.K R k)(Y:hU X.K u p)(ha:SB X g m a fa)(hb:SB X g m b fb)(T:SB X g m c fc)(P:lastMarks [op,U] [b,c]=false:=by with_unfolding_all rfl):SE X g m (.Compare a [op,U] [b,c] pos) (zB fa fb fc k p):=PE.imp (Qt N Z ha hb T P) fun σ H Q h=>by obtain⟨r,G,l,q⟩:=h;refine oW l q fun d1 t B j G2 H2 w F n M=>?_;obtain⟨z,ez,L⟩:=dz (cC M);obtain⟨cc,s,o⟩:=dz (cC L);refine O G2 H2 B j d1 t z _ w.ok F n ez fun v x H3 f C=>?_;cases z with
    |bl b'=>cases s;refine⟨_,C.bl f.ok,?_⟩;cases cc with
     |false=>exact o _ x H3 (w.trans f) (.scl (.bl _))
     |true=>refine⟨r,x,(l.grow w).grow f,gX (cC o) (w.trans f) fun d3 J A G4 H4 i E=>?_⟩;obtain⟨d,e,I⟩:=dz J;exact Y G4 H4 j A t d3 d Q i.ok ((n.mono f).mono i) E e fun v G' H' y z=>I v G' H' (((w.trans f).trans i).trans y) z
    |_=>cases s
theorem VX:hU K (mC fun i j=>V.bl (decide (i<j))) nS:=oB fun _ _=>.bl _
theorem U6:hU K (mC fun i j=>V.bl (decide (i<=j))) MO:=oB fun _ _=>.bl _
end
theorem Ms{b:Str->Option a_}{st:Stmt}(m:K.In h)(G:h.Ns K_ b){f:Addr}{g:a_}{e j:Option Addr}{kV Z d U i:a_}(a:W.nsIn K K_ x=some (some (.ref f)))(l:K.lookup f=some ⟨g,e,.func (W.fnOf x x (aW st) (aO st) (aA st) .none kV Z d j U i),Y⟩)(c:W.codeIn K U x=true)(k:W.keepIn K (.ref f)=true):DefAt K b x st:=⟨f,_,W.mg_of m G a,gj l c k⟩
theorem UK{st:Stmt}(q:K.In h)(G:h.Ns K_ i){f T:Addr}{g p:a_}{e m o:Option Addr}{Z U:Array (Option a_)}{n:Nat}{kV b d Y j:a_}(a:W.nsIn K K_ x=some (some (.ref f)))(l:K.lookup f=some ⟨g,e,.func (W.fnOf x x (aW st) (aO st) (aA st) (.ref T) kV b d m Y j),Z⟩)(t:K.lookup T=some ⟨p,o,.seq dds.toArray n,U⟩)(c:W.codeIn K Y x=true)(k:W.keepIn K (.ref f)=true):DefAtD K i x st dds:=⟨f,T,_,n,g,e,kV,b,d,m,Y,j,Z,W.mg_of q G a,t,rfl,l,c,k⟩
theorem Vc{x p:Str}{st:Stmt}{e:Addr}(U:c x=some (.ref e))(A:DefAt K c x st)(m:∀(kV a d:a_)(h:Option Addr)(b g:a_)(us:List a_),us.length=[p].length->Y5 (W.fnOf x x (aW st) (aO st) (aA st) .none kV a d h b g) ⟨us,[]⟩=pure ([p].zip us))(C:∀(f:Addr)(Z:X2),Fun K x x st f Z->∀base:Heap,FnOk P w K c base fA k f Z [p] (nQ K false [.sh] F)):∃Z:X2,(∀(s:d_)(u:a_),ö s Z ⟨[u],[]⟩ [(p,u)])/\∀base:Heap,K.In base->base.Ns K_ c->FnOk P w K c base fA k e Z [p] (nQ K false [.sh] F):=by obtain⟨f,Z,i,j⟩:=A.ex;rw[U]at i;cases i;refine⟨Z,fun s u=>?_,fun base _ _=>C e Z j base⟩;obtain⟨o,n,kV,a,d,h,b,g,l,rfl,q,Y⟩:=j.ex;exact .of_eq (m kV a d h b g [u] rfl)
theorem U9{l:W.OpenLaw}{K:Params->W.Frag}{F:List D->Res D}(I:l.most=some 63)(Z:d.params.defaults=[])(G:Room k ë)(J:∀(w:M_)(h:Heap),B w h->(K w.params).In h)(t:∀c:List Int,c.length<=63->F [.lst (c.map .int)]=.ok (.bl true))(C:∀(w:M_)(j:Str->Option a_)(A:Addr)(h:Heap),(K w.params).In h->h.Ns K_ j->j d.name=some (.ref A) ->∃y:X2,(∀(s:d_)(u:a_),ö s y ⟨[u],[]⟩ [(x,u)])/\∀base:Heap,(K w.params).In base->base.Ns K_ j->FnOk l.prog w (K w.params) j base fA k A y [x] (nQ (K w.params) false [.sh] F)):W.WalkO q Y M B l.row.toRowW d [] (fun f vs=>PySem.call f vs):=by
 refine L2.mw I `d Z G J C (fun w H a c r P g=>?_) fun _ _ _ _ _ z=>z;have U:∀(l:List Int),Paired Scl (l.map V.int) (l.map D.int):=fun l=>by induction l with
 |nil=>exact .nil
 |cons i l E=>exact .cons (.int i) E
 rcases g with g|g
 .refine⟨fun b=>if b=a then some _ else none,[.lst (c.map .int)],fun b L p=>?_,.sh (.ref (Q_d rfl)) .nil,?_⟩
  .by_cases e:b=a
   .subst e;have o:=(Q_d rfl).symm.trans p;cases o;exact .lst g (Paired.mono (fun _ _ z=>.scl z) (U c))
   simp_all
  .rw[t c r];intro v O N m n;exact n.bl m.ok
 .refine⟨fun _=>none,_,fun b L p=>(by cases p),.sh (.kc (.lst (.inr g) (U c))) .nil,?_⟩;rw[t c r];intro v O N m n;exact n.bl m.ok
section
open AutoSeq1 (wpAny_loadPart')
section
variable{prog:z_}{w:M_}{A:N_}{E:a_->d_->Prop}{s:d_}
theorem UB{items}(U:s.heap.IsTupleIter it t i)(d:s.heap.IsTuple t items)(c:items[i]? = some x)(f:∀h',h'.IsTupleIter it t (i+1)->Z4 it s.heap h'->Q x { s with heap:=h' }):C_ (F_ prog w) A (Zn (.ref it)) Q E s:=by
 obtain⟨o,Z,e,Y⟩:=id U;obtain⟨g,a,_,h,b⟩:=d;refine b_ (Yb U.typeIs F.slot_tuple_iterator_next
  (Yy F.slot_tuple_iterator_next U.typeIs F.entry_tuple_iterator_next ?_ (F.args_tuple_iterator_next_1 _)))
 show C_ _ _ (field _ 0 >>= _) _ _ s;refine b_ (XE Z Y rfl ?_);refine b_ (XE Z Y rfl ?_);refine b_ (YD a b ?_);simp only[Yg,c];refine b_ (Zh Z Y `s (r_ ⟨x,rfl,r_ (f _ ?_ (Z2 ..))⟩));exact⟨_,YH _ Z (Obj.isFreed_of_fields (Ŝ Y _)),(Obj.cls_mapFields ..).trans e,by rw[Ŝ Y];simp[à]⟩
theorem Ux{items}(f:A.handled=none)(U:s.heap.IsTupleIter it t i)(d:s.heap.IsTuple t items)(c:items[i]? = none)(g:∀h' e,Heap.ExtBut it s.heap h'->(∃o,h'.get? e=some o/\o.cls=.type "StopIteration")->E (.ref e) { s with heap:=h' }):C_ (F_ prog w) A (Zn (.ref it)) Q E s:=by
 obtain⟨o,Z,k,b⟩:=id U;obtain⟨h,Y,_,j,a⟩:=d;unfold Zn;refine b_ (Yb U.typeIs F.slot_tuple_iterator_next
  (Yy F.slot_tuple_iterator_next U.typeIs F.entry_tuple_iterator_next ?_ (F.args_tuple_iterator_next_1 _)))
 show C_ _ _ (field (.ref it) 0 >>= _) _ _ s;refine b_ (XE Z b rfl ?_);refine b_ (XE Z b rfl ?_);refine b_ (YD Y a ?_);simp only[Yg,c];refine b_ (Ä (b_ (Zh Z b `s ?_)));refine b_ ?_;refine b_ (m:=firstArgMember _ _) (wpAny_of_eq (by first|rfl|grind) ?_);refine ZL ?_ (by size_fits);refine b_ (wpAny_handled ?_)
 first|grind|rw[f]
 refine b_ (r_ (wpAny_throw ?_));exact g _ _ (((Z2 ..).extBut.push _).push _) ⟨_,n_ _ rfl,rfl⟩
end
theorem Vz(f:A.handled=none)(it l:Addr)(Z:l≠it)(a:Array a_):â prog w A it [it,l] a.size (fun i v=>a[i]? = some v) (fun i h=>h.IsTupleIter it l i/\h.IsTuple l a) where
 live:=fun _ _ b=>let⟨o,c,_⟩:=b.1;⟨o,c⟩
 frame:=fun _ _ _ b d=>⟨let⟨o,c,r⟩:=b.1;⟨o,d it `s o c,r⟩,let⟨o,c,r⟩:=b.2;⟨o,d l `s o c,r⟩⟩
 item:=fun i s Q E e b g=>by refine UB b.1 b.2 (x:=a[i]) (by simp[e]) fun k Y U=>?_;exact g _ k s.toks (by simp[e]) ⟨Y,b.2.extBut U.extBut Z⟩ U
 done:=fun s Q E b j=>Ux f b.1 b.2 `s j
theorem Us(l:Addr)(Z:Array a_)(n:Nat)(U:Option Addr)(i:Array (Option a_)) :
  Meets (è.«enumerate.__new__» ⟨[.type "enumerate",.ref l],[]⟩) (fun _ R s=>s.heap.get? l=some { cls:=.type "tuple",dict:=U,data:=.seq Z n,slots:=i } /\
   R (.ok (.ret (.ref (s.heap.push { cls:=.type "tuple_iterator",data:=.fields #[.ref l,.int 0 0] }).objs.size)))
    { s with heap:=(s.heap.push { cls:=.type "tuple_iterator",data:=.fields #[.ref l,.int 0 0] }).push { cls:=.type "enumerate",data:=.fields #[.none,.bool false,.ref s.heap.objs.size,à 0,.none,.none] } }):=
 .of_wp fun e w A R s h=>by
  obtain⟨k,g,d,f,j⟩:=s;obtain⟨a,h⟩:=h;have Y:=sub_enumerate;have b:Heap.IsTuple (Ĝ ⟨k,g,d,f,j⟩) l Z:=⟨_,a,rfl,n,rfl⟩
  wp_walk using Y6 a
  refine wpAny_stack_any fun m=>r_ ?_;split
  .rename_i c _ _ _ _ _;cases(c==Value.type "enumerate")
   .wp_walk using Y6 a,Yk b
    exact⟨_,rfl,h⟩
   .wp_walk using Y6 a,Yk b
    exact⟨_,rfl,h⟩
  .wp_walk using Y6 a,Yk b
   exact⟨_,rfl,h⟩
section
variable{prog:z_}{w:M_}{A:N_}{E:a_->d_->Prop}{s:d_}
theorem Uw(j:s.heap.IsTuple l Y)(h:∀h',IsEnum h' (s.heap.objs.size+1) s.heap.objs.size 0 .none->h'.IsTupleIter s.heap.objs.size l 0->h'.objs.size=s.heap.objs.size+2 ->(∀b o,s.heap.get? b=some o->h'.get? b=some o)->Q (.ref (s.heap.objs.size+1)) { s with heap:=h' }):C_ (F_ prog w) A (call (.type "enumerate") [.ref l]) Q E s:=by
 obtain⟨⟨c,U,k,e⟩,f,i,n,g⟩:=j;subst i g;refine callType_new F.called_enumerate (rfl) (F.typeCall_enumerate_1 _) (F.newCall_enumerate_1 _) (fun Z=>F.args_object_init_2 Z _) F.entry_enumerate_new
  (Us l Y n U e) ⟨f,?_⟩
 have a:(s.heap.push { cls:=.type "tuple_iterator",data:=.fields #[.ref l,.int 0 0] }).objs.size=s.heap.objs.size+1:=XV ..;rw[a];have d:IsEnum ((s.heap.push { cls:=.type "tuple_iterator",data:=.fields #[.ref l,.int 0 0] }).push
   { cls:=.type "enumerate",data:=.fields #[.none,.bool false,.ref s.heap.objs.size,à 0,.none,.none] }) (s.heap.objs.size+1) s.heap.objs.size 0 .none:=by
  have:=n_ (s.heap.push { cls:=.type "tuple_iterator",data:=.fields #[.ref l,.int 0 0] })
   (o:={ cls:=.type "enumerate",data:=.fields #[.none,.bool false,.ref s.heap.objs.size,à 0,.none,.none] }) rfl
  grind
 refine⟨⟨_,d,rfl⟩,h _ d ⟨_,c_ _ (n_ _ rfl),rfl,rfl⟩ (by rw[XV,a]) fun b o x=>c_ _ (c_ _ x)⟩
end
theorem HV{σ:L2.St}{ch:List Addr}{T:Addr}{t':Nat}(I:Inv X pz σ H s)(Y:∀b∈ch,e8 X pz H b)(k:∀b a,b∉ch->s.heap.get? b=some a->h'.get? b=some a)(h:s.heap.objs.size<=T)(g:dZ X.prog X.w (aY H T o) h' T o):Inv X pz σ (aY H T o) { s with heap:=h',toks:=t' }:=by
 have Z:H T=none:=I.hok.fresh h;have trk:∀b u,H b=some u->b∉ch:=fun b u e f=>by rw[(Y b f).1]at e;cases e
 have l:∀b a,s.heap.get? b=some a->b≠T:=fun b a e=>I_ (y_ (q_ e) h);have U:∀b u,H b=some u->aY H T o b=some u:=fun b u e=>by rw[cE (nO e Z)];exact e
 refine I.step (g':=s.gens) (d':=s.drawn) (ch:=ch) (fun b f=>?_) (fun b a _ _ d e _=>k b a d e) (fun b a _ _ d e _=>⟨a.slots,k b a d e⟩) (fun b a d e n=>by rw[cE (l b a e)];exact n)
  (fun b a d e=>⟨a,k b a d e⟩) (fun b i e=>U b _ e) (fun b a u e=>U b _ e) (fun b p e=>⟨#[],by rw[U b _ e];simp⟩) (fun m j=>?_) (fun b u e=>?_) I.bare
 .obtain⟨z0,z1,z2,z3,z4,z5⟩:=Y b f;exact⟨z3,z1,z4,z5⟩
 .obtain⟨a,es,ep,ho,r⟩:=j;exact⟨a,es,ep,k _ a (fun f=>(Y _ f).2.1 rfl) ho,r⟩
 .by_cases f:b=T
  .subst f;rw[cS]at e;cases e;exact g
  .rw[cE f]at e;refine(I.hok b u e).stay (fun c v d q=>k c v ?_ q) (fun c q=>U c _ q) fun c i q=>U c _ q;rcases d with z|z
   .rw[z];exact trk b u e
   .exact trk c _ z
noncomputable def pB(sq:Hp->List V->Prop):It:=⟨fun i H=>∃xs x,sq H xs/\xs[i]? = some x,fun i H x H'=>∃p v,H p=none/\x=.ref p/\H'=aY H p (.tup [.int i,v])/\∀xs,sq H xs->xs[i]? = some v,fun i H=>∃xs,sq H xs/\xs.length=i⟩
theorem Ov{i:Nat}(Y:h.get? T=some { cls:=.type "tuple",data:=.seq #[.int i U,x] })(r:L2.aS v x):dZ P w H h T (.tup [.int i,v]):=⟨by show 2<=sizeLine;decide,_,.cons ⟨U,rfl⟩ (.cons r .nil),⟨_,Y,rfl,0,rfl⟩,_,Y,rfl⟩
def gS(K:W.Frag)(t:Bool)(a:Addr)(H:Hp)(xs:List V):Prop:=match t with
|false=>cM K H a xs
|true=>dB K H a xs
def mR(t:Bool)(a u:Addr)(i:Nat)(h:Heap):Prop:=match t with
|false=>h.IsListIter u a i
|true=>h.IsTupleIter u a i
def nR(t:Bool)(a:Addr)(xs:Array a_)(h:Heap):Prop:=match t with
|false=>h.IsList a xs
|true=>h.IsTuple a xs
theorem p7{a u:Addr}(e:mR t a u i h):∃o,h.get? u=some o/\∀v,o.data≠.cell v:=by cases t <;> (obtain⟨o,U,Z,Y⟩:=e;simp_all)
theorem qh{a u:Addr}(e:mR t a u i h)(k:∀o,h.get? u=some o->h'.get? u=some o):mR t a u i h':=by cases t <;> (obtain⟨o,U,r⟩:=e;exact⟨o,k o U,r⟩)
theorem Qp{a:Addr}(e:nR t a xs h)(k:∀o,h.get? a=some o->h'.get? a=some o):nR t a xs h':=by cases t <;> (obtain⟨o,U,r⟩:=e;exact⟨o,k o U,r⟩)
section
variable{X:Cx}{pz:List (Addr×Obj)}{σ:L2.St}{H:Hp}{s:d_}{t:Bool}{a u:Addr}{xs ys:List V}{i:Nat}
theorem wo(I:Inv X pz σ H s)(hq:gS X.K t a H xs):∃U:List a_,aL xs U/\nR t a U.toArray s.heap:=by cases t with
|false=>obtain⟨U,Y,p,Z⟩:=I.list hq;exact⟨U,Y,p.isList⟩
|true=>obtain⟨U,Y,p,Z⟩:=I.tuple hq;exact⟨U,Y,p⟩
theorem pL(I:Inv X pz σ H s)(hc:X.calm=true)(hq:gS X.K t a H xs)(U:a≠u)(hi:mR t a u i s.heap):∃(its:List a_)(St:Nat->Heap->Prop),aL xs its/\â X.prog X.w X.A.in1 u [u,a] its.toArray.size (fun i v=>its.toArray[i]? = some v) St/\St i s.heap/\∀j h',St j h'->mR t a u j h':=by obtain⟨its,rv,p⟩:=wo I hq;have hh:X.A.in1.handled=none:=I.ok.hd hc;cases t with
|false=>exact⟨its,_,rv,Draws.list hh u a U its.toArray,⟨hi,p⟩,fun j h' st=>st.1⟩
|true=>exact⟨its,_,rv,Vz hh u a U its.toArray,⟨hi,p⟩,fun j h' st=>st.1⟩
theorem An(I:Inv X pz σ H s)(Y:gS X.K t a H xs)(U:gS X.K t a H ys):xs=ys:=by cases t with
|false=>exact I.list_inj Y U
|true=>exact I.tuple_inj Y U
theorem ql(I:Inv X pz σ H s)(Z:gS X.K t a H xs):a<s.heap.objs.size:=by obtain⟨U,b,p⟩:=wo I Z;cases t <;> (obtain⟨o,Y,_⟩:=p;exact q_ Y)
end
theorem J2{p:List Expr}(a it e:Addr)(Y:e≠it)(BT:a≠it)(KK:e≠a):Turn P w K (.Tuple p k C) (pB (gS K t a)) [e,it] e (fun i h=>(∃c,IsEnum h e it i c)/\mR t a it i h) where
 mem:=`s
 obj:=fun i h g b d=>by
  obtain⟨⟨c,f⟩,l⟩:=g;rcases s_.mp d with rfl|d
  .exact⟨_,f,fun v z=>by have z':Data.fields _=Data.cell v:=z;cases z'⟩
  .rw[A_.mp d];exact p7 l
 keep:=fun i h h' g T=>by obtain⟨⟨c,f⟩,l⟩:=g;exact⟨⟨c,T e `s _ f⟩,qh l fun o q=>T it `s o q⟩
 item:=by
  intro X n G N M i pz s σ H E I B g L;subst n G N;obtain⟨xs,x,A,m⟩:=L;obtain⟨⟨c,f⟩,l⟩:=g;obtain⟨j,St,r,Q,O,f1⟩:=pL I M A BT l;obtain⟨o1,LT,_⟩:=p7 l;have J:i<j.toArray.size:=by have:=(e_.mp m).1;rw[D_,<-r.length];exact this
  refine wpAny_pyNext_enum_itemD Q f O J Y (by simp[Y,KK]) fun y h' R n ho IO hT hsz hk=>?_;refine⟨_,rfl,wpAny_letOwnedTupleGo_enum ho fun Z Cl U=>?_⟩;obtain⟨u,hu,ru⟩:=r.get m;have F:y=u:=by
   have:j[i]? = some y:=by simpa using n
   rw[hu]at this;exact(Q_ this).symm
  subst F;have LE:s.heap.objs.size≠e:=Yf (q_ f);have Id:Z.get? s.heap.objs.size=some { cls:=.type "tuple",data:=.seq #[.int i R,y] }:=(U.2 _ LE).trans hT;refine⟨.ref s.heap.objs.size,aY H s.heap.objs.size (.tup [.int i,x]),HV (s:=s) (h':=Z) (t':=R+1) (ch:=[e,it]) I B (fun b ob d q=>?_) (l_ _) (Ov Id ru),rfl,⟨_,x,I.hok.fresh (l_ _),rfl,rfl,fun ys F=>by rw[An I F A];exact m⟩,⟨⟨_,by simpa using Cl⟩,qh (f1 _ _ IO) fun o q=>(U.2 _ (YF Y)).trans q⟩,fun b d=>?_⟩
  .have hbe:b≠e:=fun z=>d (by simp[z]);exact(U.2 b hbe).trans (hk b ob hbe (fun z=>d (by simp[z])) q)
  .rw[cE ?_]
   .exact(B b d).1
   .rcases s_.mp d with rfl|d
    .exact I_ (q_ f)
    .rw[A_.mp d];exact I_ (q_ LT)
 done:=by
  intro X n G N M i pz s σ H E I B g L;subst n G N;obtain⟨xs,A,m⟩:=L;obtain⟨⟨c,f⟩,l⟩:=g;obtain⟨j,St,r,Q,O,f1⟩:=pL I M A BT l;obtain⟨f0,f1,f2,f3,f4,f5⟩:=B it `s;have hn:j.toArray.size=i:=by rw[D_,<-r.length];exact m
  exact wpAny_pyNext_enum_endD Q f (by rw[hn];exact O) fun h' eb=>⟨rfl,I.turned (t':=s.toks) (fun b o d q=>eb b o d q) f0 f1 f3 f4 f5⟩
 self:=fun _ _ _ _ _ g h=>let⟨⟨_,f⟩,_⟩:=g;Ñ f h
end
noncomputable def oR:D->Option String
|.non=>some "NoneType"
|.bl _=>some "bool"
|.int _=>some "int"
|.str _=>some "str"
|.tup _=>some "tuple"
|.lst _=>some "list"
|.dic _=>some "dict"
|.obj _ _=>none
noncomputable def iF(t T:String):Bool:=t==T || (t == "bool" && T == "int")
def pf(T:String)(d:D):Option D:=(oR d).map fun t=>.bl (iF t T)
def Wk(K:W.Frag)(x:V)(H:Hp)(t:String):Prop:=match x with
|.non=>t = "NoneType"
|.bl _=>t = "bool"
|.int _=>t = "int"
|.str _=>t = "str"
|.ref p=>(t = "list"/\∃xs,cM K H p xs)\/(t = "tuple"/\∃xs,dB K H p xs)\/(t = "dict"/\∃kvs,Rd H p (.dK kvs))
|_=>False
variable{p2:Pos}
theorem PB:gm X (.builtin "isinstance") (fun xs H Q=>∃x t T b,xs=[x,.ty T]/\Wk X.K x H t/\W.kitOne X.K (.type t) (.type T)=some b/\Q (.bl b) H):=by
 intro j s f H xs v Q I r h;obtain⟨x,t,T,b,rfl,U,e,q⟩:=h;obtain⟨u,n,rfl,Y,g⟩:=Ej r;cases g;have fin:∀a,EP X j f Q _ { s with toks:=a }:=fun a=>⟨.bl b,H,I.tok a,rfl,q⟩
 cases x with
|non=>cases Y;cases(U);exact W.kia_one W.kitx_none I.kIn True.intro e `a fin
|bl y=>cases Y;cases(U);exact W.kia_one W.kitx_bool I.kIn True.intro e `a fin
|int i=>obtain⟨t,rfl⟩:=Y;cases U;exact W.kia_one W.kitx_int I.kIn True.intro e `a fin
|str i=>obtain⟨t,rfl⟩:=Y;cases U;exact W.kia_one W.kitx_str I.kIn True.intro e `a fin
|ref p=>
  cases Y;rcases U with⟨rfl,xs,Z⟩|⟨rfl,xs,Z⟩|⟨rfl,k,Z⟩
  .obtain⟨its,_,pl,_⟩:=I.list Z;obtain⟨o,c,d,_⟩:=pl.isList;exact W.kia_one W.kitx_list I.kIn ⟨o,c,d⟩ e `g fin
  .obtain⟨its,_,pl,_⟩:=I.tuple Z;obtain⟨o,c,d,_⟩:=pl;exact W.kia_one W.kitx_tuple I.kIn ⟨o,c,d⟩ e `g fin
  .obtain⟨_,_,vs,_,pp⟩:=(Z.ok I.hok)
   obtain⟨o,w,z,m,l,_⟩:=pp;exact W.kia_one W.kitx_dict I.kIn ⟨o,m,l.1⟩ e `g fin
|_=>exact(U).elim
theorem qV(x:Str)(T:String)(z:Zi x=some (.type T))(C:∀(d:D)(t:String),oR d=some t->W.kitOne X.K (.type t) (.type T)=some (iF t T))(E:Gl X "isinstance")(B:X.mg "isinstance" = none)(M:Gl X x)(Z:X.mg x=none)(F:SB X g m e f)(A:x≠"__name__" := by decide)(I:!!Nq x)(U:!E_ [e,.Name x p2] X.env=(false,eval e X.env)::E_ [.Name x p2] X.env)(Y:!E_ [.Name x p2] X.env=(false,eval (.Name x p2) X.env)::E_ [] X.env)(l:!(backTo pos (E_ [.Name x p2] X.env)).any (·.1)=false):SE X g m (.Call (.Name "isinstance" p) [e,.Name x p2] [] pos) (f1 f (pf T)):=by
 refine PE.imp (nJ PB E B (by first|grind|rfl) (gR F (gR (Ow (v:=.ty T) M Z z rfl A I) ky Y) U) `d `d U l) fun N H Q e=>?_;obtain⟨r,G,u,q⟩:=e;refine ⟨r,G,u,bQ (cC q) fun d y v L J h j=>?_⟩
 obtain⟨O,n,w⟩:=dz y;unfold pf at n;cases c:oR d with
|none=>simp_all
|some t=>
  rw[c]at n;cases n;exact⟨v,t,T,_,rfl,(by cases d with
    |non=>cases c;rw[j.non h.ok];rfl
    |bl b=>cases c;rw[j.bl h.ok];rfl
    |int i=>cases c;rw[j.int h.ok];rfl
    |str x=>cases c;rw[j.str h.ok];rfl
    |tup o=>cases c;obtain⟨a,k,rfl,s,r⟩:=j.tup h.ok;exact .inr (.inl ⟨rfl,k,s⟩)
    |lst o=>cases c;obtain⟨a,k,rfl,s,r⟩:=j.lst h.ok;exact .inl ⟨rfl,k,s⟩
    |dic o=>cases c;obtain⟨a,k,rfl,s,r⟩:=j.dic h.ok;exact .inr (.inr ⟨rfl,k,s⟩)
    |obj _ _=>cases c),C d t c,w _ L J h (.scl (.bl _))⟩
theorem A7(h:oR d=some t){P:String->Prop}(e:P "NoneType")(c:P "bool")(b:P "int")(a:P "str")(Z:P "tuple")(Y:P "list")(U:P "dict"):P t:=by cases d <;> cases h <;> assumption
theorem OK(K:W.Frag)(d:D)(t:String)(h:oR d=some t):W.kitOne K (.type t) (.type "int")=some (iF t "int"):=A7 (P:=fun t=>W.kitOne K (.type t) _=some (iF t "int")) h (rfl) (rfl) (rfl) (rfl) (rfl) (rfl) (rfl)
theorem QH(K:W.Frag)(d:D)(t:String)(h:oR d=some t):W.kitOne K (.type t) (.type "bool")=some (iF t "bool"):=A7 (P:=fun t=>W.kitOne K _ _=some (iF t "bool")) h (rfl) (rfl) (rfl) (rfl) (rfl) (rfl) (rfl)
theorem Aa(K:W.Frag)(d:D)(t:String)(h:oR d=some t):W.kitOne K (.type t) (.type "str")=some (iF t "str"):=A7 (P:=fun t=>W.kitOne K _ _=some (iF t "str")) h (rfl) (rfl) (rfl) (rfl) (rfl) (rfl) (rfl)
variable{pos2:Pos}
noncomputable def iH(lo:Int)(n:Nat):List V:=(j_ n).map fun(i:Nat)=>V.int (lo+(i:Int))
theorem CA:∀{xs:List V}{us:List a_},xs.length=us.length->(∀(j:Nat) v u,xs[j]? = some v->us[j]? = some u->L2.aS v u)->aL xs us
|[],[],_,_=>.nil
|v::xs,u::us,U,h=>.cons (h 0 v u rfl rfl) (CA (by simpa using U) fun j a b Z Y=>h (j+1) a b (by simpa using Z) (by simpa using Y))
|[],_::_,U,_=>by simp at U
|_::_,[],U,_=>by simp at U
theorem PY{lo:Int}(h:ItemsOf (fun i v=>∃t,v=.int (lo+i*1) t) U n):aL (iH lo n) U.toList:=by
 refine CA (by simp[iH,h.1]) fun j v u Y a=>?_;have Z:j<n:=by have:=(e_.mp Y).1;simpa[iH]using this
 unfold iH at Y;rw[H_,Zq Z]at Y;cases Y;obtain⟨t,rfl⟩:=h.2 j u (by rw[<-œ];exact a);exact⟨t,`s⟩
theorem QV:gm X (.type "range") (fun xs H Q=>∃j,xs=[.int j]/\∀p,H p=none->Q (.ref p) (aY H p (.rng 0 j))):=by intro Z s U H xs Y Q I r h;obtain⟨j,rfl,q⟩:=h;obtain⟨u,rfl,t,rfl⟩:=fU r;refine call_range_1 ⟨.ref s.heap.objs.size,_,I.laid (o:=.rng 0 j) (fun b o e=>c_ _ e) (l_ _) ⟨_,_,_,n_ _ rfl⟩,rfl,q _ (I.hok.fresh (l_ _))⟩
theorem Ud(e:X.calm=true):gm X (.type "list") (fun xs H Q=>∃p lo hi,xs=[.ref p]/\H p=some (.rng lo hi)/\(-(2^62)<=lo/\lo<2^62/\-(2^62)<=hi/\hi<2^62)/\(hi-lo).toNat<=sizeLine/\∀l,H l=none->Q (.ref l) (aY H l (.lst (iH lo (hi-lo).toNat)))):=by
 intro z s o H xs x Q I r h;obtain⟨p,lo,hi,rfl,c,⟨j,i,g,f⟩,b,q⟩:=h;obtain⟨u,rfl,Z⟩:=fU r;cases Z;obtain⟨t,u,v,d⟩:=(I.hok p _ c)
 have m:Ū lo hi 1=(((hi-lo).toNat)):=by rw[rangeSize_one];split <;> omega
 refine call_list_range (I.ok.hd e) d (small_one j i g f) m (by rw[G_]at b;omega) fun k y Y n a A U=>?_;refine⟨.ref s.heap.objs.size,_,I.laid a (l_ _) (show dZ X.prog X.w _ k _ (.lst _)from⟨by unfold iH;grind,Y.toList,n,PY U,`o⟩),rfl,q _ (I.hok.fresh (l_ _))⟩
def vK:List D->Option D
|[.int j]=>if-(2^62)<=j/\j<2^62/\j.toNat<=sizeLine then some (.lst (d9 0 j.toNat))else none
|_=>none
theorem EV{p l:Addr}(h:aY H p o l=none):H l=none/\l≠p:=by
 by_cases e:l=p
 .subst e;rw[cS]at h;cases h
 .rw[cE e]at h;exact⟨h,e⟩
theorem qa(B:X.calm=true)(Z:Gl X "list")(Y:X.mg "list" = none)(A:Gl X "range")(y:X.mg "range" = none)(C:iP X g m [a] fl)(hs:!Sx X a [])(U:!E_ [.Call (.Name "range" p2) [a] [] pos2] X.env=(false,eval (.Call (.Name "range" p2) [a] [] pos2) X.env)::E_ [] X.env):SO X g m (.Call (.Name "list" p) [.Call (.Name "range" p2) [a] [] pos2] [] pos) (fC fl vK):=by
 refine PE.imp (nL (Ud B) Z Y rfl (gR (nL QV A y ē C `d `d hs rfl) ky U) `d `d U rfl) fun F H Q a=>?_;obtain⟨r,G,n,q⟩:=a;refine ⟨r,G,n,bQ (cC q) fun J v I E K b o=>?_⟩
 obtain⟨d,e,u⟩:=dz v;unfold vK at e;split at e
 .split at e
  .rename_i j hj;cases e;cases o with
  |cons s t=>
    cases t;refine⟨j,by rw[s.int b.ok],fun p x=>⟨p,0,j,rfl,cS,⟨`d,`d,hj.1,hj.2.1⟩,by simpa using hj.2.2,fun l h=>?_⟩⟩;obtain⟨c,z⟩:=EV h;have f:=Grow.new b.ok x (.rng 0 j);have k:=Grow.new f.ok h (.lst (iH 0 (j-0).toNat));refine u l E _ (b.trans (f.trans k)) (b.back c) ⟨b.ok.isN c,.lst cS ?_⟩;rw[show j-0=j by omega];unfold iH d9
    induction(j_ _)with
   |nil=>exact .nil
   |cons i l w=>exact .cons (.scl (.int _)) w
  .cases e
 .cases e
def pA(K:W.Frag)(r:V->List V->Hp->VK->Prop)(k:D->List D->Option D):Prop:=∀(G:GH)(H:Hp)(v:V)(d:D)(vs:List V)(ds:List D)(d':D)(Q:VK),bZ K G H->RB K G H v d->Paired (RB K G H) vs ds->k d ds=some d' ->(∀v' G' H',Grow K G H G' H'->RG K G' v' d'->Q v' H')->r v vs H Q
noncomputable def yz(T:String):D->Bool
|.lst _=>T == "list"
|.tup _=>T == "tuple"
|.dic _=>T == "dict"
|.str _=>T == "str"
|.int _=>T == "int"
|_=>false
theorem NH(U:bZ K G H)(h:RB K G H v d)(t:yz T d=true):yy K T v H:=by cases d with
|lst Z=>obtain⟨a,Y,rfl,s,r⟩:=h.lst U;exact .inl ⟨Y9 t,Y,s⟩
|tup Z=>
  have e:T = "tuple" := Y9 t;rcases h with h|⟨a,rfl,o⟩
  .cases h with
  |scl s=>cases s
  |ref q=>cases U _ _ q with
   |tup r s=>exact .inr (.inl ⟨e,.inr ⟨_,r⟩⟩)
  |kc k=>cases k with
   |tup r s z=>exact .inr (.inl ⟨e,.inl z⟩)
  .cases o.ob
|dic Z=>obtain⟨a,Y,rfl,s,r⟩:=h.dic U;exact .inr (.inr (.inl ⟨Y9 t,.inl ⟨Y,s⟩⟩))
|str x=>rw[h.str U];exact Y9 t
|int x=>rw[h.int U];exact Y9 t
|_=>cases t
def fM(T:String)(fo:FE)(fl:aJ->Res (List D))(k:D->List D->Option D):FE:=fun r=>(fo r).bind fun d=>if yz T d=true then(fl r).bind fun ds=>eu (k d ds)else .stuck
section
variable{o:Expr}{fo:FE}{apos cpos:Pos}{ro:Bool}{x name:Str}{T id:String}{R:V->List V->Hp->VK->Prop}{k:D->List D->Option D}
theorem d7(w:Ã T)(a:Slot T name id)(Cl:typeOf (.builtin id)=pure (.type "method_descriptor"))(J:jt X id R)(A:pA X.K R k)(y:SB X g m o fo)(B:iP X g m (e::es) fl)(Y:!XH o name X.env (eval o X.env)=eval o X.env)(BT:!((backTo cpos (E_ (e::es) X.env)).all (fun x=>not x.1)&&(YN cpos (X6 [] X.env)).all (fun x=>x.1.isSome)&&decide ((e::es).length+([]:List ê).length+(if ([]:List ê).isEmpty then 0 else 1)<30))=true)(Z:!(apos.endLine==cpos.line)=true)(I:!Sx X e es)(U:!Bx X cpos es):SE X g m (.Call (.Attribute o name apos) (e::es) [] cpos) (fM T fo fl k):=by
 refine PE.imp (zx w a Cl J y B Y BT Z I U) fun σ H Q k=>?_;obtain⟨r,G,i,q⟩:=k;refine ⟨r,G,i,bQ (cC q) fun d c v O H1 b j=>?_⟩
 by_cases h:yz T d=true
 .rw[Q_d h]at c;refine⟨NH b.ok j h,r,O,i.grow b,gX (cC c) b fun E u n N L f s=>?_⟩;obtain⟨F,C,t⟩:=dz u;exact A N L v d n E F Q f.ok (j.mono f) s C fun p P M l z=>t p P M ((b.trans f).trans l) z
 .rw[Q_e h]at c;exact c.elim
def l0(x:V):List V->Option Nat
|[]=>none
|y::xs=>if iN y x=true then some 0 else(l0 x xs).map (· + 1)
def jx(x:D):List D->Option Nat
|[]=>none
|y::xs=>if eqs y x=true then some 0 else(jx x xs).map (· + 1)
theorem AO(x:D):∀ds:List D,l0 (ja x) (ds.map ja)=jx x ds
|[]=>rfl
|y::ds=>by show(if iN _ _=true then some 0 else(l0 _ _).map _)=if eqs y x=true then some 0 else(jx x ds).map _;rw[AO x ds];rfl
theorem HP{x:V}(d:aL xs us)(f:xs.all hZ=true)(h:l0 x xs=some j):∃g:j<us.length,iX x us[j]=true/\∀i (hi:i<us.length),i<j->iX x us[i]=false:=by induction d generalizing j with
|nil=>cases h
|@cons y u xs us r t Z=>
  rw[Y7,P_]at f;unfold l0 at h;by_cases Y:iN y x=true
  .rw[Q_d Y]at h;cases h;exact⟨Nat.zero_lt_succ _,by show iX x u=true;rw[re r f.1];exact Y,fun i _ U=>Q_f U (Nat.not_lt_zero _)⟩
  .rw[Q_e Y]at h;cases e:l0 x xs with
  |none=>rw[e]at h;cases h
  |some z=>rw[e]at h;cases h;obtain⟨a,b,c⟩:=Z f.2 e;refine⟨Nat.succ_lt_succ a,b,fun i hi U=>?_⟩;cases i with
   |zero=>show iX x u=false;rw[re r f.1];simpa using Y
   |succ i=>exact c i (ŉ hi) (ŉ U)
def Hj(K:W.Frag):V->List V->Hp->VK->Prop:=fun x vs H Q=>∃p xs y j,x=.ref p/\vs=[y]/\cM K H p xs/\hZ y=true/\xs.all hZ=true/\l0 y xs=some j/\Q (.int j) H
theorem xj:jt X "list.index" (Hj X.K):=by
 intro pz s O H x R v T Q I A B h;obtain⟨p,P,y,j,rfl,rfl,L,N,z,e,q⟩:=h;cases A;obtain⟨u,rfl,C⟩:=fU B;obtain⟨d,r,E,G⟩:=I.list L;obtain⟨o,n,l,t,m,k⟩:=E;obtain⟨a,b,c⟩:=HP r z e;have hl:=r.length;obtain⟨g,Y,Z,U⟩:=o;simp only at t m k;subst t m k;refine YS PySem.F.slot_list_index ⟨_,l,rfl⟩ PySem.F.entry_list_index (PySem.F.args_list_index_2 _ _)
  (SeqAt.list_indexAt p d.toArray n none U u (iX y) j (by simpa using a) (by rw[G_]at G;omega) (by simpa using b) (fun i M f=>by simpa using c i (by simpa using M) f)) ⟨l,fun w J=>oE C N r z w (by simpa using J),⟨.int j,H,I.tok _,⟨_,rfl⟩,q⟩⟩
def Nd:D->List D->Option D
|.lst ds,[x]=>if dw x=true/\ds.all dw=true then(jx x ds).map fun j=>.int j else none
|.tup ds,[x]=>if dw x=true/\ds.all dw=true then(jx x ds).map fun j=>.int j else none
|_,_=>none
theorem Sl{x d':D}(Z:bZ K G H)(rs:cZ K G xs ds)(a:RB K G H v x)(e:(if dw x=true/\ds.all dw=true then(jx x ds).map fun j=>D.int j else none)=some d'):∃j:Nat,d'=.int j/\hZ v=true/\xs.all hZ=true/\l0 v xs=some j:=by
 by_cases U:dw x=true/\ds.all dw=true
 .rw[Q_d U]at e;obtain⟨d,f1⟩:=RB.flat a Z U.1;obtain⟨c,b⟩:=zb rs Z U.2;cases Y:jx x ds with
 |none=>rw[Y]at e;cases e
 |some j=>rw[Y]at e;cases e;exact⟨j,rfl,f1,b,by rw[d,c,AO];exact Y⟩
 .rw[Q_e U]at e;cases e
def rQ(d:D)(ds:List D):Option D:=match d with
|.lst _=>Nd d ds
|_=>none
theorem xb:pA K (Hj K) rQ:=by intro G H v d m k n Q U Z c e q;cases d with
|lst l=>cases k with
 |nil=>cases e
 |cons x t=>cases t with
  |nil=>cases c with
   |cons f b=>cases b;obtain⟨a,Y,rfl,s,r⟩:=Z.lst U;obtain⟨j,rfl,i,h,g⟩:=Sl U r f e;exact⟨a,Y,_,j,rfl,rfl,s,i,h,g,q _ G H (Grow.refl U) (.scl (.int _))⟩
  |cons _ _=>cases e
|_=>cases e
noncomputable def pY(xs:List V):Bool:=xs.all fun x=>match x with|.int _=>true|_=>false
theorem Jw{k:Int}:∀{xs:List V}{us:List a_},aL xs us->pY xs=true->∀u∈us,Ů u (.int k t) (iX (.int k) u)
|_,_,.nil,_=>fun u U=>by cases U
|y::xs,u::us,.cons r a,f=>fun Y U=>by unfold pY at f;rw[Y7,P_]at f;cases y with
 |int i=>
   obtain⟨Z,rfl⟩:=r;rcases s_.mp U with rfl|U
   .exact MeetsSeq.EqGives.int i k Z t
   .exact Jw a f.2 Y U
 |_=>exact Q_f f.1 w_
def EC:V->List V->Hp->VK->Prop:=fun x vs H Q=>∃l xs k j,x=.ref l/\vs=[.int k]/\H l=some (.lst xs)/\pY xs=true/\l0 (.int k) xs=some j/\Q .non (aY H l (.lst (xs.eraseIdx j)))
theorem Bb:jt X "list.remove" EC:=by
 intro E s A H x B v C Q I p w h;obtain⟨l,o,k,j,rfl,rfl,m,Z,e,q⟩:=h;cases p;obtain⟨u,rfl,t,rfl⟩:=fU w;obtain⟨G,Y,n,r,K,g⟩:=I.lstM m;obtain⟨a,b,c⟩:=HP r ((fun h=>by unfold pY at h;rw[U_]at h ⊢;intro x J;cases x <;> first|rfl|grind) Z) e;have U:∀y,y∈Y.toArray->Ů y (.int k t) (iX (.int k) y):=fun y z=>Jw r Z y (by simpa using z);have d:Y.toArray.size<=sizeLine:=by rw[D_];omega
 refine YS PySem.F.slot_list_remove ⟨_,g,rfl⟩ PySem.F.entry_list_remove (PySem.F.args_list_remove_2 _ _) (MeetsSeq.list_remove l Y.toArray n (.int k t) (iX (.int k)) U j (by simpa using a) (by simpa using b) (fun i Z f=>by simpa using c i (by simpa using Z) f) d) ⟨g,?_⟩;refine⟨.non,_,I.lset (its':=Y.eraseIdx j) m g ?_ ?_ ?_,rfl,q⟩
 .apply ŕ.mp;simp[Array.toList_eraseIdxIfInBounds]
 .exact aL.eraseIdx j r
 .have:=List.length_eraseIdx_le o j;omega
noncomputable def isInt:D->Bool
|.int _=>true
|_=>false
theorem Nh(h:cZ K G xs ds)(b:bZ K G H)(U:ds.all isInt=true):pY xs=true/\xs=ds.map ja:=by induction h with
|nil=>exact⟨rfl,rfl⟩
|@cons x d xs ds r t Y=>rw[Y7,P_]at U;obtain⟨a,Z⟩:=Y U.2;cases d with
 |int i=>
   have e:=r.int b;subst e;refine⟨?_,by rw[R_,<-Z];rfl⟩;unfold pY at a ⊢
   grind
 |_=>exact Q_f U.1 w_
def remD:D->List D->Option D
|.lst ds,[.int k]=>if ds.all isInt=true then(jx (.int k) ds).map fun j=>.lst (ds.eraseIdx j)else none
|_,_=>none
theorem zV:lw K EC remD:=by
 intro G H a d h i l Q Y c Z e q;unfold remD at e;split at e
 .split at e
  .rename_i zs k hall;cases U:jx _ zs with
  |none=>rw[U]at e;cases e
  |some j=>rw[U]at e;cases e;cases c.ob with
   |lst r s=>cases Z with
    |cons b t=>cases t;obtain⟨g,f⟩:=Nh s Y hall;refine⟨a,_,k,j,rfl,by rw[b.int Y],r,g,?_,q _ (.lst cS (Paired.er j s))⟩;rw[f];exact(AO _ zs).trans U
  .cases e
 .cases e
def zN(kvs more:List (bL×D)):List (bL×D):=more.foldl (fun acc kv=>f8 acc kv.1 kv.2) kvs
theorem Od{a:List (bL×V)}(c:hJ K G Y U)(h:hJ K G a Z):hJ K G (pT a Y) (zN Z U):=by induction c generalizing a Z with
|nil=>exact h
|@cons p q m d r t b=>have e:=r.1;show hJ K G (pT (dG a p.1 p.2) _) _;rw[e];exact b (DU h r.2)
def Hl:V->List V->Hp->VK->Prop:=fun x vs H Q=>∃d o kvs more,x=.ref d/\vs=[.ref o]/\d≠o/\H d=some (.dK kvs)/\Rd H o (.dK more)/\kvs.length+more.length<=sizeLine/\Q .non (aY H d (.dK (pT kvs more)))
theorem Ro:jt X "dict.update" Hl:=by
 intro P s K H x N v O Q I k l h;obtain⟨d,o,f,a,rfl,rfl,J,j,y,p,q⟩:=h;cases k;obtain⟨u,rfl,m⟩:=fU l;cases m;obtain⟨M,E,C,i,Y⟩:=(I.hok d _ j)
 obtain⟨L,G,Z,g,B⟩:=(y.ok I.hok)
 have T:=Paired.length i;have R:=Paired.length g;refine call_meetsIn PySem.F.slot_dict_update Y.typeIs PySem.F.entry_dict_update (PySem.F.args_dict_update_2 _ _) (meets_dict_update _ d o J G) ⟨C,Z,Y,B,`o,fun A U LE t=>?_⟩;have c:=S_ (K6 a f) p;refine⟨.non,_,I.write (by rw[j];exact trivial) (.inl rfl) (fun b u z r=>(t.2 b z).trans r) (let⟨n,_,_,e,_⟩:=U;⟨n,e⟩) (show dZ X.prog X.w _ A d (.dK _)from⟨c,E,_,KV.merge g i,U⟩),rfl,q⟩
def updD:D->List D->Option D
|.dic kvs,[.dic more]=>if kvs.length+more.length<=sizeLine then some (.dic (zN kvs more))else none
|_,_=>none
theorem NJ:lw K Hl updD:=by
 intro G H a d j n o Q i f g e q;unfold updD at e;split at e
 .split at e
  .cases e;cases f.ob with
  |dic r s=>cases g with
   |cons c t=>
     cases t;have Y:=c.dic i;obtain⟨b,h,rfl,Y,Z⟩:=Y;have U:a≠b:=by
      rintro rfl
      cases c with
     |scl s=>cases s
     |ref z=>rw[f.un]at z;cases z
     |kc k=>cases k
     have m:=Paired.length s;have l:=Paired.length Z;exact⟨a,b,_,h,rfl,rfl,U,r,Y,`o,q _ (.dic cS (Od Z s))⟩
  .cases e
 .cases e
def V3:V->List V->Hp->VK->Prop:=fun x vs H Q=>∃d kvs,x=.ref d/\vs=[]/\Rd H d (.dK kvs)/\∀p,H p=none->Q (.ref p) (aY H p (.ext fun h=>h.IsValuesView p d))
theorem Rp:jt X "dict.values" V3:=by
 intro t s m H x o v p Q I f g h;obtain⟨d,i,rfl,rfl,l,q⟩:=h;cases f;cases g;obtain⟨n,Y,Z,r,U⟩:=(l.ok I.hok)
 refine call_meetsIn PySem.F.slot_dict_values U.typeIs PySem.F.entry_dict_values (PySem.F.args_dict_values_1 _) (meets_dict_values _ d Y) ⟨⟨Z,U⟩,?_⟩;refine⟨.ref s.heap.objs.size,_,I.laid (fun b a e=>c_ _ e) (l_ _) ?_,rfl,q _ (I.hok.fresh (l_ _))⟩;refine⟨⟨_,n_ _ rfl,rfl,rfl⟩,⟨_,n_ _ rfl⟩,fun w u j k=>?_⟩;obtain⟨a,e,c⟩:=j;exact⟨a,k a e,c⟩
theorem Um(t:X.calm=true):gm X (.type "list") (fun xs H Q=>∃p d a,xs=[.ref p]/\H p=some (.ext fun h=>h.IsValuesView p d)/\Rd H d (.dK a)/\∀l,H l=none->Q (.ref l) (aY H l (.lst (a.map (·.2))))):=by
 intro G s B H xs E Q I r h;obtain⟨p,d,a,rfl,m,o,q⟩:=h;obtain⟨u,rfl,f⟩:=fU r;cases f;obtain⟨i,_,_⟩:=(I.hok p _ m)
 obtain⟨C,IO,Cl,c,A⟩:=(o.ok I.hok)
 obtain⟨N,Z⟩:=A.dictAt;have J:=Paired.length c;refine W.kdl_call (W.kdl_values) (I.ok.hd t) ⟨i,Z⟩ `o fun x F b z g L U=>?_;have Y:aL (a.map (·.2)) b.toList:=by refine CA (by have M:=U.1;grind) fun j v u e R=>?_;obtain⟨k,n⟩:=U.2 j u `g;rw[H_]at e;cases y:a[j]? with
 |none=>grind
 |some K=>
   rw[y]at e;obtain⟨T,P,O⟩:=Paired.get c n
   grind
 refine⟨.ref s.heap.objs.size,_,I.laid g (l_ _) (show dZ X.prog X.w _ x _ (.lst _)from⟨`g,b.toList,z,Y,`o⟩),rfl,q _ (I.hok.fresh (l_ _))⟩
noncomputable def vR:D->Option D
|.dic kvs=>some (.lst (kvs.map (·.2)))
|_=>none
theorem Fo:∀{Y:List (bL×V)}{U:List (bL×D)},hJ K G Y U->cZ K G (Y.map (·.2)) (U.map (·.2))
|_,_,.nil=>.nil
|_,_,.cons r t=>.cons r.2 (Fo t)
theorem Fz(C:X.calm=true)(B:Gl X "list")(A:X.mg "list" = none)(z:SB X g m o fo)(U:!XH o "values" X.env (eval o X.env)=eval o X.env)(Y:!(apos.endLine==cpos.line)=true)(Z:!E_ [.Call (.Attribute o "values" apos) [] [] cpos] X.env=(false,eval (.Call (.Attribute o "values" apos) [] [] cpos) X.env)::E_ [] X.env):SO X g m (.Call (.Name "list" pos') [.Call (.Attribute o "values" apos) [] [] cpos] [] pos) (f1 fo vR):=by
 refine PE.imp (nL (Um C) B A rfl (gR (zJ PySem.F.plainAttrs_dict PySem.F.slot_dict_values PySem.F.type_dict_values Rp z U Y) ky Z) `d `d Z rfl) fun I H Q g=>?_;obtain⟨r,G,s,q⟩:=g;refine ⟨r,G,s,bQ (cC q) fun d x v E K b u=>?_⟩
 obtain⟨J,e,w⟩:=dz x;cases d with
|dic y=>
  cases e;obtain⟨a,c,rfl,f,t⟩:=u.dic b.ok;refine⟨.inr (.inr (.inl ⟨rfl,.inl ⟨c,f⟩⟩)),a,c,rfl,rfl,f,fun p j=>⟨p,a,c,rfl,cS,?_,fun l k=>?_⟩⟩
  .exact Rd.mono f fun a o e=>zT j _ _ e
  .obtain⟨hl1,hl2⟩:=EV k;have i:=Grow.new b.ok j (.ext fun h=>h.IsValuesView p a);have n:=Grow.new i.ok k (.lst (c.map (·.2)));exact w l E _ (b.trans (i.trans n)) (b.back hl1) ⟨b.ok.isN hl1,.lst cS (Fo t)⟩
|_=>cases e
end
noncomputable def eF:Nat->List D->List D
|_,[]=>[]
|i,d::ds=>.tup [.int i,d]::eF (i+1) ds
theorem rZ:∀(i:Nat)(ds:List D),(eF i ds).length=ds.length
|_,[]=>rfl
|i,d::ds=>Q_g (· + 1) (rZ _ ds)
theorem AJ:∀(i j:Nat)(ds:List D),(eF i ds)[j]? = (ds[j]?).map fun d=>D.tup [.int ((i+j:Nat):Int),d]
|_,_,[]=>by simp[eF]
|i,0,d::ds=>by simp[eF]
|i,j+1,d::ds=>by
  show(eF _ ds)[j]? = _;rw[AJ _ j ds]
  grind
theorem Ho{a:GH}(h:∀G H,bO a G->bZ K G H->∃xs,Z H xs/\cZ K G xs ds):Yields K (pB Z) (eF 0 ds) a:=by
 refine⟨fun G H i w U g=>?_,fun G H i x n d w U y e=>?_,fun G H w U=>?_⟩
 .obtain⟨xs,s,r⟩:=h G H w U;rw[rZ]at g;have l:=Paired.length r;exact⟨xs,xs[i],s,`g⟩
 .obtain⟨xs,s,r⟩:=h G H w U;obtain⟨p,v,f,rfl,rfl,c⟩:=y;rw[AJ]at e;cases Y:ds[i]? with
 |none=>rw[Y]at e;cases e
 |some m=>rw[Y]at e;simp  at e;subst e;obtain⟨k,j,b⟩:=Paired.get r Y;have:=c xs s;rw[j]at this;cases this;exact⟨_,Grow.newF U f (.tup (.inl cS) (.cons (.scl (.int _)) (.cons b .nil))),.ref iC⟩
 .obtain⟨xs,s,r⟩:=h G H w U;rw[rZ];exact⟨xs,s,Paired.length r⟩
def uH(f:FE):FI:=fun r=>(f r).bind fun d=>(eu (dh d)).bind fun ds=>.ok (eF 0 ds)
section
variable{elts:List Expr}{kk:Nat}
theorem Gr{w:TE}(J:Gl X "enumerate")(G:X.mg "enumerate" = none)(g:PE X e w)(hs:!Sx X e []):PI X (.Tuple elts kk pos2) (.Call (.Name "enumerate" p) [e] [] pos) (fun σ H R=>w σ H fun x Y=>(∃a,x=.ref a/\(∃xs,cM X.K Y a xs)/\R (pB fun H xs=>cM X.K H a xs) Y)\/∃a,x=.ref a/\(∃xs,dB X.K Y a xs)/\R (pB fun H xs=>dB X.K H a xs) Y):=by
 intro z s σ H R I h;refine Call_ (ox I J G boot_enumerate (Yc (bK (gR g ky hs pos z s σ H (fun v Y=>match v with
 |[x]=>(∃a,x=.ref a/\(∃xs,cM X.K Y a xs)/\R (pB fun H xs=>cM X.K H a xs) Y)\/∃a,x=.ref a/\(∃xs,dB X.K Y a xs)/\R (pB fun H xs=>dB X.K H a xs) Y
 |_=>False) I h) fun B Z w=>?_) hs rfl));obtain⟨v,Y,c,F,l⟩:=w
 .cases F with
 |nil=>exact l.elim
 |@cons x u xs B y E=>cases E with
 |cons _ _=>exact l.elim
 |nil=>
  have fin:∀{k:Heap},k.objs.size=Z.heap.objs.size+2->(∀b o,Z.heap.get? b=some o->k.get? b=some o)->∀b∈[Z.heap.objs.size+1,Z.heap.objs.size],e8 X z Y b:=fun A i b r=>by
   have U:Z.heap.objs.size<=b:=by
    rcases s_.mp r with rfl|r
    .exact É _
    .rw[A_.mp r];exact l_ _
   exact c.fpOk U (c.hok.fresh U)
  rcases l with⟨a,rfl,⟨xs,f⟩,q⟩|⟨a,rfl,⟨xs,f⟩,q⟩
  .cases y;obtain⟨j,C,m,A⟩:=c.list f;refine call_enumerate_list m.isList fun k g n d i=>Ñ g ?_;exact⟨_,[Z.heap.objs.size+1,Z.heap.objs.size],_,_,Y,rfl,c.kept (t':=Z.toks) i,J2 (t:=false) a _ _ (Yf (Yj _)) (I_ (ql (t:=false) c f)) (Yf (Yh (ql (t:=false) c f))),⟨⟨_,g⟩,n⟩,fin d i,q⟩
  .cases y;obtain⟨j,C,m,A⟩:=c.tuple f;refine Uw (show Z.heap.IsTuple a j.toArray from m) fun k g n d i=>Ñ g ?_;exact⟨_,[Z.heap.objs.size+1,Z.heap.objs.size],_,_,Y,rfl,c.kept (t':=Z.toks) i,J2 (t:=true) a _ _ (Yf (Yj _)) (I_ (ql (t:=true) c f)) (Yf (Yh (ql (t:=true) c f))),⟨⟨_,g⟩,n⟩,fin d i,q⟩
theorem E1(x:Gl X "enumerate")(u:X.mg "enumerate" = none)(y:SE X g m e f)(hs:!Sx X e []):iZ X g m (.Tuple elts kk pos2) (.Call (.Name "enumerate" p) [e] [] pos) (uH f):=by
 refine PI.imp (Gr x u y hs) fun z H R f=>?_;obtain⟨r,G,o,q⟩:=f;refine ⟨r,G,o,bQ (cC q) fun d q v n l w U=>?_⟩
 obtain⟨A,e,q⟩:=dz (cC q);cases d with
|lst k=>cases e;obtain⟨a,Z,rfl,s,t⟩:=U.lst w.ok;refine .inl ⟨a,rfl,⟨Z,s⟩,q _ n l w (Ho fun G H i j=>?_)⟩;obtain⟨b,Y,e,c,h⟩:=(U.mono i).lst j;cases e;exact⟨Y,c,h⟩
|tup k=>cases e;obtain⟨a,Z,rfl,s,t⟩:=U.tup w.ok;refine .inr ⟨a,rfl,⟨Z,s⟩,q _ n l w (Ho fun G H i j=>?_)⟩;obtain⟨b,Y,e,c,h⟩:=(U.mono i).tup j;cases e;exact⟨Y,c,h⟩
|_=>cases e
end
theorem Gw:∀a b:List Int,HT.dH a b=lq a b
|[],[]=>rfl
|[],_::_=>rfl
|_::_,[]=>rfl
|x::Y,y::U=>by rw[HT.ga,lq,Gw Y U]
inductive TupI(h:Heap):a_->List Int->Prop where
 |mk {a:Addr} {items:Array a_} {ns:List Int}:ä h a items->Zb items.toList ns->TupI h (.ref a) ns
theorem Td:∀(xs U:List Int),((j_ (min xs.length U.length)).all (fun j=>decide (xs.getD j 0=U.getD j 0))&&xs.length==U.length)=decide (xs=U):=by
 intro xs U;rw[XS,P_,U_,beq_iff_eq,Q_h];constructor
 .rintro⟨h1,h2⟩
  refine Ą h2 fun i a b=>?_;have:=h1 i (u_.mpr `o)
  grind
 grind
theorem OY{p q:a_}(z:TupI s.heap p k)(hq:TupI s.heap q l)(y:A.units<Y4):Ï A s p q (decide (k=l)):=by cases z with
|@mk a x _ i c=>cases hq with
 |@mk b w _ h Z=>
   by_cases e:a=b
   .subst e;obtain⟨o,m,C,n,B⟩:=i;obtain⟨E,U,Y,F,f⟩:=h;rw[m]at U;cases U;rw[B]at f;cases f;have:=by have u:=c;have r:=Z;exact(ū u).symm.trans (ū r)
    subst this;rw[Q_c rfl];exact ŧ _
   .have l1:=c.length;have g:=Z.length;rw[Array.length_toList]at l1 g;have d:=SeqAt.RcAt.tuples (e:=fun j=>decide (k.getD j 0=l.getD j 0)) (i) (h) y (fun j m C=>by
     obtain⟨t,H⟩:=ě c j x[j] `g;obtain⟨v,G⟩:=ě Z j w[j] `g;have:=Z_ (A:=A.in1) (s:=s) (k.getD j 0) t (l.getD j 0) v
     grind)
    rw[l1,g,Td]at d;exact SeqAt.EqAt.of_refs e d
inductive TupsI(h:Heap):List a_->List (List Int)->Prop where
 |nil:TupsI h [] []
 |cons {p:a_} {k:List Int} {ps:List a_} {ks:List (List Int)}:TupI h p k->TupsI h ps ks->TupsI h (p::ps) (k::ks)
theorem TupsI.length:∀{U:List a_}{ks:List (List Int)},TupsI h U ks->U.length=ks.length
|_,_,.nil=>rfl
|_,_,.cons _ t=>Q_g (· + 1) t.length
variable{s:d_}
section
variable{prog:z_}{A:N_}
theorem Nt{fin:Bool}(b:A.units<Y4)(t:TupsI s.heap Z ks)(f:TupsI s.heap Y U)(h:Q (jL fin ks U) s):W.KatLex prog w A false fin Q (Z.zip Y) i s:=by induction t generalizing Y U i with
|nil=>cases f <;> exact W.kat_nil h
|@cons p k Z ks d u j=>cases f with
 |nil=>exact W.kat_nil h
 |@cons q l Y U c g=>
   refine W.kat_cons (OY d c b prog w _ _ ?_);by_cases e:k=l
   .rw[Q_c e];have a:Q (jL fin ks U) s:=by unfold jL at h;grind
    exact W.kat_yes (j g a)
   .rw[Q_b e];have a:Q (lq k l) s:=by unfold jL at h;grind
    refine W.kat_no ?_;refine W.kat_one _ _ ?_;cases d with
   |mk r n=>cases c with
    |mk o m=>refine HT.jd r o n m b ?_;rw[Gw];exact a
inductive TupR(h:Heap):a_->List (List Int)->Prop where
 |mk {a:Addr} {items:List a_} {ks:List (List Int)}:ä h a items.toArray->TupsI h items ks->ks≠[]->TupR h (.ref a) ks
theorem O2{p q:a_}{ks b:List (List Int)}(i:TupR s.heap p ks)(hq:TupR s.heap q b)(g:A.units<Y4)(h:Q (gZ ks b) s):C_ (F_ prog w) A (keyLt' (tuples' false) p q) Q E s:=by cases i with
|@mk _ a _ m f k=>cases hq with
 |@mk _ Z _ l d j=>
   obtain⟨o,t,x,n,r⟩:=m;obtain⟨u,U,Y,v,c⟩:=l;refine W.kat_lt t r U c ?_;have e:decide (a.toArray.size<Z.toArray.size)=decide (ks.length<b.length):=by rw[D_,D_,f.length,d.length]
   rw[e];exact Nt g (by simpa using f) (by simpa using d) h
end
noncomputable def jo(ns:List Int):List Int:=ns.foldl Ì []
theorem SN(U:List Int):ù (fun i=>U.getD i 0) U.length=jo U:=by unfold ù jo;congr 1;refine Ą `s fun i Z Y=>?_;simp[T_,Y]
noncomputable def gV:List D->Option (List Int)
|[]=>some []
|.int i::ds=>(gV ds).map (i::·)
|_=>none
theorem AV(a:bZ K G H)(h:cZ K G xs ds)(e:gV ds=some U):xs=U.map V.int:=by induction h generalizing U with
|nil=>cases e;rfl
|@cons x d xs ds r t Z=>cases d with
 |int i=>have Y:(gV ds).map (i::·)=some U:=e;cases q:gV ds with
  |none=>rw[q]at Y;cases Y
  |some b=>rw[q]at Y;cases Y;rw[r.int a,Z q];rfl
 |_=>cases e
theorem QW(m:X.calm=true):gm X (.type "set") (fun xs H Q=>∃p Y,xs=[.ref p]/\(cM X.K H p (Y.map V.int)\/dB X.K H p (Y.map V.int))/\Y.length+1<YY/\∀l,H l=none->Q (.ref l) (aY H l (.set (fun k=>(jo Y).any (· == k)) (jo Y).length))):=by
 intro v s n H xs x Q I r h;obtain⟨p,Y,rfl,d,y,q⟩:=h;obtain⟨u,rfl,t⟩:=fU r;cases t;have fin:∀(U:List a_)(Z:Heap)(a:Nat),U.length=Y.length->Z.SetOf _ s.heap.objs.size (fun k=>(ù (fun i=>Y.getD i 0) U.toArray.size).any _) (ù _ U.toArray.size).length ->(∀b o,b<s.heap.objs.size->s.heap.get? b=some o->Z.get? b=some o)->EP X v n Q _ { s with heap:=Z,toks:=a }:=fun U Z a c f g=>by rw[show U.toArray.size=Y.length by omega,SN]at f;exact⟨.ref s.heap.objs.size,_,I.laid (fun b o e=>g b o (q_ e) e) (l_ _) (show dZ X.prog X.w _ Z _ (.set _ _)from f),rfl,q _ (I.hok.fresh (l_ _))⟩
 rcases d with d|d
 .obtain⟨U,r',pl,hz⟩:=I.list d;have c:=r'.length;rw[i_]at c;exact call_set_list (I.ok.hd m) pl.isList (by simpa using BB r') `g fun Z a f g=>fin U Z a c.symm f g
 .obtain⟨U,r',pl,hz⟩:=I.tuple d;have c:=r'.length;rw[i_]at c;exact Th (I.ok.hd m) (pl) (by simpa using BB r') `g fun Z a j=>fin U Z a c.symm j.1 j.2
theorem QU:gm X (.builtin "len") (fun xs H Q=>∃p S n,xs=[.ref p]/\H p=some (.set S n)/\Q (.int n) H):=by
 intro j s g H xs i Q I r h;obtain⟨p,S,n,rfl,Z,q⟩:=h;obtain⟨u,rfl,Y⟩:=fU r;cases Y;obtain⟨o,f,l,t,a,U,d,_,_,e,c,b⟩:=(I.hok p _ Z)
 refine call_len_set a U d c ?_ ⟨.int n,H,I.tok _,⟨_,by rw[b]⟩,q⟩;have k:(f.size)<4096:=by unfold YY at e;omega
 grind
def VH:D->Option D
|.lst ds=>(gV ds).bind fun ns=>if ns.length+1<YY then some (.int (jo ns).length)else none
|.tup ds=>(gV ds).bind fun ns=>if ns.length+1<YY then some (.int (jo ns).length)else none
|_=>none
theorem Qa(E:X.calm=true)(C:Gl X "len")(B:X.mg "len" = none)(J:Gl X "set")(M:X.mg "set" = none)(F:SB X g m a f)(hs:!Sx X a [])(Z:!E_ [.Call (.Name "set" p2) [a] [] pos2] X.env=(false,eval (.Call (.Name "set" p2) [a] [] pos2) X.env)::E_ [] X.env):SE X g m (.Call (.Name "len" p) [.Call (.Name "set" p2) [a] [] pos2] [] pos) (f1 f VH):=by
 refine PE.imp (nJ QU C B PySem.boot_len (gR (nL (QW E) J M (by first|exact PyProof.Rows.boot_set|rfl) (gR F ky hs) `d `d hs rfl) ky Z) `d `d Z rfl) fun N H Q a=>?_;obtain⟨r,G,y,q⟩:=a;refine ⟨r,G,y,bQ (cC q) fun d A v x h o u=>?_⟩
 obtain⟨w,e,z⟩:=dz A;have Y:∀{j:List D}{i:List V}{b:Addr},cZ X.K x i j->v=.ref b->(cM X.K h b i\/dB X.K h b i)->(gV j).bind (fun c=>if c.length+1<YY then some (D.int (jo c).length)else none)=some w ->∃p c,[v]=[V.ref p]/\(cM X.K h p (c.map V.int)\/dB X.K h p (c.map V.int))/\c.length+1<YY/\∀l,h l=none->∃p S n,[V.ref l]=[V.ref p]/\aY h l (.set (fun k=>(jo c).any (· == k)) (jo c).length) p=some (.set S n)/\Q (.int n) (aY h l (.set (fun k=>(jo c).any (· == k)) (jo c).length)):=fun{j i b} rs ev hs he=>by cases t:gV j with
 |none=>rw[t]at he;cases he
 |some c=>
   rw[t]at he;have U:(if c.length+1<YY then some (D.int (jo c).length)else none)=some w:=he;by_cases s:c.length+1<YY
   .rw[Q_d s]at U;cases U;have I:=AV o.ok rs t;subst I;exact⟨b,c,by rw[ev],hs,s,fun l L=>⟨l,_,_,rfl,cS,z _ x _ (o.trans (Grow.new o.ok L _)) (.scl (.int _))⟩⟩
   .rw[Q_e s]at U;cases U
 cases d with
|lst j=>obtain⟨b,i,ev,hs,rs⟩:=u.lst o.ok;exact Y rs ev (.inl hs) e
|tup j=>obtain⟨b,i,ev,hs,rs⟩:=u.tup o.ok;exact Y rs ev (.inr hs) e
|_=>cases e
def DH(K:W.Frag)(H:Hp)(x:V)(k:List Int):Prop:=∃b,x=.ref b/\dB K H b (k.map V.int)
def yJ(K:W.Frag)(H:Hp)(x:V)(ks:List (List Int)):Prop:=∃b xs,x=.ref b/\dB K H b xs/\Paired (DH K H) xs ks/\ks≠[]
def qX{α:Type}(d:α)(ys:List α)(kss:List (List (List Int))):List α:=(lU ys.length fun i j=>gZ (kss.getD i []) (kss.getD j [])).map fun i=>ys.getD i d
theorem dZ.isS{a:Addr}(x:dZ P w H h a o):h.get? a≠none:=by
 have s:∀{u:Obj},h.get? a=some u->h.get? a≠none:=fun e z=>by rw[z]at e;cases e
 cases o with
|lst Y=>obtain⟨_,_,_,_,e⟩:=x;exact s e
|tup Y=>obtain⟨_,_,_,⟨_,e,_⟩,_⟩:=x;exact s e
|dK U=>obtain⟨_,_,_,_,o,_,_,e,_⟩:=x;exact s e
|dT U=>obtain⟨_,_,_,_,o,_,_,e,_⟩:=x;exact s e
|set S n=>obtain⟨o,_,_,_,e,_⟩:=x;exact s e
|ins C j Z=>obtain⟨_,_,_,e,_⟩:=x;exact s e
|own y=>obtain⟨_,e⟩:=x;exact s e
|xd Z=>obtain⟨_,⟨_,_,_,e,_⟩,_⟩:=x;exact s e
|rng g i=>obtain⟨_,_,_,e⟩:=x;exact s e
|frz d u=>obtain⟨e,_⟩:=x;exact s e
|tbl c=>exact s (x)
|met f y=>exact s (x)
|ext b=>obtain⟨_,⟨_,e⟩,_⟩:=x;exact s e
variable{H:Hp}
section
variable{pz:List (Addr×Obj)}{σ:L2.St}
theorem TupI.stay{a:Str->Option a_}(g:h.Ns L a)(k:∀b o,b≠L->h.get? b=some o->h'.get? b=some o){p:a_}(x:TupI h p U):TupI h' p U:=by cases x with
|mk c f=>
  obtain⟨o,Z,i,n,Y⟩:=c;refine .mk ⟨o,k _ _ ?_ Z,i,n,Y⟩ f
  rintro rfl
  obtain⟨j,l,m,e,d,_⟩:=g;rw[Z]at e;cases e;rw[Y]at d;cases d
theorem TupsI.stay(Y:h.Ns L Z)(k:∀b o,b≠L->h.get? b=some o->h'.get? b=some o):∀{U:List a_}{ks:List (List Int)},TupsI h U ks->TupsI h' U ks
|_,_,.nil=>.nil
|_,_,.cons x t=>.cons (x.stay Y k) (t.stay Y k)
theorem TupR.stay(U:h.Ns L Y)(k:∀b o,b≠L->h.get? b=some o->h'.get? b=some o){p:a_}(x:TupR h p ks):TupR h' p ks:=by cases x with
|mk Z c a=>
  obtain⟨o,i,g,n,f⟩:=Z;refine .mk ⟨o,k _ _ ?_ i,g,n,f⟩ (c.stay U k) a
  rintro rfl
  obtain⟨j,l,m,e,d,_⟩:=U
  grind
theorem Qg(I:Inv X pz σ H s)(h:Paired (DH X.K H) xs ks)(v:aL xs us):TupsI s.heap us ks:=by induction h generalizing us with
|nil=>cases v;exact .nil
|cons h _ a=>cases v with
 |cons r q=>exact .cons ((fun I h r=>by obtain⟨b,rfl,c⟩:=h;cases r;obtain⟨Z,U,Y,_⟩:=I.tuple c;exact .mk Y (by simpa using BB U)) I h r) (a q)
theorem Ji(r:aL Y us):∀(U:List Nat),(∀i∈U,i<Y.length)->aL (U.map fun i=>Y.getD i .non) (U.map fun i=>us.getD i Value.none)
|[],_=>.nil
|i::U,h=>by refine .cons ?_ (Ji r U fun j Z=>h j (h_ _ Z));have a:=h i g_;obtain⟨u,c,b⟩:=r.get (m_ a);simp_all
theorem Inv.laidN{D:Addr}{f:List V}{a:List a_}(I:Inv X pz σ H s)(r:s.heap.get? D=none)(A:D≠X.env.locals)(k:∀b o,b≠X.env.locals->s.heap.get? b=some o->h'.get? b=some o)(Y:∀m,s.heap.Ns X.env.locals m->h'.Ns X.env.locals m)(j:h'.get? D=some { cls:=.type "list",data:=.seq a.toArray c })(h:aL f a)(i:f.length<=sizeLine)(t':Nat):Inv X pz σ (aY H D (.lst f)) { s with heap:=h',toks:=t' }:=by
 have t:H D=none:=by cases q:H D with
 |none=>rfl
 |some u=>exact Q_f r (dZ.isS (I.hok D u q))
 have neD:∀b o,s.heap.get? b=some o->b≠D:=fun b o e z=>by simp_all
 have U:∀b u,H b=some u->aY H D (.lst f) b=some u:=fun b u e=>by rw[cE (nO e t)];exact e
 have B:∀b u,H b=some u->b≠X.env.locals:=fun b u e z=>by rw[z,I.free]at e;cases e
 refine I.step (ch:=[]) `a `a (fun b d p _ _ e _=>⟨d.slots,k b d p e⟩) (fun b d _ e n=>by rw[cE (neD b d e)];exact n)
  (fun b d _ e=>?_) `a `a (fun b x e=>⟨#[],`a⟩) Y (fun b u e=>?_) I.bare
 .by_cases hb:b=X.env.locals
  .subst hb;obtain⟨m,l,_⟩:=I.loc;obtain⟨o,_,_,Z,_⟩:=Y m l;exact⟨o,Z⟩
  simp_all
 .by_cases hb:b=D
  .subst hb;rw[cS]at e;cases e;exact⟨i,a,c,h,j⟩
  .rw[cE hb]at e;refine(I.hok b u e).stay (fun g v y q=>k g v ?_ q) `a fun g w q=>U g _ q
   grind
theorem Gg{h:Heap}{m m':Str->Option a_}(a:h.Ns L m)(b:h.Ns L m'):m=m':=by
 obtain⟨o,g,i,e,d,_,f⟩:=a;obtain⟨Z,U,Y,j,k,_,c⟩:=b
 grind
theorem HX:∀{us:List a_}{Y:List (List (List Int))},Paired (fun u ks=>TupR h u ks) us Y->∃fs,W.KatTups h us fs/\fs.length=us.length/\∀f∈fs,∃b o,f=Value.ref b/\h.get? b=some o/\o.cls=.type "tuple"
|_,_,.nil=>⟨[],W.KatTups.nil,rfl,fun f U=>nomatch U⟩
|_,_,.cons x t=>by obtain⟨fs,s,r,q⟩:=HX t;cases x with
 |@mk a Z ks g l j=>cases l with
  |nil=>exact Q_f rfl j
  |@cons p k z ks i _=>
    obtain⟨o,y,w,n,v⟩:=g;refine⟨p::fs,W.KatTups.cons y w v `s s,by simp[r],fun f U=>?_⟩;rcases s_.mp U with rfl|U
    .cases i with
    |mk m _=>obtain⟨e,d,c,_⟩:=m;exact⟨_,e,rfl,d,c⟩
    .exact q f U
theorem Qf(I:Inv X pz σ H s)(h:Paired (yJ X.K H) Y U)(v:aL Y us):Paired (fun u ks=>TupR s.heap u ks) us U:=by induction h generalizing us with
|nil=>cases v;exact .nil
|cons h _ d=>cases v with
 |cons r q=>exact .cons ((fun I h r=>by obtain⟨b,i,rfl,e,f,g⟩:=h;cases r;obtain⟨c,Z,a,_⟩:=I.tuple e;exact .mk a (Qg I f Z) g) I h r) (d q)
theorem A6(h:i∈lU n c):i<n:=u_.mp ((By n c).mem_iff.mp h)
theorem Te(hr:Room k X.A):gm X (.builtin "sorted") (fun xs H Q=>∃p f d,xs=[.ref p]/\cM X.K H p f/\Paired (yJ X.K H) f d/\f.length<64/\∀l,H l=none->Q (.ref l) (aY H l (.lst (qX .non f d)))):=by
 intro pz s σ H xs us Q I r h;obtain⟨p,f,d,rfl,M,N,IO,q⟩:=h;obtain⟨u,rfl,rx⟩:=fU r;cases rx;obtain⟨g,t,J,hz⟩:=I.list M;have hl:=t.length;have KK:=Paired.length N;by_cases n:g.length<2
 .refine T0 J.isList n fun O c D L B ho=>?_;have hs:=ħ B;refine⟨.ref D,_,Inv.laidN I hs (Yf (y_ I.lt B)) (fun b o _ e=>L b o e) (fun m k=>by obtain⟨o,es,ep,e,z⟩:=k;exact ⟨o,es,ep,L _ _ e,z⟩) ho t `o s.toks,rfl,?_⟩;have e:qX V.non f d=f:=by
   unfold qX lU;rw[Q_d `o];refine Ą `s fun i a b=>?_
   grind
  have:=q D (I.hok.fresh B)
  grind
 .obtain⟨mF,F⟩:=I.fr;have Cl:=Qf I N t;refine W.kat_sorted F (Ii) J.isList `o `o fun D P O F' E y=>?_;have Z:s.heap.get? D=none:=by cases z:s.heap.get? D with
  |none=>rfl
  |some o=>have G:=(E _ (g_)).2;exact Q_f (y (D,o) (BV G.1 G.2 z)) (X0 _)
  have U:∀{n:Heap}{oD:Obj},Fr X.base X.env.locals n mF->News X.base X.env.locals n ((D,oD)::wv X.base s.heap X.env.locals)->∀b o,b≠X.env.locals->s.heap.get? b=some o->n.get? b=some o:=fun{n oD} F2 N2 b o hb e=>by cases z:X.base.get? b with
  |some o'=>have:=I.bk b o' z;rw[e]at this;cases this;exact F2.keep b o z
  |none=>exact(N2 (b,o) (h_ _ (BV hb z e))).1
  have k1:=U F' E;have Y:=Paired.mono (fun _ _ x=>x.stay F.ns k1) Cl;obtain⟨fs,t1,t2,t3⟩:=HX Y;refine W.kat_kind (T:=.type "tuple") t1 `o (fun v hv=>?_) (rfl) ?_
  .obtain⟨b,o,rfl,P,e2⟩:=t3 v hv;rw[<-e2];exact(W.Looks.ld P).andThen .now
  have hn:0<g.length:=`o
  refine Ri (c:=fun i j=>gZ (d.getD i []) (d.getD j [])) (fun i j C w hj hC=>?_) (Jc hn) ?_
  .have gi:∀i,i<g.length->TupR O (g.getD i Value.none) (d.getD i []):=fun i w=>by
    have BT:i<d.length:=`o
    obtain⟨a,ha,hx⟩:=Paired.get Y (m_ BT)
    grind
   exact O2 (gi i w) (gi j hj) (by have:=hr.un;grind) hC
  .refine W.KasFin.intro F' E (.head fun q M z=>?_) fun h3 c F3 R=>?_
   .grind
   .have oD:=(R _ g_)
    have Id:∀i∈lU f.length (fun i j=>gZ (d.getD i []) (d.getD j [])),i<f.length:=fun i w=>A6 w;have e0:(rm (fun i j=>gZ (d.getD i []) (d.getD j [])) (W.kas_sort g.length)).toList=lU f.length (fun i j=>gZ (d.getD i []) (d.getD j [])):=by
     unfold lU
     grind
    rw[e0]at oD;refine⟨.ref D,_,Inv.laidN (t':=_) I Z oD.2.1 (U F3 R) (fun m hm=>by rw[Gg hm F.ns];exact F3.ns) oD.1 (Ji t _ Id) ?_,rfl,q D ?_⟩
    .have:=(By f.length fun i j=>gZ (d.getD i []) (d.getD j [])).length_eq
     grind
    .cases z:H D with
    |none=>rfl
    |some u=>exact Q_f Z (dZ.isS (I.hok D u z))
end
def ou:D->Option (List Int)
|.tup ds=>gV ds
|_=>none
def og:List D->Option (List (List Int))
|[]=>some []
|d::ds=>(ou d).bind fun k=>(og ds).map (k::·)
def vD:D->Option (List (List Int))
|.tup (d::ds)=>og (d::ds)
|_=>none
def om:List D->Option (List (List (List Int)))
|[]=>some []
|d::ds=>(vD d).bind fun k=>(om ds).map (k::·)
def zw:List D->Option D
|[.lst ds]=>(om ds).bind fun kss=>if ds.length<64 then some (.lst (qX .non ds kss))else none
|_=>none
section
variable{G:GH}
theorem OW(U:bZ K G H)(h:cZ K G xs ds)(e:og ds=some ks):Paired (DH K H) xs ks:=by induction h generalizing ks with
|nil=>cases e;exact .nil
|@cons x d xs ds r t g=>have Y:(ou d).bind _=some ks:=e;cases b:ou d with
 |none=>grind
 |some k=>rw[b]at Y;cases Z:og ds with
  |none=>grind
  |some f=>rw[Z]at Y;cases Y;exact .cons ((fun U r e=>by cases d with
     |tup ds=>obtain⟨a,xs,rfl,s,c⟩:=r.tup U;have:=AV U c e;subst this;exact⟨a,rfl,s⟩
     |_=>cases e) U r b) (g Z)
theorem NF(Y:bZ K G H)(r:RG K G v d)(e:vD d=some ks):yJ K H v ks:=by cases d with
|tup U=>cases U with
 |nil=>cases e
 |cons d U=>
   obtain⟨a,Z,rfl,s,b⟩:=r.tup Y;exact⟨a,Z,rfl,s,OW Y b e,(by have h:(ou d).bind _=some ks:=e;cases g:ou d with
     |none=>grind
     |some k=>cases f:og U with
      |none=>grind
      |some c=>grind)⟩
|_=>cases e
theorem OX(c:bZ K G H)(h:cZ K G xs ds)(e:om ds=some ks):Paired (yJ K H) xs ks:=by induction h generalizing ks with
|nil=>cases e;exact .nil
|@cons x d xs ds r t b=>have U:(vD d).bind _=some ks:=e;cases Z:vD d with
 |none=>grind
 |some k=>rw[Z]at U;cases Y:om ds with
  |none=>grind
  |some a=>rw[Y]at U;cases U;exact .cons (NF c r Z) (b Y)
theorem Hz(r:cZ K G xs ds):∀(U:List Nat),(∀i∈U,i<ds.length)->cZ K G (U.map fun i=>xs.getD i .non) (U.map fun i=>ds.getD i .non)
|[],_=>.nil
|i::U,h=>by refine .cons ?_ (Hz r U fun j Y=>h j (h_ _ Y));have Z:=h i g_;obtain⟨u,b,a⟩:=Paired.get r (m_ Z);simp_all
end
section
variable{k:Nat}
theorem Qo(u:Room k X.A)(y:Gl X "sorted")(v:X.mg "sorted" = none)(z:iP X g m [a] fl)(hs:!Sx X a []):SO X g m (.Call (.Name "sorted" p) [a] [] pos) (fC fl zw):=by
 refine Es ?_ (nJ (Te u) y v (by first|grind|rfl) z `d `d hs rfl);intro G H B C d Q Z n e q;unfold zw at e;split at e
 .rename_i zs;cases f:om zs with
 |none=>rw[f]at e;cases e
 |some c=>
   rw[f]at e;have h:(if zs.length<64 then some _ else none)=some d:=e;by_cases Y:zs.length<64
   .rw[Q_d Y]at h;cases h;cases n with
   |cons o t=>cases t;obtain⟨b,j,rfl,s,r⟩:=o.lst Z;have w:=Paired.length r;refine⟨b,j,c,rfl,s,OX Z r f,`o,fun l U=>q l G _ (Grow.new Z U _) U ⟨Z.isN U,.lst cS ?_⟩⟩;unfold qX;rw[w];exact Hz r _ fun i x=>A6 x
   grind
 .cases e
end
end DL
namespace DL
open PySem PyProof.Rows PySem.SeqAt PySem.MeetsSeq PySem.MeetsSeq2 PySem.MeetsSeq3 L2
section
open PySem.AutoSeq1 (wpAny_loadPart')
end
end DL
namespace DL
open PySem PySem.Spec PyProof.Rows L2
section
variable{X:Cx}{pz:List (Addr×Obj)}{σ:L2.St}{H:Hp}{s:d_}
theorem Inv.keptN(I:Inv X pz σ H s)(k:∀b o,b≠X.env.locals->s.heap.get? b=some o->h'.get? b=some o)(Y:∀m,s.heap.Ns X.env.locals m->h'.Ns X.env.locals m)(t':Nat):Inv X pz σ H { s with heap:=h',toks:=t' }:=by
 have U:∀b u,H b=some u->b≠X.env.locals:=fun b u e z=>by rw[z,I.free]at e;cases e
 refine I.step (g':=s.gens) (d':=s.drawn) (ch:=[]) (fun b c=>Q_f c `s) (fun b a f _ _ e _=>k b a f e) (fun b a f _ _ e _=>⟨a.slots,k b a f e⟩) (fun b a _ e n=>n)
  (fun b a _ e=>?_) (fun b g e=>e) (fun b a u e=>e) (fun b j e=>⟨#[],by rw[e];simp⟩) Y (fun b u e=>?_) I.bare
 .by_cases c:b=X.env.locals
  .subst c;obtain⟨m,h,_⟩:=I.loc;obtain⟨o,_,_,Z,_⟩:=Y m h;exact⟨o,Z⟩
  .exact⟨a,k b a c e⟩
 .refine(I.hok b u e).stay (fun d v i q=>k d v ?_ q) (fun d q=>q) fun d g q=>q;rcases i with z|z
  .rw[z];exact U b u e
  .exact U d _ z
theorem PD(f:X.calm=true):gm X (.builtin "min") (fun xs H Q=>∃i j:Int,xs=[.int i,.int j]/\Q (.int (if j<i then j else i)) H):=by intro p s l H xs n Q I r h;obtain⟨i,j,rfl,q⟩:=h;cases r with
|cons a r=>cases r with
 |cons Z r=>
   cases r;obtain⟨t,rfl⟩:=a;obtain⟨u,rfl⟩:=Z;obtain⟨v,F⟩:=I.fr;exact min_two_N (I.ok.hd f) F (Ii) fun w Y U k=>⟨.int _,_,(by refine Inv.keptN I (fun b o g e=>?_) (fun m d=>by rw[Gg d F.ns];exact U.ns) Y;cases z:X.base.get? b with
     |some c=>have:=I.bk b c z;rw[e]at this;cases this;exact U.keep b o z
     |none=>exact(k _ (BV g z e)).1),⟨_,rfl⟩,q⟩
end
noncomputable def minD:List D->Option D
|[.int i,.int j]=>some (.int (if j<i then j else i))
|_=>none
section
variable{X:Cx}{g:GE}{m:List Md}{e a b:Expr}{es:List Expr}{fl:aJ->Res (List D)}{fa fb:FE}{pos p:Pos}
theorem VE(i:X.calm=true)(f:Gl X "min")(c:X.mg "min" = none)(j:iP X g m (e::es) fl)(h:!Sx X e es)(U:!Bx X pos es) :
  SE X g m (.Call (.Name "min" p) (e::es) [] pos) (fC fl minD):=iG (by
     intro G H k l d Q Y Z e q;unfold minD at e;split at e
     .cases e;cases Z with
     |cons b t=>cases t with
      |cons a t=>cases t;exact⟨_,_,by rw[b.int Y,a.int Y],q _ G H (Grow.refl Y) (.scl (.int _))⟩
     .cases e) (nJ (PD i) f c ő j `d (rfl) h U)
noncomputable def V2(K:W.Frag):R2:=fun x y H Q=>∃a b ys,x=.ref a/\y=.ref b/\dB K H a []/\dB K H b ys/\Q (.ref b) H
theorem Op:c7 X (ZJ .Add) (V2 X.K):=by
 intro J s C H x y v u Q I j i h;obtain⟨a,b,E,rfl,rfl,z,w,q⟩:=h;cases j;cases i;obtain⟨p,k,m,_⟩:=I.tuple z;obtain⟨L,G,l,_⟩:=I.tuple w;cases k;obtain⟨⟨B,A,f,g⟩,e,t,n,r⟩:=id m;obtain⟨⟨M,Z,N,U⟩,c,Y,o,d⟩:=id l;subst t r Y d;exact ÿ ⟨_,e,rfl⟩ ⟨_,c,rfl⟩ Ò Ù PySem.F.slot_tuple_add PySem.F.entry_tuple_add (PySem.F.args_tuple_add_2 _ _)
  (tuple_addW0 a b _ _ n o A Z g U rfl) ⟨e,c,⟨.ref b,H,I,rfl,q⟩⟩
def addE:D->D->Option D
|.tup [],.tup b=>some (.tup b)
|a,b=>addA a b
theorem vY(l:SB X g m a fa)(k:SB X g m b fb):SE X g m (.BinOp a .Add b pos) (f2 fa fb addE):=lR (c7.or Op (c7.or FA (c7.or JV (c7.or Gi Gj)))) (by
   intro G H i h o n d Q Z Y U e q;unfold addE at e;split at e
   .cases e;rcases Y with Y|⟨p,_,c⟩
    .rcases U with U|⟨p,_,c⟩
     .obtain⟨a,xs,rfl,s1,t1⟩:=Y.tup Z;obtain⟨b,f,rfl,j,r⟩:=U.tup Z;cases t1;exact .inl ⟨a,b,f,rfl,rfl,s1,j,q _ G H (Grow.refl Z) U⟩
     .cases c.ob
    .cases c.ob
   .exact .inr (F1 G H i h o n d Q Z Y U e q)) l k
end
section
open PySem.AutoSeq1 (wpAny_loadPart')
end
end DL
namespace DL
open PySem PyProof.Rows PySem.W
section
variable{n:Nat}{c:Nat->Nat->Bool}(as:∀i j,c i j=true->c j i=false)(tr:∀i j k,c j i=false->c k j=false->c k i=false)
include tr in
include as tr in
include tr in
include as tr in
include as tr in
include as tr in
include as tr in
include as tr in
include as tr in
include as tr in
include as tr in
include as tr in
end
end DL
namespace DL
open PySem PySem.Spec PyProof.Rows L2
variable{X:Cx}{pz:List (Addr×Obj)}{σ:L2.St}{H:Hp}{s:d_}
theorem QO(bs:List Bool):((j_ bs.length).all fun i=>bs.getD i true)=bs.all id:=by
 rw[XS,U_,U_];constructor
 .intro h b hb;obtain⟨i,U,rfl⟩:=Ĵ hb;have:=h i (u_.mpr U);simp_all
 .intro h i U;have U:=u_.mp U;have:=h bs[i] (Yl _);simp_all
theorem Sb(R:X.calm=true)(I:Inv X pz σ H s){bs:List Bool}(hq:cM X.K H p (bs.map V.bl))(F:A.handled=none)(h:∀I G g n P St j it a,it=Value.ref I->Walks X.prog X.w A I G g n P St->St 0 a.heap->TruthOf X.prog X.w A P j->n=bs.length->(∀i,j i=bs.getD i true) ->(∀(h':Heap)(d:Nat),(∀(b:Addr)(o:Obj),¬b∈g->a.heap.get? b=some o->h'.get? b=some o)->Inv X pz σ H { heap:=h',gens:=a.gens,drawn:=a.drawn,toks:=d,os:=a.os })->Q it a):C_ (F_ X.prog X.w) A (í (.ref p)) Q E s:=by
 obtain⟨c,l,y,O⟩:=I.list hq;have C:=l.length;rw[i_]at C;refine PySem.Flt.iter_list_ y.isList fun a M r B Z=>?_;refine h s.heap.objs.size [s.heap.objs.size,p] [s.heap.objs.size] c.toArray.size _ _ _ _ a rfl (Walks.list F _ p Z c.toArray) r ?_ `a (fun i=>rfl) fun h' d k=>?_
 .intro i v s' Q' E' hv hq';have Y:=by simpa using hv
  have r:i<c.length:=(e_.mp Y).1;have N:i<(bs.map V.bl).length:=`a
  obtain⟨u,x,t⟩:=l.get (i:=i) (m_ N);rw[Y]at x;cases x;rw[Ļ]at t;have f:=t;subst f;have e:bs.getD i true=bs[i]:=`a
  have U:Q' (bs.getD i true) s':=hq';rw[e]at U;exact r_ U
 .subst M;have q:∀b o,s.heap.get? b=some o->¬ b∈[s.heap.objs.size]:=fun b o e z=>by have:=A_.mp z;subst this;exact Q_f (q_ e) (X0 _)
  exact Inv.keptN I (fun b o _ e=>k b o (q b o e) (c_ _ e)) (fun m w=>by obtain⟨o,J,L,e,z⟩:=w;exact ⟨o,J,L,k _ _ (q _ _ e) (c_ _ e),z⟩) d
theorem Pz(Y:X.calm=true):gm X (.builtin "all") (fun xs H Q=>∃(p:Addr)(bs:List Bool),xs=[.ref p]/\cM X.K H p (bs.map V.bl)/\Q (.bl (bs.all id)) H):=by intro y s w H xs x Q I r h;obtain⟨p,bs,rfl,d,q⟩:=h;obtain⟨u,rfl,c⟩:=fU r;cases c;refine call_all_walk (Sb Y I d (show X.A.in1.handled=none from I.ok.hd Y) fun J f Z n P St a it U v t o m l j i=>⟨J,f,Z,n,P,St,a,v,t,o,m,fun e b k=>?_⟩);have g:=funext j;rw[l,g,QO];exact⟨.bl _,H,i e b k,rfl,q⟩
noncomputable def l5:List D->Option (List Bool)
|[]=>some []
|.bl b::ds=>(l5 ds).map (b::·)
|_=>none
theorem OP{K:W.Frag}(a:bZ K G H)(h:cZ K G xs ds)(e:l5 ds=some bs):xs=bs.map V.bl:=by induction h generalizing bs with
|nil=>cases e;rfl
|@cons x d xs ds r t Z=>cases d with
 |bl b=>have Y:(l5 ds).map _=some bs:=e;cases U:l5 ds with
  |none=>grind
  |some c=>rw[U]at Y;cases Y;rw[Z U,R_,(RG.rb r).bl a]
 |_=>cases e
def allD:List D->Option D
|[.lst ds]=>(l5 ds).map fun bs=>.bl (bs.all id)
|_=>none
variable{g:GE}{m:List Md}{e:Expr}{es:List Expr}{fl:aJ->Res (List D)}{pos p:Pos}
theorem VC(j:X.calm=true)(h:Gl X "all")(f:X.mg "all" = none)(k:iP X g m (e::es) fl)(i:!Sx X e es)(U:!Bx X pos es) :
  SE X g m (.Call (.Name "all" p) (e::es) [] pos) (fC fl allD):=iG (by
     intro G H u v d Q Y a e q;unfold allD at e;split at e
     .rename_i zs;cases Z:l5 zs with
     |none=>rw[Z]at e;cases e
     |some n=>rw[Z]at e;cases e;cases a with
      |cons c t=>cases t;obtain⟨b,o,rfl,s,r⟩:=c.lst Y;have l:=OP Y r Z;subst l;exact⟨b,n,rfl,s,q _ G H (Grow.refl Y) (.scl (.bl _))⟩
     .cases e) (nJ (Pz j) h f PyProof.Rows.boot_all k `d (rfl) i U)
noncomputable def lj(ks:List Int):Int:=ks.getD (ì (fun i j=>decide (ks.getD i 0<ks.getD j 0)) (ks.length-1)) 0
theorem Bm(f:Nat->Int):∀k,ì (fun i j=>decide (f i<f j)) k<=k/\∀i,i<=k->f (ì (fun i j=>decide (f i<f j)) k)<=f i
|0=>⟨l_ _,fun i U=>by
   have:i=0:=`o
   subst this;exact Int.le_refl _⟩
|k+1=>by
  obtain⟨Z,Y⟩:=Bm f k;rw[argBest.eq_2]
  grind
theorem Ql(h:ks≠[]):lj ks∈ks:=by
 have Y:=Zr.mpr h;have Z:=(Bm (fun i=>ks.getD i 0) (ks.length-1)).1;unfold lj;have U:ì (fun i j=>decide (ks.getD i 0<ks.getD j 0)) (ks.length-1)<ks.length:=`o
 rw[T_,m_ U];exact Yl _
theorem Oe(h:x∈ks):lj ks<=x:=by
 obtain⟨i,U,rfl⟩:=Ĵ h;have:=(Bm (fun i=>ks.getD i 0) (ks.length-1)).2 i `o;have e:ks.getD i 0=ks[i]:=by simp[T_,U]
 simp only[e]at this;exact this
theorem Rt(h:s.heap.IsTuple l Y)(k:∀U:d_,U={ s with heap:=s.heap.push { cls:=Value.type "tuple_iterator",data:=Data.fields #[Value.ref l,Value.int 0 0] } }->U.heap.IsTupleIter s.heap.objs.size l 0/\U.heap.IsTuple l Y->(∀b:Nat,b∈[s.heap.objs.size,l]->b<U.heap.objs.size)->l≠s.heap.objs.size->Q (Value.ref s.heap.objs.size) U):C_ (F_ prog w) A (í (Value.ref l)) Q E s:=by
 have Z:l<s.heap.objs.size:=by obtain⟨o,e,_⟩:=id h;exact q_ e
 refine Yk h (k _ rfl ⟨⟨_,n_ _ rfl,rfl,rfl⟩,h.push _⟩ ?_ (I_ Z));intro b a;have c:∀d:Obj,(s.heap.push d).objs.size=s.heap.objs.size+1:=fun _=>XV ..;rw[c];simp only[s_,YZ,Q_j]at a;rcases a with rfl|rfl
 .exact Yj _
 .exact Yh Z
abbrev yS(K:W.Frag)(cmp:Int->Int->Bool):List V->Hp->VK->Prop:=fun xs H Q=>∃(p:Addr)(ks:List Int),xs=[.ref p]/\(cM K H p (ks.map V.int)\/dB K H p (ks.map V.int))/\ks≠[]/\Q (.int (ks.getD (ì (fun i j=>cmp (ks.getD i 0) (ks.getD j 0)) (ks.length-1)) 0)) H
theorem QR(hc:X.calm=true)(B:Int->Int->Bool)(l:∀{A:N_}{E:a_->d_->Prop}{s:d_}{x:a_}{Q:a_->d_->Prop},C_ (F_ X.prog X.w) A.in1 (í x) (fun it f=>∃I R L G n P St T,it=Value.ref I/\WalksS X.prog X.w A.in1 I R L G n P St/\St 0 f/\(∀b:Addr,b∈R->b<f.heap.objs.size)/\0<n/\CmpOf X.prog X.w A.in1 op P T/\∀(v:a_)(k:d_),P (ì T (n-1)) v->Moved L G f k->Q v k) E s->C_ (F_ X.prog X.w) A (call (Value.builtin b) [x]) Q E s)(Y:∀(A:N_)(s:d_)(a:Int)(t:Tok)(c:Int)(u:Tok)(E Q:a_->d_->Prop),Q (.bool (B a c)) s->C_ (F_ X.prog X.w) A (richCompare op (.int a t) (.int c u)) Q E s):gm X (.builtin b) (yS X.K B):=by
 intro pz s σ H xs us Q I r h;obtain⟨p,y,rfl,O,BT,q⟩:=h;obtain⟨u,rfl,rx⟩:=fU r;cases rx;have hA:X.A.in1.handled=none:=I.ok.hd hc;have hp:=Zr.mpr BT;have fin:∀(d:List a_)(F:Obj)(St:Nat->Heap->Prop),aL (y.map V.int) d->Walks X.prog X.w X.A.in1 s.heap.objs.size [s.heap.objs.size,p] [s.heap.objs.size] d.toArray.size (fun i v=>d.toArray[i]? = some v) St->St 0 (s.heap.push F)->(∀b:Nat,b∈[s.heap.objs.size,p]->b<(s.heap.push F).objs.size) ->∃I R L G n P St T,Value.ref s.heap.objs.size=Value.ref I/\WalksS X.prog X.w X.A.in1 I R L G n P St/\St 0 { s with heap:=s.heap.push F }/\(∀b:Addr,b∈R->b<(s.heap.push F).objs.size)/\0<n/\CmpOf X.prog X.w X.A.in1 op P T/\∀(v:a_)(k:d_),P (ì T (n-1)) v->Moved L G { s with heap:=s.heap.push F } k->EP X pz σ Q v k:=by
  intro d F St C W J g;have hl:=C.length;rw[i_]at hl;have gi:∀i v,d[i]? = some v->∃t,v=Value.int (y.getD i 0) t:=fun i v N=>by
   have J:i<d.length:=(e_.mp N).1;have Cl:i<(y.map V.int).length:=by rw[i_];omega
   obtain⟨u,h1,h3⟩:=C.get (i:=i) (x:=(y.map V.int)[i]) (m_ Cl);rw[N]at h1;cases h1;rw[Ļ]at h3;have Z:i<y.length:=`o
   rw[T_,m_ Z];exact h3
  refine⟨s.heap.objs.size,[s.heap.objs.size,p],[s.heap.objs.size],_,d.toArray.size,_,_,fun i j=>B (y.getD i 0) (y.getD j 0),rfl,W.toS,J,g,by rw[D_];omega,?_,fun v k N M=>?_⟩
  .intro i j vi vj k Q' E' h1 h2 hq';obtain⟨t1,rfl⟩:=gi i vi (by simpa using h1);obtain⟨t2,rfl⟩:=gi j vj (by simpa using h2);exact Y _ k _ t1 _ t2 E' Q' hq'
  .have hsz:d.toArray.size-1=y.length-1:=by rw[D_];omega
   rw[hsz]at N;obtain⟨t,rfl⟩:=gi _ v (by simpa using N);have ne:∀b o,s.heap.get? b=some o->¬ b∈[s.heap.objs.size]:=fun b o e z=>by have:=A_.mp z;subst this;exact Q_f (q_ e) (X0 _)
   obtain⟨h',g',d',tk,os'⟩:=k;have e1:g'=s.gens:=M.gens;have e3:d'=s.drawn:=M.drawn;have e4:os'=s.os:=M.os;subst e1 e3 e4;exact⟨.int _,H,Inv.keptN I (fun b o _ e=>M.heap b o (ne b o e) (c_ _ e)) (fun m a=>by obtain⟨o,es,ep,e,z⟩:=a;exact ⟨o,es,ep,M.heap _ _ (ne _ _ e) (c_ _ e),z⟩) tk,⟨_,rfl⟩,q⟩
 rcases O with O|O
 .obtain⟨d,C,pl,hz⟩:=I.list O;exact l (PySem.Flt.iter_list_ pl.isList fun f e2 J g U=>by subst e2;exact fin d _ _ C (Walks.list hA _ p U d.toArray) J g)
 .obtain⟨d,C,pl,hz⟩:=I.tuple O;exact l (Rt pl fun f e2 J g U=>by subst e2;exact fin d _ _ C (ű hA _ p U d.toArray) J g)
def zm(z:List Int->Int):List D->Option D
|[.lst (d::ds)]=>(gV (d::ds)).map fun ks=>.int (z ks)
|[.tup (d::ds)]=>(gV (d::ds)).map fun ks=>.int (z ks)
|_=>none
theorem Pv{K:W.Frag}(l:∀ks:List Int,ks.getD (ì (fun i j=>Y (ks.getD i 0) (ks.getD j 0)) (ks.length-1)) 0=z ks):yP K (yS K Y) (zm z):=by
 intro G H o p d Q f k e q;have Z:∀(y:D)(c:List D)(v:V)(b:Addr)(U:List V),v=.ref b->(cM K H b U\/dB K H b U)->cZ K G U (y::c)->(gV (y::c)).map (fun ks=>D.int (z ks))=some d->yS K Y [v] H Q:=fun y c v b U a s r e=>by cases h:gV (y::c)with
 |none=>rw[h]at e;cases e
 |some ks=>
   rw[h]at e;cases e;have m:=Paired.length r;have n:=AV f r h;subst n;refine⟨b,ks,by rw[a],s,?_,by rw[l];exact q _ G H (Grow.refl f) (.scl (.int _))⟩
   rintro rfl
   simp at m
 unfold zm at e;split at e
 .cases k with
 |cons g t=>cases t;obtain⟨b,U,a,s,r⟩:=g.lst f;exact Z _ _ _ b U a (.inl s) r e
 .cases k with
 |cons g t=>cases t;obtain⟨b,U,a,s,r⟩:=g.tup f;exact Z _ _ _ b U a (.inr s) r e
 .cases e
abbrev yV:List D->Option D:=zm lj
theorem NV(d:X.calm=true)(Z:Gl X "min")(Y:X.mg "min" = none)(f:iP X g m (e::es) fl)(b:!Sx X e es)(U:!Bx X pos es):SE X g m (.Call (.Name "min" p) (e::es) [] pos) (fC fl yV):=iG (Pv fun _=>rfl) (nJ (QR d _ call_min_walkS fun _ s a t c u E Q h=>HT.iI _ s a t c u X.prog X.w E Q h) Z Y ő f `d (rfl) b U)
def oa(h0 H:Hp):Prop:=∀a o,h0 a=some o->H a=some o
structure YieldsB(K:W.Frag)(h0:Hp)(J:It)(ds:List D)(G0:GH):Prop where
 go:∀G H (i:Nat),bO G0 G->bZ K G H->oa h0 H->i<ds.length->J.go i H
 yld:∀G H (i:Nat) x H' d,bO G0 G->bZ K G H->oa h0 H->J.yld i H x H'->ds[i]? = some d->∃G',Grow K G H G' H'/\RG K G' x d
 stop:∀G H,bO G0 G->bZ K G H->oa h0 H->J.stop ds.length H
theorem Yields.toH{K:W.Frag}(y:Yields K J ds Y):YieldsB K a J ds Y:=⟨fun G H i w U _ Z=>y.go G H i w U Z,fun G H i x b d w U _ q e=>y.yld G H i x b d w U q e,fun G H w U _=>y.stop G H w U⟩
noncomputable def We(X:Cx)(g:GE)(m:List Md)(f:FI):TI:=fun σ H R=>∃r G,SI X g m r G σ H/\fin (f r) (fun ds=>∀J G' H',Grow X.K G H G' H'->YieldsB X.K g.h0 J ds G'->R J H') (XW X σ G H)
def pv(X:Cx)(g:GE)(m:List Md)(tg iter:Expr)(f:FI):Prop:=PI X tg iter (We X g m f)
noncomputable def Wg(X:Cx)(g:GE)(m:List Md)(f:FE):TE:=fun σ H Q=>∃r G,SI X g m r G σ H/\fin (f r) (fun d=>∀v G' H',Grow X.K G H G' H'->Bw X.K g.h0 G' H' v d->Q v H') (XW X σ G H)
def DI(X:Cx)(g:GE)(m:List Md)(e:Expr)(f:FE):Prop:=PE X e (Wg X g m f)
variable{pos2:Pos}{elts:List Expr}{kk:Nat}
section
variable{m' mb:List Md}{tg a iter:Expr}{f:FE}{ro:Bool}{sts:List Stmt}{s1:FS}
theorem yx(i:Nat){x:Str}(a:!m[i]? = some .bw)(c:!X.N[i]? = some x)(Z:eJ X.env.scope x:=by first|exact Or.inl rfl|exact Or.inr (Or.inl rfl)|exact Or.inr (Or.inr rfl))(b:!!Nq x)(U:!!Nc x):DI X g m (.Name x pos) fun r=>gH r i:=by refine PE.imp (eL c Z b U) fun j H Q z=>?_;obtain⟨r,G,Y,q⟩:=z;obtain⟨d,e,k⟩:=AN q;obtain⟨v,h,f⟩:=Y.bw i d e a;exact⟨v,h,k _ G H (Grow.refl Y.gok) f⟩
theorem Gn{K:W.Frag}{a:Addr}(o:Own K Z Y a (.lst ds))(h:U a≠none)(c:oa U Y)(d:bO Z G)(b:oa U H):∃xs,cM K H a xs/\cZ K G xs ds:=by cases e:U a with
|none=>exact Q_f e h
|some u=>have g:=c a u e;have f:=b a u e;cases o.ob with
 |lst r s=>rw[g]at r;cases r;exact⟨_,cM.of f,cZ.mono s d⟩
theorem SI.oldIn{st:L2.St}(s:SI X g m r G st H):oa g.h0 H:=s.old
theorem Fs(h:DI X g m e f):pv X g m tg e (cF dh f):=by
 refine PI.imp (zK h) fun t H R f=>?_;obtain⟨r,G,j,q⟩:=f;refine ⟨r,G,j,bQ (cC q) fun d q v c Z w U=>?_⟩
 obtain⟨A,e,q⟩:=dz q;cases d with
|lst b=>
  rcases U with U|⟨a,rfl,o,k⟩
  .obtain⟨a,xs,rfl,s,rs⟩:=U.lst w.ok;exact .inl ⟨a,rfl,⟨xs,s⟩,q _ c Z w (As U).toH⟩
  .cases o.ob with
  |lst r s=>exact .inl ⟨a,rfl,⟨_,cM.of r⟩,q _ c Z w ((fun h=>by
      refine⟨fun G H i w Y o z=>?_,fun G H i x Z d w Y o y e=>?_,fun G H w Y o=>?_⟩
      .obtain⟨xs,s,r⟩:=h G H w Y o;have u:=Paired.length r;exact⟨xs,xs[i],s,m_ `o⟩
      .obtain⟨xs,s,r⟩:=h G H w Y o;obtain⟨rfl,y⟩:=y;obtain⟨v,p,U⟩:=Paired.get r e;have:=y xs s;rw[p]at this;cases this;exact⟨G,Grow.refl Y,U⟩
      .obtain⟨xs,s,r⟩:=h G H w Y o;exact⟨xs,s,ZK (Paired.length r)⟩) fun C B n _ l=>Gn o k (j.grow w).oldIn n l)⟩
|tup b=>
  rcases U with U|⟨a,rfl,o,k⟩
  .obtain⟨a,xs,rfl,s,rs⟩:=U.tup w.ok;exact .inr ⟨a,rfl,⟨xs,s⟩,q _ c Z w (zW U).toH⟩
  .cases o.ob
|_=>cases e
theorem Ar{K:W.Frag}{a:Hp}(h:∀G H,bO b G->bZ K G H->oa a H->∃xs,Z H xs/\cZ K G xs ds):YieldsB K a (pB Z) (eF 0 ds) b:=by
 refine⟨fun G H i w U o j=>?_,fun G H i x q d w U o y e=>?_,fun G H w U o=>?_⟩
 .obtain⟨xs,s,r⟩:=h G H w U o;rw[rZ]at j;have m:=Paired.length r;exact⟨xs,xs[i],s,`g⟩
 .obtain⟨xs,s,r⟩:=h G H w U o;obtain⟨p,v,g,rfl,rfl,f⟩:=y;rw[AJ]at e;cases Y:ds[i]? with
 |none=>rw[Y]at e;cases e
 |some n=>rw[Y]at e;simp  at e;subst e;obtain⟨l,k,c⟩:=Paired.get r Y;have:=f xs s;rw[k]at this;cases this;exact⟨_,Grow.newF U g (.tup (.inl cS) (.cons (.scl (.int _)) (.cons c .nil))),.ref iC⟩
 .obtain⟨xs,s,r⟩:=h G H w U o;rw[rZ];exact⟨xs,s,Paired.length r⟩
theorem FZ(y:Gl X "enumerate")(x:X.mg "enumerate" = none)(z:DI X g m e f)(hs:!Sx X e []):pv X g m (.Tuple elts kk pos2) (.Call (.Name "enumerate" p) [e] [] pos) (uH f):=by
 refine PI.imp (Gr y x z hs) fun A H R f=>?_;obtain⟨r,G,j,q⟩:=f;refine ⟨r,G,j,bQ (cC q) fun d q v i h w U=>?_⟩
 obtain⟨B,e,q⟩:=dz (cC q);cases d with
|lst c=>
  rcases U with U|⟨a,rfl,o,k⟩
  .obtain⟨a,xs,rfl,s,rs⟩:=U.lst w.ok;refine .inl ⟨a,rfl,⟨xs,s⟩,q _ i h w (Ar fun G H Y Z _=>?_)⟩;obtain⟨b,l,e,n,t⟩:=(U.mono Y).lst Z
   grind
  .cases o.ob with
  |lst r s=>exact .inl ⟨a,rfl,⟨_,cM.of r⟩,q _ i h w (Ar fun E C Y _ u=>Gn o k (j.grow w).oldIn Y u)⟩
|tup c=>
  rcases U with U|⟨a,rfl,o,k⟩
  .obtain⟨a,xs,rfl,s,rs⟩:=U.tup w.ok;refine .inr ⟨a,rfl,⟨xs,s⟩,q _ i h w (Ar fun G H Y Z _=>?_)⟩;obtain⟨b,l,e,n,t⟩:=(U.mono Y).tup Z
   grind
  .cases o.ob
|_=>cases e
theorem vZ(hp:Z8 (F_ X.prog X.w) X.A X.env X.xe)(hc:X.calm=true)(hi:pv X g m tg iter fi)(hg:SG X g m tg ft m)(hb:fP X g ro m m sts s1 m)(hs:!!!!Ix X iter):SS X g ro mb m (.For tg iter sts [] pos) (jz m fi ft s1) m:=by
 refine⟨rfl,PS.imp (vV hp hc hi hg.2 hb.2 hs) fun D N H ⟨r,G,K,q⟩=>⟨r,G,K,bQ (i7 K rfl q) fun j q J B H0 O Y=>?_⟩⟩;refine⟨fun i n N H=>∃r G,SI X g m r G N H/\bO B G/\i<=j.length/\n=j.length-i/\dA X g ro m mb G D (bG ft s1 (j.drop i) r),⟨j.length,r,B,K.grow O,bO.refl B,XY _,rfl,dA.gle q O.ge⟩,?_⟩
 rintro i n F u ⟨P,z,b,f,hi,rfl,a⟩
 by_cases h:i<j.length
 .have hd:=X3 h;rw[hd]at a;unfold bG at a;refine .inr ⟨Y.go z u i f b.gok b.oldIn h,fun s v=>∃r G,SI X g m r G s v/\bO B G/\dA X g ro m mb G D _,fun s v w=>by obtain⟨k,C,I,E,q'⟩:=w;exact ⟨_,`o,k,C,I,E,h,rfl,q'⟩,fun x v y=>?_⟩;obtain⟨C,o,T⟩:=Y.yld z u i x v j[i] f b.gok b.oldIn y (m_ h);have E:=f.trans o.ge;cases M:ft j[i] P with
 |none=>simp only[M]at a;exact a.elim
 |some L=>simp only[M]at a;refine⟨P,C,j[i],b.grow o,T,L,M,fun Q Id=>⟨L,C,Id,?_⟩⟩;cases p:s1 L with
  |nx k=>simp only[p]at a;exact fun c l t U Z=>⟨k,l,Z,E.trans U,dA.gle a (bO.trans o.ge U)⟩
  |ct k=>simp only[p]at a;exact fun c l t U Z=>⟨k,l,Z,E.trans U,dA.gle a (bO.trans o.ge U)⟩
  |bk k=>simp only[p]at a;exact fun c l t U Z=>a c l t (bO.trans o.ge U) Z
  |rt d=>simp only[p]at a;exact a
  |exc x k=>simp only[p]at a;exact fun pz e R c l t U=>a pz e R c l t (bO.trans o.ge U)
  |stuck=>simp only[p]at a;exact a
 .have e:i=j.length:=`o
  subst e;rw[Zl]at a;exact .inl ⟨Y.stop z u f b.gok b.oldIn,a F z u (bO.refl _) b⟩
end
section
open HT (sIx)
section
variable{prog:z_}{w:M_}{A:N_}{E:a_->d_->Prop}{s:d_}
theorem T8{e d:a_}{lo hi:Option Int}(b:ä s.heap t a)(hs:s.heap.IsSliceOf c e d .none)(i:ã e lo)(g:ã d hi)(f:sIx a.size 0 lo=0/\sIx a.size a.size hi=a.size)(h:Q (.ref t) s):C_ (F_ prog w) A (é (.ref t) (.ref c)) Q E s:=by
 obtain⟨j,U,Z,k⟩:=id hs;have Y:s.TypeIs (.ref c) "slice" := ⟨j,U,Z⟩
 unfold é
 try with_reducible refine YR ?_
 refine b_ (ģ b.typeIs (rfl) (b_ (Yb b.typeIs XD (Yy XD b.typeIs PyProof.Rows.entry_tuple_getitem ?_ (PyProof.Rows.args_tuple_getitem _ _)))));show C_ _ _ (Ũ _ >>= _) _ _ s;refine b_ (PyProof.Rows.tupleItemsOf_ b (b_ (Ú Y ?_)));refine b_ (HT.dj hs i g ?_);rw[f.1,f.2];show C_ _ _ (if (((0))==0&&(1)==1&&(a.size-0)==a.size)=true then _ else _) _ _ s;rw[Q_d `s];refine b_ (b_ (Ú b.typeIs (r_ ?_)));refine b_ (Ä ?_);exact r_ ⟨_,rfl,r_ h⟩
end
def Dm(K:W.Frag):V->Option Int->Option Int->Hp->VK->Prop:=fun x lo hi H Q=>∃a xs,x=.ref a/\dB K H a xs/\(sIx xs.length 0 lo=0/\sIx xs.length xs.length hi=xs.length)/\Q (.ref a) H
theorem Qc:ko X (Dm X.K):=by
 intro n s j H x v l k o t m Q I c i e d h;obtain⟨a,b,rfl,f,g,q⟩:=h;cases c;obtain⟨Y,r,Z,p⟩:=I.tuple f;have U:Y.toArray.size=b.length:=by exact r.length.symm
 exact⟨"tuple",_,XD.lookup,Z.typeIs,T8 Z i e d (by rw[U];exact g) ⟨.ref a,H,I,rfl,q⟩⟩
def yE(d:D)(lo hi:Option Int):Option D:=match d with
|.tup ds=>some (.tup (eI ds lo hi))
|.lst ds=>some (.lst (eI ds lo hi))
|_=>none
def gJ(fa:FE)(fl fh:FP):FE:=fun r=>(fa r).bind fun d=>(fl r).bind fun lo=>(fh r).bind fun hi=>eu (yE d lo hi)
section
variable{X:Cx}{g:GE}{m:List Md}{e:Expr}{f fa:FE}{pos p2:Pos}
theorem Pi{R:V->Option Int->Option Int->Hp->Prop}{fl i:FP}(b:SI X g m r G σ H)(h:fin (gJ fa fl i r) q (XW X σ G H))(n:∀d lo hi v a U d',Grow X.K G H a U->RB X.K a U v d->yE d lo hi=some d'->q d'->R v lo hi U):tB X g m fa σ H fun x j=>tP X g m fl σ j fun l U=>tP X g m i σ U fun u c=>R x l u c:=by refine⟨r,G,b,bQ (cC h) fun d t v y j Y k=>⟨r,y,b.grow Y,gX (cC t) Y fun lo s a U Z=>⟨r,a,(b.grow Y).grow Z,?_⟩⟩⟩;refine gX (cC s) (Y.trans Z) fun hi p w c f=>?_;obtain⟨d',e,o⟩:=dz p;exact n d lo hi v w c d' ((Y.trans Z).trans f) ((k.mono Z).mono f) e o
theorem Q0{ds:List U}{lo hi:Option Int}(h:sIx ds.length 0 lo=0/\sIx ds.length ds.length hi=ds.length):eI ds lo hi=ds:=by unfold eI;rw[h.1,h.2];simp
theorem pF{lo hi:Option Expr}{fl h:FP}(n:SB X g m e f)(l:nY X g m lo fl)(k:nY X g m hi h):SE X g m (.Subscript e (.Slice lo hi none p2) pos) (gJ f fl h):=by refine PE.imp (AC (ko.or Qc (ko.or GQ Fh)) n l k) fun u H Q z=>?_;obtain⟨r,G,i,q⟩:=z;refine Pi i q fun d lo hi v t o x w U e Z=>?_;cases d with
|tup Y=>
  cases e;rcases U with U|⟨y,_,j⟩
  .obtain⟨a,xs,rfl,s,r⟩:=U.tup w.ok;by_cases b:sIx Y.length 0 lo=0/\sIx Y.length Y.length hi=Y.length
   .refine .inl ⟨a,xs,rfl,s,by rw[Paired.length r];exact b,?_⟩;rw[Q0 b]at Z;exact Z _ t o w U
   .rw[<-Paired.length r]at b;refine .inr (.inr ⟨a,xs,rfl,s,b,fun p c=>?_⟩);exact Z _ _ _ (w.trans (Grow.newF w.ok c (.tup (.inl cS) (uW r lo hi)))) (.ref iC)
  .cases j.ob
|lst Y=>cases e;obtain⟨a,xs,rfl,s,r⟩:=U.lst w.ok;exact .inr (.inl ⟨a,xs,rfl,s,fun p c=>Z _ _ _ (w.trans (Grow.newF w.ok c (.lst (.inl cS) (uW r lo hi)))) (.ref iC)⟩)
|_=>cases e
end
end
section
open AutoSeq1 (wpAny_loadPart')
structure ZA(zp ti to u1 u2:Addr)(f1 f2:List Addr):Prop where
 a1:ti≠zp
 a2:to≠zp
 a3:u1≠zp
 a4:u2≠zp
 a5:to≠u1
 a6:to≠u2
 a7:u1≠u2
 a8:ti≠to/\ti≠u1/\ti≠u2
 b1:zp∉f1/\to∉f1/\u2∉f1
 b2:zp∉f2/\to∉f2/\u1∉f2
theorem _root_.PySem.Draws.at'{prog:z_}{w:M_}{A:N_}{it:Addr}{U:List Addr}{n:Nat}{P:Nat->a_->Prop}{St:Nat->Heap->Prop}(D:â prog w A it U n P St){i:Nat}{h h':Heap}{c:Addr}(st:St i h)(e:Heap.ExtBut c h h')(Y:c∉U):St i h':=D.frame i h h' st fun b Z o q=>e b o (by rintro rfl;exact Y Z) q
section
variable{prog:z_}{w:M_}{A:N_}{E:a_->d_->Prop}{s:d_}{zp ti to u1 u2:Addr}{f1 f2:List Addr}{n1 n2:Nat}{P1 P2:Nat->a_->Prop}{St1 St2:Nat->Heap->Prop}{p q:a_}
theorem Sy{Q:a_->d_->Prop}(Z:ZA zp ti to u1 u2 f1 f2)(f:â prog w A u1 f1 n1 P1 St1)(d:â prog w A u2 f2 n2 P2 St2)(m:á s.heap zp ti to .none)(hi:YT s.heap ti (.ref u1) (.ref u2))(ho:YT s.heap to p q)(P:St1 i s.heap)(O:St2 i s.heap)(l1:i<n1)(l2:i<n2)(hQ:∀x y h' N,P1 i x->P2 i y->á h' zp ti to (à s.heap.objs.size)->YT h' to x y->St1 (i+1) h'->St2 (i+1) h'->YT h' s.heap.objs.size x y->h'.objs.size=s.heap.objs.size+1 ->(∀c o,c≠zp->c≠to->c≠u1->c≠u2->s.heap.get? c=some o->h'.get? c=some o)->Q (.ref s.heap.objs.size) { s with heap:=h',toks:=N }):C_ (F_ prog w) A (è.«zip.__next__» ⟨[.ref zp],[]⟩) (fun fin R=>∃v,fin=.done (.ret v)/\Q v R) E s:=by
 show C_ _ _ (field (.ref zp) 2 >>= _) _ _ _;refine b_ (XE m rfl (x:=.bool false) rfl ?_);refine b_ (XE m rfl (x:=.ref ti) rfl (b_ (YD hi rfl ?_)));refine b_ ?_;unfold Zy;refine b_ (XE m rfl (x:=.none) rfl (r_ ?_));simp only[Q_k];refine b_ (Ä (b_ (XE m rfl (x:=.ref to) rfl (b_ (YE m `s fun g1 Wm l=>?_)))));refine b_ ?_;simp only[ļ,ŀ,ZZ,ń];refine b_ (b_ (þ ?_));refine b_ (f.item i _ _ _ l1 (f.at' P l.extBut Z.b1.1) fun x g2 t2 X Wn k=>r_ ?_);have r:YT g2 to p q:=k.extBut _ _ Z.a5 (l.extBut _ _ Z.a2 ho);refine b_ (YD r rfl (b_ (ZU r fun g3 Y j=>?_)));replace Y:YT g3 to x q:=Y;refine b_ (Ü (r_ ?_));refine b_ (b_ (þ ?_));refine b_ (d.item i _ _ _ l2 (d.at' (d.at' (d.at' O l.extBut Z.b2.1) k.extBut Z.b2.2.2) j.extBut Z.b2.2.1) fun y g4 t4 T Tm h=>r_ ?_);have H:YT g4 to x q:=h.extBut _ _ Z.a6 Y;refine b_ (YD H rfl (b_ (ZU H fun a U g=>?_)));replace U:YT a to x y:=U;refine b_ (Ü (r_ (r_ ?_)));refine b_ (YD U rfl (b_ (wpAny_newTuple ?_)));have n:a.objs.size=s.heap.objs.size:=by rw[g.1,h.1,j.1,k.1,l.1]
 have J:á a zp ti to .ellipsis:=g.extBut _ _ Z.a2.symm (h.extBut _ _ Z.a4.symm (j.extBut _ _ Z.a2.symm (k.extBut _ _ Z.a3.symm Wm)));have ST:St1 (i+1) a:=f.at' (f.at' (f.at' Wn j.extBut Z.b1.2.1) h.extBut Z.b1.2.2) g.extBut Z.b1.2.1;have LT:St2 (i+1) a:=d.at' Tm g.extBut Z.b2.2.1;have M:zp<a.objs.size:=q_ J;refine b_ ?_;unfold Ŵ;have Ty:á (a.push { cls:=.type "tuple",data:=.seq #[x,y] }) zp ti to .ellipsis:=c_ _ J;refine b_ (YE Ty `s fun g7 Wo C=>?_);refine YE Wo `s fun z I B=>?_;have u:∀c o,c≠zp->a.get? c=some o->z.get? c=some o:=fun c o t e=>B.extBut _ _ t (C.extBut _ _ t (c_ _ e));have L:YT z a.objs.size x y:=B.extBut _ _ (Yf M) (C.extBut _ _ (Yf M) (n_ _ rfl));have K:z.objs.size=a.objs.size+1:=by rw[B.1,C.1,XV]
 rw[n]at I L K;refine r_ ⟨_,rfl,?_⟩;show Q (.ref a.objs.size) _;rw[n];refine hQ x y z _ X T I (u _ _ Z.a2 U) (f.frame _ _ _ ST fun b F o e=>u b o (by rintro rfl;exact Z.b1.1 F) e) (d.frame _ _ _ LT fun b F o e=>u b o (by rintro rfl;exact Z.b2.1 F) e) L K fun c o t G c3 c4 e=>u c o t ?_;exact g.extBut _ _ G (h.extBut _ _ c4 (j.extBut _ _ G (k.extBut _ _ c3 (l.extBut _ _ t e))))
theorem Q3(Z:ZA zp ti to u1 u2 f1 f2)(k:â prog w A u1 f1 n1 P1 St1)(j:â prog w A u2 f2 n2 P2 St2)(f:á s.heap zp ti to .none)(hi:YT s.heap ti (.ref u1) (.ref u2))(J:YT s.heap to p q)(y:St1 i s.heap)(I:St2 i s.heap)(U:i=n1\/(i<n1/\i=n2))(C:∀h' e H,(∀c o,c≠zp->c≠to->c≠u1->c≠u2->s.heap.get? c=some o->h'.get? c=some o)->(∃o,h'.get? e=some o/\o.cls=.type "StopIteration")->E (.ref e) { s with heap:=h',toks:=H }):C_ (F_ prog w) A (è.«zip.__next__» ⟨[.ref zp],[]⟩) Q E s:=by
 show C_ _ _ (field (.ref zp) 2 >>= _) _ _ _;refine b_ (XE f rfl (x:=.bool false) rfl ?_);refine b_ (XE f rfl (x:=.ref ti) rfl (b_ (YD hi rfl ?_)));refine b_ ?_;unfold Zy;refine b_ (XE f rfl (x:=.none) rfl (r_ ?_));simp only[Q_k];refine b_ (Ä (b_ (XE f rfl (x:=.ref to) rfl (b_ (YE f `s fun X G d=>?_)))));refine b_ ?_;simp only[ļ,ŀ,ZZ,ń];refine b_ (b_ (þ ?_));rcases U with U|⟨m,U⟩
 .subst U;refine b_ (k.done _ _ _ (k.at' y d.extBut Z.b1.1) fun r e a n=>?_);obtain⟨l,u,v⟩:=n;have P:á r zp ti to .ellipsis:=a _ _ Z.a3.symm G;have Y:e≠zp:=fun x=>by grind
  exact YE P `s fun F _ b=>C F e _ (fun c o h _ t _ x=>b.extBut _ _ h (a _ _ t (d.extBut _ _ h x))) ⟨l,b.extBut _ _ Y u,v⟩
 .subst U;refine b_ (k.item _ _ _ _ m (k.at' y d.extBut Z.b1.1) fun x r R T LT a=>r_ ?_);have g:YT r to p q:=a.extBut _ _ Z.a5 (d.extBut _ _ Z.a2 J);refine b_ (YD g rfl (b_ (ZU g fun F LE b=>?_)));refine b_ (Ü (r_ ?_));refine b_ (b_ (þ ?_));refine b_ (j.done _ _ _ (j.at' (j.at' (j.at' I d.extBut Z.b2.1) a.extBut Z.b2.2.2) b.extBut Z.b2.2.1) fun L e B n=>?_);obtain⟨l,u,v⟩:=n;have O:á L zp ti to .ellipsis:=B _ _ Z.a4.symm (b.extBut _ _ Z.a2.symm (a.extBut _ _ Z.a3.symm G));have Y:e≠zp:=fun x=>by grind
  exact YE O `s fun K _ z=>C K e _ (fun c o h N t M x=>z.extBut _ _ h (B _ _ M (b.extBut _ _ N (a.extBut _ _ t (d.extBut _ _ h x))))) ⟨l,z.extBut _ _ Y u,v⟩
theorem SV(Z:ZA zp ti to u1 u2 f1 f2)(B:â prog w A.in1 u1 f1 n1 P1 St1)(z:â prog w A.in1 u2 f2 n2 P2 St2)(Y:á s.heap zp ti to .none)(hi:YT s.heap ti (.ref u1) (.ref u2))(g:YT s.heap to p q)(d:St1 i s.heap)(b:St2 i s.heap)(f:i<n1)(e:i<n2)(h:∀x y h' U,P1 i x->P2 i y->á h' zp ti to (à s.heap.objs.size)->YT h' to x y->St1 (i+1) h'->St2 (i+1) h'->YT h' s.heap.objs.size x y->h'.objs.size=s.heap.objs.size+1 ->(∀c o,c≠zp->c≠to->c≠u1->c≠u2->s.heap.get? c=some o->h'.get? c=some o)->Q (some (.ref s.heap.objs.size)) { s with heap:=h',toks:=U }):C_ (F_ prog w) A (pyNext (.ref zp)) Q E s:=by
 have a:s.TypeIs (.ref zp) "zip" := ⟨_,Y,rfl⟩
 exact b_ (wpAny_attempt (Yb a F.slot_zip_next (Yy F.slot_zip_next a F.entry_zip_next
   (Sy Z B z Y hi g d b f e fun x y h' U v u t r n m l k j=>r_ (h x y h' U v u t r n m l k j)) (F.args_zip_next_1 _))))
theorem Ug(Z:ZA zp ti to u1 u2 f1 f2)(n:â prog w A.in1 u1 f1 n1 P1 St1)(m:â prog w A.in1 u2 f2 n2 P2 St2)(b:á s.heap zp ti to .none)(hi:YT s.heap ti (.ref u1) (.ref u2))(Y:YT s.heap to p q)(g:St1 i s.heap)(f:St2 i s.heap)(U:i=n1\/(i<n1/\i=n2))(l:∀h' a,(∀c o,c≠zp->c≠to->c≠u1->c≠u2->s.heap.get? c=some o->h'.get? c=some o)->Q none { s with heap:=h',toks:=a }):C_ (F_ prog w) A (pyNext (.ref zp)) Q E s:=by
 have d:s.TypeIs (.ref zp) "zip" := ⟨_,b,rfl⟩
 refine b_ (wpAny_attempt (Yb d F.slot_zip_next (Yy F.slot_zip_next d F.entry_zip_next (Q3 Z n m b hi Y g f U fun h' e a h j=>?_) (F.args_zip_next_1 _))));obtain⟨o,Y,k⟩:=j;exact b_ (wpAny_isInstance ⟨o,Y,k⟩ isSubtype_stop (r_ (l _ _ h)))
end
noncomputable abbrev mQ(c:String)(l:Addr):Obj:={ cls:=.type c,data:=.fields #[.ref l,.int 0 0] }
abbrev xl(h:Heap)(c1 c2:String)(l1 l2:Addr):Heap:=(h.push (mQ c1 l1)).push (mQ c2 l2)
abbrev xk(h:Heap)(c1 c2:String)(l1 l2:Addr):Heap:=(xl h c1 c2 l1 l2).push { cls:=.type "tuple",data:=.seq #[.ref h.objs.size,.ref (h.push (mQ c1 l1)).objs.size] }
abbrev qc(h:Heap)(c1 c2:String)(l1 l2:Addr):Heap:=(xk h c1 c2 l1 l2).push { cls:=.type "tuple",data:=.seq #[.none,.none] }
abbrev nA(h:Heap)(c1 c2:String)(l1 l2:Addr):Heap:=(qc h c1 c2 l1 l2).push { cls:=.type "zip",data:=.fields #[.none,.bool false,.bool false,.ref (xl h c1 c2 l1 l2).objs.size,.ref (xk h c1 c2 l1 l2).objs.size] }
noncomputable abbrev mO(t:Bool):String:=match t with
|false => "list_iterator"
|true => "tuple_iterator"
theorem DZ(e:nR t l xs s.heap)(h:Q (.ref s.heap.objs.size) { s with heap:=s.heap.push (mQ (mO t) l) }):C_ (F_ prog w) A (í (.ref l)) Q E s:=by cases t with
|false=>exact ĥ e h
|true=>exact Yk e h
theorem Qk(t1 t2:Bool)(Y Z:Addr)(xs a:Array a_):Meets (è.«zip.__new__» ⟨[.type "zip",.ref Y,.ref Z],[]⟩) (fun _ R s=>nR t1 Y xs s.heap/\nR t2 Z a s.heap /\R (.ok (.ret (.ref (qc s.heap (mO t1) (mO t2) Y Z).objs.size))) { s with heap:=nA s.heap (mO t1) (mO t2) Y Z }):=
 .of_wp fun c w A R s h=>by
  obtain⟨e,f,g,b,d⟩:=s;obtain⟨j,i,h⟩:=h;have U:=sub_zip;have l:nR t1 Y xs (Ĝ ⟨e,f,g,b,d⟩):=j;have k:nR t2 Z a (Ĝ ⟨e.push (mQ (mO t1) Y),f,g,b,d⟩):=Qp i fun o=>c_ _
  wp_walk using DZ l,DZ k
  exact⟨_,rfl,h⟩
section
variable{prog:z_}{w:M_}{A:N_}{E:a_->d_->Prop}{s:d_}
def uQ(s:d_)(c1 c2:String)(l1 l2:Addr)(Q:a_->d_->Prop):Prop:=∀h',á h' (s.heap.objs.size+4) (s.heap.objs.size+2) (s.heap.objs.size+3) .none->YT h' (s.heap.objs.size+2) (.ref s.heap.objs.size) (.ref (s.heap.objs.size+1)) ->YT h' (s.heap.objs.size+3) .none .none->h'.get? s.heap.objs.size=some (mQ c1 l1)->h'.get? (s.heap.objs.size+1)=some (mQ c2 l2) ->(∀c o,s.heap.get? c=some o->h'.get? c=some o)->Q (.ref (s.heap.objs.size+4)) { s with heap:=h' }
theorem Oc(h:uQ s Y a U Z Q):(∃o,(nA s.heap Y a U Z).get? (qc s.heap Y a U Z).objs.size=some o/\o.cls=.type "zip")/\Q (.ref (qc s.heap Y a U Z).objs.size) { s with heap:=nA s.heap Y a U Z }:=by
 have e:(s.heap.push (mQ Y U)).objs.size=s.heap.objs.size+1:=XV ..;have d:(xl s.heap Y a U Z).objs.size=s.heap.objs.size+2:=by rw[XV,e]
 have b:(xk s.heap Y a U Z).objs.size=s.heap.objs.size+3:=by rw[XV,d]
 have g:(qc s.heap Y a U Z).objs.size=s.heap.objs.size+4:=by rw[XV,b]
 have f:(nA s.heap Y a U Z).get? (qc s.heap Y a U Z).objs.size=some _:=n_ _ rfl;have i:(nA s.heap Y a U Z).get? (xk s.heap Y a U Z).objs.size=some _:=c_ _ (n_ _ rfl);have j:(nA s.heap Y a U Z).get? (xl s.heap Y a U Z).objs.size=some _:=c_ _ (c_ _ (n_ _ rfl));have k:(nA s.heap Y a U Z).get? (s.heap.push _).objs.size=some _:=c_ _ (c_ _ (c_ _ (n_ _ rfl)));have l:(nA s.heap Y a U Z).get? s.heap.objs.size=some _:=c_ _ (c_ _ (c_ _ (c_ _ (n_ _ rfl))));rw[d,b,g]at f;rw[e,d]at j;rw[b]at i;rw[e]at k;rw[g];exact⟨⟨_,f,rfl⟩,h _ f j i l k fun c o x=>c_ _ (c_ _ (c_ _ (c_ _ (c_ _ x))))⟩
end
end
theorem GG(e:h.get? u=some (mQ (mO t) a)):mR t a u 0 h:=by cases t <;> exact⟨_,e,rfl,rfl⟩
section
variable{t:Bool}{a u:Addr}{xs ys:List V}{i:Nat}
theorem Rs{ch:List Addr}(I:Inv X pz σ H s)(U:∀b∈ch,e8 X pz H b)(k:∀b Y,b∉ch->s.heap.get? b=some Y->h'.get? b=some Y):Inv X pz σ H { s with heap:=h',toks:=t' }:=by
 have trk:∀b u,H b=some u->b∉ch:=fun b u e Z=>by rw[(U b Z).1]at e;cases e
 refine I.step (fun b Z=>?_) `a (fun b Y _ _ a e _=>⟨Y.slots,k b Y a e⟩) `a
  `a `a `a (fun b g e=>⟨#[],by rw[e];simp⟩) (fun m d=>?_) (fun b u e=>?_) I.bare
 .obtain⟨z0,z1,z2,z3,z4,z5⟩:=U b Z
  grind
 .obtain⟨Y,es,ep,ho,r⟩:=d;exact⟨Y,es,ep,k _ Y (fun Z=>(U _ Z).2.1 rfl) ho,r⟩
 .refine(I.hok b u e).stay (fun c v a q=>k c v ?_ q) (fun c q=>q) fun c f q=>q
  grind
end
noncomputable def DK(sq1 sq2:Hp->List V->Prop):It:=⟨fun i H=>∃xs ys x y,sq1 H xs/\sq2 H ys/\xs[i]? = some x/\ys[i]? = some y,fun i H x H'=>∃p v u,H p=none/\x=.ref p/\H'=aY H p (.tup [v,u])/\(∀xs,sq1 H xs->xs[i]? = some v)/\∀ys,sq2 H ys->ys[i]? = some u,fun i H=>∃xs ys,sq1 H xs/\sq2 H ys/\min xs.length ys.length=i⟩
theorem Qr(U:h.get? T=some { cls:=.type "tuple",data:=.seq #[x,y] })(r1:L2.aS v x)(Y:L2.aS u y):dZ P w H h T (.tup [v,u]):=⟨by show 2<=sizeLine;decide,[x,y],.cons r1 (.cons Y .nil),⟨_,U,rfl,0,rfl⟩,_,U,rfl⟩
theorem Qh{K:W.Frag}(a b zp ti to u1 u2:Addr)(Z:ZA zp ti to u1 u2 [u1,a] [u2,b])(h1:a≠u1)(h2:b≠u2):Turn P w K (.Tuple elts k pos) (DK (gS K t1 a) (gS K t2 b)) [zp,ti,to,u1,u2] zp (fun i h=>á h zp ti to .none/\YT h ti (.ref u1) (.ref u2)/\(∃p q,YT h to p q)/\mR t1 a u1 i h/\mR t2 b u2 i h) where
 mem:=`s
 obj:=fun i h st c hc=>by
  obtain⟨hz,hi,⟨p,q,ho⟩,s1,s2⟩:=st;simp only[s_,YZ,Q_j]at hc;rcases hc with rfl|rfl|rfl|rfl|rfl
  .simp_all
  .simp_all
  .simp_all
  .exact p7 s1
  .exact p7 s2
 keep:=fun i h h' st kk=>by obtain⟨hz,hi,⟨p,q,ho⟩,s1,s2⟩:=st;exact⟨kk zp `s _ hz,kk ti `s _ hi,⟨p,q,kk to `s _ ho⟩,qh s1 fun o e=>kk u1 `s o e,qh s2 fun o e=>kk u2 `s o e⟩
 item:=by
  intro X hP hw hK hc i pz s σ H E I hf st hg;subst hP hw hK;obtain⟨xs,ys,x,y,q1,q2,hx,hy⟩:=hg;obtain⟨hz,hi,⟨p,q,ho⟩,s1,s2⟩:=st;obtain⟨Cl,St1,BT,D1,d1,f1⟩:=pL I hc q1 h1 s1;obtain⟨Id,St2,Y,D2,d2,f2⟩:=pL I hc q2 h2 s2;have l1:i<Cl.toArray.size:=by have:=(e_.mp hx).1;rw[D_,<-BT.length];exact this
  have l2:i<Id.toArray.size:=by have:=(e_.mp hy).1;rw[D_,<-Y.length];exact this
  refine SV Z D1 D2 hz hi ho d1 d2 l1 l2 fun vx vy h' tk px py Ty LE IO KK hT hsz hk=>⟨_,rfl,wpAny_letOwnedTupleGo_zip Ty fun Tm LT U=>?_⟩
  obtain⟨wx,e1,r1⟩:=BT.get hx;obtain⟨wy,e2,r2⟩:=Y.get hy;have ex:vx=wx:=`g
  have ey:vy=wy:=`g
  subst ex ey;have nT:∀c o,s.heap.get? c=some o->s.heap.objs.size≠c:=fun c o e=>Yf (q_ e);have ST:=(U.2 _ (nT _ _ hz)).trans hT;obtain⟨o1,Wm,_⟩:=p7 s1;obtain⟨o2,ho2,_⟩:=p7 s2;refine⟨.ref s.heap.objs.size,aY H s.heap.objs.size (.tup [x,y]),HV (s:=s) (h':=Tm) (t':=tk) (ch:=[zp,to,u1,u2]) I (fun c hc=>hf c ?_) (fun c ob hb e=>?_) (l_ _) (Qr ST r1 r2),rfl,⟨_,x,y,I.hok.fresh (l_ _),rfl,rfl,fun zs hz=>by rw[An I hz q1];exact hx,fun zs hz=>by rw[An I hz q2];exact hy⟩,⟨LT,?_,⟨vx,vy,?_⟩,?_,?_⟩,fun c hc=>?_⟩
  .grind
  .simp only[s_,YZ,Q_j,not_or]at hb;exact(U.2 c hb.1).trans (hk c ob hb.1 hb.2.1 hb.2.2.1 hb.2.2.2 e)
  .exact(U.2 _ Z.a1).trans (hk _ _ Z.a1 Z.a8.1 Z.a8.2.1 Z.a8.2.2 hi)
  .exact(U.2 _ Z.a2).trans LE
  .exact qh (f1 _ _ IO) fun o e=>(U.2 _ Z.a3).trans e
  .exact qh (f2 _ _ KK) fun o e=>(U.2 _ Z.a4).trans e
  .rw[cE ?_]
   .exact(hf c hc).1
   grind
 done:=by
  intro X hP hw hK hc i pz s σ H E I hf st hg;subst hP hw hK;obtain⟨xs,ys,q1,q2,hm⟩:=hg;obtain⟨hz,hi,⟨p,q,ho⟩,s1,s2⟩:=st;obtain⟨Cl,St1,BT,D1,d1,f1⟩:=pL I hc q1 h1 s1;obtain⟨Id,St2,Y,D2,d2,f2⟩:=pL I hc q2 h2 s2;have l1:=BT.length;have l2:=Y.length;refine Ug Z D1 D2 hz hi ho d1 d2 ?_ fun h' tk hk=>⟨rfl,Rs (h':=h') (t':=tk) (ch:=[zp,to,u1,u2]) I (fun c hc=>hf c ?_) fun c ob hb e=>?_⟩
  .grind
  .grind
  simp_all
 self:=fun _ _ _ _ _ st h=>wpAny_pyIter_zip st.1 h
def jf(fa fb:FE):FI:=fun r=>(fa r).bind fun d=>(fb r).bind fun e=>(eu (dh d)).bind fun ds=>(eu (dh e)).bind fun es=>.ok (YQ (fun a b=>D.tup [a,b]) ds es)
theorem Q4{Y U Z:Type}(f:Y->U->Z):∀(l:List Y)(r:List U)(i:Nat),(YQ f l r)[i]? = (match l[i]?,r[i]? with|some a,some b=>some (f a b)|_,_=>none):=fun l r i=>by rw[İ];cases l[i]? <;> cases r[i]? <;> rfl
section
variable{e1 e2:Expr}{fa fb:FE}
theorem OQ(I:Inv X pz σ H s)(e:gS X.K t1 a H xs)(d:gS X.K t2 b H c)(h:uQ s (mO t1) (mO t2) a b Q):C_ (F_ X.prog X.w) X.A (call (.type "zip") [.ref a,.ref b]) Q E s:=by obtain⟨U,_,g⟩:=wo I e;obtain⟨Y,_,f⟩:=wo I d;exact callType_new F.called_zip (rfl) (F.typeCall_zip_2 _ _) (F.newCall_zip_2 _ _) (fun Z=>F.args_object_init_3 Z _ _) F.entry_zip_new (Qk t1 t2 a b U.toArray Y.toArray) ⟨g,f,Oc h⟩
theorem oy{x y:Nat}(h:x≠y):(show Addr from x)≠(show Addr from y):=h
theorem Nz(h:c=k+4\/c=k+2\/c=k+3\/c=k\/c=k+1):k<=c:=`o
theorem M7(hg:Gl X "zip")(Q:X.mg "zip" = none)(ha:PE X e1 v)(hb:PE X e2 t)(hs:!E_ [e1,e2] X.env=(false,eval e1 X.env)::E_ [e2] X.env)(Y:!Sx X e2 [])(l:!(backTo pos (E_ [e2] X.env)).any (·.1)=false):PI X (.Tuple elts kk pos2) (.Call (.Name "zip" p) [e1,e2] [] pos) (fun σ H R=>v σ H fun x m=>t σ m fun y e=>∃(t1 t2:Bool)(a b:Addr),x=.ref a/\y=.ref b/\(∃xs,gS X.K t1 a e xs)/\(∃i,gS X.K t2 b e i)/\R (DK (gS X.K t1 a) (gS X.K t2 b)) e):=by
 intro L s σ H R I h;refine Call_ (ox I hg Q boot_zip (Yc (bK (gR ha (gR hb ky Y) hs pos L s σ H (fun r e=>match r with
 |[x,y]=>∃(t1 t2:Bool)(a b:Addr),x=.ref a/\y=.ref b/\(∃xs,gS X.K t1 a e xs)/\(∃i,gS X.K t2 b e i)/\R (DK (gS X.K t1 a) (gS X.K t2 b)) e
 |_=>False) I h) fun C d v=>?_) hs l));obtain⟨r,m,f,J,g⟩:=v
 cases J with
|nil=>exact g.elim
|@cons x u xs C F G=>cases G with
|nil=>exact g.elim
|@cons y u' A B E Z=>cases Z with
|cons _ _=>exact g.elim
|nil=>
 obtain⟨t1,t2,a,b,rfl,rfl,⟨zs,o⟩,⟨ws,n⟩,q⟩:=g;cases F;cases E;have k:=ql f o;have j:=ql f n;refine OQ f o n fun h' w T P N M O=>wpAny_pyIter_zip w ?_;refine⟨_,[d.heap.objs.size+4,d.heap.objs.size+2,d.heap.objs.size+3,d.heap.objs.size,d.heap.objs.size+1],_,_,m,rfl,f.kept (t':=d.toks) O,Qh (t1:=t1) (t2:=t2) a b _ _ _ _ _ ((fun k j=>⟨oy `o,oy `o,oy `o,oy `o,oy `o,oy `o,oy `o,`g,`g,`g⟩) k j) (I_ k) (I_ (Yh j)),⟨w,T,⟨_,_,P⟩,GG N,GG M⟩,fun c z=>?_,q⟩;have U:d.heap.objs.size<=c:=by simp only[s_,YZ,Q_j]at z;exact Nz z
 exact f.fpOk U (f.hok.fresh U)
theorem qJ(hg:Gl X "zip")(hm:X.mg "zip" = none)(ha:SE X g m e1 fa)(hb:SE X g m e2 fb)(hs:!E_ [e1,e2] X.env=(false,eval e1 X.env)::E_ [e2] X.env)(U:!Sx X e2 [])(I:!(backTo pos (E_ [e2] X.env)).any (·.1)=false):iZ X g m (.Tuple elts kk pos2) (.Call (.Name "zip" p) [e1,e2] [] pos) (jf fa fb):=by
 refine PI.imp (M7 hg hm ha hb hs U I) fun σ H R g=>?_;obtain⟨r,G,O,q⟩:=g;refine ⟨r,G,O,bQ (cC q) fun d q v G1 H1 A h=>⟨r,G1,O.grow A,?_⟩⟩
 refine gX (cC q) A fun e q u N T z C=>?_;obtain⟨o,n,q⟩:=dz (cC q);obtain⟨es,ee,q⟩:=dz (cC q);have Y:=h.mono z.ge;have l:∀{v:V}{d:D}{o:List D},RG X.K N v d->dh d=some o->∃(t:Bool)(a:Addr),v=.ref a/\(∃Z,gS X.K t a T Z)/\∀G H,bO N G->bZ X.K G H->∃Z,gS X.K t a H Z/\cZ X.K G Z o:=by intro v d o h n;cases d with
 |lst M=>cases n;obtain⟨a,Z,rfl,s,rs⟩:=h.lst z.ok;refine⟨false,a,rfl,⟨Z,s⟩,fun G H F c=>?_⟩;obtain⟨b,f,e,B,E⟩:=(h.mono F).lst c;cases e;exact⟨f,B,E⟩
 |tup M=>cases n;obtain⟨a,Z,rfl,s,rs⟩:=h.tup z.ok;refine⟨true,a,rfl,⟨Z,s⟩,fun G H F c=>?_⟩;obtain⟨b,f,e,B,E⟩:=(h.mono F).tup c;cases e;exact⟨f,B,E⟩
 |_=>cases n
 obtain⟨t1,a,rfl,x1,y1⟩:=l Y n;obtain⟨t2,b,rfl,x2,y2⟩:=l C ee;exact⟨t1,t2,a,b,rfl,rfl,x1,x2,q _ N T (A.trans z) ((fun L J=>by
    refine⟨fun G H i w c hi=>?_,fun G H i x H' d w c y e=>?_,fun G H w c=>?_⟩
    .obtain⟨Z,s1,r1⟩:=L G H w c;obtain⟨f,j,k⟩:=J G H w c;rw[Z3]at hi;have l1:=Paired.length r1;have l2:=Paired.length k;exact⟨Z,f,Z[i]' `o,f[i]' `o,s1,j,m_ _,m_ _⟩
    .obtain⟨Z,s1,r1⟩:=L G H w c;obtain⟨f,j,k⟩:=J G H w c;obtain⟨p,v,u,hp,rfl,rfl,hv,hu⟩:=y;rw[Q4]at e;cases e1:o[i]? with
    |none=>rw[e1]at e;cases e
    |some d1=>cases e2:es[i]? with
     |none=>rw[e1,e2]at e;cases e
     |some d2=>rw[e1,e2]at e;cases e;obtain⟨v',z1,h⟩:=Paired.get r1 e1;obtain⟨u',z2,C⟩:=Paired.get k e2;have Q:=hv Z s1;have P:=hu f j;rw[z1]at Q;cases Q;rw[z2]at P;cases P;exact⟨_,Grow.newF c hp (.tup (.inl cS) (.cons h (.cons C .nil))),.ref iC⟩
    .obtain⟨Z,s1,r1⟩:=L G H w c;obtain⟨f,j,k⟩:=J G H w c;refine⟨Z,f,s1,j,?_⟩;rw[Z3,Paired.length r1,Paired.length k]) y1 y2)⟩
end
end DL
namespace DL
open PySem PySem.Spec PyProof.Rows L2 PySem.W PySem.Calls
noncomputable def qF:Nat:=2^2000
def MF(i j:Int):Prop:=i.natAbs<qF/\j.natAbs<qF
def yO(_i j:Int):Prop:=0<j/\j.natAbs<qF
instance decMulW(i j:Int):Decidable (MF i j):=by unfold MF;infer_instance
instance decDivW(i j:Int):Decidable (yO i j):=by unfold yO;infer_instance
abbrev za:D->D->Option D:=nj yO fun a b=>.int (a/b)
variable{X:Cx}{g:GE}{m:List Md}{e a b c:Expr}{f fa fb:FE}{fl:aJ->Res (List D)}{pos:Pos}
section
variable{o:Expr}{es:List Expr}{fc fo:FE}{p apos cpos:Pos}
theorem He(Z:SB X g m a fa)(Y:SB X g m b fb):SE X g m (.BinOp a .FloorDiv b pos) (f2 fa fb za):=lR (tU fun i j _ _ _ _ _ U q=>by
   have e:(0:Int)<j:=U.1;have c:j.natAbs<qF:=U.2;have d:j.natAbs≠0:=`o
   have:=(Ê d).mpr c;exact floordiv_int `o (by rw[Ŗ i `o];exact q) (.inl (PyProof.noPylong_of_log2 `o))) (sj fun _ _=>.int _) Z Y
noncomputable def absD:List D->Option D
|[.int i]=>some (.int (if i<0 then-i else i))
|_=>none
theorem V6(c:Gl X "abs")(b:X.mg "abs" = none)(h:iP X g m (e::es) fl)(f:!Sx X e es)(U:!Bx X pos es) :
  SE X g m (.Call (.Name "abs" p) (e::es) [] pos) (fC fl absD):=iG (by
     intro G H i j d Q Y Z e q;unfold absD at e;split at e
     .cases e;cases Z with
     |cons a t=>cases t;exact⟨_,by rw[a.int Y],q _ G H (Grow.refl Y) (.scl (.int _))⟩
     .cases e) (nJ Py c b PyProof.Rows.boot_abs h `d (rfl) f U)
theorem Au(Z:Gl X x)(Y:∃t,X.mg x=some (.int i t))(a:!!Nq x):SE X g m (.Name x pos) fun _=>.ok (.int i):=by obtain⟨t,U⟩:=Y;exact Fd (v:=.int i) Z U ⟨t,rfl⟩ (.int i) a
theorem Va{K:W.Frag}(Y:K.In h)(G:h.Ns K_ U)(z:W.nsIn K K_ x=some (some (.int i t))):∃t,U x=some (.int i t):=⟨t,W.mg_of Y G z⟩
theorem UX{K:W.Frag}(Z:K.In h)(G:h.Ns K_ U){a:Addr}(z:W.nsIn K K_ x=some (some (.ref a)))(l:K.lookup a=some ⟨.type "tuple",none,.seq #[.int i t,.int j u] n,Y⟩):∃a,U x=some (.ref a)/\KC K a (.tup [.int i,.int j]):=by refine⟨a,W.mg_of Z G z,.tup (xs:=[.int i,.int j]) (.inr ⟨_,_,_,l,rfl,rfl,?_,.cons ⟨_,rfl⟩ (.cons ⟨_,rfl⟩ .nil)⟩) (.cons (.int _) (.cons (.int _) .nil)) ⟨_,l,rfl,rfl⟩⟩;show 2<=sizeLine;decide
def Hi(K:W.Frag):V->List V->Hp->VK->Prop:=fun x vs H Q=>∃p xs y,x=.ref p/\vs=[y]/\cM K H p xs/\hZ y=true/\xs.all hZ=true/\Q (.int ((xs.countP fun z=>iN z y:Nat):Int)) H
theorem Gb:∀{xs:List V}{us:List a_},aL xs us->xs.all hZ=true->us.countP (iX y)=xs.countP fun z=>iN z y
|_,_,.nil,_=>rfl
|x::xs,u::us,.cons r t,f=>by rw[Y7,P_]at f;rw[Ľ,Ľ,Gb t f.2,re r f.1]
theorem Rk:jt X "list.count" (Hi X.K):=by
 intro L s E H x G v J Q I g i h;obtain⟨p,f,y,rfl,rfl,t,C,d,q⟩:=h;cases g;obtain⟨u,rfl,j⟩:=fU i;obtain⟨Y,r,k,M⟩:=I.list t;obtain⟨o,n,c,B,A,m⟩:=k;obtain⟨b,Z,a,U⟩:=o;subst B A m;refine YS PySem.F.slot_list_count ⟨_,c,rfl⟩ PySem.F.entry_list_count (PySem.F.args_list_count_2 _ _)
  (SeqAt.list_countAt p Y.toArray n none U u _) ⟨c,fun w l=>oE j C r d w (by simpa using l),⟨.int _,H,I.tok _,⟨_,rfl⟩,?_⟩⟩
 have e:(Y.toArray.toList.countP _)=f.countP fun z=>iN z y:=Gb r d;rw[e];exact q
def v7(d:D)(zs:List D):Option D:=match d,zs with
|.lst ds,[x]=>if dw x=true/\ds.all dw=true then some (.int ((ds.countP fun z=>eqs z x:Nat):Int))else none
|_,_=>none
theorem QZ{K:W.Frag}:pA K (Hi K) v7:=by
 intro G H v d j k l Q U Z c e q;unfold v7 at e;split at e
 .rename_i zs x;split at e
  .rename_i hc;cases e;cases c with
  |cons f b=>
    cases b;obtain⟨a,Y,rfl,s,r⟩:=Z.lst U;obtain⟨i,f1⟩:=RB.flat f U hc.1;obtain⟨h,g⟩:=zb r U hc.2;refine⟨a,Y,_,rfl,rfl,s,f1,g,?_⟩;have:(Y.countP fun z=>iN z (ja x))=zs.countP fun z=>eqs z x:=by rw[h,Ł];rfl
    rw[i,this];exact q _ G H (Grow.refl U) (.scl (.int _))
  .cases e
 .cases e
end
section
variable{m' m1 mb:List Md}{tg iter:Expr}{p:FQ}{pos':Pos}{ro:Bool}{sts:List Stmt}{s1:FS}
noncomputable def kT:D->D->Option D
|.lst ds,.int k=>if-(2^62)<=k/\k<2^62/\ds.length*k.toNat<=sizeLine then some (.lst ((p_ k.toNat ds).flatten))else none
|_,_=>none
theorem Ep{K:W.Frag}(r:cZ K G xs ds):∀n:Nat,cZ K G (p_ n xs).flatten (p_ n ds).flatten
|0=>.nil
|n+1=>by exact DL.Paired.app r (Ep r n)
theorem DP(A:SO X g m a fa)(z:SB X g m b fb):SO X g m (.BinOp a .Mult b pos) (f2 fa fb kT):=by
 refine PE.imp (DT MY A z) fun E H Q a=>?_;obtain⟨r,G,h,q⟩:=a;refine ⟨r,G,h,bQ (cC q) fun J t u C L Z U w=>⟨r,C,h.grow Z,gX (cC t) Z fun I s F B K Y l=>?_⟩⟩
 obtain⟨d,e,n⟩:=dz s;have v:=w.mono Y;unfold kT at e;split at e
 .split at e
  .rename_i ds k hk;cases e;cases v.ob with
  |@lst f _ x i=>have y:=Paired.length i;refine⟨u,k,f,rfl,l.int Y.ok,x,`o,`o,by rw[y];exact hk.2.2,fun p c=>?_⟩;have j:=Grow.new Y.ok c (.lst (p_ k.toNat f).flatten);refine n p B _ ((Z.trans Y).trans j) ?_ ⟨Y.ok.isN c,.lst cS (Ep i _)⟩;cases e:H p with
   |none=>rfl
   |some o=>rw[(Z.trans Y).he _ _ e]at c;cases c
  .cases e
 .cases e
end
section
open PySem.AutoSeq1 (wpAny_loadPart')
end
end DL
namespace DL
open PySem PySem.Spec PyProof.Rows L2 PySem.W PySem.Calls
noncomputable def iw(g:GE)(H:Hp)(fp:List Addr)(i:Nat)(p:Addr):GE:=⟨g.gh,fun b=>if b∈fp then H b else g.h0 b,fun j=>if j=i then some (some (V.ref p),none)else g.hd j⟩
theorem PQ(h:∀b∈U,Y b=H b):iw g Y U i p=iw g H U i p:=by
 unfold iw
 grind
variable{X:Cx}{g:GE}{i:Nat}{m m' m1 mb:List Md}{r r':aJ}{G G':GH}{σ σ':L2.St}{H H':Hp}{sts:List Stmt}{ro:Bool}{pos:Pos}
section
variable{w:List (List D)}
abbrev Wl:=aJ->List (List D)->Option (aJ×List (List D))
variable{st:Stmt}{s1:FS}{f1 f2:Wl}{tg iter:Expr}
end
noncomputable def pN:List D->Option D
|[.bl b]=>some (.int (if b then 1 else 0))
|_=>none
theorem QS:gm X (.type "int") (fun xs H Q=>∃b:Bool,xs=[.bl b]/\Q (.int (if b then 1 else 0)) H):=by intro a s Y H xs Z Q I r h;obtain⟨b,rfl,q⟩:=h;obtain⟨u,rfl,U⟩:=fU r;cases U;exact call_int_bool ⟨.int _,H,I.tok _,⟨_,rfl⟩,q⟩
theorem Fe{U p:Pos}(h:Gl X "int")(f:X.mg "int" = none)(j:iP X g m (e::Y) fl)(i:!Sx X e Y)(Z:!Bx X U Y) :
  SE X g m (.Call (.Name "int" p) (e::Y) [] U) (fC fl pN):=iG (by
     intro G H k l d Q a b e q;unfold pN at e;split at e
     .cases e;cases b with
     |cons c t=>cases t;exact⟨_,by rw[c.bl a],q _ G H (Grow.refl a) (.scl (.int _))⟩
     .cases e) (nL QS h f rfl j `d (rfl) i Z)
abbrev FW:=aJ->Res D
section
variable{ms:List Md}{e c:Expr}{es:List Expr}{q:FQ}{st:Stmt}{sts1:List Stmt}{fl:aJ->Res (List D)}{F:List D->Res D}{k:Nat}{ps:List Str}{p1 p2 p3 p4 apos cpos:Pos}{x y:Str}{d1:D}{ds:List D}
abbrev F3:=aJ->D->List D->Option aJ
end
end DL
section
namespace DL
section
open PySem PyProof.Rows PySem.W PySem.Calls
variable{prog:z_}{w:M_}{A:N_}{E:a_->d_->Prop}{s:d_}{l:Addr}{vs:List a_}{ns:List Int}
end
open PySem PySem.Spec PyProof.Rows L2
end DL
end
namespace DL
open PySem PySem.Spec PyProof.Rows L2
end DL
section
namespace DL
section
open PySem PyProof.Rows
variable{prog:z_}{w:M_}{A:N_}{R:Result->d_->Prop}{I S:Addr}{fp wr:List Addr}{n:Nat}{P:Nat->a_->Prop}{St:Nat->Heap->Prop}{TP:Heap->Prop}{bt:Nat->Nat->Bool}
end
end DL
end
namespace DL
open PySem PySem.Spec PyProof.Rows L2
section
open PySem.AutoSeq1 (wpAny_loadPart')
end
end DL
namespace DL
open PySem PySem.Spec PyProof.Rows L2 PySem.W PySem.Calls
def MI(K:W.Frag)(ro:Bool)(ms:List Md)(F:List D->Res D):Sp:=fun vs H Q E=>∃G ds,bZ K G H/\ArgsOk K G H ms vs ds /\fin (F ds) (fun d=>∀v G' H',Grow K G H G' H'->RV ro K H G' H' v d->Q v H') fun x=>∀C od nm fs G' H',x=xD nm fs->XN K nm C->XF G' od fs->Grow K G H G' H'->E (.ref C) od H'
variable{X:Cx}{ps:List Str}{dvs:List V}{ds:List a_}{p pos:Pos}{e:Expr}{es:List Expr}
section
variable{k:Nat}{f:Addr}{fd:X2}{sp:Sp}{x:Str}{t:TA}
def qN(X:Cx)(σ:L2.St)(H:Hp)(E:XK):Prop:=∀pz s a cls od H' s',Inv X pz σ H s->Fly X.prog X.w X.stack H s H' a cls od s'->E cls od H'->X.xe (.ref a) s'
theorem wA{σ:L2.St}(F:FnOk X.prog X.w X.K X.mg X.base (jj X.prog X.w) k f fd ps sp)(i:Room k X.A)(m:gO X.K fd ps ds)(l:aL dvs ds)(I:Inv X pz σ H s)(g:qN X σ H E)(r:aL vs us)(h:sp (vs++dvs) H Q E):C_ (F_ X.prog X.w) X.A (call (.ref f) us) (EP X pz σ Q) X.xe s:=by
 have b:=r.append l;have j:(us++ds).length=ps.length:=by rw[<-b.length];exact F.len _ _ _ _ h
 refine Á (Zk (F.run X.A X.stack s H _ _ _ Q E i I.env0 (m s us I.kIn j) b h) fun r c U=>?_);cases r with
|error e=>obtain⟨a,Z,n,d,rfl,Y,q⟩:=U;exact g pz s a Z d n c I Y q
|ok Y=>cases Y with
 |ret u=>exact I.after U
 |next=>exact X4 U
 |brk=>exact X4 U
 |cont=>exact X4 U
theorem Hs(F:FnOk X.prog X.w X.K X.mg X.base (jj X.prog X.w) k f fd ps sp)(d:Room k X.A)(j:Gl X x)(g:X.mg x=some (.ref f))(i:W.keepIn X.K (.ref f)=true)(n:gO X.K fd ps ds)(m:aL dvs ds)(o:PA X (e::es) t)(U:!!Nq x)(l:!Sx X e es)(Y:!Bx X pos es):PE X (.Call (.Name x p) (e::es) [] pos) (fun σ H Q=>t σ H fun vs Z=>∃E,sp (vs++dvs) Z Q E/\qN X σ Z E):=by intro b s σ H Q I h;refine YB (nH I j g ?_ U);refine W.callWith_K I.ok.mod.kin i (bK (o pos b s σ H _ I h) fun u v ⟨vs,Z,a,r,E,q,c⟩=>⟨a.kIn,?_⟩) l Y;exact wA F d n m a c r q
end
section
variable{P:z_}{w:M_}{K:W.Frag}{mg:Str->Option a_}{base:Heap}
structure CalleeX(P:z_)(w:M_)(K:W.Frag)(mg:Str->Option a_)(base:Heap)(x:Str)(ps:List Str)(ds:List a_)(k:Nat)(ro:Bool)(ms:List Md)(F:List D->Res D):Prop where
 ex:∃f fd,mg x=some (.ref f)/\W.keepIn K (.ref f)=true/\gO K fd ps ds/\FnOk P w K mg base (jj P w) k f fd ps (MI K ro ms F)
theorem lH{st:Stmt}(A:DefAt K mg x st)(S:FnScope N ps (aA st))(Z:ms.length=ps.length)(hb:∀(kV doc pm:a_)(an:Option Addr)(cdv ct:a_)(us:List a_),us.length=ps.length->Y5 (W.fnOf x x (aW st) (aO st) (aA st) .none kV doc pm an cdv ct) ⟨us,[]⟩=pure (ps.zip us))(U:∀(f:Addr)(cdv:a_)(A:N_)(outer:List Env)(s:d_)(H:Hp)(g:GE)(E:XK),Room k (A.deeper (YK x (aA st) s.heap.objs.size f cdv)) ->fP (cR (jj P w) P w K mg base N x (aA st) f cdv A outer s H E) g ro [] (gw N.length ms) (aO st) fs m'):CalleeX P w K mg base x ps [] (k+1) ro ms fun ds=>bV ro (fs (cH N.length ds)):=by
 obtain⟨f,fd,h1,F⟩:=A.ex;exact⟨f,fd,h1,F.kp,F.binds hb,(by
    obtain⟨oc,od,kV,doc,pm,an,cdv,ct,osl,rfl,lk,Cl⟩:=F.ex;refine vz lk Cl S (fun vs H Q E k=>by obtain⟨G,ds,gk,rs,q⟩:=k;exact rs.len.1.trans Z) fun A outer s H vs Q E hr h=>?_;obtain⟨G,ds,gk,rs,q⟩:=h;have hpl:ps.length<=N.length:=by have:=Q_g Zg S.pre;grind
    refine⟨_,((U f) cdv A outer s H _ E hr).2,_,G,r6 gk rs `o,?_⟩;replace q:fin (bV ro _) _ _:=q;cases e:fs _ with
   |nx r'=>rw[e]at q;cases ro with
    |false=>exact fun σ' G' H' _ si=>q .non G' H' si.grown (.scl .non)
    |true=>exact q.elim
   |rt d=>rw[e]at q;exact fun v G' H' wg rv=>q v G' H' wg rv
   |bk r'=>rw[e]at q;exact q.elim
   |ct r'=>rw[e]at q;exact q.elim
   |exc x r'=>rw[e]at q;intro pz ev s' σ' G' H' le si I ex;obtain⟨pins1,s1,H1,a,C,Y,nm,BT,rfl,rfl,xn,xf,I1,fl⟩:=ex;exact fl.leaves I1 rfl rfl rfl fun s'' fl2=>⟨a,_,H',Y,rfl,fl2,q C Y nm BT G' H' rfl xn xf si.grown⟩
   |stuck=>rw[e]at q;exact q)⟩
end
variable{g:GE}{ro:Bool}{m mb ms:List Md}{fl:aJ->Res (List D)}{F:List D->Res D}{C:Addr}
section
variable{k:Nat}{dds:List D}{x:Str}{np:Pos}
def ip(fl:aJ->Res (List D))(dds:List D)(F:List D->Res D):FE:=fun r=>(fl r).bind fun ds=>F (ds++dds)
theorem Pd(c:CalleeX X.prog X.w X.K X.mg X.base x ps ds k false (ms++p_ dds.length .sh) F)(P:Room k X.A)(hd:aL dvs ds)(U:Paired Scl dvs dds)(ha:gL X g m (e::es) ms fl)(R:!Gl X x)(Y:!!Nq x)(T:!Sx X e es)(u:!Bx X pos es):SE X g m (.Call (.Name x p) (e::es) [] pos) (ip fl dds F):=by
 obtain⟨fa,fd,h1,h2,h3,G1⟩:=c.ex;refine PE.imp (Hs G1 P R h1 h2 h3 hd ha Y T u) fun σ H Q k=>?_;obtain⟨r,G,L,q⟩:=k;refine ⟨r,G,L,?_⟩
 cases z:fl r with
|ok J=>
  unfold ip at q;rw[z]at q;intro vs E B t N;refine⟨fun j l h=>∃C b f Z,j=.ref C/\F (J++dds)=.exc (xD b f)/\XN X.K b C/\XF Z l f/\Grow X.K E B Z h,⟨E,_,t.ok,N.app U,?_⟩,?_⟩
  .cases ef:F _ with
  |ok d=>replace q:fin (F _) _ _:=q;rw[ef]at q;exact fun v Z h i M=>q v Z h (t.trans i) M
  |exc y=>exact fun C l b f Z h O n o i=>⟨C,b,f,Z,rfl,by rw[O],n,o,i⟩
  |stuck=>replace q:fin (F _) _ _:=q;rw[ef]at q;exact q
  .intro pz s a j l h s' I fl ⟨C,b,f,Z,hc,ef,n,o,i⟩;subst hc;replace q:fin (F _) _ _:=q;rw[ef]at q;exact q pz _ s' Z h (t.trans i) (fl.inv I) ⟨pz,s,B,a,C,l,b,f,rfl,rfl,n,o,I,fl⟩
|exc x=>unfold ip at q;rw[z]at q;exact q
|stuck=>unfold ip at q;rw[z]at q;exact q
def kU(m:List Md)(nm:Str)(fl:aJ->Res (List D)):FS:=fun r=>onE m r (fl r) fun ds=>if ds.length<=100 then .exc (xD nm []) (forget m r)else .stuck
theorem GM(v:X.calm=true)(c:XC X.K X.mg x C)(j:XN X.K nm C)(t:Gl X x)(w:SA X g m (e::es) fl)(U:!!Nq x)(u:!Sx X e es)(Z:!Bx X p es):SS X g ro mb m (.Raise (some (.Call (.Name x np) (e::es) [] p)) none pos) (kU m nm fl) m:=by
 refine⟨rfl,fun d s i H D I e=>?_⟩;obtain⟨r,G,Y,q⟩:=e;refine PX I v c t w ⟨r,G,Y,?_⟩ U u Z;refine bQ (i7 Y rfl q) fun A q z y h b n=>?_;have o:=Paired.length n;split at q
 .rename_i h100;refine⟨by rw[o];exact S_ h100 `d,fun k a l f fl=>?_⟩;exact q d _ l i y h b.ge (by have:=(Y.grow b).forget;exact this) (fl.inv f) ⟨d,k,h,a,C,none,nm,[],rfl,rfl,j,rfl,f,fl⟩
 .exact q.elim
end
def qE(f:FS):Prop:=∀r r',f r≠.nx r'
theorem Ge:qE (retF m f):=by
 intro r U h;unfold retF onE at h
 grind
theorem Ig(h:qE Y):qE (seqF Y Z):=by intro r b e;unfold seqF at e;cases U:Y r with
|nx a=>exact h r a U
|rt d=>rw[U]at e;cases e
|bk _=>rw[U]at e;cases e
|ct _=>rw[U]at e;cases e
|exc _ _=>rw[U]at e;cases e
|stuck=>rw[U]at e;cases e
theorem sg(h:qE Y):qE (seqF Z Y):=by intro r b e;unfold seqF at e;cases U:Z r with
|nx a=>rw[U]at e;exact h a b e
|rt d=>rw[U]at e;cases e
|bk _=>rw[U]at e;cases e
|ct _=>rw[U]at e;cases e
|exc _ _=>rw[U]at e;cases e
|stuck=>rw[U]at e;cases e
section
variable{m1 m2:List Md}{sts:List Stmt}{f:FS}
theorem GS(h:fP X g ro mb m sts f m1)(a:qE f)(Y:m2.length=m.length):fP X g ro mb m sts f m2:=by
 have b:fg m2=fg m1:=by have e:=Y.trans h.1.symm;unfold fg;rw[ZC,ZC,e]
 refine⟨Y,dQ.imp h.2 fun D c H ⟨r,G,Z,q⟩=>⟨r,G,Z,?_⟩⟩;cases e:f r with
|nx U=>exact Q_f e (a r U)
|bk U=>rw[e]at q;exact q
|ct U=>rw[e]at q;exact q
|rt d=>rw[e]at q;exact q
|exc x U=>rw[e]at q;unfold dA at q ⊢;rw[b]at q;exact q
|stuck=>rw[e]at q;exact q
end
variable{E:a_->d_->Prop}{s:d_}
section
variable{M:ð}{A:N_}{nm q nmT qT:Str}{N T NT:Addr}{bs bm bsT bmT:List a_}{hdct hdctT:Bool}{sn snT:List Str}{sub subT':List a_}{ab abT:Bool}{col colT:Option Bool}{dd ddT:Option Addr}{k0 k1 k2 k3 k5 t0 t1 t2 t3 t5:Option a_}{newId newIdT:String}
theorem LA{e:Addr}(f:s.heap.get? C=some (À nm q C N bs bm hdct sn sub ab col dd k0 k1 k2 k3 k5 newId))(U:s.heap.get? T=some (À nmT qT T NT bsT bmT hdctT snT subT' abT colT ddT t0 t1 t2 t3 t5 newIdT))(a:s.heap.get? e=some Y)(c:Y.cls=.ref C)(d:bmT.contains (Value.type "BaseException")=true)(hq:Q ((Value.ref C::bm).contains (.ref T)) s):C_ M A (excMatches (.ref e) (.ref T)) Q E s:=by refine b_ (wpAny_isInstance (b:=false) ⟨_,U,rfl⟩ `q ?_);refine b_ (r_ ?_);refine b_ (b_ ?_);refine b_ (b_ (b_ (Õ U (r_ ?_))));refine Ġ U ?_;rw[List.contains_cons,d,Bool.or_true];refine r_ (r_ ?_);refine b_ ?_;refine b_ (Õ a (r_ ?_));rw[c];refine b_ (b_ (b_ (Ġ f ?_)));cases Z:(Value.ref C::bm).contains _ with
|true=>rw[Z]at hq;exact r_ (r_ (r_ hq))
|false=>rw[Z]at hq;exact r_ (r_ (r_ hq))
end
def XO(K:W.Frag)(C:Addr)(bm:List a_):Prop:=∃N nm q bs hdct sn sub ab col dd k0 k1 k2 k3 k5 newId,K.lookup C=some (À nm q C N bs bm hdct sn sub ab col dd k0 k1 k2 k3 k5 newId)
noncomputable abbrev _root_.L2.Cx.held(X:Cx)(v:a_):Cx:={ X with A:=X.A.mark (some v),calm:=false,xe:=fun _ _=>False }
variable{pz:List (Addr×Obj)}{σ:L2.St}{H:Hp}
section
variable{H':Hp}{s':d_}{a:Addr}{od:Option Addr}
theorem Inv.held(I:Inv X pz σ H s)(v:a_):Inv (X.held v) pz σ H s:=⟨⟨I.ok.mod,I.ok.kind,I.ok.glob,I.ok.blt,I.ok.above,I.ok.inj,I.ok.has,I.ok.cab,(fun h=>nomatch h),I.ok.frames,I.ok.stk,I.ok.exf,I.ok.bs,I.ok.bsz,I.ok.noex,I.ok.exfs,I.ok.funs,I.ok.frf⟩,I.os,I.bare,I.base,I.loc,I.cell,I.free,I.freeC,I.pin,I.hok,I.len⟩
theorem Inv.unheld(U:X.calm=true->X.A.handled=none)(I:Inv (X.held v) pz σ H s):Inv X pz σ H s:=⟨⟨I.ok.mod,I.ok.kind,I.ok.glob,I.ok.blt,I.ok.above,I.ok.inj,I.ok.has,I.ok.cab,U,I.ok.frames,I.ok.stk,I.ok.exf,I.ok.bs,I.ok.bsz,I.ok.noex,I.ok.exfs,I.ok.funs,I.ok.frf⟩,I.os,I.bare,I.base,I.loc,I.cell,I.free,I.freeC,I.pin,I.hok,I.len⟩
theorem Fly.laid(F:Fly X.prog X.w X.stack H s H' a (.ref C) od s')(I:Inv X pz σ H s):H' a=none/\Inv X pz σ (aY H' a (.ext (m6 a C od))) s':=by
 obtain⟨B,K,P,Z,⟨A,x,h,r,q,p,y⟩,G,J⟩:=F.ex;have Y:H' a=none:=by cases e:H' a with
 |none=>rfl
 |some u=>grind
 have O:a∉dF X.stack:=fun z=>by
  obtain⟨_,o,N,E⟩:=Z.mem z
  grind
 have v:∀b o,s.heap.get? b=some o->b≠a:=fun b o e z=>by grind
 have U:∀b u,H' b=some u->b≠a:=fun b u e z=>by grind
 refine⟨Y,I.call' F.os ⟨F.un.keep,F.un.slot,fun b o e n z=>by rw[cE (v b o e)];exact F.un.free b o e n z,F.un.there,fun b g e=>?_,fun b o u e=>?_,fun b t e=>?_⟩ (fun b u e=>?_) F.bare fun b z=>Q_f z `s⟩
 .have:=F.un.tups b g e;rw[cE (U b _ this)];exact this
 .have:=F.un.frzs b o u e;rw[cE (U b _ this)];exact this
 .obtain⟨mo,this⟩:=F.un.tbls b t e;exact⟨mo,by rw[cE (U b _ this)];exact this⟩
 .by_cases hb:b=a
  .subst hb;rw[cS]at e;cases e;exact⟨⟨_,_,h,r,q,p⟩,⟨_,h⟩,fun M L ⟨f,d,m,l,j,i⟩ k=>⟨f,d,k _ m,l,j,i⟩⟩
  .rw[cE hb]at e;refine(F.hok b u e).stay (fun _ _ _ z=>z) (fun c z=>?_) fun c g z=>?_
   .rw[cE (U c _ z)];exact z
   .rw[cE (U c _ z)];exact z
theorem Fly.noted(F:Fly X.prog X.w X.stack H s H' a (.ref C) od s')(I:Inv X pz σ H s)(U:X.stack=X.env::X.outer)(x:X.env.frame=some X.env.locals)(q:∀h' e vs c d b,Inv X pz σ (aY H' a (.ext (m6 a C od))) { heap:=h',gens:=s'.gens,drawn:=s'.drawn,toks:=s'.toks,os:=s'.os }->H' a=none->h'.get? a=some e->e.cls=.ref C->e.data=.fields vs->vs[1]? = some (.ref c)->h'.get? c=some d->d.data=.fields b->b[3]? = some Value.none ->Q () { heap:=h',gens:=s'.gens,drawn:=s'.drawn,toks:=s'.toks,os:=s'.os }):C_ M X.A (õ (.ref a) X.env) (fun _ n=>C_ M X.A (setFlight (.ref a) none) Q E n) E s':=by obtain⟨B,e,vs,T,Z,r,o,p,Y,t,m⟩:=F.step;rw[U]at Z;refine AT rfl (by rw[I.ok.frames,U]) Z x r o t fun h' v l=>Be none Y l fun g f=>?_;obtain⟨y,u⟩:=(m g _ (by rw[U];exact f)).laid I;obtain⟨c,d,b,G,z,k,j,i,h⟩:=f.obj;exact q g _ _ c d b u y k p rfl (XI Y) j i h
end
theorem SI.cx{st:L2.St}(s:SI X g m r G st H)(h:X'.K=X.K):SI X' g m r G st H:=by
 constructor
 .rw[h];exact s.gok
 .exact s.old
 .exact s.ge
 .exact s.gf
 .exact s.lm
 .exact s.lr
 .rw[h];exact s.sh
 .rw[h];exact s.ow
 .rw[h];exact s.bw
 .exact s.dis
 .exact s.lk
noncomputable abbrev _root_.L2.Cx.tr(X:Cx)(ps:List (Addr×Obj))(E:a_->d_->Prop):Cx:={ X with pn:=ps,xe:=E }
section
variable{pins':List (Addr×Obj)}
theorem Inv.tr(I:Inv X pz σ H s)(E:a_->d_->Prop):Inv (X.tr (X.pn++pz) E) [] σ H s:=⟨⟨I.ok.mod,I.ok.kind,I.ok.glob,I.ok.blt,I.ok.above,I.ok.inj,I.ok.has,I.ok.cab,I.ok.hd,I.ok.frames,I.ok.stk,I.ok.exf,I.ok.bs,I.ok.bsz,I.ok.noex,I.ok.exfs,I.ok.funs,I.ok.frf⟩,I.os,I.bare,I.base,I.loc,I.cell,I.free,I.freeC,fun p U=>I.pin p `g,I.hok,I.len⟩
theorem Inv.untr(I:Inv (X.tr (X.pn++pz) E) pins' σ H s):Inv X pz σ H s:=⟨⟨I.ok.mod,I.ok.kind,I.ok.glob,I.ok.blt,I.ok.above,I.ok.inj,I.ok.has,I.ok.cab,I.ok.hd,I.ok.frames,I.ok.stk,I.ok.exf,I.ok.bs,I.ok.bsz,I.ok.noex,I.ok.exfs,I.ok.funs,I.ok.frf⟩,I.os,I.bare,I.base,I.loc,I.cell,I.free,I.freeC,fun p U=>I.pin p (Zf _ U),I.hok,I.len⟩
theorem SP.untr{D:Ends}(h:SP (X.tr (X.pn++pz) E) [] D f s):SP X pz D f s:=by cases f with
|next=>obtain⟨U,Y,I,q⟩:=h;exact⟨U,Y,Inv.untr I,q⟩
|brk=>obtain⟨U,Y,I,q⟩:=h;exact⟨U,Y,Inv.untr I,q⟩
|cont=>obtain⟨U,Y,I,q⟩:=h;exact⟨U,Y,Inv.untr I,q⟩
|ret u=>obtain⟨v,U,Y,I,r,q⟩:=h;exact⟨v,U,Y,Inv.untr I,r,q⟩
end
def Mu(K:W.Frag)(T:Addr)(hit:Str->Bool):Prop:=∀nm C,hit nm=true->XN K nm C->∃bm,XO K C bm/\(Value.ref C::bm).contains (.ref T)=true
noncomputable def V7:D->Option Str
|.obj 0 ((_,.str nm)::_)=>some nm
|_=>none
def ME(_ b:Int):Prop:=b≠0/\b.natAbs<qF
instance (a b:Int):Decidable (ME a b):=by unfold ME;exact inferInstance
section
variable{k:Nat}{x:Str}
theorem kE(c:CalleeX X.prog X.w X.K X.mg X.base x ps [] k false ms F)(Z:Room k X.A)(d:gL X g m (e::es) ms fl)(a:!Gl X x)(U:!!Nq x)(b:!Sx X e es)(Y:!Bx X pos es):SE X g m (.Call (.Name x p) (e::es) [] pos) (ip fl [] F):=Pd (by rw[show(p_ ([]).length Md.sh)=[]from rfl,W_];exact c) Z .nil .nil d a U b Y
end
theorem XN.uniq{K:W.Frag}(h:XN K nm C)(k:(K.all fun e=>match e.2.data with|.cls Y=>Y.name != nm || e.1==c|_=>true)=true):C=c:=by
 obtain⟨o,Y,f,d,b⟩:=h;have a:(C,o)∈(K:List (Addr×Obj)):=by
  have U:∀l:List (Addr×Obj),l.lookup C=some o->(C,o)∈l:=by
   intro l
   induction l with
  |nil=>intro h;cases h
  |cons q l Z=>
    intro h;rw[Y1]at h;split at h
    .rename_i hb;have:=Y9 hb;cases h;rw[this];exact g_
    .exact h_ _ (Z h)
  exact U K f
 have:=U_.mp k _ a;simp only[d]at this;rw[b]at this;simpa using this
end DL
namespace DL
open PySem PySem.Spec PyProof.Rows L2
theorem jh.get{K:W.Frag}(h:jh K G fs ds)(l:ds.lookup f=some d):∃v,fs.lookup f=some v/\RG K G v d:=by induction h with
|nil=>cases l
|@cons p q fs ds r _ U=>grind
theorem RB.ins{K:W.Frag}(U:bZ K G H)(h:RB K G H v (.obj 2 ((k,.str nm)::ds))):∃a C Z fs,v=.ref a/\H a=some (.ins C Z fs)/\XN K nm C/\jh K G fs ds/\RG K G v (.obj 2 ((k,.str nm)::ds)):=by
 rcases h with h|⟨a,rfl,h⟩
 .cases h with
 |scl s=>cases s
 |@ref a _ e=>have Y:=e;cases U _ _ e with
  |ins r n f=>exact⟨_,_,_,_,rfl,r,n,f,.ref Y⟩
 |kc k=>cases k
 .cases h.ob
def io(K:W.Frag)(f:Str)(hit:Str->Bool):Prop:=∀nm C,hit nm=true->XN K nm C->Cls K C/\iz K C f
noncomputable def fL(hit:Str->Bool)(f:Str):D->Option D
|.obj 2 ((_,.str nm)::ds)=>if hit nm=true then ds.lookup f else none
|_=>none
variable{X:Cx}{g:GE}{m:List Md}{e:Expr}{es:List Expr}{fl:aJ->Res (List D)}{fe:FE}{f nm:Str}{C:Addr}{p pos:Pos}
section
variable{ro:Bool}{mb:List Md}{a o:Expr}{fo:FE}{x mt:Str}{p2 np apos:Pos}{hit:Str->Bool}
theorem eN(s:io X.K f hit)(t:SB X g m e fe)(u:!XH e f X.env (eval e X.env)=eval e X.env):SE X g m (.Attribute e f pos) (f1 fe (fL hit f)):=by
 refine PE.imp (oA t u) fun E H Q e=>?_;obtain⟨r,G,c,q⟩:=e;refine ⟨r,G,c,bQ (cC q) fun d o v B A Y j=>?_⟩
 obtain⟨F,U,n⟩:=dz o;unfold fL at U;split at U
 .rename_i k nm ds;split at U
  .rename_i hh;obtain⟨a,C,y,x,rfl,w,b,i,_⟩:=RB.ins Y.ok j;obtain⟨z,p⟩:=s nm C hh b;obtain⟨Z,l,h⟩:=i.get U;exact⟨a,C,y,x,Z,rfl,w,z,p,l,n Z B A Y h⟩
  .cases U
 .cases U
end
structure MethAt(K:W.Frag)(nm mt qual:Str)(st:Stmt):Prop where
 ex:∃C f fd,(∀C',XN K nm C'->C'=C)/\Cls K C/\Meth K C mt f/\Fun K mt qual st f fd
noncomputable def vN(f:Str)(v:D):List (Str×D)->List (Str×D)
|[]=>[(f,v)]
|(g,x)::r=>if g=f then(g,v)::r else(g,x)::vN f v r
theorem jh.put{K:W.Frag}(r:RG K G y d)(h:jh K G fs ds):jh K G (L2.putF f y fs) (vN f d ds):=by induction h with
|nil=>exact .cons ⟨rfl,r⟩ .nil
|@cons p q fs ds U t Z=>
  obtain⟨a,v⟩:=p;obtain⟨b,c⟩:=q;have Y:=U.1;subst Y;show jh K G (if a=f then(a,y)::fs else(a,v)::L2.putF f y fs) (if a=f then(a,d)::ds else(a,c)::vN f d ds);by_cases z:a=f
  .rw[Q_d z,Q_d z];exact .cons ⟨rfl,r⟩ t
  .rw[Q_e z,Q_e z];exact .cons U Z
theorem jh.mono{K:W.Frag}(h:jh K G fs ds)(Y:∀a d,G a=some d->U a=some d):jh K U fs ds:=Paired.mono (fun _ _ r=>⟨r.1,r.2.mono Y⟩) h
theorem jh.len{K:W.Frag}(h:jh K G fs ds):fs.length=ds.length:=by induction h with
|nil=>rfl
|cons _ _ U=>simp_all
section
variable{r:aJ}{G G':GH}{σ:L2.St}{H H':Hp}{x dx:Addr}{fs fs':List (Str×V)}
theorem SI.ins(s:SI X g m r G σ H)(e:H x=some (.ins C dx fs))(j:g.h0 x=none)(hG:G x=none):SI X g m r G σ (aY H x (.ins C dx fs')):=by
 have c:∀b d,G b=some d->b≠x:=fun b d h z=>by simp_all
 have own:∀{b:Addr}{d:D},Own X.K G H b d->b≠x:=fun{b d} o z=>by subst z;cases o.ob with
 |lst r _=>rw[e]at r;cases r
 |dic r _=>rw[e]at r;cases r
 have f:∀{b:Addr}{d:D},Own X.K G H b d->Own X.K G (aY H x (.ins C dx fs')) b d:=fun{b d} o=>⟨o.un,o.ob.mono `g fun u U=>by rw[cE (own o)];exact U⟩
 refine⟨fun b d h=>(s.gok b d h).mono `g fun u U=>by rw[cE (c b d h)];exact U,fun b u h=>?_,s.ge,s.gf,s.lm,s.lr,s.sh,fun i d Z Y=>?_,fun i d Z Y=>?_,s.dis,s.lk⟩
 .rw[cE `g];exact s.old b u h
 .obtain⟨a,q1,q2,q3⟩:=s.ow i d Z Y;simp_all
 .obtain⟨v,q1,q2⟩:=s.bw i d Z Y;refine⟨v,q1,?_⟩;rcases q2 with q2|⟨a,rfl,q2,q3⟩
  .exact .inl q2
  .exact .inr `a
end
abbrev FN:=aJ->List (Str×D)->Res (List (Str×D))
structure NI(X:Cx)(g:GE)(m:List Md)(x C dx:Addr)(r:aJ)(ds:List (Str×D))(G:GH)(σ:L2.St)(H:Hp):Prop where
 si:SI X g m r G σ H
 me:σ[0]? = some (some (V.ref x))
 ob:∃fs,H x=some (.ins C dx fs)/\jh X.K G fs ds
 od:H dx=some (.own x)
 gx:G x=none
 hx:g.h0 x=none
 hd:g.h0 dx=none
noncomputable def Dt(X:Cx)(g:GE)(m:List Md)(x C dx:Addr)(r:aJ)(G:GH)(σ:L2.St)(E:Ends):Res (List (Str×D))->Prop
|.ok ds=>∀G' H',bO G G'->NI X g m x C dx r ds G' σ H'->E.nx σ H'
|_=>False
def tN(X:Cx)(g:GE)(m:List Md)(C:Addr)(f:FN):TS:=fun D σ H=>∃r ds G x dx,NI X g m x C dx r ds G σ H/\Dt X g m x C dx r G σ D (f r ds)
def yK(X:Cx)(g:GE)(m:List Md)(C:Addr)(st:List Stmt)(f:FN):Prop:=dQ X st (tN X g m C f)
noncomputable def MN{α:Type}(x:Res α)(k:α->Res (List (Str×D))):Res (List (Str×D)):=match x with
|.ok a=>k a
|_=>.stuck
section
variable{x0:Str}{pos':Pos}{sts:List Stmt}{s2:FN}
theorem U2:yK X g m C [] fun _ ds=>.ok ds:=dQ.imp mh fun D Y H k=>by obtain⟨r,ds,G,x,Z,U,q⟩:=k;exact q G H (bO.refl G) U
def mV(f:Str)(fe:FE)(s2:FN):FN:=fun r ds=>MN (fe r) fun d=>if ds.length<900 then s2 r (vN f d ds)else .stuck
theorem Oo{k:U->Res (List (Str×DL.D))}{D:Ends}(h:Dt X g m a C Y r G σ D (MN x k)):fin x (fun y=>Dt X g m a C Y r G σ D (k y)) Z:=by cases x with
|ok a=>exact h
|exc e=>exact(h).elim
|stuck=>exact h
theorem zO(u:Cls X.K C)(i:iz X.K C f)(s:X.N[0]? = some x0)(l:eJ X.env.scope x0)(n:SE X g m e fe)(t:yK X g m C sts s2)(o:!!Nq x0)(Y:!!Nc x0)(hs:!X7 e (some (.Attribute (.Name x0 p) f pos')) pos.line X.env=pure false):yK X g m C (.Assign [.Attribute (.Name x0 p) f pos'] e pos::sts) (mV f fe s2):=by
 refine dQ.imp (nK (rH (eL s l o Y) n hs) t) fun D B H f=>?_;obtain⟨r,I,G,x,c,Z,q⟩:=f;refine ⟨r,G,Z.si,bQ (Oo q) fun d b v y J a h=>?_⟩
 split at b
 .obtain⟨fs,hx,rf⟩:=Z.ob;have U:=a.he _ _ hx;refine⟨_,Z.me,x,C,c,fs,rfl,U,u,i,by rw[rf.len];omega,r,_,y,x,c,⟨(Z.si.grow a).ins U Z.hx ?_,Z.me,⟨_,cS,(rf.mono a.ge).put h⟩,?_,?_,Z.hx,Z.hd⟩,?_⟩
  .rw[a.gf x (by rw[hx];simp)];exact Z.gx
  .rw[cE (fun z=>by have F:=a.he _ _ Z.od;grind)];exact a.he _ _ Z.od
  .rw[a.gf x (by rw[hx];simp)];exact Z.gx
  .cases ez:s2 r _ with
  |ok E=>rw[ez]at b;exact fun A w k j=>b A w (bO.trans a.ge k) j
  |exc e=>rw[ez]at b;exact b
  |stuck=>rw[ez]at b;exact b
 .exact(b).elim
end
abbrev uT:=List D->Res (List (Str×D))
def sZ(K:W.Frag)(C:Addr)(nm:Str)(ms:List Md)(F:uT):Sp:=fun vs H Q _=>∃G H1 x dx us ds,H=aY (aY H1 dx (.own x)) x (.ins C dx [])/\H1 x=none/\H1 dx=none/\dx≠x/\vs=.ref x::us/\bZ K G H1/\ArgsOk K G H1 ms us ds /\fin (F ds) (fun fd=>∀G' H',Grow K G H1 G' H'->G' x=some (iD nm fd)->Q .non H') fun _=>False
structure CalleeN(P:z_)(w:M_)(K:W.Frag)(mg:Str->Option a_)(base:Heap)(x nm:Str)(ps:List Str)(dv:List a_)(k:Nat)(ms:List Md)(F:uT):Prop where
 ex:∃C f fd,mg x=some (.ref C)/\Mk K C f/\gO K fd ps dv/\FnOk P w K mg base fA k f fd ps (sZ K C nm ms F)
def vL(nm:Str)(fl:aJ->Res (List D))(dds:List D)(F:uT):FE:=fun r=>(fl r).bind fun ds=>match F (ds++dds)with
|.ok fd=>.ok (iD nm fd)
|_=>.stuck
section
variable{ms ms':List Md}{x:Str}{ps:List Str}{k:Nat}{F:uT}{dvs:List V}{dv:List a_}{dds:List D}
theorem make_core{Q:VK}(l:bZ X.K G H)(rs:ArgsOk X.K G H ms vs Z)(U:Paired Scl dvs dds)(q:fin (match F (Z++dds)with|.ok g=>Res.ok (iD nm g)|_=>.stuck) (fun d=>∀v c b,Grow X.K G H c b->RG X.K c v d->Q v b) fun _=>False):∀a Y,H a=none->H Y=none->Y≠a->sZ X.K C nm (ms++p_ dds.length .sh) F (.ref a::(vs++dvs)) (aY (aY H Y (.own a)) a (.ins C Y [])) (fun v m=>v=.non/\Q (.ref a) m) E0:=by intro a Y k j i;refine⟨G,H,a,Y,vs++dvs,Z++dds,rfl,k,j,i,rfl,l,rs.app U,?_⟩;cases f:F (Z++dds)with
|ok g=>rw[f]at q;exact fun c b w h=>⟨rfl,q _ c b w (.ref h)⟩
|exc e=>rw[f]at q;exact(show False from q).elim
|stuck=>rw[f]at q;exact(show False from q).elim
theorem zQ(c:CalleeN X.prog X.w X.K X.mg X.base x nm ps dv k ms' F)(s:Room (k+1) X.A)(y:gL X g m (e::es) ms fl)(U:!ms'=ms++p_ dds.length .sh)(t:!Gl X x)(u:aL dvs dv:=by exact .nil)(Y:Paired Scl dvs dds:=by exact .nil)(Z:!!Nq x)(a:!Sx X e es)(b:!Bx X pos es):SE X g m (.Call (.Name x p) (e::es) [] pos) (vL nm fl dds F):=by
 subst U;obtain⟨C,f,P,I,E,B,z⟩:=c.ex;refine PE.imp (Pl E z s t I B u jU y Z a b) fun M H Q w=>?_;obtain⟨r,G,l,q⟩:=w;refine ⟨r,G,l,?_⟩
 unfold vL at q;cases h:fl r with
|ok N=>rw[h,bind_ok]at q;intro O T R i o;refine make_core i.ok o Y (bQ (Bc q ?_) fun d k v L J j n=>k v L J (i.trans j) n);intro e a;split at a <;> cases a
|exc x=>rw[h]at q;exact q
|stuck=>rw[h]at q;exact q
end
section
variable{P:z_}{w:M_}{K:W.Frag}{mg:Str->Option a_}{base:Heap}
structure MakeAt(K:W.Frag)(mg:Str->Option a_)(x nm qual:Str)(st:Stmt):Prop where
 ex:∃C f fd,mg x=some (.ref C)/\XN K nm C/\Cls K C/\Mk K C f/\Fun K "__init__" qual st f fd
theorem ID(k:bZ X.K G H)(rs:ArgsOk X.K G H ms us ds)(s:ms.length+1<=N.length)(m:H x=none)(y:H Y=none)(v:Y≠x):NI X ⟨G,H,fun _=>none⟩ (gw N.length (.sh::ms)) x C Y (none::(ds.map some++p_ (N.length-(ds.length+1)) none)) [] G (L2.bM N (.ref x::us)) (aY (aY H Y (.own x)) x (.ins C Y [])):=by
 have s0:=r6 k (.sh (.scl .non) rs) (by simpa using s);have A:(L2.bM N (.ref x::us)).length=(L2.bM N (.non::us)).length:=by unfold L2.bM;simp
 have U:∀i,i≠0->(L2.bM N (.ref x::us))[i]? = (L2.bM N (.non::us))[i]?:=fun i l=>by
  obtain⟨j,rfl⟩:∃j,i=j+1:=⟨i-1,`o⟩
  unfold L2.bM;simp
 have c:∀i d,(none::(ds.map some++p_ _ none))[i]? = some (some d)->i≠0/\(cH N.length (.non::ds))[i]? = some (some d):=fun i d h=>by cases i with
 |zero=>simp at h
 |succ j=>unfold cH;simpa using h
 have w:Grow X.K G H G (aY (aY H Y (.own x)) x (.ins C Y [])):=by
  have u:∀b o,H b=some o->aY (aY H Y (.own x)) x (.ins C Y []) b=some o:=fun b o g=>by rw[cE `g,cE `g];exact g
  exact⟨fun b d g=>(k b d g).mono `a `a,u,fun _ _ z=>z,fun _ _=>rfl⟩
 have p:SI X ⟨G,H,fun _=>none⟩ (gw N.length (.sh::ms)) (none::(ds.map some++p_ (N.length-(ds.length+1)) none)) G (L2.bM N (.ref x::us)) H:=by
  refine⟨s0.gok,s0.old,s0.ge,s0.gf,by exact s0.lm,?_,fun i d h Z=>?_,fun i d h Z=>?_,fun i d h Z=>?_,fun i j a d e f l t=>?_,fun i o h=>(nomatch h)⟩
  .rw[A,<-s0.lr];unfold cH;simp
  .obtain⟨z,q⟩:=c i d h;rw[U i z];exact s0.sh i d q Z
  .obtain⟨z,q⟩:=c i d h;rw[U i z];exact s0.ow i d q Z
  .obtain⟨z,q⟩:=c i d h;rw[U i z];exact s0.bw i d q Z
  .obtain⟨z,q⟩:=c i d l;obtain⟨n,r⟩:=c j e t;rw[U i z,U j n];exact s0.dis i j a d e f q r
 refine⟨p.grow w,?_,⟨[],cS,.nil⟩,by rw[cE v,cS],k.isN m,m,y⟩;unfold L2.bM;simp
theorem Og{st:Stmt}(A:MakeAt K mg x nm c st)(S:FnScope N j (aA st))(Y:ms.length+1=j.length)(l:∀(kV t M:a_)(an:Option Addr)(i ct:a_)(us:List a_),us.length=j.length->Y5 (W.fnOf "__init__" c (aW st) (aO st) (aA st) .none kV t M an i ct) ⟨us,[]⟩=pure (j.zip us))(U:∀(C:Addr),XN K nm C->∀(f:Addr)(i:a_)(A:N_)(Z:List Env)(s:d_)(H:Hp)(g:GE)(E:XK),Room k (A.deeper (YK c (aA st) s.heap.objs.size f i)) ->yK (cR fA P w K mg base N c (aA st) f i A Z s H E).nox g (gw N.length (.sh::ms)) C (aO st) fn):CalleeN P w K mg base x nm j [] (k+1) ms fun ds=>fn (none::(ds.map some++p_ (N.length-(ds.length+1)) none)) []:=by
 obtain⟨C,f,p,n,u,cl,O,F⟩:=A.ex;exact⟨C,f,p,n,O,F.binds l,(by
    refine F.ok S (fun I H Q E k=>by obtain⟨G,B,a,y,us,ds,_,_,_,_,R,v,o,q⟩:=k;rw[R,XJ,o.len.1];exact Y) fun i A Z s H I Q E T h=>?_;obtain⟨G,B,a,y,us,ds,rfl,n,h2,h3,rfl,v,o,q⟩:=h;have X:j.length<=N.length:=by have:=Q_g Zg S.pre;rw[YW]at this;omega
    refine⟨_,(U C u f) i A Z s _ ⟨G,B,fun _=>none⟩ E T,_,[],G,a,y,ID v o `o n h2 h3,?_⟩;cases r:fn (none::(ds.map some++p_ (N.length-(ds.length+1)) none)) []with
   |ok p=>simp only[r]at q;have L:=q;intro G' H' le m;obtain⟨fs,ho,J⟩:=m.ob;have w:=m.si.grown;refine L (gset G' a (iD nm p)) H' ⟨m.si.gok.gset m.gx (.ins ho u J),w.he,fun b d l=>kF m.gx b d (w.ge b d l),fun b l=>?_⟩ iC;rw[kG (fun z=>l (by rw[z];exact n))];exact w.gf b l
   |exc e=>simp only[r]at q;exact q
   |stuck=>simp only[r]at q;exact q)⟩
end
end DL
namespace DL
open PySem PySem.Spec PyProof.Rows L2 PySem.W PySem.Calls
noncomputable def kO(K:W.Frag)(C:Addr):Option (List a_×Str):=match K.lookup C with
|some ⟨.type "type",_,.cls cd,sl⟩=>(match cd.mro,sl.toList with
 |.ref C'::bm,[_,_,_,_,some (.builtin _),_]=>if (C'==C && not cd.hasDel)=true then some (bm,cd.name)else none
 |_,_=>none)
|_=>none
theorem Ek{K:W.Frag}(h:kO K C=some (Z,nm)):XO K C Z/\XN K nm C:=by
 unfold kO at h;split at h
 .rename_i dict cd sl hk;split at h
  .rename_i C' bm' k0 k1 k2 k3 n k5 hm hs;split at h
   .rename_i hc;cases h;simp only[P_,beq_iff_eq,đ]at hc;obtain⟨rfl,d⟩:=hc;refine⟨?_,_,cd,hk,rfl,rfl⟩;obtain⟨c,k,Y,j,q,a,i,b,m,col,U⟩:=cd;have g:Y=Value.ref C'::Z:=hm;have f:U=false:=d;subst g f;have e:sl = #[k0,k1,k2,k3,some (Value.builtin n),k5]:=by cases sl with
    |mk l=>exact Q_g Array.mk hs
    subst e;exact⟨_,_,_,_,_,_,_,_,_,_,_,_,_,_,_,_,hk⟩
   .cases h
  .cases h
 .cases h
noncomputable def jC(K:W.Frag)(nm:Str)(c:Addr):Bool:=K.all fun e=>match e.2.data with
|.cls cd=>cd.name != nm || e.1==c
|_=>true
theorem VV{K:W.Frag}(Y:K.In h)(G:h.Ns K_ U)(a:W.nsIn K K_ x=some (some (.ref C)))(e:excIn K C kP "ValueError.__new__" = true):XC K U x C:=⟨W.mg_of Y G a,e⟩
noncomputable def wD(s:Stmt)(j:Nat):Stmt:=match s with
|.ClassDef _ _ _ b _ _ _ _ _ _ _=>b.getD j s
|_=>s
noncomputable def mv(K:W.Frag)(C:Addr)(nm:Str):Bool:=match K.lookup C with
|some o=>(match o.data with
 |.cls cd=>cd.name==nm
 |_=>false)
|none=>false
structure OC(K:W.Frag)(nm:Str)(C:Addr):Prop where
 un:∀C',XN K nm C'->C'=C
 xn:XN K nm C
 cl:Cls K C
theorem Mq{K:W.Frag}(x:mv K C nm=true)(u:jC K nm C=true)(a:W.plainGet K C Zj=true)(b:W.hasDictIn K C=true)(c:W.plainOver K C=true)(d:W.findIn K (.ref C) "__setattr__" = some (some (.builtin "object.__setattr__"))):OC K nm C:=
 ⟨fun U h=>XN.uniq h u,(by
    unfold mv at x;split at x
    .rename_i o e;split at x
     .rename_i cd ed;exact⟨o,cd,e,ed,Y9 x⟩
     .cases x
    .cases x),⟨a,b,c,d⟩⟩
theorem sU{K:W.Frag}(l:List (Str×Addr))(h:∀q∈l,OC K q.1 q.2/\iz K q.2 f)(c:∀nm,U nm=true->nm∈l.map (·.1)):io K f U:=fun nm C b Y=>by obtain⟨q,a,rfl⟩:=k_.mp (c nm b);obtain⟨o,Z⟩:=h q a;rw[o.un C Y];exact⟨o.cl,Z⟩
theorem Mp{K:W.Frag}{st:Stmt}(o:OC K nm C)(b:W.findIn K (.ref C) Y=some (some (.ref f)))(a:W.isFn K (.ref f)=true)(F:Fun K Y U st f Z):MethAt K nm Y U st:=⟨C,f,Z,o.un,o.cl,⟨b,a,F.kp⟩,F⟩
theorem Mo{K:W.Frag}{st:Stmt}(o:OC K nm C)(a:Y x=some (.ref C))(e:W.makesIn K C=true)(d:W.findIn K (.ref C) "__init__" = some (some (.ref f)))(c:W.isFn K (.ref f)=true)(b:W.keepIn K (.ref C)=true)(F:Fun K "__init__" U st f Z):MakeAt K Y x nm U st:=⟨C,f,Z,a,o.xn,o.cl,⟨e,d,c,b⟩,F⟩
def lz{α:Type}(P:α->Prop):List α->Prop
|[]=>True
|a::l=>P a/\lz P l
theorem lz.mem:∀{l:List Y},lz P l->∀q∈l,P q
|[],_,_,U=>by cases U
|a::l,h,q,U=>by
  rcases s_.mp U with rfl|U
  .exact h.1
  .exact lz.mem h.2 q U
def qM(K:W.Frag)(T:Addr)(hit:Str->Bool):Prop:=∀nm C,hit nm=true->XN K nm C->∃bm,XO K C bm/\(Value.ref C::bm).contains (.ref T)=false
section
variable{X:Cx}{pz:List (Addr×Obj)}{σ:L2.St}{H H':Hp}{s s':d_}{a C T:Addr}{od:Option Addr}
theorem Qz{D:Ends}{rest:List Zz}{y x:Obj}{vs h:Array a_}{o:Addr}(I:Inv X pz σ H s)(r:Inv X pz σ (aY H' a (.ext (m6 a C od))) { heap:=h',gens:=s'.gens,drawn:=s'.drawn,toks:=s'.toks,os:=s'.os })(J:h'.get? a=some y)(e2:y.cls=.ref C)(e3:y.data=.fields vs)(e4:vs[1]? = some (.ref o))(G:h'.get? o=some x)(E:x.data=.fields h)(e7:h[3]? = some Value.none)(cT:X.mg n=some (.ref T))(oT:XO X.K T j)(Cl:j.contains (Value.type "BaseException")=true)(P:XO X.K C L)(B:(Value.ref C::L).contains (.ref T)=true)(hg:Gl X n)(hs:dQ (X.held (.ref a)) (Z::U) t)(q:t { nx:=D.nx,rt:=D.rt } σ (aY H' a (.ext (m6 a C od))))(BT:!!Nq n):C_ (F_ X.prog X.w) X.A (handleBy (.ref a) X.env (.ExceptHandler (some (.Name n Q)) none (Z::U) i::rest)) (SP X pz D) X.xe { heap:=h',gens:=s'.gens,drawn:=s'.drawn,toks:=s'.toks,os:=s'.os }:=by
 refine ġ ?_ (by intro z;cases z);have Ih:=Inv.held r (.ref a);refine ğ (nH Ih hg cT ?_ BT);obtain⟨N1,LT,q1,Wn,Wt,Ty,LE,Wo,Id,Wm,a0,a1,a2,a3,a5,Wv,N⟩:=P;obtain⟨N2,ST,q2,Wu,hd2,Wp,IO,Ws,KK,Tm,c0,c1,c2,c3,c5,Wq,M⟩:=oT;refine LA (r.kIn _ _ N) (r.kIn _ _ M) J e2 Cl ?_;rw[B,Q_d rfl];refine codeAny_handlers_suite ?_;refine b_ (XE J e3 e4 ?_);have Y:=(YC.mp e7).1;refine Zh G E Y ?_;have I2:Inv X pz σ (aY H' a (.ext (m6 a C od))) { heap:=h'.update o (Yp fun v=>v.setIfInBounds 3 Value.none),gens:=s'.gens,drawn:=s'.drawn,toks:=s'.toks,os:=s'.os }:=by
  refine r.kept fun b u e=>?_;by_cases hb:b=o
  .have e5':=G;have:u=x:=`g
   subst this;have mf:Yp (fun v=>v.setIfInBounds 3 Value.none) u=u:=by
    obtain⟨c,d,da,F⟩:=u;have:=E;subst this;show({ cls:=c,dict:=d,data:=.fields (h.setIfInBounds 3 Value.none),slots:=F }:Obj)=_;have:h.setIfInBounds 3 Value.none=h:=`g
    rw[this]
   have R:(Yp (fun v=>v.setIfInBounds 3 Value.none) u).isFreed=false:=by obtain⟨c,d,da,F⟩:=u;have:=E;subst this;rfl
   have:=YH _ e5' R
   grind
  .rw[X5 _ _ _ _ hb];exact e
 refine X_ (hs pz _ σ _ _ (Inv.held I2 _) q) (fun f s4 p=>?_) fun _ _ z=>X4 z;cases f with
|next=>obtain⟨g,m,l,k⟩:=p;exact⟨g,m,Inv.unheld I.ok.hd l,k⟩
|brk=>obtain⟨g,m,l,k⟩:=p;exact k.elim
|cont=>obtain⟨g,m,l,k⟩:=p;exact k.elim
|ret u=>obtain⟨v,g,m,l,O,k⟩:=p;exact⟨v,g,m,Inv.unheld I.ok.hd l,O,k⟩
end
theorem qM.no{K:W.Frag}:qM K T fun _=>false:=fun _ _ h=>nomatch h
def HOk(X:Cx)(g:GE)(ro:Bool)(m1 mb:List Md)(hs:List Zz)(fh:Str->FS):Prop:=∀{pz:List (Addr×Obj)}{σ:L2.St}{H H':Hp}{s s':d_}{a C:Addr}{od:Option Addr}{h':Heap}{oe ot:Obj}{vs ts:Array a_}{tb:Addr}{nm:Str}{r:aJ}{G G1:GH}{D:Ends},Inv X pz σ H s->Inv X pz σ (aY H' a (.ext (m6 a C od))) { heap:=h',gens:=s'.gens,drawn:=s'.drawn,toks:=s'.toks,os:=s'.os } ->h'.get? a=some oe->oe.cls=.ref C->oe.data=.fields vs->vs[1]? = some (.ref tb)->h'.get? tb=some ot->ot.data=.fields ts->ts[3]? = some Value.none->XN X.K nm C->SI X g (fg m1) r G1 σ (aY H' a (.ext (m6 a C od)))->bO G G1->dA X g ro (fg m1) mb G D (fh nm r) ->C_ (F_ X.prog X.w) X.A (handleBy (.ref a) X.env hs) (SP X pz D) X.xe { heap:=h',gens:=s'.gens,drawn:=s'.drawn,toks:=s'.toks,os:=s'.os }
noncomputable def uD:Str->FS:=fun _ _=>.stuck
noncomputable def vA(hit mis:Str->Bool)(fh:FS)(k:Str->FS):Str->FS:=fun nm r=>if hit nm=true then(match fh r with
|.nx r2=>.nx r2
|.rt d=>.rt d
|_=>.stuck)else if mis nm=true then k nm r else .stuck
def kR(m1:List Md)(fb:FS)(fh:Str->FS):FS:=fun r=>match fb r with
|.nx r'=>.nx (forget m1 r')
|.rt d=>.rt d
|.exc x r'=>(match V7 x with
 |some nm=>fh nm r'
 |none=>.stuck)
|_=>.stuck
section
variable{X:Cx}{g:GE}{ro:Bool}{m m1 mb:List Md}{T:Addr}{fb fh:FS}
theorem UR:HOk X g ro m1 mb hs uD:=fun _ _ _ _ _ _ _ _ _ _ _ _ q=>(q).elim
theorem EZ{rest:List Zz}(J:X.mg j=some (.ref T))(oT:XO X.K T h)(Z:h.contains (Value.type "BaseException")=true)(R:Mu X.K T f)(Q:qM X.K T b)(w:Gl X j)(hs:∀a,fP (X.held (.ref a)) g ro [] (fg m1) (L::U) fh (fg m1))(P:HOk X g ro m1 mb rest k)(Y:!!Nq j):HOk X g ro m1 mb (.ExceptHandler (some (.Name j O)) none (L::U) c::rest) (vA f b fh k):=by
 intro pz σ H H' s s' a C od h' oe ot vs ts tb u r G G1 D I i p o F E B A y m t v q;unfold vA at q;split at q
 .rename_i hh;obtain⟨bm,n,x⟩:=R u C hh m;refine Qz I i p o F E B A y J oT Z n x w (hs a).2 ⟨r,G1,SI.cx t rfl,?_⟩ Y;cases e:fh r with
 |nx r2=>rw[e]at q;exact fun l G2 H2 BT Id=>q l G2 H2 (v.trans BT) (SI.cx Id rfl)
 |rt d=>rw[e]at q;exact q
 |bk _=>rw[e]at q;exact q.elim
 |ct _=>rw[e]at q;exact q.elim
 |exc _ _=>rw[e]at q;exact q.elim
 |stuck=>rw[e]at q;exact q.elim
 .split at q
  .rename_i hh;obtain⟨bm,n,x⟩:=Q u C hh m;have q:=(P I i p o F E B A y m t v q)
   refine ġ ?_ (by intro z;cases z);have Ih:=Inv.held i (.ref a);refine ğ (nH Ih w J ?_ Y);obtain⟨N1,ST,q1,Wo,Wu,Wm,LT,Wp,IO,Wn,a0,a1,a2,a3,a5,Ww,N⟩:=n;obtain⟨N2,Tm,q2,Wv,hd2,Wq,KK,Wt,LE,Ty,c0,c1,c2,c3,c5,Ws,M⟩:=oT;refine LA (i.kIn _ _ N) (i.kIn _ _ M) p o Z ?_
   grind
  .exact(q).elim
theorem NY{T:Zz}(Z:X.stack=X.env::X.outer)(Y:X.env.frame=some X.env.locals)(n:∀ps E,fP (X.tr ps E) g ro [] m j fb m1)(hh:HOk X g ro m1 mb (T::hs) fk):SS X g ro mb m (.Try j (T::hs) [] [] y) (kR m1 fb fk) (fg m1):=by
 have BT:(fg m1).length=m.length:=by rw[fg,i_];exact(n [] fun _ _=>False).1
 refine⟨BT,fun pz s σ H D I y=>?_⟩;obtain⟨r,G,si,q⟩:=y;refine wpAny_Try_except ?_;generalize hE:(fun(e) (s₁)=>C_ _ X.A _ _ X.xe s₁)=O;have L:dA (X.tr (X.pn++pz) O) g ro m1 [] G { nx:=D.nx,rt:=D.rt } (fb r):=by unfold kR at q;cases e:fb r with
 |nx v=>rw[e]at q;exact fun c p l J i=>q c p l J (SI.cx (X':=X) i rfl).forget
 |rt d=>rw[e]at q;exact q
 |bk v=>rw[e]at q;exact q.elim
 |ct v=>rw[e]at q;exact q.elim
 |stuck=>rw[e]at q;exact q
 |exc x v=>
   rw[e]at q;intro F ev s' c p l J i t ex;obtain⟨B,Q,H1,a,C,od,R,ds,rfl,rfl,P,xf,I1,fl⟩:=ex;rw[<-hE];have I0:=Inv.untr I1;refine Fly.noted fl I0 Z Y fun h' oe vs tb ot ts I2 U e1 e2 e3 e4 e5 e6 e7=>?_;have Cl:=i.gok.isN U;have N:∀b d,p b=some d->gset p a (xD R ds) b=some d:=fun b d e=>by
    have:b≠a:=`g
    rw[kG this];exact e
   have w:Grow X.K p l (gset p a (xD R ds)) (aY l a (.ext (m6 a C od))):=by
    refine⟨fun b d e=>?_,fun b o e=>?_,N,fun b h=>?_⟩
    .by_cases n:b=a
     .subst n;rw[iC]at e;cases e;exact .exc cS P (xf.mono N)
     .rw[kG n]at e;exact(i.gok b d e).mono N fun o z=>by rw[cE n];exact z
    .have:b≠a:=`g
     rw[cE this];exact e
    .have:b≠a:=`g
     exact kG this
   exact hh I0 I2 e1 e2 e3 e4 e5 e6 e7 P ((SI.cx (X':=X) i rfl).grow w) (J.trans w.ge) q
 refine X_ ((n _ O).2 [] s σ H _ (Inv.tr I O) ⟨r,G,SI.cx si rfl,L⟩) (fun f Q M=>?_) fun e Q M=>?_
 .have h2:=SP.untr M;cases f with
 |next=>obtain⟨c,l,t,k⟩:=h2;exact ZX ⟨c,l,t,k⟩
 |brk=>obtain⟨c,l,t,k⟩:=h2;exact k.elim
 |cont=>obtain⟨c,l,t,k⟩:=h2;exact k.elim
 |ret u=>exact h2
 .exact M
end
end DL
namespace L2
open PySem PySem.Spec PyProof.Rows
end L2
section
namespace L2
open PySem
end L2
namespace DL
open PySem PySem.Spec PyProof.Rows L2 PySem.W PySem.Calls
end DL
end
namespace DL
open PySem PySem.Spec PyProof.Rows L2 PySem.W PySem.Calls
noncomputable abbrev DS(n:Str)(i:Int):PyData:=.tuple [.str n,.int i]
def tf(n:Str)(i:Int):Prop:=(DS n i).showable=true/\(DS n i).shown.length<=1000
instance (n:Str) (i:Int):Decidable (tf n i):=by unfold tf;infer_instance
end DL
namespace DL
open PySem PySem.Spec PyProof.Rows L2 PySem.W PySem.Calls PySem.Builtin PySem.Builtin.Str
theorem GK(U:Str):∀Y:List Str,Y.length*U.length<=(O_ U Y).length+U.length
|[]=>by simp
|[x]=>by simp only[ZO,Nat.one_mul];omega
|x::y::r=>by
  have Z:=GK U (y::r);have e:(O_ U (x::y::r)).length=x.length+U.length+(O_ U (y::r)).length:=by show(x++U++O_ U (y::r)).length=_;rw[L_,L_]
  rw[e,XJ,È];omega
theorem Qs(x y:Str)(U:Nat)(Y:0<y.length):(partsBetween x (XG x y 0 x.length U) y.length).length<=x.length+1:=by have h:=GK y (partsBetween x (XG x y 0 x.length U) y.length);rw[<-ZP,StrLaws.glued_between_self]at h;generalize(partsBetween x _ y.length).length=k at h;cases k with
|zero=>omega
|succ k=>rw[È]at h;have:=Nat.mul_le_mul_left k Y;omega
section
variable{prog:z_}{w:M_}{A:N_}{E:a_->d_->Prop}{s:d_}{x y:Str}{t u:Tok}{Q:a_->d_->Prop}
theorem Rx(U:(y.length==0)=false)(Z:x.length<=sizeLine)(a:(partsBetween x (XG x y 0 x.length (x.length+1)) y.length).length<=sizeLine)(q:∀l k,l.map (·.1)=Txt.split x y->Q (.ref s.heap.objs.size) { s with heap:=s.heap.push { cls:=.type "list",data:=.seq (Æ l).toArray },toks:=k }):C_ (F_ prog w) A (call (.builtin "str.split") [.str x t,.str y u]) Q E s:=by have T:s.TypeIs (.str x t) "str" := Â _ _ _;cases c:(decide (x.length<y.length) || decide (strKind x<strKind y))with
|true=>exact YS F.slot_str_split T F.entry_str_split (F.args_str_split_2 _ _) (meets_str_split_cannot_occur x y t u c) (q [(x,t)] s.toks (Q_d c).symm)
|false=>have Y:=ne_true_of_eq_false c;cases f:(XG x y 0 x.length _).isEmpty with
 |true=>exact YS F.slot_str_split T F.entry_str_split (F.args_str_split_2 _ _) (meets_str_split_not_found x y t u c U f) (q [(x,t)] s.toks ((Q_e Y).trans (Q_d f)).symm)
 |false=>refine YS F.slot_str_split T F.entry_str_split (F.args_str_split_2 _ _) (meets_str_split_sep x y t u c U f Z a) ?_;have:=q (numbered s.toks _) (s.toks+(partsBetween x (XG x y 0 x.length (x.length+1)) y.length).length) ((numbered_texts _ _).trans ((Q_e Y).trans (Q_e (ne_true_of_eq_false f))).symm);rw[<-strsFrom_eq]at this;exact this
end
theorem Sw:∀{xs:List Str},aL (xs.map V.str) U->∃l:List (Str×Tok),Æ l=U/\l.map (·.1)=xs:=by induction U with
|nil=>intro xs h;cases xs with
 |nil=>exact⟨[],rfl,rfl⟩
 |cons _ _=>cases h
|cons v U Y=>intro xs h;cases xs with
 |nil=>cases h
 |cons x xs=>cases h with
  |cons r t=>
    obtain⟨k,rfl⟩:=(r)
    obtain⟨l,Z,a⟩:=Y t;exact⟨(x,k)::l,by rw[<-Z];rfl,`g⟩
theorem Jf:∀l:List (Str×Tok),aL ((l.map (·.1)).map V.str) (Æ l)
|[]=>.nil
|(x,t)::l=>.cons ⟨t,rfl⟩ (Jf l)
noncomputable def l7:List D->Option (List Str)
|[]=>some []
|.str x::ds=>(l7 ds).map (x::·)
|_::_=>none
theorem Pk{K:W.Frag}(Z:bZ K G H)(r:cZ K G xs ds):∀{U:List Str},l7 ds=some U->xs=U.map V.str:=by induction r with
|nil=>intro U h;cases h;rfl
|@cons v d xs ds r _ Y=>intro U h;cases d with
 |str x=>have h:(l7 ds).map _=some U:=h;cases e:l7 ds with
  |none=>rw[e]at h;cases h
  |some a=>rw[e]at h;cases h;rw[r.str Z,Y e];rfl
 |_=>cases h
theorem GZ{K:W.Frag}:∀xs:List Str,cZ K G (xs.map V.str) (xs.map D.str)
|[]=>.nil
|x::xs=>.cons (.scl (.str x)) (GZ xs)
def EA:V->List V->Hp->VK->Prop:=fun x vs H Q=>∃a b,x=.str a/\vs=[.str b]/\Q (.bl (Txt.endswith a b)) H
def ED:V->List V->Hp->VK->Prop:=fun x vs H Q=>∃a b i r,x=.str a/\vs=[.str b]/\XG a b 0 a.length 1=i::r/\Q (.int (i:Nat)) H
def EB(K:W.Frag):V->List V->Hp->VK->Prop:=fun x vs H Q=>∃a p xs,x=.str a/\vs=[.ref p]/\cM K H p (xs.map V.str)/\ï a xs=true/\Q (.str (Txt.join a xs)) H
def E9:V->List V->Hp->VK->Prop:=fun x vs H Q=>∃a b,x=.str a/\vs=[.str b]/\0<b.length/\a.length<=10000/\∀p,H p=none->Q (.ref p) (aY H p (.lst ((Txt.split a b).map V.str)))
noncomputable def uX:D->List D->Option D
|.str a,[.str b]=>some (.bl (Txt.endswith a b))
|_,_=>none
noncomputable def qY:D->List D->Option D
|.str a,[.str b]=>match XG a b 0 a.length 1 with
 |i::_=>some (.int (i:Nat))
 |[]=>none
|_,_=>none
def lF:D->List D->Option D
|.str a,[.lst ds]=>match l7 ds with
 |some xs=>if ï a xs=true then some (.str (Txt.join a xs))else none
 |none=>none
|_,_=>none
noncomputable def rF:D->List D->Option D
|.str a,[.str b]=>if 0<b.length/\a.length<=10000 then some (.lst ((Txt.split a b).map D.str))else none
|_,_=>none
variable{X:Cx}
theorem Oh:jt X "str.endswith" EA:=by
 intro i s e H x f v g Q I U Y ⟨a,b,d,c,q⟩;subst d c;obtain⟨t,rfl⟩:=(U)
 obtain⟨u,rfl,Z⟩:=fU Y;obtain⟨h,rfl⟩:=(Z)
 exact SC.endswith ⟨.bl _,H,I,rfl,q⟩
theorem Ab:jt X "str.index" ED:=by
 intro k s f H x g v h Q I U Y ⟨a,b,i,r,e,d,c,q⟩;subst e d;obtain⟨t,rfl⟩:=(U)
 obtain⟨u,rfl,Z⟩:=fU Y;obtain⟨j,rfl⟩:=(Z)
 exact SC.index c ⟨.int _,H,I.tok _,⟨_,rfl⟩,q⟩
theorem GD:jt X "str.join" (EB X.K):=by
 intro w s i H x m v n Q I Y Z ⟨a,p,j,h,g,U,d,q⟩;subst h g;obtain⟨t,rfl⟩:=(Y)
 obtain⟨u,rfl,b⟩:=fU Z;cases(b);obtain⟨e,r,c,_⟩:=I.list U;obtain⟨l,rfl,f⟩:=Sw r;exact SC.join c.isList f d fun o k=>⟨.str _,H,I.tok _,⟨_,rfl⟩,q⟩
theorem AS:jt X "str.split" E9:=by
 intro p s i H x j v m Q I U Y ⟨a,b,h,g,d,y,q⟩;subst h g;obtain⟨t,rfl⟩:=(U)
 obtain⟨u,rfl,Z⟩:=fU Y;obtain⟨n,rfl⟩:=(Z)
 have r:=Qs a b (a.length+1) d;refine Rx `g (by rw[G_];omega) (by rw[G_];omega) fun l k f=>?_;have c:((Txt.split a b).map V.str).length<=sizeLine:=by
  rw[i_,G_];unfold Txt.split
  grind
 refine⟨.ref s.heap.objs.size,_,I.laid (fun b o e=>c_ _ e) (l_ _) (show dZ X.prog X.w _ _ _ (.lst _)from⟨c,Æ l,0,?_,?_⟩),rfl,q _ (I.hok.fresh (l_ _))⟩
 .rw[<-f];exact Jf l
 .exact n_ _ rfl
theorem OE{K:W.Frag}:pA K EA uX:=by
 intro G H v d c f g Q U Y a e q;unfold uX at e;split at e
 .cases e;cases a with
 |cons b Z=>cases Z;exact⟨_,_,Y.str U,by rw[b.str U],q _ G H (Grow.refl U) (.scl (.bl _))⟩
 .cases e
theorem Aw{K:W.Frag}:pA K ED qY:=by
 intro G H v d c f g Q U Y a e q;unfold qY at e;split at e
 .split at e
  .rename_i ho;cases e;cases a with
  |cons b Z=>cases Z;exact⟨_,_,_,_,Y.str U,by rw[b.str U],ho,q _ G H (Grow.refl U) (.scl (.int _))⟩
  .cases e
 .cases e
theorem GL{K:W.Frag}:pA K (EB K) lF:=by
 intro G H v d h i j Q U a c e q;unfold lF at e;split at e
 .split at e
  .rename_i xs hx;split at e
   .rename_i hj;cases e;cases c with
   |cons f b=>cases b;obtain⟨p,g,rfl,Y,Z⟩:=f.lst U;have:=Pk U Z hx;subst this;exact⟨_,p,xs,a.str U,rfl,Y,hj,q _ G H (Grow.refl U) (.scl (.str _))⟩
   .cases e
  .cases e
 .cases e
theorem AF{K:W.Frag}:pA K E9 rF:=by
 intro G H v d f g i Q U Y a e q;unfold rF at e;split at e
 .split at e
  .rename_i h;cases e;cases a with
  |cons b Z=>cases Z;refine⟨_,_,Y.str U,by rw[b.str U],h.1,h.2,fun p c=>?_⟩;exact q _ _ _ (Grow.newF U c (OB.lst (.inl cS) (GZ _))) (.ref iC)
  .cases e
 .cases e
variable{g:GE}{m:List Md}{fa:FE}{pos:Pos}
section
variable{a b:Expr}{fb:FE}
noncomputable def zv(x:Str)(n:Int):Str:=if n<1 then Zj else if (n==1 || x.length==0)=true then x else⟨(p_ n.toNat x.cps).foldl (·++·) #[]⟩
def qW:D->D->Option D
|.str x,.int n=>if x.length<=100/\0<=n/\n<=100 then some (.str (zv x n))else none
|_,_=>none
theorem Hy(c:Array Nat):∀(k:Nat)(U:Array Nat),((p_ k c).foldl (·++·) U).size=U.size+k*c.size
|0,U=>by simp
|k+1,U=>by rw[ĳ,ZB,Hy c k,Array.size_append,È];omega
theorem Os:c7 X (ZJ .Mult) (fun a b H Q=>∃(x:Str)(n:Int),a=.str x/\b=.int n/\x.length<=100/\0<=n/\n<=100/\Q (.str (zv x n)) H):=by
 intro k s i H x y v u Q I e d ⟨Y,n,g,h,f,o,m,q⟩;subst g h;obtain⟨t,rfl⟩:=(e)
 obtain⟨j,rfl⟩:=(d)
 have l:Y.length*n.toNat<=100*100:=Nat.mul_le_mul f `o;refine P.mul_str `g (fun z _=>?_) (fun _ _=>?_) ?_
 .have hn0:(0:Int)<n:=`o
  have U:(Y.length:Int)*n<=100*100:=`g
  have:=(Int.le_ediv_iff_mul_le (a:=(Y.length:Int)) (b:=2^63-1) hn0).mpr `o;omega
 .unfold tooLong;rw[Q_b (by rw[G_];omega)]
 .unfold zv at q;by_cases c:n<1
  .rw[Q_d c]at q ⊢;exact⟨`d,.str _,H,I.tok _,⟨_,rfl⟩,q⟩
  .rw[Q_e c]at q ⊢;by_cases Z:(n==1 || Y.length==0)=true
   .rw[Q_d Z]at q ⊢;exact⟨.str _,H,I,⟨_,rfl⟩,q⟩
   .rw[Q_e Z]at q ⊢;refine⟨?_,.str _,H,I.tok _,⟨_,rfl⟩,q⟩;show((p_ n.toNat Y.cps).foldl (·++·) #[]).size<=sizeLine;rw[Hy,G_];have:n.toNat*Y.cps.size=Y.length*n.toNat:=Ď _ _
    grind
theorem NX(f:SB X g m a fa)(c:SB X g m b fb):SE X g m (.BinOp a .Mult b pos) (f2 fa fb qW):=by
 refine lR Os (fun G H j i l k d Q U Z Y e q=>?_) f c;unfold qW at e;split at e
 .split at e
  .rename_i x n h;cases e;exact⟨x,n,Z.str U,Y.int U,h.1,h.2.1,h.2.2,q _ G H (Grow.refl U) (.scl (.str _))⟩
  .cases e
 .cases e
end
noncomputable def yD(d:D)(lo hi:Option Int):Option D:=match d with
|.str a=>if a.length<=10000 then some (.str (Txt.slice a lo hi))else none
|_=>none
def mW(fa:FE)(fl fh:FP):FE:=fun r=>(fa r).bind fun d=>(fl r).bind fun lo=>(fh r).bind fun hi=>eu (yD d lo hi)
section
variable{e:Expr}{f:FE}{p2:Pos}
theorem N5:ko X (fun x lo hi H Q=>∃a,x=.str a/\a.length<=10000/\Q (.str (Txt.slice a lo hi)) H):=by
 intro p s h H x v n m lo hi o Q I e U f d ⟨a,g,r,q⟩;subst g;obtain⟨t,rfl⟩:=(e)
 refine⟨"str",_,F.slot_str_getitem.lookup,Â _ _ _,?_⟩;have Y:∀l u,(Txt.slice a l u).length<=sizeLine:=fun l u=>S_ (Txt.slice_le a l u) (by rw[G_];omega);cases f with
|none=>cases d with
 |none=>exact Y0 (l:=none) (u:=none) (st:=none) U rfl (Z0 ⟨Y none none,fun b k=>⟨.str _,H,I.tok _,⟨_,rfl⟩,q⟩⟩)
 |int j Z=>exact Y0 (l:=none) (u:=some (j,Z)) (st:=none) U rfl (Z0 ⟨Y none (some j),fun b k=>⟨.str _,H,I.tok _,⟨_,rfl⟩,q⟩⟩)
|int i c=>cases d with
 |none=>exact Y0 (l:=some (i,c)) (u:=none) (st:=none) U rfl (Z0 ⟨Y (some i) none,fun b k=>⟨.str _,H,I.tok _,⟨_,rfl⟩,q⟩⟩)
 |int j Z=>exact Y0 (l:=some (i,c)) (u:=some (j,Z)) (st:=none) U rfl (Z0 ⟨Y (some i) (some j),fun b k=>⟨.str _,H,I.tok _,⟨_,rfl⟩,q⟩⟩)
theorem zu{lo hi:Option Expr}(k:SB X g m e f)(j:nY X g m lo fl)(i:nY X g m hi b):SE X g m (.Subscript e (.Slice lo hi none p2) pos) (mW f fl b):=by
 refine PE.imp (AC N5 k j i) fun x H Q b=>?_;obtain⟨r,G,a,q⟩:=b;refine ⟨r,G,a,bQ (cC q) fun d p v w A U h=>⟨r,w,a.grow U,gX (cC p) U fun lo o u z Y=>⟨r,u,(a.grow U).grow Y,?_⟩⟩⟩
 refine gX (cC o) (U.trans Y) fun hi n t s Z=>?_;obtain⟨y,e,l⟩:=dz n;have c:=(h.mono Y).mono Z;unfold yD at e;split at e
 .split at e
  .cases e;exact⟨_,c.str Z.ok,by assumption,l _ t s ((U.trans Y).trans Z) (.scl (.str _))⟩
  .cases e
 .cases e
end
theorem nB(a:Gl X x)(Z:∃t,X.mg x=some (.str v t))(b:!!Nq x):SE X g m (.Name x U) fun _=>.ok (.str v):=by obtain⟨t,Y⟩:=Z;exact Fd (v:=.str v) a Y ⟨t,rfl⟩ (.str v) b
theorem Vb{K:W.Frag}(Y:K.In h)(G:h.Ns K_ U)(z:W.nsIn K K_ x=some (some (.str v t))):∃t,U x=some (.str v t):=⟨t,W.mg_of Y G z⟩
end DL
namespace DL
open PySem PySem.Spec PyProof.Rows L2 PySem.W PySem.Calls
noncomputable abbrev DW:=D×List D
structure DkR(K:W.Frag)(G:GH)(H:Hp)(C a dx pl:Addr)(w:DW):Prop where
 ob:∃kv,H a=some (.ins C dx [("kept",kv),("past",V.ref pl)])/\RG K G kv w.1
 od:H dx=some (.own a)
 ls:∃xs,H pl=some (.lst xs)/\cZ K G xs w.2
 un:∀b∈[a,dx,pl],G b=none
variable{K:W.Frag}{G G':GH}{H H':Hp}{C a dx pl:Addr}{w:DW}
theorem DkR.isS(h:DkR K G H C a dx pl w):∀b∈[a,dx,pl],H b≠none:=fun b Z=>by
 obtain⟨Y,e,_⟩:=h.ob;obtain⟨U,d,_⟩:=h.ls;have c:=h.od
 grind
theorem DkR.mono(h:DkR K G H C a dx pl w)(Y:bO G G')(U:∀b∈[a,dx,pl],H' b=H b)(c:∀b∈[a,dx,pl],G' b=none):DkR K G' H' C a dx pl w:=by obtain⟨f,i,e⟩:=h.ob;obtain⟨Z,g,d⟩:=h.ls;exact⟨⟨f,(U a `s).trans i,e.mono Y⟩,(U dx `s).trans h.od,⟨Z,(U pl `s).trans g,d.mono Y⟩,c⟩
theorem DkR.ne(h:DkR K G H C a dx pl w):a≠dx/\a≠pl/\dx≠pl:=by
 obtain⟨Y,c,_⟩:=h.ob;obtain⟨U,b,_⟩:=h.ls;have Z:=h.od
 grind
noncomputable def hG(g:GE)(G:GH)(H:Hp)(fp:List Addr)(i:Nat)(p:Addr):GE:=⟨G,fun b=>if b∈fp then H b else g.h0 b,fun j=>if j=i then some (some (V.ref p),none)else g.hd j⟩
def Nb(g:GE)(m:List Md)(i:Nat):Prop:=∀j,j≠i->m[j]? = some .bw->∃v,g.hd j=some (v,none)
theorem qS(h:∀j,j≠i->m[j]?≠some .bw):Nb g m i:=fun j Y U=>Q_f U (h j Y)
structure SD(X:Cx)(g:GE)(i:Nat)(C a dx pl:Addr)(m:List Md)(r:aJ)(w:DW)(G:GH)(σ:L2.St)(H:Hp):Prop where
 ob:DkR X.K G H C a dx pl w
 h0:∀b∈[a,dx,pl],g.h0 b=none
 si:SI X (iw g H [a,dx,pl] i a) m r G σ H
 mi:m[i]? = some .bw
def fV(X:Cx)(g:GE)(i:Nat)(C:Addr)(kd:D):Prop:=∀m r G σ H,SI X g m r G σ H->m[i]? = some .bw->∃a dx kv fs,σ[i]? = some (some (V.ref a))/\H a=some (.ins C dx fs)/\fs.lookup ("kept" : Str)=some kv/\RG X.K G kv kd
variable{X:Cx}{g:GE}{i:Nat}{m m':List Md}{r r':aJ}{w':DW}{σ σ':L2.St}
theorem SD.toH(s:SD X g i C a dx pl m r w G σ H):SI X (hG g G H [a,dx,pl] i a) m r G σ H:=⟨s.si.gok,s.si.old,fun _ _ e=>e,fun _ _=>rfl,s.si.lm,s.si.lr,s.si.sh,s.si.ow,s.si.bw,s.si.dis,s.si.lk⟩
theorem SD.me(s:SD X g i C a dx pl m r w G σ H):σ[i]? = some (some (V.ref a)):=(s.si.lk i _ (by show(if i=i then _ else _)=_;rw[Q_d rfl]) s.mi).1
theorem SD.kept(s:SD X g i C a dx pl m r w G σ H):fV X (hG g G H [a,dx,pl] i a) i C w.1:=by
 intro e d j b h Y c;obtain⟨Z,f,U⟩:=s.ob.ob;refine⟨a,dx,Z,[("kept",Z),("past",V.ref pl)],(Y.lk i _ (by show(if i=i then _ else _)=_;rw[Q_d rfl]) c).1,Y.old a _ ?_,by simp[Y1],U.mono Y.ge⟩;show(if a∈[a,dx,pl]then H a else g.h0 a)=_
 grind
theorem SD.held(s:SD X g i C a dx pl m r w G σ H)(Y:Grow X.K G (hG g G H [a,dx,pl] i a).h0 G' H'):DkR X.K G' H' C a dx pl w:=by
 have h:∀b∈[a,dx,pl],(hG g G H [a,dx,pl] i a).h0 b=H b:=fun b U=>by show(if b∈[a,dx,pl]then H b else g.h0 b)=_;rw[Q_d U]
 refine s.ob.mono Y.ge (fun b U=>?_) fun b U=>?_
 .cases e:H b with
 |none=>exact Q_f e (s.ob.isS b U)
 |some o=>exact Y.he b o (by rw[h b U];exact e)
 .rw[Y.gf b (by rw[h b U];exact s.ob.isS b U)];exact s.ob.un b U
theorem SD.after(s:SD X g i C a dx pl m r w G σ H)(U:SI X (hG g G H [a,dx,pl] i a) m' r' G' σ' H')(Z:m'[i]? = some .bw):SD X g i C a dx pl m' r' w G' σ' H':=by
 have d:=s.held U.grown;have c:∀b∈[a,dx,pl],H' b=H b:=fun b Y=>by cases e:H b with
 |none=>exact Q_f e (s.ob.isS b Y)
 |some o=>exact U.old b o (by show(if b∈[a,dx,pl]then H b else g.h0 b)=_;grind)
 refine⟨d,s.h0,?_,Z⟩;rw[PQ c];exact⟨U.gok,U.old,fun b d e=>U.ge b d (s.si.ge b d e),fun b Y=>(U.gf b Y).trans (s.si.gf b Y),U.lm,U.lr,U.sh,U.ow,U.bw,U.dis,U.lk⟩
theorem SD.chg(s:SD X g i C a dx pl m r w G σ H)(Z:Nb g m i)(p:∀b,b∉[a,dx,pl]->H' b=H b)(d:DkR X.K G H' C a dx pl w'):SD X g i C a dx pl m r w' G σ H':=by
 have q:∀b o,G b=some o->b∉[a,dx,pl]:=fun b o e z=>by rw[s.ob.un b z]at e;cases e
 have Y:∀b∈[a,dx,pl],(iw g H [a,dx,pl] i a).h0 b≠none:=fun b Z=>by show(if b∈[a,dx,pl]then H b else g.h0 b)≠_;rw[Q_d Z];exact s.ob.isS b Z
 have n:∀b,b∉[a,dx,pl]->(iw g H' [a,dx,pl] i a).h0 b=g.h0 b:=fun b Z=>by show(if b∈[a,dx,pl]then H' b else g.h0 b)=_;rw[Q_e Z]
 have U:∀b,b∉[a,dx,pl]->(iw g H [a,dx,pl] i a).h0 b=g.h0 b:=fun b Z=>by show(if b∈[a,dx,pl]then H b else g.h0 b)=_;rw[Q_e Z]
 refine⟨d,s.h0,⟨fun b o e=>(s.si.gok b o e).mono (fun _ _ z=>z) fun u k=>by grind,fun b o e=>?_,s.si.ge,fun b e=>?_,s.si.lm,s.si.lr,s.si.sh,fun j d h f=>?_,fun j d h f=>?_,s.si.dis,s.si.lk⟩,s.mi⟩
 .by_cases z:b∈[a,dx,pl]
  .have:(iw g H' [a,dx,pl] i a).h0 b=H' b:=by show(if b∈[a,dx,pl]then H' b else g.h0 b)=_;rw[Q_d z]
   grind
  .rw[n b z]at e;rw[p b z];exact s.si.old b o (by rw[U b z];exact e)
 .by_cases z:b∈[a,dx,pl]
  .exact s.si.gf b (Y b z)
  .rw[n b z]at e;exact s.si.gf b (by rw[U b z];exact e)
 .obtain⟨c,q1,q2,q3⟩:=s.si.ow j d h f;have z:=fun z=>Y c z q3;exact⟨c,q1,⟨q2.un,q2.ob.mono (fun _ _ z=>z) fun u k=>by rw[p c z];exact k⟩,`g⟩
 .by_cases hji:j=i
  .subst hji;have l:=(s.si.lk j _ (by show(if j=j then _ else _)=_;rw[Q_d rfl]) s.mi).2 d h;cases l
  .obtain⟨v,ev⟩:=Z j hji f;have l:=(s.si.lk j (v,none) (by show(if j=i then _ else _)=_;grind) f).2 d h;cases l
inductive OutD where
 |nx (r:aJ) (w:DW)|rt (d:D) (w:DW)|stuck
abbrev de:=aJ->DW->OutD
noncomputable def nX(X:Cx)(g:GE)(i:Nat)(C a dx pl:Addr)(m':List Md)(G:GH)(D:Ends):OutD->Prop
|.nx r' w'=>∀σ' G' H',bO G G'->SD X g i C a dx pl m' r' w' G' σ' H'->D.nx σ' H'
|.rt d w'=>∀v G' H',bO G G'->Grow X.K g.gh g.h0 G' H'->DkR X.K G' H' C a dx pl w'->RG X.K G' v d->D.rt v H'
|.stuck=>False
def tD(X:Cx)(g:GE)(i:Nat)(C:Addr)(m m':List Md)(f:de):TS:=fun D σ H=>∃a dx pl r w G,SD X g i C a dx pl m r w G σ H/\nX X g i C a dx pl m' G D (f r w)
def iY(X:Cx)(g:GE)(i:Nat)(C:Addr)(m:List Md)(st:Stmt)(f:de)(m':List Md):Prop:=PS X st (tD X g i C m m' f)
def fO(X:Cx)(g:GE)(i:Nat)(C:Addr)(m:List Md)(st:List Stmt)(f:de)(m':List Md):Prop:=dQ X st (tD X g i C m m' f)
variable{m1 mb:List Md}{sts:List Stmt}{e:Expr}{pos pos' p:Pos}
section
variable{st:Stmt}{sts':List Stmt}{c:Expr}{x:Str}{f1 f2:de}
theorem nX.gle{D:Ends}(h:nX X g i C a dx pl m' G D o)(b:bO G G'):nX X g i C a dx pl m' G' D o:=by cases o with
|nx r w=>exact fun U Z Y l s=>h U Z Y (b.trans l) s
|rt d w=>exact fun v Z Y l=>h v Z Y (b.trans l)
|stuck=>exact h
theorem pV(k:fV X g i C b)(h:m[i]? = some .bw)(w:Cls X.K C)(e:iz X.K C "kept")(n:X.N[i]? = some x)(f:eJ X.env.scope x)(j:!!Nq x)(U:!!Nc x)(l:!XH (.Name x p) "kept" X.env (eval (.Name x p) X.env)=eval (.Name x p) X.env):SE X g m (.Attribute (.Name x p) "kept" pos) fun _=>.ok b:=PE.imp (oA (eL n f j U) l) fun c H Q z=>by obtain⟨r,G,Y,q⟩:=z;obtain⟨a,v,Z,o,u,t,s,d⟩:=k m r G c H Y h;exact⟨_,u,a,C,v,o,Z,rfl,t,w,e,s,q Z G H (Grow.refl Y.gok) d⟩
noncomputable def cO(f:D->FS):de:=fun r w=>match f w.1 r with
|.nx r'=>.nx r' w
|.rt d=>.rt d w
|_=>.stuck
theorem hV(h:∀g' Y,fV X g' i C Y->SS X g' false mb m st (f Y) m')(J:m'[i]? = some .bw):iY X g i C m st (cO f) m':=by
 have K:PS X st (fun D c H=>∃g' Y,fV X g' i C Y/\tS X g' false m m' mb _ D c H):=fun E s c H D I V=>(by obtain⟨g',Y,k,q⟩:=V;exact (h g' Y k).2 E s c H D I q);refine PS.imp K fun D c H W=>?_;obtain⟨a,l,j,r,w,G,s,q⟩:=W;refine ⟨_,w.1,s.kept,r,G,s.toH,?_⟩
 unfold cO at q;cases e:f w.1 r with
|nx t=>rw[e]at q;exact fun n x u F p=>q n x u F (s.after p J)
|rt d=>
  rw[e]at q;intro v x u U B;have L:=s.held U;refine q v x u U.ge ⟨U.ok,fun b o Z=>?_,fun b d Z=>U.ge b d (s.si.ge b d Z),fun b Z=>?_⟩ L B
  .have z:b∉[a,l,j]:=fun z=>by rw[s.h0 b z]at Z;cases Z
   exact U.he b o (by show(if b∈[a,l,j]then H b else g.h0 b)=_;grind)
  .have z:=fun z=>Z (s.h0 b z);have A:(hG g G H [a,l,j] i a).h0 b≠none:=by show(if b∈[a,l,j]then H b else g.h0 b)≠_;grind
   exact(U.gf b A).trans (s.si.gf b A)
|bk t=>rw[e]at q;exact q.elim
|ct t=>rw[e]at q;exact q.elim
|exc y t=>rw[e]at q;exact q.elim
|stuck=>rw[e]at q;exact q.elim
noncomputable def aZ(f1 f2:de):de:=fun r w=>match f1 r w with
|.nx r' w'=>f2 r' w'
|o=>o
noncomputable def gQ:de:=fun r w=>.nx r w
theorem iu:fO X g i C m [] gQ m:=dQ.imp mh fun D U H k=>by obtain⟨a,Z,Y,r,w,G,s,q⟩:=k;exact q U G H (bO.refl G) s
theorem du(k:iY X g i C m st f1 m1)(j:fO X g i C m1 sts f2 m'):fO X g i C m (st::sts) (aZ f1 f2) m':=by
 refine dQ.imp (nK k j) fun D n H z=>?_;obtain⟨a,Z,Y,r,w,G,s,q⟩:=z;refine ⟨a,Z,Y,r,w,G,s,?_⟩
 unfold aZ at q;cases e:f1 r w with
|nx f U=>rw[e]at q;exact fun b l o h c=>⟨a,Z,Y,f,U,l,c,q.gle h⟩
|rt d U=>rw[e]at q;exact q
|stuck=>rw[e]at q;exact q
noncomputable def km{α:Type}(x:Res α)(k:α->OutD):OutD:=match x with
|.ok a=>k a
|_=>.stuck
theorem ke{x:Res U}{D:Ends}(h:nX X g i C a dx pl m' G D (km x k)):fin x (fun y=>nX X g i C a dx pl m' G D (k y)) Z:=by cases x with
|ok a=>exact h
|exc e=>exact(h).elim
|stuck=>exact h
def mT(p:D->FQ)(f1 f2:de):de:=fun r w=>km (p w.1 r) fun c=>if c=true then f1 r w else f2 r w
theorem mY(j:∀g' U,fV X g' i C U->SQ X g' m c (q U))(o:fO X g i C m sts f1 m')(n:fO X g i C m sts' f2 m'):iY X g i C m (.If c sts sts' pos) (mT q f1 f2) m':=by
 have l:PT X c (fun Y H Q=>∃g' U,fV X g' i C U/\tQ X g' m _ Y H Q):=fun h s Y H Q I y=>(by obtain⟨g',U,k,z⟩:=y;exact j g' U k h s Y H Q I z);refine PS.imp (pE l o n) fun D Y H u=>?_;obtain⟨a,e,d,r,w,G,s,z⟩:=u;refine ⟨_,w.1,s.kept,r,G,s.toH,bQ (ke z) fun c z f p Z=>?_⟩
 have b:=s.after (s.toH.grow Z) s.mi;cases c with
|true=>show(if true=true then _ else _);exact⟨a,e,d,r,w,f,b,z.gle Z.ge⟩
|false=>show(if false=true then _ else _);exact⟨a,e,d,r,w,f,b,z.gle Z.ge⟩
def tm(fe:D->FE):de:=fun r w=>km (fe w.1 r) fun d=>.nx r (d,w.2)
theorem UJ(j:Nb g m i)(O:Cls X.K C)(u:iz X.K C "kept")(E:X.N[i]? = some x)(y:eJ X.env.scope x)(A:∀g' f,fV X g' i C f->SE X g' m e (fe f))(B:!!Nq x)(Z:!!Nc x)(hs:!X7 e (some (.Attribute (.Name x p) "kept" pos')) pos.line X.env=pure false):iY X g i C m (.Assign [.Attribute (.Name x p) "kept" pos'] e pos) (tm fe) m:=by
 have F:PE X e (fun h H Q=>∃g' f,fV X g' i C f/\tE X g' m _ h H Q):=fun t s h H Q I g=>(by obtain⟨g',f,k,z⟩:=g;exact A g' f k t s h H Q I z);refine PS.imp (rH (eL E y B Z) F hs) fun D h H p=>?_;obtain⟨a,M,T,r,w,G,s,z⟩:=p;refine ⟨_,w.1,s.kept,r,G,s.toH,bQ (ke z) fun d z v P H' l o=>?_⟩
 have c:=s.after (s.toH.grow l) s.mi;obtain⟨kv,L,R⟩:=c.ob.ob;obtain⟨Y,U,BT⟩:=c.ob.ne;refine⟨_,c.me,a,C,M,_,rfl,L,O,u,by show 2<1000;decide,z h P _ l.ge (c.chg j (fun b j=>cE fun z=>j (by simp[z])) ⟨⟨v,cS,o⟩,by rw[cE (YF Y)];exact c.ob.od,?_,c.ob.un⟩)⟩;obtain⟨n,J,q⟩:=c.ob.ls;exact⟨n,by rw[cE (YF U)];exact J,q⟩
end
theorem wF{U v:V}:Y1 ("past" : Str) [(("kept" : Str),U),(("past" : Str),v)]=some v:=by rw[Y1,show(("past" : Str)==("kept"))=false by decide];simp[Y1]
theorem Gx{U v:V}:Y1 ("kept" : Str) [(("kept" : Str),U),(("past" : Str),v)]=some U:=by simp[Y1]
noncomputable def ku(H:Hp)(fp:List Addr):Hp:=fun b=>if b∈fp then none else H b
variable{j:Nat}{ms:List Md}{es:List Expr}{p1 p2 p3 apos cpos:Pos}{y mt:Str}
section
variable{p4:Pos}{x:Str}
noncomputable def zj:de:=fun r w=>if w.2.length<sizeLine then .nx r (w.1,w.2++[w.1])else .stuck
theorem Vh(d:Nb g m i)(p:Cls X.K C)(E:iz X.K C "kept")(B:iz X.K C "past")(l:X.N[i]? = some x)(j:eJ X.env.scope x)(k:!!Nq x)(t:!!Nc x)(J:!XH (.Name x p1) "past" X.env (eval (.Name x p1) X.env)=eval (.Name x p1) X.env)(I:!XH (.Name x p3) "kept" X.env (eval (.Name x p3) X.env)=eval (.Name x p3) X.env)(Y:!XH (.Attribute (.Name x p1) "past" p2) "append" X.env (eval (.Attribute (.Name x p1) "past" p2) X.env)=eval (.Attribute (.Name x p1) "past" p2) X.env)(M:!((backTo cpos (E_ [.Attribute (.Name x p3) "kept" p4] X.env)).all (fun x=>not x.1)&&(YN cpos (X6 [] X.env)).all (fun x=>x.1.isSome)&&decide ([Expr.Attribute (.Name x p3) "kept" p4].length+([]:List ê).length+(if ([]:List ê).isEmpty then 0 else 1)<30))=true)(Z:!(apos.endLine==cpos.line)=true)(u:!E_ [.Attribute (.Name x p3) "kept" p4] X.env=(false,eval (.Attribute (.Name x p3) "kept" p4) X.env)::E_ [] X.env)(U:!Bx X cpos [])(hs:!X7 (.Call (.Attribute (.Attribute (.Name x p1) "past" p2) "append" apos) [.Attribute (.Name x p3) "kept" p4] [] cpos) none pos.line X.env=pure false):iY X g i C m (.Expr (.Call (.Attribute (.Attribute (.Name x p1) "past" p2) "append" apos) [.Attribute (.Name x p3) "kept" p4] [] cpos) pos) zj m:=by
 refine PS.imp (rV (zx PySem.F.plainAttrs_list PySem.F.slot_list_append PySem.F.type_list_append xg (oA (eL l j k t) J) (gR (oA (eL l j k t) I) ky u) Y M Z u U) hs) fun D v H g=>?_;obtain⟨a,o,A,r,w,G,s,q⟩:=g;obtain⟨c,e,h⟩:=s.ob.ob;obtain⟨y,n,f⟩:=s.ob.ls;obtain⟨P,O,L⟩:=s.ob.ne;unfold zj at q;split at q
 .have hx:=Paired.length f;refine⟨_,s.me,a,C,o,_,_,rfl,e,p,B,wF,.inl ⟨rfl,_,cM.of n⟩,_,s.me,a,C,o,_,c,rfl,e,p,E,Gx,A,y,c,rfl,rfl,n,`o,?_⟩;refine q v G _ (bO.refl G) (s.chg d (fun b d=>cE fun z=>d (by simp[z])) ⟨⟨c,by rw[cE O];exact e,h⟩,by rw[cE L];exact s.ob.od,⟨_,cS,Paired.snoc f h⟩,s.ob.un⟩)
 .exact q.elim
noncomputable def pQ:de:=fun r w=>if w.2.isEmpty=true then .stuck else .nx r w
theorem Vu{sts:List Stmt}(cl:Cls X.K C)(np:iz X.K C "past")(hN:X.N[i]? = some x)(hv:eJ X.env.scope x)(hd:!!Nq x)(U:!!Nc x)(b1:!XH (.Name x p1) "past" X.env (eval (.Name x p1) X.env)=eval (.Name x p1) X.env)(he:!!!!∀whole,isTrue (.Attribute (.Name x p1) "past" p2) X.env whole=(do let v <-whole;YU (Expr.Attribute (.Name x p1) "past" p2).pos;Ys [v] (î v))):iY X g i C m (.If (.UnaryOp .Not (.Attribute (.Name x p1) "past" p2) p3) sts [] pos) pQ m:=by
 have hF:dQ X sts (fun _ _ _=>False):=fun pz s σ H D I q=>q.elim;refine PS.imp (pE (pU (qe (oA (eL hN hv hd U) b1) he)) hF mh) fun D σ H k=>?_;obtain⟨a,dx,pl,r,w,G,s,q⟩:=k;obtain⟨kv,e1,r1⟩:=s.ob.ob;obtain⟨xs,e2,r2⟩:=s.ob.ls;unfold pQ at q;split at q
 .exact q.elim
 .have hx:xs.isEmpty=false:=by
   have:=Paired.length r2
   grind
  refine⟨_,s.me,a,C,dx,_,_,rfl,e1,cl,np,wF,not xs.isEmpty,.inl ⟨xs,cM.of e2,rfl⟩,?_⟩;show(if (not (not xs.isEmpty))=true then _ else _);rw[hx,Q_e `d];exact q σ G H (bO.refl G) s
noncomputable def ra:de:=fun r w=>match w.2.getLast? with
|some d=>.nx r (d,w.2.dropLast)
|none=>.stuck
theorem Jv{l:List Y}{r:List U}(h:Paired F l r)(e:r.getLast? = some b):∃a,l[l.length-1]? = some a/\F a b:=by rw[List.getLast?_eq_getElem?]at e;obtain⟨a,Z,f1⟩:=DL.Paired.get h e;exact⟨a,by rw[Paired.length h];exact Z,f1⟩
theorem Vv(c:Nb g m i)(u:Cls X.K C)(J:iz X.K C "kept")(I:iz X.K C "past")(l:X.N[i]? = some x)(j:eJ X.env.scope x)(k:!!Nq x)(v:!!Nc x)(M:!XH (.Name x p1) "past" X.env (eval (.Name x p1) X.env)=eval (.Name x p1) X.env)(U:!XH (.Attribute (.Name x p1) "past" p2) "pop" X.env (eval (.Attribute (.Name x p1) "past" p2) X.env)=eval (.Attribute (.Name x p1) "past" p2) X.env)(Y:!(apos.endLine==cpos.line)=true)(hs:!X7 (.Call (.Attribute (.Attribute (.Name x p1) "past" p2) "pop" apos) [] [] cpos) (some (.Attribute (.Name x p) "kept" pos')) pos.line X.env=pure false):iY X g i C m (.Assign [.Attribute (.Name x p) "kept" pos'] (.Call (.Attribute (.Attribute (.Name x p1) "past" p2) "pop" apos) [] [] cpos) pos) ra m:=by
 refine PS.imp (rH (eL l j k v) (zJ PySem.F.plainAttrs_list PySem.F.slot_list_pop PySem.F.type_list_pop Fw (oA (eL l j k v) M) U Y) hs) fun D A H g=>?_;obtain⟨a,t,E,r,w,G,s,q⟩:=g;obtain⟨R,o,Q⟩:=s.ob.ob;obtain⟨h,n,e⟩:=s.ob.ls;obtain⟨O,Z,P⟩:=s.ob.ne;unfold ra at q;split at q
 .rename_i d hd';obtain⟨y,L,B⟩:=Jv e hd';refine⟨_,s.me,a,C,t,_,_,rfl,o,u,I,wF,.inl ⟨rfl,_,cM.of n⟩,E,h,y,rfl,rfl,n,L,?_⟩;refine⟨_,s.me,a,C,t,_,rfl,by rw[cE Z];exact o,u,J,by show 2<1000;decide,?_⟩;have f:cZ X.K G h.dropLast w.2.dropLast:=by rw[Y_,Y_,Paired.length e];exact Paired.tk _ e
  refine q A G _ (bO.refl G) (s.chg c (fun b c=>?_) ⟨⟨y,cS,B⟩,by rw[cE (YF O),cE P];exact s.ob.od,⟨_,by rw[cE (YF Z),cS],f⟩,s.ob.un⟩);rw[cE fun z=>c (by simp[z]),cE fun z=>c (by simp[z])]
 .exact q.elim
abbrev gN:=DW->List D->Option (D×DW)
def Di(K:W.Frag)(C:Addr)(ms:List Md)(F:gN):Sp:=fun vs H Q _=>∃G a dx pl w us ds,vs=.ref a::us/\bZ K G H/\DkR K G H C a dx pl w/\ArgsOk K G H ms us ds /\∃d w',F w ds=some (d,w')/\∀v G' H',Grow K G (ku H [a,dx,pl]) G' H'->DkR K G' H' C a dx pl w'->RG K G' v d->Q v H'
theorem SD.call(s:SD X g i C a dx pl m r w G σ H)(n:Nb g m i)(k:Grow X.K G (ku H [a,dx,pl]) G' H')(d:DkR X.K G' H' C a dx pl w'):SD X g i C a dx pl m r w' G' σ H':=by
 have q:∀b,b∉[a,dx,pl]->ku H [a,dx,pl] b=H b:=fun b z=>Q_e z;have Y:∀b∈[a,dx,pl],(iw g H [a,dx,pl] i a).h0 b≠none:=fun b n=>by show(if b∈[a,dx,pl]then H b else g.h0 b)≠_;rw[Q_d n];exact s.ob.isS b n
 have t:∀b,b∉[a,dx,pl]->(iw g H' [a,dx,pl] i a).h0 b=g.h0 b:=fun b n=>by show(if b∈[a,dx,pl]then H' b else g.h0 b)=_;rw[Q_e n]
 have U:∀b,b∉[a,dx,pl]->(iw g H [a,dx,pl] i a).h0 b=g.h0 b:=fun b n=>by show(if b∈[a,dx,pl]then H b else g.h0 b)=_;rw[Q_e n]
 have Z:∀b,b∉[a,dx,pl]->g.h0 b≠none->ku H [a,dx,pl] b≠none:=fun b z h=>by rw[q b z];cases e:g.h0 b with
 |none=>exact Q_f e h
 |some o=>rw[s.si.old b o (by rw[U b z];exact e)];simp
 refine⟨d,s.h0,⟨k.ok,fun b o e=>?_,fun b d e=>k.ge b d (s.si.ge b d e),fun b e=>?_,s.si.lm,s.si.lr,fun j d f p=>?_,fun j d f p=>?_,fun j d f p=>?_,s.si.dis,s.si.lk⟩,s.mi⟩
 .by_cases z:b∈[a,dx,pl]
  .have:(iw g H' [a,dx,pl] i a).h0 b=H' b:=by show(if b∈[a,dx,pl]then H' b else g.h0 b)=_;rw[Q_d z]
   grind
  .rw[t b z]at e;exact k.he b o (by rw[q b z];exact s.si.old b o (by rw[U b z];exact e))
 .by_cases z:b∈[a,dx,pl]
  .rw[d.un b z];have f:=s.si.gf b (Y b z);rw[s.ob.un b z]at f;exact f
  .rw[t b z]at e;exact(k.gf b (Z b z e)).trans (s.si.gf b (by rw[U b z];exact e))
 .obtain⟨v,q1,q2⟩:=s.si.sh j d f p;exact⟨v,q1,q2.mono k.ge⟩
 .obtain⟨c,q1,q2,q3⟩:=s.si.ow j d f p;have z:=fun z=>Y c z q3;have y:ku H [a,dx,pl] c≠none:=by rw[q c z];exact q2.ob.isS
  exact⟨c,q1,⟨by rw[k.gf c y];exact q2.un,q2.ob.mono k.ge fun u x=>k.he c u (by rw[q c z];exact x)⟩,`g⟩
 .by_cases hji:j=i
  .subst hji;have l:=(s.si.lk j _ (by show(if j=j then _ else _)=_;rw[Q_d rfl]) s.mi).2 d f;cases l
  .obtain⟨v,ev⟩:=n j hji p;have l:=(s.si.lk j (v,none) (by show(if j=i then _ else _)=_;grind) p).2 d f;cases l
end
theorem SD.grown(s:SD X g i C a dx pl m r w G σ H):Grow X.K g.gh g.h0 G H:=by have U:∀b,g.h0 b≠none->b∉[a,dx,pl]:=fun b h z=>h (s.h0 b z);have Y:∀b,g.h0 b≠none->(iw g H [a,dx,pl] i a).h0 b=g.h0 b:=fun b h=>Q_e (U b h);exact⟨s.si.gok,fun b o e=>s.si.old b o `g,s.si.ge,fun b h=>s.si.gf b (by rw[Y b h];exact h)⟩
theorem IE(r:bZ X.K G H)(u:DkR X.K G H C a dx pl w)(rs:ArgsOk X.K G H ms us ds)(m:ms.length+1<=N.length):SD X ⟨G,ku H [a,dx,pl],fun _=>none⟩ 0 C a dx pl (gw N.length (.bw::ms)) (none::(ds.map some++p_ (N.length-(ds.length+1)) none)) w G (L2.bM N (.ref a::us)) H:=by
 have s0:=r6 r (.bw (.inl (.scl .non)) rs) (by simpa using m);have t:(L2.bM N (.ref a::us)).length=(L2.bM N (.non::us)).length:=by unfold L2.bM;simp
 have U:∀i,i≠0->(L2.bM N (.ref a::us))[i]? = (L2.bM N (.non::us))[i]?:=fun i f=>by
  obtain⟨j,rfl⟩:∃j,i=j+1:=⟨i-1,`o⟩
  unfold L2.bM;simp
 have Z:∀i d,(none::(ds.map some++p_ _ none))[i]? = some (some d)->i≠0/\(cH N.length (.non::ds))[i]? = some (some d):=fun i d h=>by cases i with
 |zero=>simp at h
 |succ j=>unfold cH;simpa using h
 have s:iw ⟨G,ku H [a,dx,pl],fun _=>none⟩ H [a,dx,pl] 0 a=⟨G,H,fun j=>if j=0 then some (some (V.ref a),none)else none⟩:=by
  unfold iw ku;congr 1
  grind
 refine⟨u,fun b p=>Q_d p,?_,by unfold gw;simp⟩;rw[s];refine⟨s0.gok,s0.old,s0.ge,s0.gf,by exact s0.lm,?_,fun i d h Y=>?_,fun i d h Y=>?_,fun i d h Y=>?_,fun i j c d e g f n=>?_,fun i o h Y=>?_⟩
 .rw[t,<-s0.lr];unfold cH;simp
 .obtain⟨z,q⟩:=Z i d h;rw[U i z];exact s0.sh i d q Y
 .obtain⟨z,q⟩:=Z i d h;rw[U i z];exact s0.ow i d q Y
 .obtain⟨z,q⟩:=Z i d h;rw[U i z];exact s0.bw i d q Y
 .obtain⟨z,q⟩:=Z i d f;obtain⟨k,l⟩:=Z j e n;rw[U i z,U j k];exact s0.dis i j c d e g q l
 .have h:(if i=0 then some _ else none)=some o:=h;split at h
  .rename_i f;subst f;cases h;exact⟨by unfold L2.bM;simp,fun d h=>by simp at h⟩
  .cases h
noncomputable def fK:OutD->Option (D×DW)
|.nx _ w=>some (.non,w)
|.rt d w=>some (d,w)
|.stuck=>none
noncomputable def cB(n:Nat)(ds:List D):aJ:=none::(ds.map some++p_ (n-(ds.length+1)) none)
variable{P:z_}{mg:Str->Option a_}{base:Heap}
section
variable{w:M_}
theorem FO{st:Stmt}{y:X2}{N j:List Str}(F:Fun K x c st f y)(S:FnScope N j (aA st))(Y:ms.length+1=j.length)(U:∀(i:a_)(A:N_)(b:List Env)(s:d_)(H:Hp)(g:GE)(E:XK),Room k (A.deeper (YK c (aA st) s.heap.objs.size f i)) ->fO (cR fA P w K mg base N c (aA st) f i A b s H E).nox g 0 C (gw N.length (.bw::ms)) (aO st) fs m'):FnOk P w K mg base fA (k+1) f y j (Di K C ms fun z ds=>fK (fs (cB N.length ds) z)):=by
 refine F.ok S (fun O H Q E k=>by obtain⟨G,a,o,m,z,R,ds,hv,u,B,l,q⟩:=k;rw[hv,XJ,l.len.1];exact Y) fun i A b s H O Q E hr h=>?_;obtain⟨G,a,o,m,z,R,ds,rfl,u,B,l,d,J,e,q⟩:=h;have hpl:j.length<=N.length:=by have:=Q_g Zg S.pre;rw[YW]at this;omega
 replace e:fK (fs (cB N.length ds) z)=some (d,J):=e;refine⟨_,U i A b s H ⟨G,ku H [a,o,m],fun _=>none⟩ E hr,a,o,m,cB N.length ds,z,G,IE u B l `o,?_⟩;cases n:fs (cB N.length ds) z with
|nx r' M=>rw[n]at e;cases e;exact fun I r p X t=>q .non r p t.grown t.ob (.scl .non)
|rt d' M=>rw[n]at e;cases e;exact fun v r p X L Z T=>q v r p L Z T
|stuck=>rw[n]at e;cases e
structure CalleeT(P:z_)(w:M_)(K:W.Frag)(mg:Str->Option a_)(base:Heap)(mt:Str)(ps:List Str)(k:Nat)(C:Addr)(ms:List Md)(F:gN):Prop where
 ex:Cls K C/\∃f fd,Meth K C mt f/\gO K fd ps []/\FnOk P w K mg base fA k f fd ps (Di K C ms F)
structure CalleeO(P:z_)(w:M_)(K:W.Frag)(mg:Str->Option a_)(base:Heap)(x:Str)(ps:List Str)(k:Nat)(C:Addr)(ms:List Md)(F:gN):Prop where
 ex:∃f fd,mg x=some (.ref f)/\W.keepIn K (.ref f)=true/\gO K fd ps []/\FnOk P w K mg base fA k f fd ps (Di K C ms F)
theorem Ie{st:Stmt}(A:MethAt K nm d Z st)(h:XN K nm C)(S:FnScope N c (aA st))(Y:ms.length+1=c.length)(l:∀(kV e i:a_)(q:Option Addr)(a o:a_)(us:List a_),us.length=c.length->Y5 (W.fnOf d Z (aW st) (aO st) (aA st) .none kV e i q a o) ⟨us,[]⟩=pure (c.zip us))(U:∀(f:Addr)(a:a_)(A:N_)(b:List Env)(s:d_)(H:Hp)(g:GE)(E:XK),Room k (A.deeper (YK Z (aA st) s.heap.objs.size f a)) ->fO (cR fA P w K mg base N Z (aA st) f a A b s H E).nox g 0 C (gw N.length (.bw::ms)) (aO st) fs m'):CalleeT P w K mg base d c (k+1) C ms fun z ds=>fK (fs (cB N.length ds) z):=by obtain⟨r,f,n,m,p,j,F⟩:=A.ex;have:=m C h;subst this;exact⟨p,f,n,j,F.binds l,FO F S Y (U f)⟩
theorem GB{st:Stmt}(A:DefAt K mg x st)(S:FnScope N b (aA st))(Y:ms.length+1=b.length)(e:∀(kV c d:a_)(l:Option Addr)(Z j:a_)(us:List a_),us.length=b.length->Y5 (W.fnOf x x (aW st) (aO st) (aA st) .none kV c d l Z j) ⟨us,[]⟩=pure (b.zip us))(U:∀(f:Addr)(Z:a_)(A:N_)(a:List Env)(s:d_)(H:Hp)(g:GE)(E:XK),Room k (A.deeper (YK x (aA st) s.heap.objs.size f Z)) ->fO (cR fA P w K mg base N x (aA st) f Z A a s H E).nox g 0 C (gw N.length (.bw::ms)) (aO st) fs m'):CalleeO P w K mg base x b (k+1) C ms fun z ds=>fK (fs (cB N.length ds) z):=by obtain⟨f,i,h,F⟩:=A.ex;exact⟨f,i,h,F.kp,F.binds e,FO F S Y (U f)⟩
end
variable{fn:Str}{ps:List Str}{F:gN}
section
variable{k:Nat}{x:Str}
theorem qQ{U v:V}(Z:(mt==("kept" : Str))=false)(Y:(mt==("past" : Str))=false):Y1 mt [(("kept" : Str),U),(("past" : Str),v)]=none:=`g
theorem SD.setv(s:SD X g i C a dx pl m r w G σ H)(U:j≠i)(Y:RG X.K G v d):SD X g i C a dx pl (m.set j .sh) (r.set j (some d)) w G (σ.set j (some v)) H:=⟨s.ob,s.h0,s.si.set j Y,by rw[f_ U];exact s.mi⟩
noncomputable def wf(F:gN):de:=fun r w=>match F w []with
|some (_,w')=>.nx r w'
|none=>.stuck
theorem Ox{Y:Sem Bool}(c:CalleeT X.prog X.w X.K X.mg X.base mt ps k C [] F)(y:Room k X.A)(E:Nb g m i)(I:X.N[i]? = some x)(t:eJ X.env.scope x)(B:!!Nq x)(U:!!Nc x)(n:!!(mt==("kept" : Str))=false)(l:!!(mt==("past" : Str))=false)(u:!eval (.Call (.Attribute (.Name x p) mt apos) [] [] cpos) X.env=(do
   let ov <-eval (.Name x p) X.env
   YU apos.atName
   let(f,first) <-Ys [ov] (ZH ov mt Y)
   Zu cpos f first (backTo cpos (E_ [] X.env)) (YN cpos (X6 [] X.env))))(hs:!X7 (.Call (.Attribute (.Name x p) mt apos) [] [] cpos) none pos.line X.env=pure false):iY X g i C m (.Expr (.Call (.Attribute (.Name x p) mt apos) [] [] cpos) pos) (wf F) m:=by obtain⟨O,f,fd,o,P,J⟩:=c.ex;refine PS.imp (rV (Qx (eL I t B U) O o J y P .nil jU u) hs) fun D h H k=>?_;obtain⟨a,e,Y,r,w,G,s,q⟩:=k;obtain⟨kv,L,r1⟩:=s.ob.ob;unfold wf at q;cases Z:F w []with
|none=>rw[Z]at q;exact q.elim
|some z=>obtain⟨d,j⟩:=z;rw[Z]at q;refine⟨_,s.me,a,e,_,rfl,L,qQ n l,G,a,e,Y,w,[],[],rfl,s.si.gok,s.ob,.nil,d,j,Z,fun v R Q b M T=>q h R Q b.ge (s.call E b M)⟩
def EL(j:Nat)(fl:D->aJ->Res (List D))(F:gN):de:=fun r w=>km (fl w.1 r) fun ds=>match F w ds with
|some (d,w')=>.nx (r.set j (some d)) w'
|none=>.stuck
theorem Oz{n:Sem Bool}(j:Nat)(c:CalleeT X.prog X.w X.K X.mg X.base mt ps k C ms F)(hr:Room k X.A)(t:j≠i)(hb:Nb g m i)(hN:X.N[i]? = some x)(hv:eJ X.env.scope x)(Z:X.N.Nodup)(Y:X.N[j]? = some y)(hy:ju X.env.scope y)(ha:∀g' b,fV X g' i C b->gL X g' m (e::es) ms (fl b))(hd:!!Nq x)(BT:!!Nc x)(n1:!!(mt==("kept" : Str))=false)(n2:!!(mt==("past" : Str))=false)(U:!Sx X e es)(o:!Bx X cpos es)(ht:!eval (.Call (.Attribute (.Name x p) mt apos) (e::es) [] cpos) X.env=(do
   let ov <-eval (.Name x p) X.env
   YU apos.atName
   let(f,first) <-Ys [ov] (ZH ov mt n)
   Zu cpos f first (backTo cpos (E_ (e::es) X.env)) (YN cpos (X6 [] X.env))))(hs:!X7 (.Call (.Attribute (.Name x p) mt apos) (e::es) [] cpos) (some (.Name y pos')) pos.line X.env=pure false)(hf:!!!Fx X y):iY X g i C m (.Assign [.Name y pos'] (.Call (.Attribute (.Name x p) mt apos) (e::es) [] cpos) pos) (EL j fl F) (m.set j .sh):=by obtain⟨cl,f,fd,me,bd,fo⟩:=c.ex;have hA:PA X _ (fun h H Q=>∃g' b,fV X g' i C b/\nP X g' m ms _ h H Q):=fun pos T s h H Q I y=>(by obtain⟨g',b,k,z⟩:=y;exact ha g' b k pos T s h H Q I z);refine PS.imp (rK Z Y hy (Gp (eL hN hv hd BT) cl me fo hr bd .nil jU hA U o ht) hs hf) fun D h H j=>?_;obtain⟨a,J,n,r,w,G,s,q⟩:=j;obtain⟨kv,e1,r1⟩:=s.ob.ob;refine⟨_,s.me,a,J,_,rfl,e1,qQ n1 n2,_,w.1,s.kept,r,G,s.toH,bQ (ke q) fun L q O G1 H1 l R=>?_⟩;have E:=s.after (s.toH.grow l) s.mi;cases u:F w L with
|none=>rw[u]at q;exact q.elim
|some z=>obtain⟨d,M⟩:=z;rw[u]at q;refine⟨G1,a,J,n,w,O,L,`s,l.ok,E.ob,R,d,M,u,fun v G' H' B dk P=>q _ G' H' (bO.trans l.ge B.ge) ((E.call hb B dk).setv t P)⟩
def kC(fl:D->aJ->Res (List D))(F:gN):de:=fun r w=>km (fl w.1 r) fun ds=>match F w ds with
|some (.bl true,w')=>.nx r w'
|some (.bl false,w')=>.rt (.bl false) w'
|_=>.stuck
end
section
variable{k:Nat}{iter:Expr}{pn px rpos:Pos}{x:Str}{s1:de}
theorem wI{kk:Nat}(c:CalleeO X.prog X.w X.K X.mg X.base fn ps k C ms F)(hr:Room k X.A)(hb:Nb g m i)(hN:X.N[i]? = some x)(hv:eJ X.env.scope x)(ha:∀g' h,fV X g' i C h->gL X g' m (e::es) ms (fl h))(hg:!Gl X fn)(hd:!!Nq x)(Z:!!Nc x)(Y:!!Nq fn)(U:!E_ (.Name x px::e::es) X.env=(false,eval (.Name x px) X.env)::E_ (e::es) X.env)(p:!Bx X cpos (e::es))(he:!!!!∀b,isTrue (.Call (.Name fn pn) (.Name x px::e::es) [] cpos) X.env b=(do let v <-b;YU (Expr.Call (.Name fn pn) (.Name x px::e::es) [] cpos).pos;Ys [v] (î v))):iY X g i C m (.If (.UnaryOp .Not (.Call (.Name fn pn) (.Name x px::e::es) [] cpos) p3) [.Return (some (.Constant (.bool false) kk p2)) rpos] [] pos) (kC fl F) m:=by obtain⟨f,fd,h1,T,bd,fo⟩:=c.ex;have hA:PA X _ (fun j H Q=>∃g' h,fV X g' i C h/\nP X g' m ms _ j H Q):=fun pos P s j H Q I b=>(by obtain⟨g',h,k,z⟩:=b;exact ha g' h k pos P s j H Q I z);refine PS.imp (pE (pU (qe (qb fo hr hg h1 T bd .nil jU (gR (eL hN hv hd Z) hA U) Y U p) he)) (nK (rJ yY) mh) mh) fun D j H e=>?_;obtain⟨a,dx,R,r,w,G,s,q⟩:=e;refine⟨_,s.me,_,w.1,s.kept,r,G,s.toH,bQ (ke q) fun B q M G1 H1 n O=>?_⟩;have u:=s.after (s.toH.grow n) s.mi;cases t:F w B with
|none=>rw[t]at q;exact q.elim
|some z=>
  obtain⟨d,L⟩:=z;rw[t]at q;refine⟨G1,a,dx,R,w,M,B,`s,n.ok,u.ob,O,d,L,t,fun v J E l dk y=>?_⟩;have o:=u.call hb l dk;split at q
  .rename_i e1;cases e1;have:=RG.bl l.ok y;subst this;refine⟨true,rfl,?_⟩;show(if (not true)=true then _ else _);exact q j J E (bO.trans n.ge l.ge) o
  .rename_i e1;cases e1;have:=RG.bl l.ok y;subst this;refine⟨false,rfl,?_⟩;show(if (not false)=true then _ else _);exact q _ J E (bO.trans n.ge l.ge) o.grown o.ob (.scl (.bl false))
  .exact q.elim
noncomputable def iM(j:Nat)(body:de):List D->de
|[],r,w=>.nx r w
|d::ds,r,w=>match body (r.set j (some d)) w with
 |.nx r' w'=>iM j body ds r' w'
 |o=>o
def vJ(fi:FI)(j:Nat)(body:de):de:=fun r w=>km (fi r) fun ds=>iM j body ds r w
theorem Mx(j:Nat)(hp:Z8 (F_ X.prog X.w) X.A X.env X.xe)(hc:X.calm=true)(hi:∀g',iZ X g' m (.Name y p1) iter fi)(hm:m[j]? = some .sh)(hN:X.N.Nodup)(KK:X.N[j]? = some y)(hy:ju X.env.scope y)(T:j≠i)(hb:fO X g i C m sts s1 m)(hf:!!!Fx X y)(hs:!!!!Ix X iter):iY X g i C m (.For (.Name y p1) iter sts [] pos) (vJ fi j s1) m:=by
 have Id:m.set j .sh=m:=by obtain⟨c,e⟩:=e_.mp hm;rw[<-e];exact List.set_getElem_self c
 have IO:PI X _ iter (fun F H R=>∃g',tI X g' m fi F H R):=fun pz s F H R I V=>(by obtain⟨g',q⟩:=V;exact hi g' pz s F H R I q);refine PS.imp (vV hp hc IO (Gq hN KK hy hf) hb hs) fun D F H W=>?_;obtain⟨a,E,B,r,w,G,s,q⟩:=W;refine ⟨_,r,G,s.toH,bQ (ke q) fun t q J M H0 w0 Y=>?_⟩
 refine⟨fun n z l u=>∃p f h,SD X g i C a E B m p f h l u/\bO M h/\n<=t.length/\z=t.length-n/\nX X g i C a E B m h D (iM j s1 (t.drop n) p f),⟨t.length,r,w,M,s.after (s.toH.grow w0) s.mi,bO.refl M,XY _,rfl,q.gle w0.ge⟩,?_⟩
 rintro n z O K ⟨r1,w1,L,b,o,hn,rfl,k⟩
 by_cases c:n<t.length
 .have hd:=X3 c;rw[hd]at k;unfold iM at k;refine .inr ⟨Y.go L K n o b.si.gok c,fun l u=>∃p f h,SD X g i C a E B m p f h l u/\bO M h/\nX X g i C a E B m h D _,fun l u N=>by obtain⟨p,f,h,P,Z,q'⟩:=N;exact ⟨_,`o,p,f,h,P,Z,c,rfl,q'⟩,fun x u y=>?_⟩;obtain⟨h,f,Q⟩:=Y.yld L K n x u t[n] o b.si.gok y (m_ c);have Z:=o.trans f.ge;have BT:=(b.after (b.toH.grow f) b.mi).setv T Q;rw[Id]at BT;refine⟨a,E,B,_,w1,h,BT,?_⟩;cases eb:s1 _ w1 with
 |nx p w2=>simp only[eb]at k;exact fun σ3 G3 H3 U Cl=>⟨p,w2,G3,Cl,Z.trans U,k.gle (bO.trans f.ge U)⟩
 |rt d w2=>simp only[eb]at k;exact fun v G3 H3 U wg dk Q=>k v G3 H3 (bO.trans f.ge U) wg dk Q
 |stuck=>simp only[eb]at k;exact k
 .have e:n=t.length:=`o
  subst e;rw[Zl]at k;exact .inl ⟨Y.stop L K o b.si.gok,k O L K (bO.refl _) b⟩
end
theorem bZ.own(Y:bZ K G H)(e:H b=some (.own x)):G b=none:=by cases h:G b with
|none=>rfl
|some d=>
  have Z:∀{u:HO},Rd H b u->u=.own x\/∃o U,(HO.own x)=.frz o U:=fun r=>by
   rcases r with r|⟨o,r⟩
   .grind
   grind
  cases Y b d h with
 |lst r _=>grind
 |tup r _=>grind
 |dic r _=>rw[e]at r;cases r
 |exc r _ _=>rw[e]at r;cases r
 |fld r _=>rw[e]at r;cases r
 |ins r _ _=>rw[e]at r;cases r
noncomputable def MH(X:Cx)(g:GE)(m:List Md)(C:Addr)(kd:D):TS:=fun D σ H=>∃r G x dx,NI X g m x C dx r [] G σ H/\∀G' H' pl,bO G G'->Grow X.K g.gh g.h0 G' H'->g.h0 pl=none->DkR X.K G' H' C x dx pl (kd,[])->D.nx σ H'
section
variable{fe:FE}{x0:Str}{p' p2' pos2 lpos:Pos}{kd:D}
theorem Vt(L:Cls X.K C)(nk:iz X.K C "kept")(np:iz X.K C "past")(J:X.N[0]? = some x0)(B:eJ X.env.scope x0)(he:∀r,∃f:FE,SE X g m e f/\f r=.ok kd)(hl:SO X g m (.List [] lpos) fun _=>.ok (.lst []))(E:!!Nq x0)(M:!!Nc x0)(hs:!X7 e (some (.Attribute (.Name x0 p) "kept" p')) pos.line X.env=pure false)(LT:!X7 (.List [] lpos) (some (.Attribute (.Name x0 p2) "past" p2')) pos2.line X.env=pure false):dQ X [.Assign [.Attribute (.Name x0 p) "kept" p'] e pos,.Assign [.Attribute (.Name x0 p2) "past" p2'] (.List [] lpos) pos2] (MH X g m C kd):=by
 have hA:PE X e (fun i H Q=>∃f:FE,SE X g m e f/\tE X g m f i H Q):=fun pz s i H Q I p=>(by obtain⟨f,h,q⟩:=p;exact h pz s i H Q I q);refine dQ.imp (nK (rH (eL J B E M) hA hs) (nK (rH (eL J B E M) hl LT) mh)) fun D i H W=>?_;obtain⟨r,G,x,j,a,q⟩:=W;obtain⟨f,hf,ef⟩:=he r;refine⟨f,hf,r,G,a.si,?_⟩;rw[ef];intro v w H1 k r1;obtain⟨fs,A,rf⟩:=a.ob;cases rf;have T:=k.he _ _ A;have R:w x=none:=by rw[k.gf x (by rw[A];simp)];exact a.gx
 have LE:=k.he _ _ a.od;have Z:j≠x:=fun z=>by grind
 refine⟨_,a.me,x,C,j,[],rfl,T,L,nk,`d,?_⟩;have U:SI X g m r w i (aY H1 x (.ins C j (L2.putF ("kept") v []))):=(a.si.grow k).ins T a.hx R;refine⟨r,w,U,fun b n u d l y=>?_⟩;have P:u x=some (.ins C j [(("kept"),v)]):=d.he _ _ cS;refine⟨_,a.me,x,C,j,_,rfl,P,L,np,by show 1<1000;decide,?_⟩;have hb:b≠x:=fun z=>by rw[z,cS]at l;cases l
 have ep:L2.putF ("past") (V.ref b) [(("kept"),v)]=[(("kept" : Str),v),(("past"),V.ref b)]:=by show(if ("kept")=("past" : Str)then _ else _)=_;rfl
 have O:n x=none:=by rw[d.gf x (by rw[cS];simp)];exact R
 have ST:SI X g m r n i (aY u x (.ins C j (L2.putF ("past") (V.ref b) [(("kept"),v)]))):=(U.grow d).ins P a.hx O;have Y:=d.he _ _ (by rw[cE Z];exact LE);obtain⟨t,eb,rb⟩:∃t,u b=some _/\cZ X.K n t []:=by cases y.ob with
 |lst r s=>exact⟨_,r,s⟩
 refine q n _ b (bO.trans k.ge d.ge) ST.grown ?_ ⟨⟨v,by rw[cS,ep],r1.mono d.ge⟩,by rw[cE Z];exact Y,⟨t,by rw[cE hb];exact eb,rb⟩,fun c F=>?_⟩
 .cases e0:g.h0 b with
 |none=>rfl
 |some o=>rw[U.old b o e0]at l;cases l
 .simp  at F;rcases F with rfl|rfl|rfl
  .exact O
  .exact(U.grow d).gok.own Y
  .exact y.un
end
def Dh(K:W.Frag)(C:Addr)(kd:D):Sp:=fun vs H Q _=>∃G H1 x dx,H=aY (aY H1 dx (.own x)) x (.ins C dx [])/\H1 x=none/\H1 dx=none/\dx≠x/\vs=[.ref x]/\bZ K G H1 /\∀G' H' pl,Grow K G H1 G' H'->H1 pl=none->DkR K G' H' C x dx pl (kd,[])->Q .non H'
structure CalleeI(P:z_)(w:M_)(K:W.Frag)(mg:Str->Option a_)(base:Heap)(x:Str)(ps:List Str)(k:Nat)(C:Addr)(kd:D):Prop where
 ex:∃f fd,mg x=some (.ref C)/\Mk K C f/\gO K fd ps []/\FnOk P w K mg base fA k f fd ps (Dh K C kd)
section
variable{w:M_}
theorem Of{st:Stmt}{N e:List Str}{m:D}(A:MakeAt K mg x nm c st)(M:∀i,XN K nm i->i=C)(S:FnScope N e (aA st))(Y:1=e.length)(L:∀(kV l u:a_)(an:Option Addr)(d ct:a_)(us:List a_),us.length=e.length->Y5 (W.fnOf "__init__" c (aW st) (aO st) (aA st) .none kV l u an d ct) ⟨us,[]⟩=pure (e.zip us))(U:∀(f:Addr)(d:a_)(A:N_)(b:List Env)(s:d_)(H:Hp)(g:GE)(E:XK),Room k (A.deeper (YK c (aA st) s.heap.objs.size f d)) ->dQ (cR fA P w K mg base N c (aA st) f d A b s H E).nox (aO st) (MH (cR fA P w K mg base N c (aA st) f d A b s H E).nox g (gw N.length [.sh]) C m)):CalleeI P w K mg base x e (k+1) C m:=by
 obtain⟨i,f,T,O,p,cl,y,F⟩:=A.ex;have:=M i p;subst this;refine⟨f,T,O,y,F.binds L,F.ok S (fun t H Q E k=>by obtain⟨G,o,a,n,_,_,_,_,z,_⟩:=k;rw[z];exact Y) fun d A b s H t Q E B h=>?_⟩;obtain⟨G,o,a,n,rfl,BT,Z,j,rfl,R,q⟩:=h;have I:e.length<=N.length:=by have:=Q_g Zg S.pre;rw[YW]at this;omega
 refine⟨_,U f d A b s _ ⟨G,o,fun _=>none⟩ E B,_,G,a,n,ID (ms:=[]) (us:=[]) (ds:=[]) R .nil `z BT Z j,?_⟩;exact fun G' H' v le r J X=>q G' H' v r J X
end
section
variable{k:Nat}{x:Str}{kd:D}
theorem SI.toD(s:SI X g m r G σ H)(t:Grow X.K G H G' H')(J:DkR X.K G' H' C a dx pl w)(I:∀b∈[a,dx,pl],H b=none)(hi:i<m.length):SD X g i C a dx pl (m.set i .bw) (r.set i none) w G' (σ.set i (some (V.ref a))) H':=by
 have u:=s.grow t;have Q:∀b,H b≠none->b∉[a,dx,pl]:=fun b h z=>h (I b z);have Z:∀b∈[a,dx,pl],g.h0 b=none:=fun b q=>by cases e:g.h0 b with
 |none=>rfl
 |some o=>have:=s.old b o e;grind
 have P:∀b∈[a,dx,pl],g.gh b=none:=fun b q=>by cases e:g.gh b with
 |none=>rfl
 |some d=>have:=s.ge b d e;rw[s.gok.isN (I b q)]at this;cases this
 have A:∀b,b∉[a,dx,pl]->(iw g H' [a,dx,pl] i a).h0 b=g.h0 b:=fun b q=>Q_e q;have IO:∀b,b∈[a,dx,pl]->(iw g H' [a,dx,pl] i a).h0 b=H' b:=fun b q=>Q_d q;have p:∀{j:Nat}{x:Md},i≠j->(m.set i .bw)[j]? = some x->m[j]? = some x:=fun h e=>by grind
 have Id:i<σ.length:=by rw[<-s.lm];exact hi
 have U:∀{j:Nat}{d:D},(r.set i none)[j]? = some (some d)->i≠j/\r[j]? = some (some d):=fun{j d} h=>by grind
 refine⟨J,Z,⟨t.ok,fun b o e=>?_,u.ge,fun b e=>?_,by simpa using s.lm,by simpa using s.lr,fun j d c f=>?_,fun j d c f=>?_,fun j d c f=>?_,fun j l b d e R c f M L E B=>?_,fun j o n O=>?_⟩,`g⟩
 .by_cases z:b∈[a,dx,pl]
  .grind
  .rw[A b z]at e;exact u.old b o e
 .by_cases z:b∈[a,dx,pl]
  .rw[J.un b z];exact(P b z).symm
  .rw[A b z]at e;exact u.gf b e
 .obtain⟨hij,c⟩:=U c;rw[f_ hij];exact u.sh j d c (p hij f)
 .obtain⟨hij,c⟩:=U c;obtain⟨b,y,k,F⟩:=s.ow j d c (p hij f);have z:=Q b k.ob.isS;rw[f_ hij];exact⟨b,y,k.mono t,by rw[A b z];exact F⟩
 .obtain⟨hij,c⟩:=U c;obtain⟨v,y,k⟩:=s.bw j d c (p hij f);rw[f_ hij];refine⟨v,y,?_⟩;rcases k with k|⟨b,rfl,k,F⟩
  .exact .inl (k.mono t.ge)
  .exact .inr ⟨b,rfl,k.mono t,`g⟩
 .obtain⟨hij,c⟩:=U c;obtain⟨Y,f⟩:=U f;rw[f_ hij]at E;rw[f_ Y]at B;exact s.dis j l b d e R c f (p hij M) (p Y L) E B
 .by_cases hij:i=j
  .subst hij;have n:(if i=i then some _ else g.hd i)=some o:=n;rw[Q_d rfl]at n;exact⟨`g,fun d h=>Q_f rfl (U h).1⟩
  .have n:(if j=i then some _ else g.hd j)=some o:=n;rw[Q_e (YF hij)]at n;obtain⟨T,N⟩:=s.lk j o n (p hij O);exact⟨`g,fun d h=>N d (U h).2⟩
end
inductive OutL where
 |nx (r:aJ) (w w':DW)|rt (d:D)|stuck
abbrev FL:=aJ->DW->DW->OutL
noncomputable def lX:List D->Option D
|[.int i]=>if i.natAbs<2^1000 then some (.str (Ð i))else none
|_=>none
theorem v5{U p:Pos}(h:Gl X "str")(f:X.mg "str" = none)(k:iP X g m (e::Y) fl)(j:!Sx X e Y)(Z:!Bx X U Y) :
  SE X g m (.Call (.Name "str" p) (e::Y) [] U) (fC fl lX):=iG (by
     intro G H l n d Q a b e q;unfold lX at e;split at e
     .split at e
      .rename_i i hi;cases e;cases b with
      |cons c t=>
        cases t;refine⟨i,by rw[c.int a],?_,q _ G H (Grow.refl a) (.scl (.str _))⟩;by_cases z:i.natAbs=0
        .rw[z];decide
        .exact ď ((Ê z).mpr hi) `d
      .cases e
     .cases e) (nL Ti h f rfl k `d (rfl) j Z)
def tW(d:D):Option D:=(iE d).map fun b=>.bl (not b)
theorem zR{a:Expr}(t:SB X g m a n):SE X g m (.UnaryOp .Not a f) (f1 n tW):=by intro l s j H Q I ⟨r,G,o,q⟩;refine UnaryOp_ (bK (t l s j H _ I ⟨r,G,o,bQ (cC q) fun d Z v z i k U=>?_⟩) fun v p n=>by obtain⟨x,i,w,U,Z⟩:=n;exact not_of (bK (Fj l p j i x v _ w U Z) fun c A a=>by obtain⟨y,u,Y⟩:=a;exact ⟨.bl (not c),y,u,rfl,Y⟩));obtain⟨B,e,Y⟩:=dz Z;unfold tW at e;cases h:iE d with
|none=>rw[h]at e;cases e
|some b=>rw[h]at e;cases e;exact⟨b,GW k.ok U h,Y _ z i k (.scl (.bl _))⟩
structure QAt(P:z_)(w:M_)(K:W.Frag)(mg:Str->Option a_)(x:Str)(tab:List (Str×Str)):Prop where
 ex:∃a f,mg x=some (.ref a)/\(a==ZD)=false/\(∀h:Heap,K.In h->h.MapOf (lI P w) a f) /\∀s,match tab.lookup s with
  |some n=>∃b,mg n=some (.ref b)/\f (.inr s)=some (.ref b)
  |none=>f (.inr s)=none
section
variable{a:Expr}{fa:FE}{fl:aJ->Res (List D)}{k:Nat}{x:Str}{tab:List (Str×Str)}
def ph(tab:List (Str×Str))(f:FE):FQ:=fun r=>(f r).bind fun d=>match d with
|.str s=>.ok (tab.lookup s).isSome
|_=>.stuck
theorem vC(q:QAt X.prog X.w X.K X.mg x tab)(E:SE X g m a fa)(B:!Gl X x)(A:!Yx .In (.Name x p)=false)(C:!!Nq x):SQ X g m (.Compare a [.In] [.Name x p] pos) (ph tab fa):=by
 obtain⟨b,f,N,M,L,J⟩:=q.ex;have o:c7 X (X1 .In) (fun y z H Q=>∃s,y=.str s/\z=.ref b/\Q (.bl (tab.lookup s).isSome) H):=by intro R s Y H y z v u Q I j i h;obtain⟨t,rfl,rfl,q⟩:=h;obtain⟨Z,rfl⟩:=j;cases(i);refine wpAny_in_of (k:=.inr t) (sw t Z) M (L _ I.kIn) ⟨_,H,I.tok _,?_,q⟩;have:=J t;cases h:tab.lookup t with
 |none=>rw[h]at this;rw[this];rfl
 |some n=>rw[h]at this;obtain⟨c,_,F⟩:=this;rw[F];rfl
 refine PT.imp (Hg o E (wz (v:=.ref b) B N rfl C) A) fun Y H Q w=>?_;obtain⟨r,G,e,z⟩:=w;refine ⟨r,G,e,?_⟩
 refine bQ (cC z) fun d z v P O U l=>?_;cases d with
|str s=>exact⟨s,l.str U.ok,rfl,_,rfl,z P O U⟩
|_=>exact(z).elim
def qC(F:Str->Option (List D->Res D))(fa:FE)(fl:aJ->Res (List D)):FE:=fun r=>(fa r).bind fun d=>match d with
|.str s=>(match F s with
 |some f=>(fl r).bind fun ds=>qA (f ds)
 |none=>.stuck)
|_=>.stuck
theorem tu{F:Str->Option (List D->Res D)}(q:QAt X.prog X.w X.K X.mg x tab)(hc:∀s f,F s=some f->∃n,tab.lookup s=some n/\Callee X.prog X.w X.K X.mg X.base n ps [] k false ms f)(hr:Room k X.A)(ha:SE X g m a fa)(hA:gL X g m (e::es) ms fl)(hg:!Gl X x)(hs:rL a:=by intro _ _;rfl)(hd:!!Nq x)(he:!Sx X e es)(M:!Bx X pos es)(ht:!eval (.Call (.Subscript (.Name x p) a p2) (e::es) [] pos) X.env=(do Zu pos (<-eval (.Subscript (.Name x p) a p2) X.env) [] (backTo pos (E_ (e::es) X.env)) (YN pos (X6 [] X.env)))):SE X g m (.Call (.Subscript (.Name x p) a p2) (e::es) [] pos) (qC F fa fl):=by
 obtain⟨b,f,e1,e2,e3,e4⟩:=q.ex;have hx:kr X (fun y z H Q=>∃s n c,y=.ref b/\z=.str s/\tab.lookup s=some n/\X.mg n=some (.ref c)/\Q (.ref c) H):=by intro C E L s B H y z v u Q I ry rz h hs;obtain⟨t,n,c,rfl,rfl,Z,j,q⟩:=h;obtain⟨tk,rfl⟩:=rz;cases(ry);have hm:=e3 _ I.kIn;have:=e4 t;rw[Z]at this;obtain⟨c',Y,O⟩:=this;rw[j]at Y;cases Y;exact ü hm.typeIs PySem.F.slot_dict_getitem.lookup (Ó (sw t tk) hm O ⟨.ref c,H,I.tok _,rfl,q⟩) hs
 intro L s B H Q I ⟨r,G,si,z⟩;unfold qC at z;refine b_ (bK (zy hx (wz (v:=.ref b) hg e1 rfl hd) ha hs L s B H (fun v o=>∃t n c l,Grow X.K G H l o/\fa r=.ok (.str t)/\tab.lookup t=some n/\X.mg n=some (.ref c)/\v=.ref c) I ⟨r,G,si,?_⟩) fun u s1 ⟨v,o,I1,J,t,n,c,l,i,ef,hn,N,ev⟩=>?_)
 .cases ed:fa r with
 |ok d=>rw[ed]at z;intro v l o i r1;cases d with
  |str t=>cases U:F t with
   |none=>simp only[Res.bind,U]at z;exact z.elim
   |some P=>obtain⟨n,Z,j⟩:=hc t P U;obtain⟨c,fd,Y,_⟩:=j.ex;exact⟨t,n,c,rfl,r1.str i.ok,Z,Y,t,n,c,l,i,rfl,Z,Y,rfl⟩
  |_=>exact(z).elim
 |exc y=>rw[ed]at z;exact z
 |stuck=>rw[ed]at z;exact z
 .subst ev;cases(J);rw[ef]at z;cases U:F t with
 |none=>simp only[Res.bind,U]at z;exact z.elim
 |some P=>obtain⟨n',Z,j⟩:=hc t P U;rw[hn]at Z;cases Z;obtain⟨c',fd,Y,O,h5,h6⟩:=j.ex;rw[N]at Y;cases Y;refine W.callWith_K I1.ok.mod.kin O (bK (hA pos L s1 B o _ I1 ⟨r,l,si.grow i,?_⟩) fun us s2 w=>by obtain⟨vs,H2,I2,rr,q2⟩:=w;exact ⟨I2.kIn,vX h6 hr h5 .nil jU I2 rr q2⟩) he M;cases R:fl r with
  |ok zs=>simp only[Res.bind,U,R]at z;intro vs G2 H2 T rs;have:=IP (ro:=false) T.ok rs .nil (by rw[W_];exact bQ (Bc z (Fy _)) fun d k v G3 H3 w3 J=>k v G3 H3 ((i.trans T).trans w3) J);simpa using this
  |exc x=>simp only[Res.bind,U,R]at z;exact(z).grow i
  |stuck=>simp only[Res.bind,U,R]at z;exact z.elim
end
end DL
namespace DL
open PySem PySem.Spec PyProof.Rows L2 PySem.W PySem.Calls
section
variable{X:Cx}{g:GE}{m mb:List Md}{pos pos' p apos cpos:Pos}{ro:Bool}{x y:Str}
noncomputable def pD(i j:Nat):FS:=fun r=>match r[i]? with
|some (some (.lst ds))=>(match ds.getLast? with
 |some d=>.nx ((r.set i (some (.lst ds.dropLast))).set j (some d))
 |none=>.stuck)
|_=>.stuck
theorem NW(i j:Nat)(o:m[i]? = some .ow)(E:X.N.Nodup)(u:!X.N[i]? = some x)(Z:!X.N[j]? = some y)(n:eJ X.env.scope x:=by first|exact Or.inl rfl|exact Or.inr (Or.inl rfl)|exact Or.inr (Or.inr rfl))(l:ju X.env.scope y:=by first|exact Or.inl rfl|exact Or.inr rfl)(t:!!Nq x)(C:!!Nc x)(U:!XH (.Name x p) "pop" X.env (eval (.Name x p) X.env)=eval (.Name x p) X.env)(Y:!(apos.endLine==cpos.line)=true)(hs:!X7 (.Call (.Attribute (.Name x p) "pop" apos) [] [] cpos) (some (.Name y pos')) pos.line X.env=pure false)(s:!!!Fx X y):SS X g ro mb m (.Assign [.Name y pos'] (.Call (.Attribute (.Name x p) "pop" apos) [] [] cpos) pos) (pD i j) (m.set j .sh):=by
 refine⟨`s,PS.imp (rK E Z l (zJ PySem.F.plainAttrs_list PySem.F.slot_list_pop PySem.F.type_list_pop Fw (eL u n t C) U Y) hs s) fun D I H y=>?_⟩;obtain⟨r,G,h,q⟩:=y;unfold pD at q;split at q
 .rename_i ds er;split at q
  .rename_i d hl;obtain⟨a,A,z,w⟩:=h.mut o er;cases z.ob with
  |@lst e _ f b=>
    obtain⟨v,B,k⟩:=Jv b hl;refine⟨_,A,.inl ⟨rfl,_,cM.of f⟩,a,e,v,rfl,rfl,f,B,?_⟩;have c:cZ X.K G e.dropLast ds.dropLast:=by rw[Y_,Y_,Paired.length b];exact Paired.tk _ b
    exact q _ G _ (bO.refl G) ((w _ _ (.lst cS c)).set j k)
  .exact(q).elim
 .exact(q).elim
end
theorem Callee.up{K:W.Frag}{ms:List Md}{F:List D->Res D}(c:Callee P w K Y base x U [] j ro ms F)(h:j<=k):Callee P w K Y base x U [] k ro ms F:=by obtain⟨f,e,d,b,a,Z⟩:=c.ex;exact⟨f,e,d,b,a,Z.mono h⟩
theorem Callee.lent2{K:W.Frag}{F:List D->Res D}(c:Callee P w K Y base x U [] k ro [.bw,.bw] F):Callee P w K Y base x U [] k ro [.bw,.sh] F:=by obtain⟨f,j,h,g,e,d⟩:=c.ex;refine⟨f,j,h,g,e,d.imp fun m H Q E ⟨G,l,i,Z,q⟩=>⟨G,l,i,?_,q⟩⟩;cases Z with
|bw b t=>cases t with
 |sh a t=>cases t;exact .bw b (.bw a.rb .nil)
noncomputable abbrev QT:=Str×Tok×Str×Addr
noncomputable def kZ(w:M_)(t:QT):DictEntry:=⟨hashStr w t.1,.str t.1 t.2.1,.ref t.2.2.2⟩
theorem Pr(w:M_)(s:Str):∀U:List QT,(∃t∈U,(U.map fun t=>(t.1,t.2.2.1)).lookup s=some t.2.2.1/\((U.map (kZ w)).find? fun e=>jR (.inr s) e.key).map (·.val)=some (.ref t.2.2.2))\/((U.map fun t=>(t.1,t.2.2.1)).lookup s=none/\((U.map (kZ w)).find? fun e=>jR (.inr s) e.key).map (·.val)=none):=by
 intro U
 induction U with
|nil=>grind
|cons t U Y=>
  rw[R_,Yz,R_,V_];have e:jR (.inr s) (kZ w t).key=(s==t.1):=by
   show(t.1==s)=(s==t.1)
   grind
  rw[e];cases h:s==t.1 with
 |true=>exact .inl ⟨t,g_,rfl,rfl⟩
 |false=>grind
theorem Mr{K:W.Frag}(Y:List QT)(g:K.In h)(G:h.Ns K_ c)(z:W.nsIn K K_ x=some (some (.ref a)))(l:K.lookup a=some ⟨.type "dict",none,.dict Z n,#[]⟩)(j:Z.toList=Y.map (kZ w))(hs:(a==ZD)=false)(i:lz (fun t:QT=>W.nsIn K K_ t.2.2.1=some (some (.ref t.2.2.2))) Y):QAt P w K c x (Y.map fun t=>(t.1,t.2.2.1)):=by
 refine⟨a,findBy jR Z,W.mg_of g G z,hs,fun o U=>⟨_,Z,n,U _ _ l,⟨rfl,rfl,rfl⟩,rfl,fun e b=>?_,fun _=>rfl⟩,fun s=>?_⟩
 .have b:=Array.mem_toList_iff.mpr b;rw[j]at b;obtain⟨t,_,rfl⟩:=k_.mp b;exact⟨.inr t.1,sw t.1 t.2.1,rfl⟩
 .have q:=Pr w s Y;have m:findBy jR Z (.inr s)=((Y.map (kZ w)).find? fun e=>jR (.inr s) e.key).map (·.val):=by
   unfold findBy
   grind
  rcases q with⟨t,k,f,d⟩|⟨f,d⟩
  .rw[f];exact⟨t.2.2.2,W.mg_of g G (i.mem t k),m.trans d⟩
  grind
noncomputable def je:D->Option Str
|.int i=>if i.natAbs<2^1000 then some (Ð i)else none
|.str x=>if x.length<=1000 then some x else none
|_=>none
abbrev FJ:=aJ->Option Str
noncomputable def Dw:FJ:=fun _=>some Zj
noncomputable def pe(a:Str)(f:FJ):FJ:=fun r=>(f r).map (a++·)
noncomputable def mP(fe:FE)(f:FJ):FJ:=fun r=>match fe r with
|.ok (.str y)=>if y.length<=1001 then(f r).map (y++·)else none
|_=>none
noncomputable def uE(f:FJ):FE:=fun r=>match f r with
|some z=>if z.length<=100000 then .ok (.str z)else .stuck
|none=>.stuck
def SJ(X:Cx)(g:GE)(m:List Md)(ps:List Expr)(f:FJ):Prop:=∀(pz:List (Addr×Obj))(s:d_)(σ:L2.St)(H:Hp)(out:Str)(Q:a_->d_->Prop)(r:aJ)(G:GH),Inv X pz σ H s->SI X g m r G σ H ->(∃z,f r=some z/\out.length+z.length<=1000000/\∀t s' G' H',Grow X.K G H G' H'->Inv X pz σ H' s'->Q (.str (out++z) t) s')->C_ (F_ X.prog X.w) X.A (joinParts out (ô ps X.env)) Q X.xe s
section
variable{X:Cx}{g:GE}{m:List Md}{ps:List Expr}{f:FJ}{pos p:Pos}{v₁ v₂:Expr}{x:Str}
theorem D3:SJ X g m [] Dw:=fun b s a H U Q r G I Y k=>by
 obtain⟨z,e,c,q⟩:=k
 cases e;have Z:U.length<=sizeLine:=by rw[G_];omega
 have:=q s.toks { s with toks:=s.toks+1 } G H (Grow.refl Y.gok) (I.tok _);exact joinParts_nil this Z
theorem D4(k:SJ X g m ps f)(hs:!ô (.Constant (.str a) j p::ps) X.env=eval (.Constant (.str a) j p) X.env::ô ps X.env):SJ X g m (.Constant (.str a) j p::ps) (pe a f):=fun Y s U H i Q r G I b j=>by
 obtain⟨z,e,l,q⟩:=j
 obtain⟨y,A,rfl⟩:=Y2.mp e;rw[L_]at l;rw[hs];refine joinParts_cons (bK (E4 (X:=X) (x:=a) Y s U H (fun v Z=>v=.str a/\Z=H) I ⟨rfl,rfl⟩) fun u c f=>?_);obtain⟨v,Z,B,h,n,o⟩:=f;subst n o;obtain⟨t,rfl⟩:=(show ∃t,u=Value.str a t from h)
 refine⟨by rw[L_,G_];omega,k Y c U _ _ Q r G B b ⟨y,A,by rw[L_];omega,fun t d F E w C=>?_⟩⟩;rw[ZQ];exact q t d F E w C
def uG(fe:FE):FE:=f1 fe fun d=>(je d).map .str
theorem qZ(o:SB X g m e fe):SE X g m (.FormattedValue e (-1) none pos) (uG fe):=by
 intro n s i H Q I ⟨r,G,j,q⟩;refine FormattedValue_plain (bK (o n s i H (fun v Y=>∃d y Z,je d=some y/\Grow X.K G H Z Y/\RB X.K Z Y v d/\Q (.str y) Y) I ⟨r,G,j,bQ (cC q) fun d l v Z Y a b=>?_⟩) fun u x ⟨v,Y,h,f,d,y,Z,U,a,b,q⟩=>?_)
 .obtain⟨d',e,q2⟩:=dz l;obtain⟨y,U,rfl⟩:=Y2.mp e;exact⟨d,y,Z,U,a,b,q2 _ Z Y a (.scl (.str _))⟩
 .unfold je at U;split at U
  .split at U
   .rename_i k hk;cases U;have c:=b.int a.ok;subst c;obtain⟨t,rfl⟩:=(f)
    refine formatField_int_small ?_ ⟨.str _,Y,h.tok _,⟨_,rfl⟩,q⟩;by_cases z:k.natAbs=0
    .rw[z];decide
    .exact ď ((Ê z).mpr hk) `d
   .cases U
  .split at U
   .cases U;have c:=b.str a.ok;subst c;obtain⟨t,rfl⟩:=(f)
    exact formatField_str (fun w p=>⟨.str _,Y,h.tok _,⟨_,rfl⟩,q⟩) (by rw[G_];omega)
   .cases U
  .cases U
theorem vO(A:SE X g m e fe)(p:SJ X g m ps f)(hs:!ô (e::ps) X.env=eval e X.env::ô ps X.env):SJ X g m (e::ps) (mP fe f):=fun i s c H o Q r G I h e=>by obtain⟨z,U,x,q⟩:=e;unfold mP at U;cases Z:fe r with
|ok d=>cases d with
 |str y=>
   simp only[Z]at U;split at U
   .rename_i hy;obtain⟨j,C,rfl⟩:=Y2.mp U;rw[L_]at x;rw[hs];refine joinParts_cons (bK (A i s c H (fun v b=>∃a,Grow X.K G H a b/\v=.str y) I ⟨r,G,h,?_⟩) fun u M ⟨v,b,E,l,a,Y,B⟩=>?_)
    .rw[Z];exact fun v a b Y n=>⟨a,Y,n.str Y.ok⟩
    .subst B;obtain⟨t,rfl⟩:=(show ∃t,u=Value.str y t from l)
     refine⟨by rw[L_,G_];omega,p i _ c b _ Q r a E (h.grow Y) ⟨j,C,by rw[L_];omega,fun t k L J w F=>?_⟩⟩;rw[ZQ];exact q t k L J (Y.trans w) F
   .cases U
 |_=>simp only[Z]at U;cases U
|exc _=>simp only[Z]at U;cases U
|stuck=>simp only[Z]at U;cases U
theorem Nx(h:fin (uE f r) q y):∃z,f r=some z/\z.length<=100000/\q (.str z):=by unfold uE at h;cases e:f r with
|none=>rw[e]at h;exact h.elim
|some z=>
  rw[e]at h;by_cases U:z.length<=100000
  .simp only[Q_d U]at h;exact⟨z,rfl,U,h⟩
  .simp only[Q_e U]at h;exact h.elim
theorem tt(h:SJ X g m (U::v₂::ps) f)(hs:!ô (U::v₂::ps) X.env=eval U X.env::eval v₂ X.env::ô ps X.env):SE X g m (.JoinedStr (U::v₂::ps) pos) (uE f):=by intro b s Z H Q I ⟨r,G,a,q⟩;obtain⟨z,e,j,q⟩:=Nx q;exact h b s Z H Zj _ r G I a ⟨z,e,by show 0+_<=_;omega,fun t i d Y w c=>⟨.str z,Y,c,⟨t,by rw[Str.empty_append]⟩,q _ d Y w (.scl (.str _))⟩⟩
theorem VD(Z:SE X g m e fe):SE X g m (.JoinedStr [e] pos) fe:=fun Y s U H Q I h=>JoinedStr_one (Z Y s U H Q I h)
end
section
variable{X:Cx}{g:GE}{i j k:Nat}{C a dx pl:Addr}{m ms m':List Md}{r:aJ}{w:DW}{G G':GH}{σ:L2.St}{H H':Hp}{e iter tg:Expr}{es:List Expr}{p apos cpos pos pos' pc:Pos}{x y mt xc:Str}{ps:List Str}{F:gN}{sts:List Stmt}{s1:de}
def v6(fl:D->aJ->Res (List D))(F:gN):de:=fun r w=>km (fl w.1 r) fun ds=>match F w ds with
|some (_,w')=>.nx r w'
|none=>.stuck
theorem Oy{j:Sem Bool}(c:CalleeT X.prog X.w X.K X.mg X.base mt ps k C ms F)(hr:Room k X.A)(hb:Nb g m i)(hN:X.N[i]? = some x)(R:eJ X.env.scope x)(ha:∀g' Z,fV X g' i C Z->gL X g' m (e::es) ms (fl Z))(hd:!!Nq x)(U:!!Nc x)(O:!!(mt==("kept" : Str))=false)(M:!!(mt==("past" : Str))=false)(Y:!Sx X e es)(l:!Bx X cpos es)(T:!eval (.Call (.Attribute (.Name x p) mt apos) (e::es) [] cpos) X.env=(do
   let ov <-eval (.Name x p) X.env
   YU apos.atName
   let(f,first) <-Ys [ov] (ZH ov mt j)
   Zu cpos f first (backTo cpos (E_ (e::es) X.env)) (YN cpos (X6 [] X.env))))(hs:!X7 (.Call (.Attribute (.Name x p) mt apos) (e::es) [] cpos) none pos.line X.env=pure false):iY X g i C m (.Expr (.Call (.Attribute (.Name x p) mt apos) (e::es) [] cpos) pos) (v6 fl F) m:=by obtain⟨cl,f,fd,P,bd,fo⟩:=c.ex;have hA:PA X _ (fun b H Q=>∃g' Z,fV X g' i C Z/\nP X g' m ms _ b H Q):=fun pos L s b H Q I e=>(by obtain⟨g',Z,k,z⟩:=e;exact ha g' Z k pos L s b H Q I z);refine PS.imp (rV (Gp (eL hN R hd U) cl P fo hr bd .nil jU hA Y l T) hs) fun D b H g=>?_;obtain⟨a,u,j,r,w,G,s,q⟩:=g;obtain⟨kv,e1,r1⟩:=s.ob.ob;refine⟨_,s.me,a,u,_,rfl,e1,qQ O M,_,w.1,s.kept,r,G,s.toH,bQ (ke q) fun y q E G1 H1 h J=>?_⟩;have t:=s.after (s.toH.grow h) s.mi;cases n:F w y with
|none=>rw[n]at q;exact q.elim
|some z=>obtain⟨d,B⟩:=z;rw[n]at q;refine⟨G1,a,u,j,w,E,y,`s,h.ok,t.ob,J,d,B,n,fun v G' H' o dk rv=>q _ G' H' (bO.trans h.ge o.ge) (t.call hb o dk)⟩
noncomputable def yZ(i:Nat)(kd:D)(f:de):FS:=fun r=>match f (r.set i none) (kd,[])with
|.rt d _=>.rt d
|_=>.stuck
theorem Pj(a:i<m.length)(I:m'.length=m.length)(c:CalleeI X.prog X.w X.K X.mg X.base xc ps k C l)(F:Room (k+1) X.A)(BT:X.N.Nodup)(M:X.N[i]? = some y)(B:ju X.env.scope y)(h:fO X g i C (m.set i .bw) sts f m')(J:!Gl X xc)(Z:!!Nq xc)(hs:!X7 (.Call (.Name xc pc) [] [] cpos) (some (.Name y pos')) pos.line X.env=pure false)(L:!!!Fx X y):fP X g false [] m (.Assign [.Name y pos'] (.Call (.Name xc pc) [] [] cpos) pos::sts) (yZ i l f) m':=by obtain⟨fa,fd,O,z,R,P⟩:=c.ex;refine⟨I,dQ.imp (nK (rK BT M B (Qw z P F J O R .nil jU Z) hs L) h) fun D σ H k=>?_⟩;obtain⟨r,G,j,q⟩:=k;intro x n E U Y;refine⟨G,H,x,n,rfl,E,U,Y,rfl,j.gok,fun G1 H1 u p hp Q=>⟨rfl,?_⟩⟩;have s:=j.toD p Q (fun b hb=>`g) a;refine⟨x,n,u,_,_,G1,s,?_⟩;unfold yZ at q;cases e:f _ _ with
|nx _ _=>rw[e]at q;exact q.elim
|rt d w2=>rw[e]at q;exact fun v G' T le o Cl t=>q v G' T o t
|stuck=>rw[e]at q;exact q.elim
end
def iy(X:Cx)(g:GE)(i:Nat)(C:Addr)(w:DW):Prop:=∀m r G σ H,SI X g m r G σ H->m[i]? = some .bw->∃a dx pl,σ[i]? = some (some (V.ref a))/\DkR X.K G H C a dx pl w
variable{X:Cx}{g:GE}{i:Nat}{C:Addr}{m:List Md}{w:DW}
section
variable{a dx pl:Addr}{m' mb:List Md}{r:aJ}{G:GH}{σ:L2.St}{H:Hp}
theorem iy.kept(h:iy X g i C w):fV X g i C w.1:=fun m r G U H Y c=>by obtain⟨a,j,k,e,d⟩:=h m r G U H Y c;obtain⟨b,f,Z⟩:=d.ob;exact⟨a,j,b,_,e,f,Gx,Z⟩
theorem DkR.heldAt(d:DkR X.K G H C a dx pl w):iy X (hG g G H [a,dx,pl] i a) i C w:=fun j f l Z k U c=>by
 have h:∀b∈[a,dx,pl],(hG g G H [a,dx,pl] i a).h0 b=H b:=fun b Y=>Q_d Y;refine⟨a,dx,pl,(U.lk i _ (Q_d rfl) c).1,d.mono U.ge (fun b Y=>?_) fun b Y=>?_⟩
 .cases e:H b with
 |none=>exact Q_f e (d.isS b Y)
 |some o=>exact U.old b o (by rw[h b Y];exact e)
 .rw[U.gf b (by rw[h b Y];exact d.isS b Y)];exact d.un b Y
theorem iy.tr(h:iy X g i C w):iy (X.tr Z E) g i C w:=fun m r G U H Y a=>h m r G U H (SI.cx Y rfl) a
def yH(p:DW->FQ)(f1 f2:de):de:=fun r w=>km (p w r) fun c=>if c=true then f1 r w else f2 r w
theorem Vi{f1 f2:de}(n:∀g' w,iy X g' i C w->SQ X g' m c (q w))(t:fO X g i C m Y f1 m')(p:fO X g i C m U f2 m'):iY X g i C m (.If c Y U d) (yH q f1 f2) m':=by
 have o:PT X c (fun Z H Q=>∃g' w,iy X g' i C w/\tQ X g' m _ Z H Q):=fun l s Z H Q I y=>(by obtain⟨g',w,k,z⟩:=y;exact n g' w k l s Z H Q I z);refine PS.imp (pE o t p) fun D Z H v=>?_;obtain⟨a,h,f,r,w,G,s,z⟩:=v;refine ⟨_,w,s.ob.heldAt,r,G,s.toH,bQ (ke z) fun c z j u b=>?_⟩
 have e:=s.after (s.toH.grow b) s.mi;cases c with
|true=>show(if true=true then _ else _);exact⟨a,h,f,r,w,j,e,z.gle b.ge⟩
|false=>show(if false=true then _ else _);exact⟨a,h,f,r,w,j,e,z.gle b.ge⟩
end
abbrev m9:=DW->List D->Res D
def kS(K:W.Frag)(C:Addr)(ms:List Md)(F:m9):Sp:=fun vs H Q E=>∃G a dx pl w us ds,vs=.ref a::us/\bZ K G H/\DkR K G H C a dx pl w/\ArgsOk K G H ms us ds /\fin (F w ds) (fun d=>∀v G' H',Grow K G H G' H'->RG K G' v d->Q v H') fun x=>∀T od nm fs G' H',x=xD nm fs->XN K nm T->XF G' od fs->Grow K G H G' H'->E (.ref T) od H'
section
variable{P:z_}{w:M_}{K:W.Frag}{mg:Str->Option a_}{base:Heap}
theorem HQ{x i:Str}{st:Stmt}{fs:DW->FS}(F:Fun K x i st f R)(S:FnScope N p (aA st))(Z:ms.length+1=p.length)(U:∀(j:a_)(A:N_)(c:List Env)(s:d_)(H:Hp)(g:GE)(z:DW)(E:XK),Room k (A.deeper (YK i (aA st) s.heap.objs.size f j))->iy (cR (jj P w) P w K mg base N i (aA st) f j A c s H E) g 0 C z ->fP (cR (jj P w) P w K mg base N i (aA st) f j A c s H E) g false [] (gw N.length (.bw::ms)) (aO st) (fs z) m'):FnOk P w K mg base (jj P w) (k+1) f R p (kS K C ms fun z ds=>bV false (fs z (cB N.length ds))):=by
 obtain⟨oc,od,kV,doc,pm,an,j,ct,osl,rfl,lk,Cl⟩:=F.ex;refine vz lk Cl S (fun vs H Q E k=>by obtain⟨G,a,o,n,z,us,ds,hv,O,M,u,q⟩:=k;rw[hv,XJ,u.len.1];exact Z) fun A c s H vs Q E hr h=>?_;obtain⟨G,a,o,n,z,us,ds,rfl,O,M,u,q⟩:=h;have hpl:p.length<=N.length:=by have:=Q_g Zg S.pre;grind
 have sd:=IE (X:=cR (jj P w) P w K mg base N i (aA st) f j A c s H E) (N:=N) O M u `o;have h0:(hG ⟨G,ku H [a,o,n],fun _=>none⟩ G H [a,o,n] 0 a).h0=H:=by
  funext b;show(if b∈[a,o,n]then H b else if b∈[a,o,n]then none else H b)=H b
  grind
 have J:∀{m l},Grow K (hG ⟨G,ku H [a,o,n],fun _=>none⟩ G H [a,o,n] 0 a).gh (hG _ G H [a,o,n] 0 a).h0 m l->Grow K G H m l:=fun{m l} h=>by rw[h0]at h;exact h
 refine⟨_,(U j A c s H _ z E hr (M.heldAt)).2,cB N.length ds,G,sd.toH,?_⟩;replace q:fin (bV false _) _ _:=q;cases e:fs z _ with
|nx y=>rw[e]at q;exact fun r m l _ t=>q .non m l (J t.grown) (.scl .non)
|rt d=>rw[e]at q;exact fun v m l wg rv=>q v m l (J wg) rv
|bk y=>rw[e]at q;exact q.elim
|ct y=>rw[e]at q;exact q.elim
|exc x y=>rw[e]at q;intro pz ev s' r m l le t I ex;obtain⟨B,s1,H1,a1,T,Y,nm,BT,rfl,rfl,xn,xf,I1,fl⟩:=ex;exact fl.leaves I1 rfl rfl rfl fun s'' L=>⟨a1,_,l,Y,rfl,L,q T Y nm BT m l rfl xn xf (J t.grown)⟩
|stuck=>rw[e]at q;exact q
structure CalleeTX(P:z_)(w:M_)(K:W.Frag)(mg:Str->Option a_)(base:Heap)(mt:Str)(ps:List Str)(k:Nat)(C:Addr)(ms:List Md)(F:m9):Prop where
 ex:Cls K C/\∃f fd,Meth K C mt f/\gO K fd ps []/\FnOk P w K mg base (jj P w) k f fd ps (kS K C ms F)
structure CalleeOX(P:z_)(w:M_)(K:W.Frag)(mg:Str->Option a_)(base:Heap)(x:Str)(ps:List Str)(k:Nat)(C:Addr)(ms:List Md)(F:m9):Prop where
 ex:∃f fd,mg x=some (.ref f)/\W.keepIn K (.ref f)=true/\gO K fd ps []/\FnOk P w K mg base (jj P w) k f fd ps (kS K C ms F)
theorem Jy{st:Stmt}{fs:DW->FS}(A:MethAt K nm d Z st)(h:XN K nm C)(S:FnScope N c (aA st))(Y:ms.length+1=c.length)(l:∀(kV e i:a_)(q:Option Addr)(b o:a_)(us:List a_),us.length=c.length->Y5 (W.fnOf d Z (aW st) (aO st) (aA st) .none kV e i q b o) ⟨us,[]⟩=pure (c.zip us))(U:∀(f:Addr)(b:a_)(A:N_)(a:List Env)(s:d_)(H:Hp)(g:GE)(z:DW)(E:XK),Room k (A.deeper (YK Z (aA st) s.heap.objs.size f b))->iy (cR (jj P w) P w K mg base N Z (aA st) f b A a s H E) g 0 C z ->fP (cR (jj P w) P w K mg base N Z (aA st) f b A a s H E) g false [] (gw N.length (.bw::ms)) (aO st) (fs z) m'):CalleeTX P w K mg base d c (k+1) C ms fun z ds=>bV false (fs z (cB N.length ds)):=by obtain⟨r,f,n,m,p,j,F⟩:=A.ex;have:=m C h;subst this;exact⟨p,f,n,j,F.binds l,HQ F S Y (U f)⟩
theorem Qm{st:Stmt}{fs:DW->FS}(A:DefAt K mg x st)(S:FnScope N b (aA st))(Y:ms.length+1=b.length)(e:∀(kV c d:a_)(l:Option Addr)(a j:a_)(us:List a_),us.length=b.length->Y5 (W.fnOf x x (aW st) (aO st) (aA st) .none kV c d l a j) ⟨us,[]⟩=pure (b.zip us))(U:∀(f:Addr)(a:a_)(A:N_)(Z:List Env)(s:d_)(H:Hp)(g:GE)(z:DW)(E:XK),Room k (A.deeper (YK x (aA st) s.heap.objs.size f a))->iy (cR (jj P w) P w K mg base N x (aA st) f a A Z s H E) g 0 C z ->fP (cR (jj P w) P w K mg base N x (aA st) f a A Z s H E) g false [] (gw N.length (.bw::ms)) (aO st) (fs z) m'):CalleeOX P w K mg base x b (k+1) C ms fun z ds=>bV false (fs z (cB N.length ds)):=by obtain⟨f,i,h,F⟩:=A.ex;exact⟨f,i,h,F.kp,F.binds e,HQ F S Y (U f)⟩
end
theorem CalleeX.up{w:M_}{K:W.Frag}{ms:List Md}{F:List D->Res D}(c:CalleeX P w K Y base x U [] j ro ms F)(h:j<=k):CalleeX P w K Y base x U [] k ro ms F:=by obtain⟨f,e,d,b,a,Z⟩:=c.ex;exact⟨f,e,d,b,a,Z.mono h⟩
def nh(w:DW)(fl:aJ->Res (List D))(F:m9):FE:=fun r=>(fl r).bind fun ds=>F w ds
variable{ms:List Md}{e:Expr}{es:List Expr}{p p2 pos:Pos}{ps:List Str}{fl:aJ->Res (List D)}
section
variable{k:Nat}{px pn p1 apos cpos:Pos}{x mt fn:Str}{F:m9}
theorem Aq{G g:GH}{a m l:Addr}(q:fin (F w ds) (fun d=>∀v o n,Grow X.K G H o n->RG X.K o v d->Q v n) (XW X σ G H))(k:Grow X.K G H g Y)(d:DkR X.K g Y C a m l w)(rs:ArgsOk X.K g Y ms us ds):∃E,kS X.K C ms F (.ref a::us) Y Q E/\qN X σ Y E:=by
 refine⟨fun f h c=>∃T Z b U,f=.ref T/\F w ds=.exc (xD Z b)/\XN X.K Z T/\XF U h b/\Grow X.K g Y U c,⟨g,a,m,l,w,us,ds,rfl,k.ok,d,rs,?_⟩,?_⟩
 .cases ef:F w ds with
 |ok d=>rw[ef]at q;exact fun v U c e p=>q v U c (k.trans e) p
 |exc y=>exact fun T h Z b U c r i j e=>⟨T,Z,b,U,rfl,by rw[r],i,j,e⟩
 |stuck=>rw[ef]at q;exact q
 .intro pz s a f h c s' I fl ⟨T,Z,b,U,hc,ef,i,j,e⟩;subst hc;rw[ef]at q;exact q pz _ s' U c (k.trans e) (fl.inv I) ⟨pz,s,Y,a,T,h,Z,b,rfl,rfl,i,j,I,fl⟩
theorem HI(c:CalleeOX X.prog X.w X.K X.mg X.base fn ps k C ms F)(u:Room k X.A)(n:iy X g i C w)(o:m[i]? = some .bw)(B:X.N[i]? = some x)(t:eJ X.env.scope x)(z:gL X g m (e::es) ms fl)(v:!Gl X fn)(y:!!Nq x)(R:!!Nc x)(Z:!!Nq fn)(Y:!E_ (.Name x px::e::es) X.env=(false,eval (.Name x px) X.env)::E_ (e::es) X.env)(h:!Bx X cpos (e::es)):SE X g m (.Call (.Name fn pn) (.Name x px::e::es) [] cpos) (nh w fl F):=by obtain⟨f,fd,E,s,M,I⟩:=c.ex;refine PE.imp (Hs I u v E s M .nil (gR (eL B t y R) z Y) Z Y h) fun j H Q k=>?_;obtain⟨r,G,b,q⟩:=k;obtain⟨a,dx,pl,es,d⟩:=n m r G j H b o;refine⟨_,es,r,G,b,bQ (cC q) fun ds q T P O l p=>?_⟩;obtain⟨a',J,Cl,U,L⟩:=n m r P j O (b.grow l) o;rw[es]at U;cases U;simpa using Aq q l L p
theorem P8{O:Sem Bool}(c:CalleeTX X.prog X.w X.K X.mg X.base mt ps k C ms F)(hr:Room k X.A)(t:iy X g i C w)(u:m[i]? = some .bw)(hN:X.N[i]? = some x)(T:eJ X.env.scope x)(ha:gL X g m (e::es) ms fl)(hd:!!Nq x)(BT:!!Nc x)(R:!!(mt==("kept" : Str))=false)(P:!!(mt==("past" : Str))=false)(Z:!Sx X e es)(j:!Bx X cpos es)(ht:!eval (.Call (.Attribute (.Name x p) mt apos) (e::es) [] cpos) X.env=(do
   let ov <-eval (.Name x p) X.env
   YU apos.atName
   let(f,first) <-Ys [ov] (ZH ov mt O)
   Zu cpos f first (backTo cpos (E_ (e::es) X.env)) (YN cpos (X6 [] X.env)))):SE X g m (.Call (.Attribute (.Name x p) mt apos) (e::es) [] cpos) (nh w fl F):=by
 obtain⟨cl,f,fd,o,bd,fo⟩:=c.ex;intro L s b H Q I ⟨r,G,h,q⟩;obtain⟨a,dx,Y,U,d⟩:=t m r G b H h u;obtain⟨kv,e1,_⟩:=d.ob;refine Ki (eL hN T hd BT) I ⟨_,U,a,C,dx,_,f,rfl,e1,cl,o,qQ R P,fun z I1=>?_⟩ ht;refine W.callWith_K I.ok.mod.kin o.kp (bK (ha cpos L z b H (fun vs l=>∃E,kS X.K C ms F (.ref a::vs) l Q E/\qN X b l E) I1 ⟨r,G,h,bQ (cC q) fun ds q y G1 H1 n B=>?_⟩) fun y s2 ⟨vs,l,v,J,E,q2,M⟩=>⟨v.kIn,?_⟩) Z j
 .obtain⟨a',dx',Y,es'',d'⟩:=t m r G1 b H1 (h.grow n) u;rw[U]at es'';cases es'';exact Aq q n d' B
 .exact wA (vs:=.ref a::vs) fo hr bd .nil v M (.cons rfl J) `g
theorem RL{o:Sem Bool}(c:CalleeTX X.prog X.w X.K X.mg X.base mt ps k C [] F)(B:Room k X.A)(v:iy X g i C w)(J:m[i]? = some .bw)(M:X.N[i]? = some x)(y:eJ X.env.scope x)(L:!!Nq x)(U:!!Nc x)(u:!!(mt==("kept" : Str))=false)(t:!!(mt==("past" : Str))=false)(z:!eval (.Call (.Attribute (.Name x p) mt apos) [] [] cpos) X.env=(do
   let ov <-eval (.Name x p) X.env
   YU apos.atName
   let(f,first) <-Ys [ov] (ZH ov mt o)
   Zu cpos f first (backTo cpos (E_ [] X.env)) (YN cpos (X6 [] X.env)))):SE X g m (.Call (.Attribute (.Name x p) mt apos) [] [] cpos) (fun _=>F w []):=by obtain⟨T,f,fd,e,bd,O⟩:=c.ex;intro pz s j H Q I ⟨r,G,b,q⟩;obtain⟨a,R,Z,Y,d⟩:=v m r G j H b J;obtain⟨kv,P,_⟩:=d.ob;refine Ki (eL M y L U) I ⟨_,Y,a,C,R,_,f,rfl,P,T,e,qQ u t,fun s1 h=>?_⟩ z;obtain⟨E,l,n⟩:=Aq q (Grow.refl b.gok) d .nil;exact W.callWith_K0 h.kIn e.kp (wA (vs:=[.ref a]) O B bd .nil h n (.cons rfl .nil) l)
theorem N9(k:iy X g i C w)(n:m[i]? = some .bw)(A:Cls X.K C)(f:iz X.K C "past")(s:X.N[i]? = some x)(l:eJ X.env.scope x)(p:!!Nq x)(U:!!Nc x)(B:!XH (.Name x p1) "past" X.env (eval (.Name x p1) X.env)=eval (.Name x p1) X.env)(o:!!!!∀Y,isTrue (.Attribute (.Name x p1) "past" p2) X.env Y=(do let v <-Y;YU (Expr.Attribute (.Name x p1) "past" p2).pos;Ys [v] (î v))):SQ X g m (.UnaryOp .Not (.Attribute (.Name x p1) "past" p2) pos) (fun _=>.ok w.2.isEmpty):=by
 refine PT.imp (pU (qe (oA (eL s l p U) B) o)) fun c H Q v=>?_;obtain⟨r,G,b,q⟩:=v;obtain⟨a,z,F,t,d⟩:=k m r G c H b n;obtain⟨I,y,E⟩:=d.ob;obtain⟨Z,u,e⟩:=d.ls;refine⟨_,t,a,C,z,_,_,rfl,y,A,f,wF,not Z.isEmpty,.inl ⟨Z,cM.of u,rfl⟩,?_⟩;have j:Z.isEmpty=w.2.isEmpty:=by have:=Paired.length e;cases Z <;> cases h:w.2 <;> simp_all
 show Q _ H;rw[ŏ,j];exact q G H (Grow.refl b.gok)
end
section
variable{a:Expr}{fa:FE}{k:Nat}{x:Str}{p3:Pos}{tab:List (Str×Str)}
def qB(F:Str->Option (List D->Res D))(fa:FE)(fl:aJ->Res (List D)):FE:=fun r=>(fa r).bind fun d=>match d with
|.str s=>(match F s with
 |some f=>(fl r).bind fun ds=>f ds
 |none=>.stuck)
|_=>.stuck
theorem Et(q:QAt X.prog X.w X.K X.mg x tab)(hc:∀s f,F s=some f->∃n,tab.lookup s=some n/\CalleeX X.prog X.w X.K X.mg X.base n ps [] k false ms f)(hr:Room k X.A)(ha:SE X g m a fa)(hA:gL X g m (e::es) ms fl)(hg:!Gl X x)(hs:rL a:=by intro _ _;rfl)(hd:!!Nq x)(he:!Sx X e es)(hpl:!Bx X pos es)(ht:!eval (.Call (.Subscript (.Name x p) a p2) (e::es) [] pos) X.env=(do Zu pos (<-eval (.Subscript (.Name x p) a p2) X.env) [] (backTo pos (E_ (e::es) X.env)) (YN pos (X6 [] X.env)))):SE X g m (.Call (.Subscript (.Name x p) a p2) (e::es) [] pos) (qB F fa fl):=by
 obtain⟨b,f,e1,e2,e3,e4⟩:=q.ex;have hx:kr X (fun y z H Q=>∃s n c,y=.ref b/\z=.str s/\tab.lookup s=some n/\X.mg n=some (.ref c)/\Q (.ref c) H):=by intro value slice pz s P H y z v u Q I ry rz h hs;obtain⟨t,n,c,rfl,rfl,j,L,q⟩:=h;obtain⟨tk,rfl⟩:=rz;cases(ry);have hm:=e3 _ I.kIn;have:=e4 t;rw[j]at this;obtain⟨c',Y,h4⟩:=this;rw[L]at Y;cases Y;exact ü hm.typeIs PySem.F.slot_dict_getitem.lookup (Ó (sw t tk) hm h4 ⟨.ref c,H,I.tok _,rfl,q⟩) hs
 intro pz s P H Q I ⟨r,G,si,z⟩;unfold qB at z;refine b_ (bK (zy hx (wz (v:=.ref b) hg e1 rfl hd) ha hs pz s P H (fun v H1=>∃t n c O,Grow X.K G H O H1/\fa r=.ok (.str t)/\tab.lookup t=some n/\X.mg n=some (.ref c)/\v=.ref c) I ⟨r,G,si,?_⟩) fun u s1 ⟨v,H1,I1,rv,t,n,c,O,i,ef,hn,hmn,ev⟩=>?_)
 .cases ed:fa r with
 |ok d=>rw[ed]at z;intro v O H1 i r1;cases d with
  |str t=>cases U:F t with
   |none=>simp only[Res.bind,U]at z;exact z.elim
   |some l=>obtain⟨n,j,L⟩:=hc t l U;obtain⟨c,fd,Y,_⟩:=L.ex;exact⟨t,n,c,rfl,r1.str i.ok,j,Y,t,n,c,O,i,rfl,j,Y,rfl⟩
  |_=>exact(z).elim
 |exc y=>rw[ed]at z;exact z
 |stuck=>rw[ed]at z;exact z
 .subst ev;cases(rv);rw[ef]at z;cases U:F t with
 |none=>simp only[Res.bind,U]at z;exact z.elim
 |some l=>obtain⟨n',j,L⟩:=hc t l U;rw[hn]at j;cases j;obtain⟨c',fd,Y,h4,h5,h6⟩:=L.ex;rw[hmn]at Y;cases Y;refine W.callWith_K I1.ok.mod.kin h4 (bK (hA pos pz s1 P H1 (fun vs B=>∃E,MI X.K false ms l vs B Q E/\qN X P B E) I1 ⟨r,O,si.grow i,?_⟩) fun us s2 k=>by obtain⟨vs,B,N,rr,E,q2,px⟩:=k;exact ⟨N.kIn,wA h6 hr h5 .nil N px rr `g⟩) he hpl;cases ez:fl r with
  |ok zs=>
    simp only[Res.bind,U,ez]at z;intro vs G2 B w2 rs;refine⟨fun M R o=>∃C T fs Z,M=.ref C/\l zs=.exc (xD T fs)/\XN X.K T C/\XF Z R fs/\Grow X.K G2 B Z o,⟨G2,zs,w2.ok,rs,?_⟩,?_⟩
    .cases ef':l zs with
    |ok d=>rw[ef']at z;exact fun v Z o J rv=>z v Z o ((i.trans w2).trans J) rv
    |exc y=>exact fun C R T fs Z o hy xn xf J=>⟨C,T,fs,Z,rfl,by rw[hy],xn,xf,J⟩
    |stuck=>rw[ef']at z;exact z
    .intro pins2 s2 a2 M R o s' N fl2 ⟨C',nm',fs',Z,hc',ef',xn',xf,J⟩;subst hc';rw[ef']at z;exact z pins2 _ s' Z o ((i.trans w2).trans J) (fl2.inv N) ⟨pins2,s2,B,a2,C',R,nm',fs',rfl,rfl,xn',xf,N,fl2⟩
  |exc x=>simp only[Res.bind,U,ez]at z;exact(z).grow i
  |stuck=>simp only[Res.bind,U,ez]at z;exact z.elim
end
end DL
namespace DL
open PySem PySem.Spec PyProof.Rows L2
section
variable{X:Cx}{g:GE}{i k k2:Nat}{C:Addr}{m ms ms2:List Md}{a e e2:Expr}{es es2:List Expr}{p p2 p3 p4 pn pn2 px px2 cpos cpos2 bpos pos rpos:Pos}{x fn fn2:Str}{ps ps2:List Str}{F F2:gN}{fl fl2:D->aJ->Res (List D)}
def jF(fl:D->aJ->Res (List D))(F:gN):de:=fun r w=>km (fl w.1 r) fun ds=>match F w ds with
|some (d,w')=>.rt d w'
|none=>.stuck
theorem Vx(c:CalleeO X.prog X.w X.K X.mg X.base fn ps k C ms F)(R:Room k X.A)(hb:Nb g m i)(hN:X.N[i]? = some x)(P:eJ X.env.scope x)(ha:∀g' b,fV X g' i C b->gL X g' m (e::es) ms (fl b))(T:!Gl X fn)(hd:!!Nq x)(Z:!!Nc x)(Y:!!Nq fn)(U:!E_ (.Name x px::e::es) X.env=(false,eval (.Name x px) X.env)::E_ (e::es) X.env)(l:!Bx X cpos (e::es)):iY X g i C m (.Return (some (.Call (.Name fn pn) (.Name x px::e::es) [] cpos)) pos) (jF fl F) m:=by obtain⟨f,fd,h1,O,bd,fo⟩:=c.ex;have hA:PA X _ (fun h H Q=>∃g' b,fV X g' i C b/\nP X g' m ms _ h H Q):=fun pos L s h H Q I e=>(by obtain⟨g',b,k,z⟩:=e;exact ha g' b k pos L s h H Q I z);refine PS.imp (rJ (qb fo R T h1 O bd .nil jU (gR (eL hN P hd Z) hA U) Y U l)) fun D h H g=>?_;obtain⟨a,dx,M,r,w,G,s,q⟩:=g;refine⟨_,s.me,_,w.1,s.kept,r,G,s.toH,bQ (ke q) fun u q B G1 H1 j J=>?_⟩;have t:=s.after (s.toH.grow j) s.mi;cases n:F w u with
|none=>rw[n]at q;exact q.elim
|some z=>obtain⟨d,y⟩:=z;rw[n]at q;refine⟨G1,a,dx,M,w,B,u,`s,j.ok,t.ob,J,d,y,n,fun v G' H' o dk E=>?_⟩;have p:=t.call hb o dk;exact q v G' H' (bO.trans j.ge o.ge) p.grown p.ob E
def mB(fa:DW->FE)(fl:D->aJ->Res (List D))(F:gN):de:=fun r w=>km (fa w r) fun d=>match d with
|.bl true=>jF fl F r w
|.bl false=>.rt (.bl false) w
|_=>.stuck
theorem Vw(hq:∀g' w,iy X g' i C w->SE X g' m a (E w))(c:CalleeO X.prog X.w X.K X.mg X.base fn ps k C ms F)(hr:Room k X.A)(hb:Nb g m i)(hN:X.N[i]? = some x)(hv:eJ X.env.scope x)(ha:∀g' h,fV X g' i C h->gL X g' m (e::es) ms (fl h))(hg:!Gl X fn)(hd:!!Nq x)(Z:!!Nc x)(Y:!!Nq fn)(U:!E_ (.Name x px::e::es) X.env=(false,eval (.Name x px) X.env)::E_ (e::es) X.env)(p:!Bx X cpos (e::es)):iY X g i C m (.Return (some (.BoolOp .And [a,.Call (.Name fn pn) (.Name x px::e::es) [] cpos] bpos)) pos) (mB E fl F) m:=by
 obtain⟨f,fd,h1,T,bd,fo⟩:=c.ex;have hA:PA X _ (fun b H Q=>∃g' h,fV X g' i C h/\nP X g' m ms _ b H Q):=fun pos o s b H Q I e=>(by obtain⟨g',h,k,z⟩:=e;exact ha g' h k pos o s b H Q I z);have hQ:PE X a (fun b H Q=>∃g' w,iy X g' i C w/\tE X g' m _ b H Q):=fun o s b H Q I g=>(by obtain⟨g',w,k,z⟩:=g;exact hq g' w k o s b H Q I z);refine PS.imp (rJ (FC hQ (E3 (qb fo hr hg h1 T bd .nil jU (gR (eL hN hv hd Z) hA U) Y U p)))) fun D b H K=>?_;obtain⟨a,dx,R,r,w,G,s,q⟩:=K;refine⟨_,w,s.ob.heldAt,r,G,s.toH,bQ (ke q) fun d q v L H0 j l=>?_⟩;have s0:=s.after (s.toH.grow j) s.mi;split at q
 .have:=RG.bl j.ok l;subst this;refine⟨true,rfl,?_⟩;refine⟨_,s0.me,_,w.1,s0.kept,r,L,s0.toH,bQ (ke q) fun J q O G1 H1 n P=>?_⟩;have B:=s0.after (s0.toH.grow n) s0.mi;cases t:F w J with
 |none=>rw[t]at q;exact q.elim
 |some z=>obtain⟨d,M⟩:=z;rw[t]at q;refine⟨G1,a,dx,R,w,O,J,`s,n.ok,B.ob,P,d,M,t,fun v G' H' u dk l=>?_⟩;have y:=B.call hb u dk;exact q v G' H' (bO.trans j.ge (bO.trans n.ge u.ge)) y.grown y.ob l
 .have:=RG.bl j.ok l;subst this;refine⟨false,rfl,?_⟩;exact q _ L H0 j.ge s0.grown s0.ob (.scl (.bl false))
 .exact q.elim
def mM(fl:D->aJ->Res (List D))(F:gN)(fl2:D->aJ->Res (List D))(F2:gN):de:=fun r w=>km (fl w.1 r) fun ds=>match F w ds with
|some (.bl true,w')=>kC fl2 F2 r w'
|some (.bl false,w')=>.rt (.bl false) w'
|_=>.stuck
theorem UI{kk:Nat}(c:CalleeO X.prog X.w X.K X.mg X.base fn ps k C ms F)(hr:Room k X.A)(c2:CalleeO X.prog X.w X.K X.mg X.base fn2 ps2 k2 C ms2 F2)(ST:Room k2 X.A)(hb:Nb g m i)(hN:X.N[i]? = some x)(T:eJ X.env.scope x)(ha:∀g' h,fV X g' i C h->gL X g' m (e::es) ms (fl h))(Wp:∀g' h,fV X g' i C h->gL X g' m (n::es2) ms2 (fl2 h))(hg:!Gl X fn)(Tm:!Gl X fn2)(hd:!!Nq x)(Id:!!Nc x)(Wo:!!Nq fn)(KK:!!Nq fn2)(Cl:!E_ (.Name x px::e::es) X.env=(false,eval (.Name x px) X.env)::E_ (e::es) X.env)(E:!Bx X cpos (e::es))(he:!!!!∀b,isTrue (.Call (.Name fn pn) (.Name x px::e::es) [] cpos) X.env b=(do let v <-b;YU (Expr.Call (.Name fn pn) (.Name x px::e::es) [] cpos).pos;Ys [v] (î v)))(Z:!E_ (.Name x px2::n::es2) X.env=(false,eval (.Name x px2) X.env)::E_ (n::es2) X.env)(LE:!Bx X cpos2 (n::es2))(Wt:!!!!∀b,isTrue (.Call (.Name fn2 pn2) (.Name x px2::n::es2) [] cpos2) X.env b=(do let v <-b;YU (Expr.Call (.Name fn2 pn2) (.Name x px2::n::es2) [] cpos2).pos;Ys [v] (î v))):iY X g i C m (.If (.BoolOp .Or [.UnaryOp .Not (.Call (.Name fn pn) (.Name x px::e::es) [] cpos) p3,.UnaryOp .Not (.Call (.Name fn2 pn2) (.Name x px2::n::es2) [] cpos2) p4] bpos) [.Return (some (.Constant (.bool false) kk p2)) rpos] [] pos) (mM fl F fl2 F2) m:=by obtain⟨f,fd,h1,kp,bd,fo⟩:=c.ex;obtain⟨f2,Wv,h2,Wm,Wq,Wu⟩:=c2.ex;have hA:PA X _ (fun j H Q=>∃g' h,fV X g' i C h/\nP X g' m ms _ j H Q):=fun pos B s j H Q I n=>(by obtain⟨g',h,k,z⟩:=n;exact ha g' h k pos B s j H Q I z);have Wn:PA X _ (fun j H Q=>∃g' h,fV X g' i C h/\nP X g' m ms2 _ j H Q):=fun pos B s j H Q I b=>(by obtain⟨g',h,k,z⟩:=b;exact Wp g' h k pos B s j H Q I z);refine PS.imp (pE (PW.pt (DV (pU (qe (qb fo hr hg h1 kp bd .nil jU (gR (eL hN T hd Id) hA Cl) Wo Cl E) he)) (E8 (pU (qe (qb Wu ST Tm h2 Wm Wq .nil jU (gR (eL hN T hd Id) Wn Z) KK Z LE) Wt))))) (nK (rJ yY) mh) mh) fun D j H e=>?_;obtain⟨a,dx,P,r,w,G,s,q⟩:=e;refine⟨_,s.me,_,w.1,s.kept,r,G,s.toH,bQ (ke q) fun ds q us G1 H1 p rs=>?_⟩;have M:=s.after (s.toH.grow p) s.mi;cases J:F w ds with
|none=>rw[J]at q;exact q.elim
|some z=>
  obtain⟨d,t⟩:=z;rw[J]at q;refine⟨G1,a,dx,P,w,us,ds,`s,p.ok,M.ob,rs,d,t,J,fun v G' H' o dk O=>?_⟩;have l:=M.call hb o dk;split at q
  .rename_i e1;cases e1;have:=RG.bl o.ok O;subst this;refine⟨true,rfl,?_⟩;show(if (not true)=true then _ else _);refine⟨_,l.me,_,t.1,l.kept,r,G',l.toH,bQ (ke q) fun IO q Ty G2 H2 u Ws=>?_⟩;have L:=l.after (l.toH.grow u) l.mi;cases Y:F2 t IO with
  |none=>rw[Y]at q;exact q.elim
  |some z=>
    obtain⟨d2,w3⟩:=z;rw[Y]at q;refine⟨G2,a,dx,P,t,Ty,IO,`s,u.ok,L.ob,Ws,d2,w3,Y,fun v2 G3 H3 U LT BT=>?_⟩;have y:=L.call hb U LT;have R:=bO.trans p.ge (bO.trans o.ge (bO.trans u.ge U.ge));split at q
    .rename_i e1;cases e1;have:=RG.bl U.ok BT;subst this;refine⟨true,rfl,?_⟩;show(if (not true)=true then _ else _);exact q j G3 H3 R y
    .rename_i e1;cases e1;have:=RG.bl U.ok BT;subst this;refine⟨false,rfl,?_⟩;show(if (not false)=true then _ else _);exact q _ G3 H3 R y.grown y.ob (.scl (.bl false))
    .exact q.elim
  .rename_i e1;cases e1;have:=RG.bl o.ok O;subst this;refine⟨false,rfl,?_⟩;show(if (not false)=true then _ else _);exact q _ G' H' (bO.trans p.ge o.ge) l.grown l.ob (.scl (.bl false))
  .exact q.elim
end
structure Xcl(K:W.Frag)(mg:Str->Option a_)(nm:Str)(C:Addr)(bm:List a_):Prop where
 xc:XC K mg nm C
 xn:XN K nm C
 ob:XO K C bm
 be:bm.contains (Value.type "BaseException")=true
 un:∀C',XN K nm C'->C'=C
section
variable{K:W.Frag}{mg:Str->Option a_}{nm:Str}{C:Addr}{bm:List a_}
theorem Mt(Z:K.In h)(G:h.Ns K_ mg)(a:W.nsIn K K_ nm=some (some (.ref C)))(o:kO K C=some (bm,nm))(Y:bm.contains (Value.type "BaseException")=true)(U:jC K nm C=true)(e:W.excIn K C kP "ValueError.__new__" = true):Xcl K mg nm C bm:=⟨VV Z G a e,(Ek o).2,(Ek o).1,Y,fun _ h=>XN.uniq h U⟩
theorem Xcl.hit(x:Xcl K mg nm C bm):Mu K C fun n=>[nm].contains n:=fun n Z Y U=>by cases A_.mp (X8.mp Y);cases x.un Z U;exact⟨bm,x.ob,`s⟩
theorem Xcl.mis(x:Xcl K mg nm C bm){D:Addr}(h:(Value.ref C::bm).contains (.ref D)=false):qM K D fun n=>[nm].contains n:=fun n Z Y U=>by cases A_.mp (X8.mp Y);cases x.un Z U;exact⟨bm,x.ob,h⟩
end
end DL
section
namespace L2
open PySem PySem.Spec PyProof.Rows
theorem dP(h:(match U.names.lookup x with|some .local=>true|some .cell=>true|_=>false)=true):ju U x:=by
 revert h;unfold ju;split <;> intro h
 .exact .inl (by assumption)
 .exact .inr (by assumption)
 .cases h
theorem cN(h:(match U.names.lookup x with|some .local=>true|some .cell=>true|some .free=>true|_=>false)=true):eJ U x:=by unfold eJ;grind
theorem bF(h:(decide (U.kind=.function) && not U.isCoroutine && not U.isGenerator&&decide N.Nodup&&decide (N.take P.length=P)&&(P.all fun x=>match U.names.lookup x with|some .local=>true|some .cell=>true|_=>false)&&U.names.all fun y=>decide (y.2≠.free))=true:=by decide+kernel):FnScope N P U:=by simp only[P_,Q_i,đ,U_]at h;obtain⟨⟨⟨⟨⟨⟨a,b⟩,c⟩,d⟩,e⟩,f⟩,k⟩:=h;exact⟨a,b,c,d,e,fun x Y=>dP (f x Y),k⟩
end L2
namespace DL
open PySem PySem.Spec PyProof.Rows L2
section
variable{X:Cx}{g:GE}{m mb ms:List Md}{e a b:Expr}{es:List Expr}{f fa fb:FE}{x:Str}{p pos pos':Pos}{ro:Bool}{fl:aJ->Res (List D)}{k:Nat}{ps:List Str}{F:List D->Res D}
theorem bE(h:SE X g m e f):SB X g m e f:=SE.toB h
theorem iB:SB X g m (.Constant (.int i) j pos) fun _=>.ok (.int i):=bE q9
theorem xB(U:X.A.units+1<Y4)(Z:SB X g m a fa)(Y:SB X g m b fb)(hs:rL b:=by intro _ _;rfl):SB X g m (.Subscript a b pos) (f2 fa fb cD):=bE (df U Z Y hs)
theorem bR(i:Nat)(h:X.N.Nodup)(c:SE X g m e f)(hi:!X.N[i]? = some x)(a:ju X.env.scope x:=by exact dP rfl)(hs:!X7 e (some (.Name x pos')) pos.line X.env=pure false)(b:!!!Fx X x):SS X g ro mb m (.Assign [.Name x pos'] e pos) (aP m i f) (m.set i .sh):=by
     have Y:(m.set i .sh).length=m.length:=`s
     refine⟨Y,PS.imp (rK h hi a c hs b) fun D l H ⟨r,G,U,q⟩=>⟨r,G,U,?_⟩⟩;exact bQ (i7 U Y q) fun d q v k j w Z=>q _ k j w.ge ((U.grow w).set i Z)
theorem c9(i:Nat)(Z:X.N.Nodup)(hi:!X.N[i]? = some x)(U:ju X.env.scope x:=by exact dP rfl)(Y:!!!Fx X x):SG X g m (.Name x pos) (bD i) (m.set i .sh):=EX i Z hi U Y
theorem aT(c:Callee X.prog X.w X.K X.mg X.base x ps [] k false ms F)(d:gL X g m (e::es) ms fl)(Z:Room k X.A:=by exact Room.mono ‹_› `d)(a:!Gl X x)(U:!!Nq x)(b:!Sx X e es)(Y:!Bx X pos es):SE X g m (.Call (.Name x p) (e::es) [] pos) (cG fl [] F):=Vn c Z d `s a .nil .nil U b Y
end
theorem bU{K:W.Frag}{st:Stmt}{ro:Bool}{ms:List Md}{fs:FS}{m':List Md}(A:DefAt K c x st)(S:FnScope N b (aA st))(U:∀{f:Addr}{Z:a_}{A:N_}{a:List Env}{s:d_}{H:Hp}{g:GE}{E:XK},Room k (A.deeper (YK x (aA st) s.heap.objs.size f Z))->(A.deeper (YK x (aA st) s.heap.objs.size f Z)).units+1<Y4 ->fP (cR fA P w K c base N x (aA st) f Z A a s H E).nox g ro [] (gw N.length ms) (aO st) fs m')(Y:!ms.length=b.length)(j:∀(kV d h:a_)(m:Option Addr)(Z l:a_)(us:List a_),us.length=b.length->Y5 (W.fnOf x x (aW st) (aO st) (aA st) .none kV d h m Z l) ⟨us,[]⟩=pure (b.zip us):=by intro _ _ _ _ _ _ us i;rcases us with _|⟨_,_|⟨_,_|⟨_,_|⟨_,_|⟨_,_|⟨_,_|⟨_,_⟩⟩⟩⟩⟩⟩⟩ <;> first|(exfalso;revert i;simp;done)|kernel_rfl):Callee P w K c base x b [] (k+1) ro ms fun ds=>bV ro (fs (cH N.length ds)):=MT A S Y j fun f Z A a s H g E e=>U e (gq e)
end DL
end
namespace DL
open PySem PySem.Spec PyProof.Rows L2
section
variable{X:Cx}{g:GE}{m mb:List Md}{elt iter tg:Expr}{ifs:List Expr}{fi:FI}{q:FQ}{fe:FE}{scope:Ze}{pos pos' spos:Pos}{ro:Bool}{y:Str}
theorem yF(h:N'.Nodup):(eG X s0 a N' U Z C Y).N.Nodup:=h
theorem iK(N':List Str)(cap:List Nat)(d:X.N.Nodup)(hi:g9 X g m tg iter fi)(e:∀{s0 a Z C Y g'},SE (eG X s0 a N' scope Z C Y) g' (bX 1 cap m) elt fe)(hq:∀{s0 a Z C Y g'},lN (eG X s0 a N' scope Z C Y) g' (bX 1 cap m) ifs q:=by exact rB)(U:!X.calm=true)(b:rX X.env.scope X.N scope N' 1 cap=true:=by kernel_rfl)(c:∀s0 a Z C Y g',SG (eG X s0 a N' scope Z C Y) g' (bX 1 cap m) tg (bD 0) (bX 1 cap m):=by exact fun _ _ _ _ _ _=>c9 0 (yF `k))(hs:!!!!Ix X iter):SO X g m (.ListComp elt [⟨tg,iter,ifs,0⟩] scope pos) (dE 1 cap fi (bD 0) q fe):=zH d U (sv rfl rfl b) hi c (oq `d) `o `o hs
theorem tV(N':List Str)(cap:List Nat)(d:X.N.Nodup)(hi:g9 X g m tg iter fi)(e:∀{s0 a Z C Y g'},SE (eG X s0 a N' scope Z C Y) g' (bX 2 cap m) elt fe)(hq:∀{s0 a Z C Y g'},lN (eG X s0 a N' scope Z C Y) g' (bX 2 cap m) ifs q:=by exact rB)(U:!X.calm=true)(b:rX X.env.scope X.N scope N' 2 cap=true:=by kernel_rfl)(c:∀s0 a Z C Y g',SG (eG X s0 a N' scope Z C Y) g' (bX 2 cap m) tg (gI (dg (bD 0) (dg (bD 1) gz))) (bX 2 cap m):=by exact fun _ _ _ _ _ _=>jQ rfl (fE (c9 0 (yF `k)) (fE (c9 1 (yF `k)) jY)))(hs:!!!!Ix X iter):SO X g m (.ListComp elt [⟨tg,iter,ifs,0⟩] scope pos) (dE 2 cap fi (gI (dg (bD 0) (dg (bD 1) gz))) q fe):=zH d U (sv rfl rfl b) hi c (EW (w9 (oq `d) (w9 (oq `d) HR))) `o `o hs
theorem sc1(i:Nat)(N':List Str)(cap:List Nat)(h:X.N.Nodup)(hi:g9 X g m tg iter fi)(j:∀{s0 c b C a g'},SE (eG X s0 c N' scope b C a) g' (bX 1 cap m) elt fe)(hq:∀{s0 c b C a g'},lN (eG X s0 c N' scope b C a) g' (bX 1 cap m) ifs q:=by exact rB)(U:!X.calm=true)(e:!X.N[i]? = some y)(Y:!X.env.scope.names.lookup y=some .local)(d:rX X.env.scope X.N scope N' 1 cap=true:=by kernel_rfl)(f:∀s0 c b C a g',SG (eG X s0 c N' scope b C a) g' (bX 1 cap m) tg (bD 0) (bX 1 cap m):=by exact fun _ _ _ _ _ _=>c9 0 (yF `k))(Z:!X7 (.ListComp elt [⟨tg,iter,ifs,0⟩] scope pos) (some (.Name y pos')) spos.line X.env=pure true)(hs:!!!!Ix X iter):SS X g ro mb m (.Assign [.Name y pos'] (.ListComp elt [⟨tg,iter,ifs,0⟩] scope pos) spos) (aP m i (dE 1 cap fi (bD 0) q fe)) (m.set i .ow):=Ru i h U e Y (sv rfl rfl d) hi f (oq `d) `o `o Z hs
end
end DL
section
namespace Rg
theorem lG{Y:Type}[DecidableEq Y]:∀{l m:List Y},l.Nodup->(∀x∈l,x∈m)->l.length<=m.length
|[],_,_,_=>XY _
|a::l,m,Z,c=>by
  have U:=Yt.mp Z;have d:=lG (m:=m.erase a) U.2 fun x b=>by grind
  grind
theorem xM{U:Type}(p:U->Bool)(l:List U):(l.filter p).length+(l.filter fun x=>not (p x)).length=l.length:=by induction l with
|nil=>rfl
|cons a l Y=>grind
theorem sM{U:Type}{p:U->Bool}{l:List U}(h:l.Nodup):(l.filter p).Nodup:=List.Pairwise.filter p h
structure S where
 line:List Nat
 things:List Nat
section
variable(W:Nat->List Nat)(O:Nat->Option Nat)
noncomputable def best(row things:List Nat):Nat:=(row.find? fun x=>decide (x∈things)).getD 0
def eR(s:S)(h:Nat):Nat:=best (W h) s.things
noncomputable def pt(s:S)(x:Nat):Nat:=(s.line.find? fun h=>decide (O h=some x)).getD (s.line.headD 0)
def nxt(s:S)(h:Nat):Nat:=pt O s (eR W s h)
def minus(s:S)(C:List Nat):S:=⟨s.line.filter fun h=>decide (h∉C),s.things.filter fun x=>decide (x∉C.map (eR W s))⟩
noncomputable def it{α:Type}(f:α->α):Nat->α->α
|0,x=>x
|n+1,x=>it f n (f x)
theorem j6(f:U->U):∀(a b:Nat)(x:U),it f (a+b) x=it f b (it f a x)
|0,b,x=>by rw[Đ];rfl
|a+1,b,x=>by rw[Nat.add_right_comm];exact j6 f a b _
theorem kH(f:U->U)(n:Nat)(x:U):it f (n+1) x=f (it f n x):=j6 f n 1 x
theorem zP(f:U->U)(h:it f p x=x):∀k,it f (p*k) x=x
|0=>rfl
|k+1=>by rw[Nat.mul_succ,j6,zP f h k,h]
structure Ok(s:S):Prop where
 nl:s.line.Nodup
 nt:s.things.Nodup
 le:s.line.length<=s.things.length
 row:∀h∈s.line,∀x∈s.things,x∈W h
 inj:∀h k x,O h=some x->O k=some x->h=k
 own:∀h∈s.line,∀x,O h=some x->x∈s.things
structure Cyc(s:S)(C:List Nat):Prop where
 sub:∀h∈C,h∈s.line
 cl:∀h∈C,nxt W O s h∈C
 per:∀h∈C,∃k,it (nxt W O s) (k+1) h=h
variable{W O}
theorem E2(h:∃x∈Y,x∈U):best Y U∈U:=by unfold best;cases e:Y.find? fun x=>decide (x∈U)with
|none=>grind
|some x=>grind
theorem AX(hs:∀x∈t',x∈U)(b:best Y U∈t')(a:best Y U∈Y):best Y t'=best Y U:=by unfold best at *;cases e:Y.find? fun x=>decide (x∈U)with
|none=>grind
|some x=>
  obtain⟨Z,f,d,rfl,c⟩:=List.find?_eq_some_iff_append.mp e
  grind
theorem Pw(h:∃x∈Y,x∈U):best Y U∈Y:=by unfold best;cases e:Y.find? fun x=>decide (x∈U)with
|none=>grind
|some x=>grind
variable{s:S}
theorem Ok.some_thing(k:Ok W O s)(Y:h∈s.line):∃x∈W h,x∈s.things:=by have a:=Yv Y;have Z:=y_ a k.le;obtain⟨x,U⟩:=List.exists_mem_of_length_pos Z;exact⟨x,k.row h Y x U,U⟩
theorem Ok.tgt_mem(k:Ok W O s)(U:h∈s.line):eR W s h∈s.things:=E2 (k.some_thing U)
theorem Ok.tgt_row(k:Ok W O s)(U:h∈s.line):eR W s h∈W h:=Pw (k.some_thing U)
theorem M8(h:s.line≠[]):pt O s x∈s.line:=by unfold pt;cases e:s.line.find? fun h=>decide (O h=some x)with
|none=>cases q:s.line with
 |nil=>exact Q_f q h
 |cons a l=>simp[List.headD]
|some y=>grind
theorem vW(k:Ok W O s)(Y:h∈s.line)(U:O h=some x):pt O s x=h:=by unfold pt;cases e:s.line.find? fun h=>decide (O h=some x)with
|none=>grind
|some y=>have:=Z1 e;simp  at this;exact k.inj y h x this U
theorem oi(U:s.line≠[]):nxt W O s h∈s.line:=M8 U
theorem Cyc.it_mem(c:Cyc W O s C)(U:h∈C):∀n,it (nxt W O s) n h∈C:=by
 intro n
 induction n generalizing h with
|zero=>exact U
|succ n Y=>exact Y (c.cl h U)
theorem Pm{x y:U}(d:it f (a+1) x=x)(c:it f (b+1) y=y)(e:f x=f y):x=y:=by
 have Z:=zP f d (b+1);have Y:=zP f c (a+1);rw[Ď]at Y;have g:(a+1)*(b+1)=1+(a*b+a+b):=by rw[Nat.add_mul,Nat.mul_add];omega
 rw[g,j6]at Z Y;have h:it f 1 x=it f 1 y:=e;rw[h]at Z;rw[<-Z,Y]
theorem Cyc.out(c:Cyc W O s C)(e:Cyc W O s E)(Z:h∈C)(Y:h∉E):nxt W O s h∉E:=by intro z;obtain⟨k,U⟩:=c.per h Z;exact Y (by rw[<-U];exact e.it_mem z k)
theorem GU(c:Cyc W O s C)(e:Cyc W O s E)(Y:h∈C)(U:k∈E)(q:eR W s h=eR W s k):h=k:=by obtain⟨a,d⟩:=c.per h Y;obtain⟨b,Z⟩:=e.per k U;exact Pm d Z (by unfold nxt;rw[q])
theorem se(k:Ok W O s)(c:Cyc W O s C)(e:Cyc W O s E)(Y:h∈E)(d:h∉C):eR W (minus W s C) h=eR W s h:=by
 have U:=e.sub h Y;refine AX (fun x Z=>(o_.mp Z).1) ?_ (k.tgt_row U);refine o_.mpr ⟨k.tgt_mem U,?_⟩;simp only[Q_i];intro z;obtain⟨f,b,a⟩:=k_.mp z;have:=GU c e b Y a
 grind
theorem SR:∀{l:List Nat}{a:Nat},l.headD 0=a->l≠[]->p a=true->(l.filter p).headD 0=a
|[],_,_,h,_=>Q_f rfl h
|b::l,a,e,_,U=>by grind
theorem IF(k:Ok W O s)(c:Cyc W O s C)(e:Cyc W O s E)(Z:h∈E)(d:h∉C):nxt W O (minus W s C) h=nxt W O s h:=by unfold nxt;rw[se k c e Z d];have g:=e.sub h Z;have U:=XR g;have b:pt O s _∉C:=e.out c Z d;unfold pt at *;show((s.line.filter fun h=>decide _).find? _).getD _=_;cases q:s.line.find? fun k=>decide (O k=some _)with
|none=>rw[q]at b;have:(s.line.filter fun h=>decide (h∉C)).find? _=none:=List.find?_eq_none.mpr fun y Y=>List.find?_eq_none.mp q y (o_.mp Y).1;rw[this];exact SR rfl U (by simpa using b)
|some y=>have Y:=Z1 q;simp  at Y;cases f:(s.line.filter fun h=>decide (h∉C)).find? _ with
 |none=>grind
 |some z=>have a:=Z1 f;simp  at a;exact k.inj z y _ a Y
theorem pZ(k:Ok W O s)(c:Cyc W O s C):Ok W O (minus W s C) where
 nl:=sM k.nl
 nt:=sM k.nt
 le:=by
  have Y:=xM (fun h=>decide (h∉C)) s.line;have Z:=xM (fun x=>decide (x∉C.map (eR W s))) s.things;have d:(s.things.filter fun x=>not (decide (x∉C.map (eR W s)))).length<=((s.line.filter fun h=>not (decide (h∉C))).map (eR W s)).length:=by refine lG (sM k.nt) fun x U=>?_;obtain⟨_,U⟩:=o_.mp U;simp only[decide_not,ŏ,Q_i]at U;obtain⟨h,Y,Z⟩:=k_.mp U;exact k_.mpr ⟨h,o_.mpr ⟨c.sub h Y,by simpa using Y⟩,Z⟩
  rw[i_]at d;have:=k.le;show(s.line.filter _).length<=(s.things.filter _).length;omega
 row:=fun h a x U=>k.row h (o_.mp a).1 x (o_.mp U).1
 inj:=k.inj
 own:=fun h a x U=>by obtain⟨Y,Z⟩:=o_.mp a;simp  at Z;refine o_.mpr ⟨k.own h Y x U,?_⟩;simp only[Q_i];intro z;obtain⟨b,f,e⟩:=k_.mp z;have:=c.cl b f;unfold nxt at this;rw[e,vW k Y U]at this;exact Z this
noncomputable def less(E C:List Nat):List Nat:=E.filter fun h=>decide (h∉C)
theorem kN:h∈less E C↔h∈E/\h∉C:=by simp[less,List.mem_filter]
theorem HZ(k:Ok W O s)(c:Cyc W O s C)(e:Cyc W O s E):Cyc W O (minus W s C) (less E C):=by
 have a:∀n h,h∈less E C->it (nxt W O (minus W s C)) n h=it (nxt W O s) n h:=by
  intro n
  induction n with
 |zero=>intro h _;rfl
 |succ n b=>intro h Z;obtain⟨U,Y⟩:=kN.mp Z;show it _ n _=it _ n _;rw[IF k c e U Y];exact b _ (kN.mpr ⟨e.cl h U,e.out c U Y⟩)
 refine⟨fun h Z=>?_,fun h Z=>?_,fun h Z=>?_⟩
 .obtain⟨U,Y⟩:=kN.mp Z;exact o_.mpr ⟨e.sub h U,by simpa using Y⟩
 .obtain⟨U,Y⟩:=kN.mp Z;rw[IF k c e U Y];exact kN.mpr ⟨e.cl h U,e.out c U Y⟩
 .obtain⟨U,Y⟩:=kN.mp Z;obtain⟨n,d⟩:=e.per h U
  grind
theorem w6{l:List Nat}(h:∀x∈l,p x=q x):l.filter p=l.filter q:=by induction l with
|nil=>rfl
|cons a l U=>grind
theorem Kj(k:Ok W O s)(c:Cyc W O s C)(e:Cyc W O s E):minus W (minus W s C) (less E C)=minus W s (C++E):=by
 have f:(minus W (minus W s C) (less E C)).line=(minus W s (C++E)).line:=by show((s.line.filter _).filter _)=s.line.filter _;rw[Ă];refine w6 fun x _=>?_;by_cases Z:x∈C <;> by_cases Y:x∈E <;> simp[kN,Z,Y]
 have d:(minus W (minus W s C) (less E C)).things=(minus W s (C++E)).things:=by
  show((s.things.filter _).filter _)=s.things.filter _;rw[Ă];refine w6 fun x _=>?_;have U:x∈(less E C).map (eR W (minus W s C))↔∃h,h∈E/\h∉C/\eR W s h=x:=by
   rw[k_];constructor
   .rintro⟨h,hh,q⟩
    obtain⟨a,b⟩:=kN.mp hh;exact⟨h,a,b,by rw[<-q,se k c e a b]⟩
   .rintro⟨h,a,b,q⟩
    exact⟨h,kN.mpr ⟨a,b⟩,by rw[se k c e a b];exact q⟩
  grind
 cases i:minus W _ _;cases g:minus W s _
 grind
theorem Su(k:Ok W O s)(c:Cyc W O s C)(e:Cyc W O s E):minus W (minus W s C) (less E C)=minus W (minus W s E) (less C E):=by
 rw[Kj k c e,Kj k e c];unfold minus
 grind
inductive TTC(W:Nat->List Nat)(O:Nat->Option Nat)(a:Nat->Nat):S->Prop where
 |nil {s:S}:s.line=[]->TTC W O a s
 |step {s:S} (C:List Nat):Cyc W O s C->(∀h∈C,a h=eR W s h)->TTC W O a (minus W s C)->TTC W O a s
theorem MD(t:TTC W O a s):∀(k:Ok W O s){E:List Nat},Cyc W O s E->TTC W O a (minus W s E)/\∀h∈E,a h=eR W s h:=by induction t with
|nil f=>
  intro k E e;refine⟨.nil (by unfold minus;rw[f];rfl),fun h U=>?_⟩;have:=e.sub h U
  grind
|step C c Y t Z=>
  intro k E e;obtain⟨d,b⟩:=Z (pZ k c) (HZ k c e);refine⟨.step _ (HZ k e c) (fun h U=>?_) (by rw[<-Su k c e];exact d),fun h U=>?_⟩
  .obtain⟨z1,z2⟩:=kN.mp U;rw[se k e c z1 z2];exact Y h z1
  .by_cases hc:h∈C
   .exact Y h hc
   .rw[b h (kN.mpr ⟨U,hc⟩),se k c e U hc]
end
end Rg
end
section
namespace Rg
section
variable{W:Nat->List Nat}{O:Nat->Option Nat}{s:S}{a:Nat->Nat}
theorem uV(t:TTC W O a s)(k:Ok W O s):∀h∈s.line,a h∈s.things:=by induction t with
|nil d=>grind
|step C c b t Z=>
  intro h U;by_cases Y:h∈C
  .rw[b h Y];exact k.tgt_mem U
  .exact(o_.mp (Z (pZ k c) h (o_.mpr ⟨U,by simpa using Y⟩))).1
theorem VT(t:TTC W O a s)(k:Ok W O s):∀h∈s.line,∀l∈s.line,a h=a l->h=l:=by induction t with
|nil i=>grind
|@step s C c b t f=>
  intro h Z l g e;have d:=pZ k c;have rest:∀h∈s.line,h∉C->h∈(minus W s C).line:=fun h Z Y=>o_.mpr ⟨Z,by simpa using Y⟩;have U:=fun h Z Y=>by have:=(o_.mp (uV t d h (rest h Z Y))).2;simpa using this
  by_cases Y:h∈C
  .by_cases lc:l∈C
   .rw[b h Y,b l lc]at e;exact GU c c Y lc e
   grind
  grind
theorem E5{l:List Nat}(Y:∀h∈l,f h∈l)(c:x∈l):∃i j,i<j/\j<=l.length/\it f i x=it f j x:=by
 have a:∀i,it f i x∈l:=by
  intro i
  induction i with
 |zero=>exact c
 |succ i b=>rw[kH];exact Y _ b
 by_cases Z:((j_ (l.length+1)).map fun i=>it f i x).Nodup
 .have:=lG Z (m:=l) fun y d=>by grind
  grind
 .apply Zo;intro h;apply Z;rw[Ĩ]at *;rw[ĸ];refine ũ (fun k g U e=>?_) List.pairwise_lt_range;exact h ⟨_,_,U,`g,e⟩
theorem D7{P:Nat->Prop}:(∃n,P n)->∃n,P n/\∀k,k<n->¬ P k:=by
 rintro⟨n,Y⟩
 induction n using Nat.strongRecOn with
|_ n U=>grind
theorem z9(f:U->U)(a b:Nat)(x:U):it f a (it f b x)=it f b (it f a x):=by rw[<-j6,<-j6,Nat.add_comm]
theorem Sn{l:List Nat}(a:∀h∈l,f h∈l)(Y:l≠[]):∃z p,z∈l/\0<p/\p<=l.length/\it f p z=z/\∀i,0<i->i<p->z<it f i z:=by
 have b:∀x∈l,∀i,it f i x∈l:=by
  intro x d i
  induction i with
 |zero=>exact d
 |succ i s=>rw[kH];exact a _ s
 obtain⟨x,d⟩:=YL l Y;obtain⟨i,j,n,_,e⟩:=E5 a d;obtain⟨z,⟨g,k,t⟩,U⟩:=D7 (P:=fun z=>z∈l/\∃k,it f (k+1) z=z) ⟨it f i x,b x d i,j-i-1,by rw[<-j6,show i+(j-i-1+1)=j by omega];exact e.symm⟩;obtain⟨p,m,Z⟩:=D7 (P:=fun p=>it f (p+1) z=z) ⟨k,t⟩;have u:∀i,z<=it f i z:=fun i=>by have:=U (it f i z);apply Zo;intro h;exact this `o ⟨b z g i,p,by rw[z9,m]⟩
 have o:∀i,0<i->i<p+1->it f i z≠z:=fun i c r q=>Z (i-1) `o (by rw[show i-1+1=i by omega];exact q);refine⟨z,p+1,g,Nat.succ_pos _,?_,m,fun i c r=>by have:=u i;have:=o i c r;omega⟩;obtain⟨i,j,n,v,e⟩:=E5 a g;apply Zo;intro h;have:it f (p+1-j+i) z=z:=by
  have c:it f (p+1-j) (it f j z)=z:=by rw[<-j6,show j+(p+1-j)=p+1 by omega];exact m
  rw[<-e,<-j6]at c;rw[Nat.add_comm];exact c
 exact o _ `o `o this
noncomputable def jP(f:Nat->Nat)(n first:Nat):Nat->List Nat->Nat->Option (List Nat)
|0,_,_=>none
|k+1,ring,hand=>if first<hand/\ring.length<n then jP f n first k (ring++[hand]) (f hand)else if hand=first then some ring else none
def nZ(f:Nat->Nat)(n first:Nat):Option (List Nat):=jP f n first (n+1) [first] (f first)
def dJ(f:Nat->Nat)(x n:Nat):List Nat:=(j_ n).map fun i=>it f i x
theorem wQ(f:Nat->Nat)(x n:Nat):dJ f x (n+1)=dJ f x n++[it f n x]:=by unfold dJ;rw[ć,XT];rfl
theorem rS(f:Nat->Nat)(x n:Nat):(dJ f x n).length=n:=by simp[dJ]
theorem R3:∀{k i:Nat}{r:List Nat},jP f n U k (dJ f U i) (it f i U)=some r->∃j,i<=j/\r=dJ f U j/\it f j U=U:=by
 intro k
 induction k with
|zero=>intro i r h;cases h
|succ k Y=>
  intro i r h;unfold jP at h;split at h
  .rw[<-wQ,<-kH f]at h
   grind
  grind
theorem Ka(h:nZ f n U=some r):∃j,0<j/\r=dJ f U j/\it f j U=U:=by
 have Y:jP f n U _ (dJ f U 1) _=some r:=h
 obtain⟨j,a,Z⟩:=R3 Y
 grind
theorem Tx(e:p<=n)(U:it f p z=z)(b:∀i,0<i->i<p->z<it f i z):∀{k i:Nat},0<i->i<=p->p<k+i->jP f n z k (dJ f z i) (it f i z)=some (dJ f z p):=by
 intro k
 induction k with
|zero=>intro i Y d c;omega
|succ k Z=>
  intro i Y d c;unfold jP;by_cases a:i=p
  .subst a;rw[Q_e (by rw[U];omega),Q_d U]
  .rw[Q_d ⟨b i Y `o,by rw[rS];omega⟩,<-wQ,<-kH f];exact Z `o `o `o
def jv(W:Nat->List Nat)(O:Nat->Option Nat)(s:S):List (List Nat):=s.line.filterMap fun h=>nZ (nxt W O s) s.line.length h
theorem G9(g:∀h,h∈C->∃r∈jv W O s,h∈r)(U:∀r∈jv W O s,∀h∈r,h∈C):Cyc W O s C:=by
 have Z:∀r∈jv W O s,∃x j,x∈s.line/\0<j/\r=dJ (nxt W O s) x j/\it (nxt W O s) j x=x:=fun r Y=>by obtain⟨x,a,o⟩:=XU.mp Y;obtain⟨j,n,m,l⟩:=Ka o;exact⟨x,j,a,n,m,l⟩
 have k:∀x∈s.line,∀i,it (nxt W O s) i x∈s.line:=by
  intro x b i
  induction i with
 |zero=>exact b
 |succ i p=>rw[kH];exact oi (XR b)
 refine⟨fun h c=>?_,fun h c=>?_,fun h c=>?_⟩
 .obtain⟨r,Y,a⟩:=g h c;obtain⟨x,j,b,e,rfl,d⟩:=Z r Y;obtain⟨i,_,rfl⟩:=k_.mp a;exact k x b i
 .obtain⟨r,Y,a⟩:=g h c;obtain⟨x,j,b,e,rfl,d⟩:=Z r Y;obtain⟨i,f,rfl⟩:=k_.mp a;have f:=u_.mp f;refine U _ Y _ ?_;rw[<-kH (nxt W O s)];by_cases q:i+1=j
  .rw[q,d];exact k_.mpr ⟨0,u_.mpr e,rfl⟩
  .exact k_.mpr ⟨i+1,u_.mpr `o,rfl⟩
 .obtain⟨r,Y,a⟩:=g h c;obtain⟨x,j,b,e,rfl,d⟩:=Z r Y;obtain⟨i,f,rfl⟩:=k_.mp a;exact⟨j-1,by rw[show j-1+1=j by omega,z9,d]⟩
def gG(W:Nat->List Nat)(O:Nat->Option Nat)(s:S):List Nat:=(jv W O s).flatten
theorem HU:Cyc W O s (gG W O s):=G9 (fun h U=>YA.mp U) (fun r Y h U=>YA.mpr ⟨r,Y,U⟩)
theorem G6(h:nZ f n x=some r):r≠[]:=by
 obtain⟨j,U,rfl,_⟩:=Ka h;have:=rS f x j
 grind
theorem FX(U:s.line≠[]):gG W O s≠[]:=by
 have h:jv W O s≠[]:=by obtain⟨z,p,d,Y,c,b,a⟩:=Sn (fun h e=>oi U) U;exact XR (XU.mpr ⟨z,d,(by exact Tx c b a `o Y `o)⟩)
 cases q:jv W O s with
|nil=>exact Q_f q h
|cons r t=>
  have Z:r∈jv W O s:=by rw[q];exact g_
  obtain⟨x,_,Y⟩:=XU.mp Z;unfold gG;rw[q,List.flatten_cons];intro z;exact G6 Y (List.append_eq_nil_iff.mp z).1
theorem QM(U:s.line≠[]):(minus W s (gG W O s)).line.length<s.line.length:=by have h:=FX (W:=W) (O:=O) U;obtain⟨x,Z⟩:=YL _ h;have Y:=(HU).sub x Z;have:=xM (fun h=>decide (h∉gG W O s)) s.line;have a:0<(s.line.filter fun h=>not (decide (h∉gG W O s))).length:=Yv (o_.mpr ⟨Y,by simpa using Z⟩);show(s.line.filter _).length<_;omega
def deal(W:Nat->List Nat)(O:Nat->Option Nat):Nat->S->Nat->Nat
|0,_,_=>0
|n+1,s,h=>if h∈gG W O s then eR W s h else deal W O n (minus W s (gG W O s)) h
theorem Rz(t:TTC W O a s):(∀h∈s.line,b h=a h)->TTC W O b s:=by induction t with
|nil d=>exact fun _=>.nil d
|@step s C c Z t Y=>exact fun e=>.step C c (fun h U=>by rw[e h (c.sub h U)];exact Z h U) (Y fun h U=>e h (o_.mp U).1)
theorem MC:∀(n:Nat)(s:S),s.line.length<n->TTC W O (deal W O n s) s:=by
 intro n
 induction n with
|zero=>omega
|succ n Z=>
  intro s h;by_cases Y:s.line=[]
  .exact .nil Y
  .have hlt:=QM (W:=W) (O:=O) Y;refine .step _ HU (fun h U=>?_) (Rz (Z _ `o) fun h U=>?_)
   .show(if h∈gG W O s then _ else _)=_;rw[Q_d U]
   .have:=(o_.mp U).2;simp  at this;show(if h∈gG W O s then _ else _)=_;rw[Q_e this]
end
end Rg
end
section
namespace Rg
section
variable{W W':Nat->List Nat}{O:Nat->Option Nat}{s:S}{a b:Nat->Nat}
theorem Ot(Y:x∈s.line)(c:0<j)(a:it (nxt W O s) j x=x):Cyc W O s (dJ (nxt W O s) x j):=by
 have b:∀i,it (nxt W O s) i x∈s.line:=by
  intro i
  induction i with
 |zero=>exact Y
 |succ i d=>rw[kH];exact oi (XR Y)
 refine⟨fun h U=>?_,fun h U=>?_,fun h U=>?_⟩ <;> obtain⟨i,Z,rfl⟩:=k_.mp U
 .exact b i
 .have Z:=u_.mp Z;rw[<-kH (nxt W O s)];by_cases q:i+1=j
  .rw[q,a];exact k_.mpr ⟨0,u_.mpr c,rfl⟩
  .exact k_.mpr ⟨i+1,u_.mpr `o,rfl⟩
 .exact⟨j-1,by rw[show j-1+1=j by omega,z9,a]⟩
theorem AM{l:List Nat}(Y:l.Nodup):l.erase h=l.filter fun x=>decide (x≠h):=by induction l with
|nil=>rfl
|cons b l U=>
  by_cases q:b=h
  .subst q;rw[List.erase_cons_head,ą,Q_e `s];symm;rw[Zs]
   grind
  grind
theorem z7:∀{C l:List Nat},l.Nodup->C.foldl (fun l h=>l.erase h) l=l.filter fun x=>decide (x∉C)
|[],l,_=>by symm;simp[Zs]
|h::C,l,U=>by
  rw[ZB,z7 `g,AM U,Ă]
  grind
noncomputable def lP(f:Nat->Nat):Nat->List Nat->Nat->List Nat×Nat
|0,path,here=>(path,here)
|n+1,path,here=>if here∈path then(path,here)else lP f n (path++[here]) (f here)
theorem NL{l:List Nat}(Z:∀h∈l,f h∈l)(c:x∈l):∀(n i:Nat),(dJ f x i).Nodup->l.length<n+i->∃k,(dJ f x k).Nodup/\it f k x∈dJ f x k/\lP f n (dJ f x i) (it f i x)=(dJ f x k,it f k x):=by
 have U:∀i,it f i x∈l:=by
  intro i
  induction i with
 |zero=>exact c
 |succ i Y=>rw[kH];exact Z _ Y
 intro n
 induction n with
|zero=>
  intro i a d;have:=lG a fun y b=>by obtain⟨j,_,rfl⟩:=k_.mp b;exact U j
  rw[rS]at this;omega
|succ n Y=>
  intro i a d;unfold lP;by_cases q:it f i x∈dJ f x i
  .grind
  .rw[Q_e q,<-wQ,<-kH f];refine Y _ ?_ `o;rw[wQ]
   grind
theorem Qq(f:Nat->Nat)(x:Nat):∀(k i:Nat),i<=k->(dJ f x k).drop i=dJ f (it f i x) (k-i):=by
 intro k i h;refine ă fun j=>?_;unfold dJ;rw[Ym,H_,H_];by_cases U:i+j<k
 .rw[Zq U,Zq `o];simp;rw[j6]
 grind
theorem M0(Y:x∈s.line)(f:(dJ (nxt W O s) x k).Nodup)(Z:it (nxt W O s) k x∈dJ (nxt W O s) x k):Cyc W O s ((dJ (nxt W O s) x k).drop ((dJ (nxt W O s) x k).idxOf (it (nxt W O s) k x)))/\(dJ (nxt W O s) x k).drop ((dJ (nxt W O s) x k).idxOf (it (nxt W O s) k x))≠[]:=by
 have c:=Yd Z;generalize b:(dJ _ x k).idxOf _=i at *;rw[rS]at c;have e:=by have a:=List.getElem_idxOf (Yd Z);simp only[b]at a;simpa[dJ]using a
 rw[Qq _ _ _ _ `o];have U:∀i,it (nxt W O s) i x∈s.line:=by
  intro i
  induction i with
 |zero=>exact Y
 |succ i d=>rw[kH];exact oi (XR Y)
 refine⟨Ot (U i) `o (by rw[<-j6,show i+(k-i)=k by omega,e]),fun z=>?_⟩;have:=rS (nxt W O s) (it (nxt W O s) i x) (k-i)
 grind
end
end Rg
end
section
namespace Rg
section
variable(W:Nat->List Nat)(d:Nat->Nat)
def pr:List Nat->List Nat->Prop
|[],_=>True
|h::l,T=>best (W h) T=d h/\pr l (T.erase (d h))
def jD:List Nat->List Nat->Nat->Nat
|[],_=>fun _=>0
|h::l,T=>fun x=>if x=h then best (W h) T else jD l (T.erase (best (W h) T)) x
variable{W d}
theorem Ju:∀{o T:List Nat},(∀x∈o,d x=d' x)->pr W d o T->pr W d' o T
|[],_,_,_=>trivial
|h::l,T,e,s=>by have U:=e h g_;exact⟨by rw[<-U];exact s.1,by rw[<-U];exact Ju (fun x Y=>e x (h_ _ Y)) s.2⟩
theorem yT:∀(o T:List Nat),o.Nodup->pr W (jD W o T) o T
|[],_,_=>trivial
|h::l,T,Y=>by
  have U:=Yt.mp Y;have e:jD W (h::l) T h=best (W h) T:=by simp[jD]
  refine⟨e.symm,?_⟩;refine Ju (fun x Z=>?_) (yT l _ U.2);have:x≠h:=`g
  simp[jD,this]
end
end Rg
end
section
namespace Rg
end Rg
end
section
namespace Rg
section
variable{W:Nat->List Nat}{O:Nat->Option Nat}{s:S}{a:Nat->Nat}
structure Chain(W:Nat->List Nat)(O:Nat->Option Nat)(s:S)(A:List Nat):Prop where
 nd:A.Nodup
 sub:∀h∈A,h∈s.line
 nx:∀(i:Nat) h l,A[i]? = some h->A[i+1]? = some l->O l=some (eR W s h)
theorem Vq:Chain W O s []:=⟨List.nodup_nil,fun _ h=>(nomatch h),fun i h l e=>by simp at e⟩
theorem Vr(U:s.line≠[]):Chain W O s [s.line.headD 0]:=by refine⟨`s,fun h Y=>?_,fun i h l a Z=>by simp at Z⟩;have:=A_.mp Y;cases e:s.line with
|nil=>exact Q_f e U
|cons b t=>grind
variable{A:List Nat}
theorem Chain.at(c:Chain W O s A){i h:Nat}(e:A[i]? = some h):h∈A:=Yq e
theorem Chain.nxt(c:Chain W O s A)(k:Ok W O s)(Y:A[i]? = some h)(U:A[i+1]? = some l):Rg.nxt W O s h=l:=vW k (c.sub l (c.at U)) (c.nx i h l Y U)
theorem Chain.walk(c:Chain W O s A)(k:Ok W O s):∀(t:Nat){j h l:Nat},A[j]? = some h->A[j+t]? = some l->it (Rg.nxt W O s) t h=l
|0,j,h,l,Y,U=>by rw[Nat.add_zero,Y]at U;exact Q_ U
|t+1,j,h,l,Y,U=>by have a:j+(t+1)<A.length:=(e_.mp U).1;have Z:A[j+1]? = some A[j+1]:=m_ `o;show it _ t (Rg.nxt W O s h)=l;rw[c.nxt k Y Z];exact c.walk k t Z `g
theorem xh(Y:h∈A.drop i):∃j,i<=j/\A[j]? = some h:=by obtain⟨j,U⟩:=Yr Y;rw[Ym]at U;exact⟨i+j,`o,U⟩
theorem A4(U:i<=j)(e:A[j]? = some h):h∈A.drop i:=by refine Yq (i:=j-i) ?_;rw[Ym,show i+(j-i)=j by omega];exact e
theorem Chain.cyc(c:Chain W O s A)(k:Ok W O s)(a:A[A.length-1]? = some z)(Z:A[i]? = some f)(e:Rg.nxt W O s z=f):Cyc W O s (A.drop i):=by
 have U:i<A.length:=(e_.mp Z).1;refine⟨fun h Y=>c.sub h (ZV Y),fun h Y=>?_,fun h Y=>?_⟩
 .obtain⟨j,h1,h2⟩:=xh Y;have g:j<A.length:=(e_.mp h2).1;by_cases q:j+1<A.length
  .have e3:A[j+1]? = some A[j+1]:=m_ q;rw[c.nxt k h2 e3];exact A4 `o e3
  .have:j=A.length-1:=`o
   subst this;rw[a]at h2;cases h2;rw[e];exact A4 (l_ _) Z
 .obtain⟨j,h1,h2⟩:=xh Y;have g:j<A.length:=(e_.mp h2).1;refine⟨A.length-i-1,?_⟩;have d:=c.walk k (A.length-1-j) h2 (l:=z) (by rw[show j+(A.length-1-j)=A.length-1 by omega];exact a);have b:=c.walk k (j-i) Z (l:=h) (by rw[show i+(j-i)=j by omega];exact h2);rw[show A.length-i-1+1=(A.length-1-j)+((j-i)+1)by omega,j6,d];show it _ (j-i) (Rg.nxt W O s z)=h;rw[e];exact b
theorem Chain.apart(c:Chain W O s A){i j h l:Nat}(g:A[i]? = some h)(f:A[j]? = some l)(e:h=l):i=j:=by
 subst e;have d:=(e_.mp g)
 have b:=(e_.mp f)
 obtain⟨a,Y⟩:=d;obtain⟨Z,U⟩:=b;have:=List.pairwise_iff_getElem.mp c.nd;rcases Nat.lt_trichotomy i j with z|z|z
 .exact Q_f (Y.trans U.symm) (this i j a Z z)
 .exact z
 .exact Q_f (U.trans Y.symm) (this j i Z a z)
theorem Chain.take(c:Chain W O s A)(i:Nat)(d:∀(j:Nat) h,j<i->A[j]? = some h->h∈Z.line)(a:∀(j:Nat) h l,j+1<i->A[j]? = some h->A[j+1]? = some l->eR W Z h=eR W s h):Chain W O Z (A.take i):=by
 refine⟨c.nd.sublist (ķ _ _),fun h b=>?_,fun j h l Y U=>?_⟩
 .obtain⟨j,hj⟩:=Yr b
  grind
 .rw[Ķ]at Y U;split at Y
  .split at U
   .rename_i q1 q2;rw[a j h l q2 Y U];exact c.nx j h l Y U
   .cases U
  .cases Y
theorem MB(k:Ok W O s)(c:Chain W O s A)(o:A[A.length-1]? = some z)(b:A[i]? = some f)(r:O f=some (eR W s z)):Ok W O (minus W s (A.drop i))/\Chain W O (minus W s (A.drop i)) (A.take i):=by
 have g:=c.cyc k o b (vW k (c.sub f (c.at b)) r);have U:∀(j:Nat) h,j<i->A[j]? = some h->h∉A.drop i:=fun j h Y e q=>by obtain⟨v,w,t⟩:=xh q;have:=c.apart e t rfl;omega
 refine⟨pZ k g,c.take i (fun j h Y e=>o_.mpr ⟨c.sub h (c.at e),`g⟩) (fun j h l Y d Z=>?_)⟩;have a:=c.sub h (c.at d);refine AX (fun x p=>(o_.mp p).1) (o_.mpr ⟨k.tgt_mem a,?_⟩) (k.tgt_row a);simp only[Q_i];intro q;obtain⟨u,n,m⟩:=k_.mp q;have:Rg.nxt W O s u=l:=vW k (c.sub l (c.at Z)) (by rw[c.nx j h l d Z];exact Q_g some m.symm);exact U _ l Y Z (this▸g.cl u n)
theorem VW(k:Ok W O s)(c:Chain W O s A)(f:A[A.length-1]? = some z)(m:∀h∈s.line,O h≠some (eR W s z)):Ok W O (minus W s [z])/\Chain W O (minus W s [z]) (A.take (A.length-1)):=by
 have U:=c.sub z (c.at f);have i:Ok W O (minus W s [z]):=by
  refine⟨sM k.nl,sM k.nt,?_,fun h Z x a=>k.row h (o_.mp Z).1 x (o_.mp a).1,k.inj,fun h Z x a=>?_⟩
  .have e1:(minus W s [z]).line=s.line.erase z:=by rw[AM k.nl];exact w6 fun x _=>by simp
   have b:(minus W s [z]).things=s.things.erase (eR W s z):=by rw[AM k.nt];exact w6 fun x _=>by simp
   rw[e1,b,Ĭ U,Ĭ (k.tgt_mem U)];have:=k.le;omega
  .have hl:=(o_.mp Z).1;refine o_.mpr ⟨k.own h hl x a,?_⟩
   grind
 have Y:∀(j:Nat) h,j<A.length-1->A[j]? = some h->h≠z:=fun j h d e q=>by have:=c.apart e f q;omega
 have g:∀(j:Nat) h,j<A.length-1->A[j]? = some h->eR W (minus W s [z]) h=eR W s h:=fun j h d e1=>by have Z:=c.sub h (c.at e1);have b:A[j+1]? = some A[j+1]:=m_ _;refine AX (fun x a=>(o_.mp a).1) (o_.mpr ⟨k.tgt_mem Z,?_⟩) (k.tgt_row Z);simp;intro q;exact m _ (c.sub _ (c.at b)) (by rw[c.nx j h _ e1 b];exact Q_g some q)
 have n:Chain W O (minus W s [z]) (A.take (A.length-1)):=by exact c.take _ (fun j h d e=>o_.mpr ⟨c.sub h (c.at e),`g⟩) (fun j h l d e1 b=>g j h `o e1)
 exact⟨i,n⟩
theorem Vm(c:Chain W O s A)(a:A[A.length-1]? = some z)(f:l∈s.line)(e:l∉A)(g:O l=some (eR W s z)):Chain W O s (A++[l]):=by
 refine⟨Ĺ.mpr ⟨c.nd,`s,fun x d y b=>by grind⟩,fun h Z=>?_,fun i h m Y U=>?_⟩
 .rcases X9.mp Z with q|q
  .exact c.sub h q
  grind
 .by_cases q:i+1<A.length
  .rw[J_ `o]at Y U;exact c.nx i h m Y U
  grind
end
end Rg
end
section
namespace Fq
theorem HS(a:Int)(b:Nat):æ a b=æ b (a%(b:Int)):=by
 refine Nat.dvd_antisymm (Int.dvd_gcd (Zc _ _) ?_) (Int.dvd_gcd ?_ (ė _ _))
 .rw[Int.emod_def];exact Int.dvd_sub (ė _ _) (Ś (Zc a b) (ř _ _))
 .have h:=Int.mul_ediv_add_emod a b;rw[<-h];exact Int.dvd_add (Ś (ė _ _) (ř _ _)) (by rw[h];exact Zc _ _)
theorem FV(t:Int){b:Nat}(h:0<b):0<æ t b:=Nat.pos_of_ne_zero fun z=>by simp_all
noncomputable def low(t:Int)(b:Nat):Int×Nat:=(t/(æ t b:Int),b/æ t b)
structure Bd(k:Nat)(a:Int×Nat):Prop where
 pos:0<a.2
 bot:a.2<2^k
 top:a.1.natAbs<2^k
theorem Bd.low(h:0<b)(U:b<2^k)(Y:t.natAbs<2^k):Bd k (low t b):=⟨(by have U:=ŗ.mp (Zc t b);exact Nat.div_pos (ō h U) (FV t h)),ċ ((fun t b=>Nat.div_le_self _ _) t b) U,ċ ((fun t b=>Int.natAbs_ediv_le_natAbs _ _) t b) Y⟩
end Fq
end
section
namespace Rg
end Rg
namespace Fq
def W(N:Nat)(a:Int×Nat)(S:Nat):Prop:=0<a.2/\a.1*(N:Int)=(S:Int)*(a.2:Int)
end Fq
end
namespace Law
open PySem PySem.Spec PyProof.Rows L2 DL
abbrev gv(i:Nat):DL.FE:=fun r=>DL.gH r i
noncomputable abbrev ci(i:Int):DL.FE:=fun _=>.ok (.int i)
noncomputable abbrev q0:List DL.Md:=[.bw,.bw]
noncomputable abbrev cV:List DL.Md:=[.bw,.sh]
noncomputable abbrev dU:List DL.Md:=[.sh,.sh]
noncomputable abbrev dS:List DL.Md:=[.sh,.bw]
noncomputable abbrev eh:List DL.Md:=[.sh,.sh,.sh,.sh,.sh,.sh,.sh,.sh,.sh,.sh,.sh,.sh]
noncomputable abbrev fJ:List DL.Md:=[.bw,.bw,.sh,.sh]
noncomputable abbrev fI:List DL.Md:=[.bw,.bw,.bw,.ow,.ow,.ow,.sh,.ow,.sh,.sh]
noncomputable abbrev fZ:List DL.Md:=[.bw,.bw,.ow,.sh,.sh]
noncomputable abbrev gF:List DL.Md:=[.bw,.bw,.bw,.sh,.sh,.ow,.ow,.sh,.sh,.sh]
noncomputable abbrev gE:List DL.Md:=[.bw,.sh,.sh,.sh,.sh,.sh,.sh,.sh,.sh,.sh,.sh,.sh]
noncomputable abbrev gY:List DL.Md:=[.sh,.sh,.sh]
noncomputable abbrev iJ:List DL.Md:=[.sh,.bw,.bw,.ow,.sh,.sh]
noncomputable abbrev jK:List DL.Md:=[.bw,.bw,.sh]
noncomputable abbrev jJ:List DL.Md:=[.bw,.bw,.bw]
noncomputable abbrev jI:List DL.Md:=[.bw,.bw,.bw,.bw,.bw,.sh,.sh,.sh]
noncomputable abbrev li:List DL.Md:=[.bw,.bw,.bw,.sh,.sh,.ow,.sh,.sh,.sh]
noncomputable abbrev lf:List DL.Md:=[.bw,.sh,.sh]
noncomputable abbrev k9:List DL.Md:=[.sh,.bw,.ow,.sh]
noncomputable abbrev mK:List DL.Md:=[.bw,.bw,.bw,.sh]
noncomputable abbrev mJ:List DL.Md:=[.sh,.bw,.bw,.ow,.sh]
noncomputable abbrev mI:List DL.Md:=[.bw,.bw,.sh,.sh,.sh,.sh,.sh]
noncomputable abbrev mH:List DL.Md:=[.bw,.bw,.bw,.ow,.ow,.ow,.sh,.sh,.sh,.sh]
noncomputable abbrev mG:List DL.Md:=[.sh,.sh,.ow,.sh,.sh,.ow,.sh]
noncomputable abbrev mE:List DL.Md:=[.sh,.sh,.sh,.sh,.sh,.sh,.sh,.sh,.sh,.sh,.ow,.sh]
noncomputable abbrev o9:List DL.Md:=[.bw,.sh,.sh,.sh,.sh]
noncomputable abbrev o8:List DL.Md:=[.bw,.bw,.ow,.ow,.sh]
noncomputable abbrev o7:List DL.Md:=[.bw,.sh,.sh,.ow,.sh,.sh]
noncomputable abbrev o6:List DL.Md:=[.bw,.sh,.sh,.sh,.sh,.sh]
noncomputable abbrev o5:List DL.Md:=[.sh,.sh,.sh,.ow,.sh]
noncomputable abbrev tR:List DL.Md:=[.bw,.bw,.bw,.ow,.sh,.ow,.ow,.sh,.sh,.sh]
noncomputable abbrev tM:List DL.Md:=[.bw,.bw,.bw,.bw,.ow,.ow,.sh,.sh]
noncomputable abbrev tK:List DL.Md:=[.bw,.bw,.bw,.ow,.ow,.ow,.sh,.sh,.sh]
noncomputable abbrev tJ:List DL.Md:=[.bw,.bw,.bw,.bw,.bw,.bw,.sh,.bw,.sh,.sh]
theorem eV{X:Cx}{g:GE}{m:List Md}{a:Expr}{i:Str}{j}{p q r:Pos}{f:FE}(h:SB X g m a f)(e:E_ [a] X.env=[(false,eval a X.env)])(z:(q.endLine==r.line)=true):SE X g m (.Call (.Attribute (.Constant (.str i) j p) "join" q) [a] [] r) (fM "str" (fun _=>.ok (.str i)) (aI f aE) lF):=d7 PySem.F.plainAttrs_str PySem.F.slot_str_join PySem.F.type_str_join GD GL (bE cX) (bB h bC e) `r (by rw[e];rfl) z e `r
theorem fH{m mb:List Md}{ro:Bool}{p q r t:Pos}(i:Nat)(Y:m[i]? = some .ow)(U:eJ X.env.scope x)(h:SE X g m e f)(Z:!X.N[i]? = some x)(a:!!Nq x)(b:!!Nc x)(c:!XH (.Name x p) "append" X.env (eval (.Name x p) X.env)=eval (.Name x p) X.env)(d:!E_ [e] X.env=[(false,eval e X.env)])(z:!(q.endLine==r.line)=true):SS X g ro mb m (.Expr (.Call (.Attribute (.Name x p) "append" q) [e] [] r) t) (c6 "list" m i (aI f aE) appD) m:=oh i Y PySem.F.plainAttrs_list PySem.F.slot_list_append PySem.F.type_list_append xg EK Z U (bN h cI d) a b c (by rw[d];rfl) z d `r
theorem qO{U:Type}(us:List U)(h:us.length=1):∃Y,us=[Y]:=by match us,h with
|[_],_=>exact⟨_,rfl⟩
theorem jn{U:Type}(us:List U)(h:us.length=2):∃Z Y,us=[Z,Y]:=by match us,h with
|[_,_],_=>exact⟨_,_,rfl⟩
theorem qP{U:Type}(us:List U)(h:us.length=3):∃a Z Y,us=[a,Z,Y]:=by match us,h with
|[_,_,_],_=>exact⟨_,_,_,rfl⟩
theorem U0{U:Type}(us:List U)(h:us.length=4):∃b a Z Y,us=[b,a,Z,Y]:=by match us,h with
|[_,_,_,_],_=>exact⟨_,_,_,_,rfl⟩
noncomputable def top(i:Nat):Stmt:=PySem.Challenge.pw_ringtrade_k47_undone_in_order.main.body.getD i (.Pass ⟨0,0,0,0⟩)
noncomputable def Sk:Str->Bool:=fun nm=>(["NoDeed"]:List Str).contains nm
noncomputable def JR:Str->Bool:=fun nm=>(["NoLine"]:List Str).contains nm
noncomputable def mn:Str->Bool:=fun nm=>(["Kept"]:List Str).contains nm
noncomputable def pR:Str->Bool:=fun nm=>(["Kept"]:List Str).contains nm
noncomputable def wb:Str->Bool:=fun nm=>(["Kept"]:List Str).contains nm
noncomputable def ze:Str->Bool:=fun nm=>(["Desk"]:List Str).contains nm
noncomputable def zf:Str->Bool:=fun nm=>(["Desk"]:List Str).contains nm
abbrev yv:Stmt:=top 84
abbrev oj:Stmt:=wD (top 108) 0
abbrev yu:Stmt:=top 139
structure Txt(K:W.Frag)(mg:Str->Option a_):Prop where
 a:mg "len" = none
 j:mg "isinstance" = none
 r:mg "bool" = none
 o:mg "int" = none
 m:mg "enumerate" = none
 d:mg "tuple" = none
 e:mg "list" = none
 c:mg "range" = none
 k:mg "zip" = none
 s:mg "all" = none
 g:mg "str" = none
 q:mg "min" = none
 t:mg "sorted" = none
 u:mg "abs" = none
 v:mg "set" = none
 w:∃t,mg "MOST_HANDS" = some (.int 7 t)
 x:∃t,mg "MOST_THINGS" = some (.int 8 t)
 h:∃t,mg "LETTERS" = some (.str "ABCDEFGH" t)
 y:∃t,mg "FIGURES" = some (.str "0123456" t)
 z:∃t,mg "MOST_HANDS_IN_LOTS" = some (.int 5 t)
 c1:∃a,mg "NOUGHT" = some (.ref a)/\KC K a (.tup [.int 0,.int 1])
 c2:∃a,mg "ONE" = some (.ref a)/\KC K a (.tup [.int 1,.int 1])
 aa:DefAt K mg "refuse_too_many_rows" (top 19)
 ab:DefAt K mg "is_whole" (top 14)
 ac:DefAt K mg "is_below" (top 15)
 ad:DefAt K mg "first_wrong" (top 16)
 ae:DefAt K mg "are_unlike" (top 17)
 af:DefAt K mg "has_each_once" (top 18)
 ag:DefAt K mg "wishes_of" (top 20)
 ah:DefAt K mg "things_in" (top 21)
 ai:DefAt K mg "owns_of" (top 24)
 aj:DefAtD K mg "order_of" (top 25) [Value.none]
 ak:DefAt K mg "word_text" (top 28)
 al:DefAt K mg "row_text" (top 29)
 am:DefAt K mg "rows_text" (top 30)
 an:DefAt K mg "is_starred" (top 31)
 ao:DefAt K mg "letter_in" (top 32)
 ap:DefAt K mg "is_word" (top 33)
 aq:DefAt K mg "is_part" (top 34)
 ar:DefAt K mg "row_in" (top 35)
 as:DefAt K mg "own_in" (top 36)
 au:DefAt K mg "rows_read" (top 37)
 av:DefAt K mg "things_text" (top 39)
 aw:DefAt K mg "pair_text" (top 40)
 ax:DefAt K mg "ring_text" (top 41)
 ay:DefAt K mg "round_text" (top 42)
 az:DefAt K mg "rounds_text" (top 43)
 a0:DefAt K mg "deed_text" (top 44)
 a1:DefAt K mg "deeds_text" (top 45)
 a2:DefAt K mg "share_text" (top 47)
 a3:DefAt K mg "shares_text" (top 48)
 a4:DefAt K mg "best_left" (top 50)
 a5:DefAt K mg "owner_left" (top 51)
 a6:DefAt K mg "ones_behind" (top 52)
 a7:DefAt K mg "got_in" (top 53)
 a8:DefAt K mg "dealing_of" (top 54)
 a9:DefAt K mg "ring_of_askers" (top 56)
 ba:DefAt K mg "next_deed" (top 57)
 bb:DefAt K mg "pairs_of" (top 58)
 bc:DefAtD K mg "asked" (top 59) [Value.none]
 bd:DefAt K mg "hand_pointed_at" (top 96)
 be:DefAt K mg "ring_from" (top 97)
 bf:DefAt K mg "rings_of_round" (top 98)
 bg:DefAtD K mg "rounds" (top 99) [Value.none]
 bh:DefAtD K mg "by_rings" (top 100) [Value.none]
 bi:DefAtD K mg "by_order" (top 93) [Value.none]
 bj:DefAt K mg "greatest_divisor" (top 63)
 bk:DefAt K mg "fraction" (top 64)
 c3:DefAt K mg "plus" (top 65)
 bl:DefAt K mg "refuse_too_many_for_lots" (top 103)
 bm:DefAt K mg "all_orders" (top 104)
 bn:DefAt K mg "shares_in" (top 105)
 bo:DefAt K mg "lot" (top 106)
 bp:DefAt K mg "refuse_unless" (top 80)
 bq:DefAt K mg "refuse_unless" (top 80)
 br:DefAt K mg "words_in" (top 81)
 bs:DefAt K mg "text_in" (top 82)
 bt:DefAt K mg "number_in" (top 83)
 bu:DefAt K mg "number_in" (top 83)
 bv:DefAt K mg "numbers_in" (top 84)
 bw:DefAt K mg "numbers_in" yv
 bx:DefAt K mg "unlike_in" (top 85)
 bz:DefAt K mg "unlike_in" (top 85)
 b0:DefAt K mg "figures_of" (top 86)
 b1:DefAt K mg "letters_of" (top 87)
 b2:DefAt K mg "hand_in" (top 88)
 b3:DefAt K mg "hand_in" (top 88)
 b4:DefAt K mg "hand_and_thing_in" (top 89)
 b5:DefAt K mg "hand_and_thing_in" (top 89)
 b6:DefAt K mg "order_in" (top 90)
 b7:DefAt K mg "order_in" (top 90)
 i:io K "order" wb
 f:io K "owns" pR
 b:io K "wishes" mn
 b8:MakeAt K mg "Kept" "Kept" "Kept.__init__" oj
 b9:DefAt K mg "kept_of_text" (top 109)
 ca:DefAt K mg "after_rows" (top 110)
 cb:DefAt K mg "with_own" (top 111)
 cc:DefAt K mg "after_own" (top 112)
 cd:DefAt K mg "after_own" (top 112)
 ce:DefAt K mg "after_none" (top 113)
 cf:DefAt K mg "after_order" (top 114)
 cg:DefAt K mg "answer_rings" (top 115)
 ch:DefAt K mg "answer_asks" (top 116)
 ci:DefAt K mg "answer_deal" (top 117)
 cj:DefAt K mg "answer_by" (top 118)
 ck:DefAt K mg "answer_by" (top 118)
 cl:DefAt K mg "answer_lot" (top 120)
 cm:DefAt K mg "answer_lot" (top 120)
 cn:DefAt K mg "_law_cell" (top 126)
 co:DefAt K mg "_law_wide" (top 127)
 cp:DefAt K mg "_law_row" (top 128)
 cq:DefAt K mg "_law_owns" (top 129)
 cr:DefAt K mg "_law_best" (top 130)
 cs:DefAt K mg "_law_rings_dealt" (top 131)
 ct:DefAt K mg "_law_text" (top 132)
 cu:DefAt K mg "_law_small" (top 133)
 cv:DefAt K mg "_law_change" (top 134)
 cw:DefAt K mg "_law_order" (top 135)
 cx:DefAt K mg "_law_letters" (top 137)
 l:io K "kept" ze
 n:io K "past" zf
 cy:DefAt K mg "_law_heard" (top 136)
 cz:DefAt K mg "_law_refused" (top 138)
 c0:DefAt K mg "_law_between" yu
 p:∃CNoLine CNoDeed bNoLine bNoDeed,Xcl K mg "NoLine" CNoLine bNoLine/\Xcl K mg "NoDeed" CNoDeed bNoDeed/\(Value.ref CNoLine::bNoLine).contains (.ref CNoDeed)=false
noncomputable abbrev sT:List Str:=["rows"]
def bP(b:Bool)(N:List Str)(B:FS):List D->Res D:=fun ds=>bV b (B (cH N.length ds))
theorem dy(h:B (cH n ds)=.rt d)(U:!n=N.length):bP b N B ds=.ok d:=by subst U;show bV b (B (cH N.length ds))=_;rw[h];cases b <;> rfl
abbrev UT(nm:Str)(ps:List Str)(n:Nat)(m:List Md)(N:List Str):={B:FS // ∀{P w K mg base} (T:Txt K mg),Callee P w K mg base nm ps [] n false m (bP false N B)}
def yw:UT "refuse_too_many_rows" sT 1 [Md.bw] sT:=⟨_,fun T=>bU (m':=[Md.bw]) T.aa bF fun hr hu1=>(aH (cA (SW.toQ (gD (kW (bE (di `r T.a (bB (aB 0) bC))) iB) (lQ (jH (bE (di `r T.a (bB (aB 0) bC))) (bE (Au `r T.w)))))) (aH kK aN) aN) aN)⟩
def UG:=bP false sT yw.1
noncomputable abbrev Bj:List Str:=["value"]
def xC:UT "is_whole" Bj 1 [Md.bw] Bj:=⟨_,fun T=>bU (m':=[Md.bw]) T.ab bF fun hr hu1=>(aH (bA (nu (qV "int" "int" rfl (OK _) `r T.j `r T.o (aB 0)) (nv (VF (qV "bool" "bool" rfl (QH _) `r T.j `r T.r (aB 0)))))) aN)⟩
def SF:=bP false Bj xC.1
noncomputable abbrev Bi:List Str:=["value","bound"]
def xA:UT "is_below" Bi 2 q0 Bi:=⟨_,fun T=>bU (m':=q0) T.ac bF fun hr hu1=>(aH (bA (nu (aT (xC.2 T) (aF (aB 0) aR)) (nv (P9 VY yX U6 VX iB (aB 0) (aB 1))))) aN)⟩
def xw:=bP false Bi xA.1
noncomputable abbrev K0:List Str:=["numbers","bound","ahead","place","number"]
noncomputable abbrev oP:List Str:=["numbers","bound"]
theorem yg:FnScope K0 oP (aA (top 16)):=bF
abbrev Ly:FS:=(seqF (eM fZ (js (gK (dX (cG (aI (gv 4) (aI (gv 1) aE)) [] xw))) (bY (f2 (gv 4) (gv 2) g6))) (seqF (retF fZ (gv 3)) bI) bI) (seqF (putF fZ 2 (gv 4) (fun _=>Res.ok (D.bl true))) bI))
def Uc:UT "first_wrong" oP 3 q0 K0:=⟨_,fun T=>bU (m':=fZ) T.ad yg fun hr hu1=>(aH (fF 2 yg.nd `r (dP rfl) oz) (aH (vZ x_ rfl (FZ `r T.m (yx 0)) (jQ rfl (fE (c9 3 yg.nd) (fE (c9 4 yg.nd) jY))) (aH (cA (SW.toQ (gD (kt (iS (bE (aT (xA.2 T) (aF (aB 4) (aF (aB 1) aR)))))) (lQ (kY hu1 (aB 4) (aB 2))))) (aH (bA (v_ 3)) aN) aN) (aH (lB 2 hu1 rfl `r (cN rfl) (aB 4) oY) aN))) (aH (bA (di `r T.a (bB (aB 0) bC))) aN)))⟩
def Tf:UT "are_unlike" oP 4 q0 oP:=⟨_,fun T=>bU (m':=q0) T.ae bF fun hr hu1=>have hu64:=hr.units;(aH (bA (eY hu64 (bE (aT (Uc.2 T) (aF (aB 0) (aF (aB 1) aR)))) (bE (di `r T.a (bB (aB 0) bC))))) aN)⟩
def yh:UT "has_each_once" oP 5 q0 oP:=⟨_,fun T=>bU (m':=q0) T.af bF fun hr hu1=>have hu64:=hr.units;(aH (bA (nu (eY hu64 (bE (di `r T.a (bB (aB 0) bC))) (aB 1)) (nv (aT (Tf.2 T) (aF (aB 0) (aF (aB 1) aR)))))) aN)⟩
def Lw:=bP false oP yh.1
noncomputable abbrev BG:List Str:=["rows","things","hand","row"]
theorem sO:FnScope BG sT (aA (top 20)):=bF
abbrev TR:FS:=(seqF (eM [.sh,.sh,.sh,.sh] (gK (dX (cG (aI (gv 3) (aI (gv 1) aE)) [] Lw))) (seqF (fun _=>Out.stuck) bI) bI) bI)
def Km:UT "wishes_of" sT 6 [Md.sh] BG:=⟨_,fun T=>bU (m':=[.sh,.sh,.sh,.sh]) T.ag sO fun hr hu1=>(aH (iT (aT (yw.2 T) (aF (aB 0) aR))) (aH (bR 1 sO.nd (di `r T.a (bB (xB hu1 (aB 0) iB) bC))) (aH (cA (SW.toQ (gD (kW (aB 1) (bE (di `r T.a (bB (aB 0) bC)))) (lQ (jH (aB 1) (bE (Au `r T.x)))))) (aH kK aN) aN) (aH (ir x_ rfl (E1 `r T.m (v_ 0)) (jQ rfl (fE (c9 2 sO.nd) (fE (c9 3 sO.nd) jY))) (aH (cA (kt (iS (bE (aT (yh.2 T) (aF (aB 3) (aF (aB 1) aR)))))) (aH kK aN) aN) aN)) (aH (bA (i8 `r T.d (bB (SO.toB (iK ["row"] [] sO.nd (dN (aB 0)) (i8 `r T.d (bB (aB 0) bC)))) bC))) aN)))))⟩
def Tb:=bP false BG Km.1
noncomputable abbrev kj:List Str:=["wishes"]
def oK:UT "things_in" kj 1 [Md.bw] kj:=⟨_,fun T=>bU (m':=[Md.bw]) T.ah bF fun hr hu1=>(aH (bA (di `r T.a (bB (xB hu1 (aB 0) iB) bC))) aN)⟩
def sy:=bP false kj oK.1
noncomputable abbrev Ja:List Str:=["wishes","things","ahead","hand","thing"]
noncomputable abbrev JL:List Str:=["wishes","things"]
theorem xt:FnScope Ja JL (aA (top 24)):=bF
abbrev Tc:FS:=(seqF (eM fZ (bY (f2 (gv 4) (fun _=>Res.ok D.non) mS)) (seqF (eM fZ (js (gK (dX (cG (aI (gv 4) (aI (cG (aI (gv 0) aE) [] sy) aE)) [] xw))) (bY (f2 (gv 4) (gv 2) g6))) (seqF (fun _=>Out.stuck) bI) bI) (seqF (putF fZ 2 (gv 4) (fun _=>Res.ok (D.bl true))) bI)) bI) bI)
def QQ:UT "owns_of" JL 3 q0 Ja:=⟨_,fun T=>bU (m':=fZ) T.ai xt fun hr hu1=>have hu64:=hr.units;(aH (cA (o4 hu64 (bE (di `r T.a (bB (aB 1) bC))) (bE (di `r T.a (bB (aB 0) bC)))) (aH kK aN) aN) (aH (fF 2 xt.nd `r (dP rfl) oz) (aH (vZ x_ rfl (FZ `r T.m (yx 1)) (jQ rfl (fE (c9 3 xt.nd) (fE (c9 4 xt.nd) jY))) (aH (cA (Ex (aB 4) (bE gU)) (aH (cA (SW.toQ (gD (kt (iS (bE (aT (xA.2 T) (aF (aB 4) (aF (bE (aT (oK.2 T) (aF (aB 0) aR))) aR)))))) (lQ (kY hu1 (aB 4) (aB 2))))) (aH kK aN) aN) (aH (lB 2 hu1 rfl `r (cN rfl) (aB 4) oY) aN)) aN) aN)) (aH (bA (i8 `r T.d (bB (aB 1) bC))) aN))))⟩
noncomputable abbrev oH:List Str:=["wishes","order"]
theorem Tz:FnScope oH oH (aA (top 25)):=bF
def qk:UT "order_of" oH 6 q0 oH:=⟨_,fun T=>
 rR (ds:=[]) (k:=5) (m':=q0) T.aj Tz rfl 2 rfl (fun _ _ _ _ _ _ _ us hl=>by obtain⟨u0,u1,rfl⟩:=jn us hl;exact⟨_,rfl,rfl⟩) fun f cdv A outer s H g E hr=>
 have hu1:=gq hr;have hu64:=hr.units
 (aH (cA (mD (aB 1) (bE gU)) (aH (bA (SO.toE (qa rfl `r T.e `r T.c (bB (bE (di `r T.a (bB (aB 0) bC))) bC))))
   aN)
   aN)
   (aH (cA (kt (iS (bE (aT (yh.2 T) (aF (aB 1) (aF (bE (di `r T.a (bB (aB 0) bC))) aR)))))) (aH kK
   aN)
   aN)
   (aH (bA (SO.toE (vU `r T.e (bB (aB 1) bC))))
   aN)))⟩
def xy:=bP false oH qk.1
noncomputable abbrev BH:List Str:=["thing","own","letter"]
noncomputable abbrev KY:List Str:=["thing","own"]
theorem Ky:FnScope BH KY (aA (top 28)):=bF
def Kn:UT "word_text" KY 1 q0 BH:=⟨_,fun T=>bU (m':=jK) T.ak Ky fun hr hu1=>have hu64:=hr.units;(aH (bR 2 Ky.nd (df hu1 (bE (nB `r T.h)) (aB 0))) (aH (bA (lS (cP hu64 (aB 0) (aB 1)) (d5 (aB 2) (bE cX)) (v_ 2))) aN))⟩
def JK:=bP false BH Kn.1
noncomputable abbrev sk:List Str:=["row","own"]
theorem Ke:FnScope sk sk (aA (top 29)):=bF
def J9:UT "row_text" sk 2 q0 sk:=⟨_,fun T=>bU (m':=q0) T.al Ke fun hr hu1=>(aH (bA (@eV _ _ _ _ _ _ _ _ _ _ (SO.toB (iK ["thing","own"] [1] Ke.nd (dN (aB 0)) (aT (Kn.2 T) (aF (aB 0) (aF (aB 1) aR))))) rfl rfl)) aN)⟩
def J3:=bP false sk J9.1
noncomputable abbrev sC:List Str:=["wishes","owns"]
theorem Kw:FnScope sC sC (aA (top 30)):=bF
def BR:UT "rows_text" sC 3 dU sC:=⟨_,fun T=>bU (m':=dU) T.am Kw fun hr hu1=>(aH (bA (@eV _ _ _ _ _ _ _ _ _ _ (SO.toB (tV ["row","own"] [] Kw.nd (iZ.toC (qJ `r T.k (v_ 0) (v_ 1))) (aT (J9.2 T) (aF (aB 0) (aF (aB 1) aR))))) rfl rfl)) aN)⟩
def B5:=bP false sC BR.1
noncomputable abbrev nM:List Str:=["word"]
def sK:UT "is_starred" nM 1 [Md.bw] nM:=⟨_,fun T=>bU (m':=[Md.bw]) T.an bF fun hr hu1=>(aH (bA (d7 PySem.F.plainAttrs_str PySem.F.slot_str_endswith PySem.F.type_str_endswith Oh OE (aB 0) (bB (bE cX) bC))) aN)⟩
def xX:=bP false nM sK.1
def xJ:UT "letter_in" nM 2 [Md.sh] nM:=⟨_,fun T=>bU (m':=[Md.sh]) T.ao bF fun hr hu1=>(aH (bA (lS (iS (bE (aT (sK.2 T) (aF (aB 0) aR)))) (zu (aB 0) ic (ie (bE (zq iB)))) (v_ 0))) aN)⟩
def JI:=bP false nM xJ.1
noncomputable abbrev A3:List Str:=["word","letter"]
theorem JY:FnScope A3 nM (aA (top 33)):=bF
def IH:UT "is_word" nM 3 [Md.sh] A3:=⟨_,fun T=>bU (m':=dU) T.ap JY fun hr hu1=>have hu64:=hr.units;(aH (bR 1 JY.nd (aT (xJ.2 T) (aQ (v_ 0) aR))) (aH (bA (nu (eY hu64 (bE (di `r T.a (bB (aB 1) bC))) iB) (nv (oX hu1 (aB 1) (bE (nB `r T.h)))))) aN))⟩
def Q6:=bP false A3 IH.1
noncomputable abbrev A0:List Str:=["words","starred"]
noncomputable abbrev ki:List Str:=["words"]
theorem Bv:FnScope A0 ki (aA (top 34)):=bF
def IG:UT "is_part" ki 4 [Md.bw] A0:=⟨_,fun T=>bU (m':=[.bw,.ow]) T.aq Bv fun hr hu1=>(aH (sc1 1 ["word"] [] Bv.nd (dN (aB 0)) (v_ 0) (hq:=(nz (iS (bE (aT (sK.2 T) (aF (aB 0) aR))))))) (aH (bA (nu (Dj (bE (di `r T.a (bB (aB 1) bC))) iB) (nv (VC rfl `r T.s (bB (SO.toB (iK ["word"] [] Bv.nd (dN (aB 0)) (aT (IH.2 T) (aQ (v_ 0) aR)))) bC))))) aN))⟩
def IX:=bP false A0 IG.1
theorem Jt:FnScope ki ki (aA (top 35)):=bF
def Ip:UT "row_in" ki 3 [Md.bw] ki:=⟨_,fun T=>bU (m':=[Md.bw]) T.ar Jt fun hr hu1=>(aH (bA (SO.toE (iK ["word"] [] Jt.nd (dN (aB 0)) (d7 PySem.F.plainAttrs_str PySem.F.slot_str_index PySem.F.type_str_index Ab Aw (bE (nB `r T.h)) (bB (bE (aT (xJ.2 T) (aQ (v_ 0) aR))) bC))))) aN)⟩
def PR:=bP false ki Ip.1
noncomputable abbrev AA:List Str:=["words","word"]
theorem Js:FnScope AA ki (aA (top 36)):=bF
abbrev xz:FS:=(seqF (eM cV (dX (cG (aI (gv 1) aE) [] xX)) (seqF (retF cV (fM "str" (fun _=>Res.ok (D.str "ABCDEFGH")) (aI (cG (aI (gv 1) aE) [] JI) aE) qY)) bI) bI) bI)
def Io:UT "own_in" ki 3 [Md.bw] AA:=⟨_,fun T=>bU (m':=cV) T.as Js fun hr hu1=>(aH (v4 x_ rfl (dN (aB 0)) (fun _=>(c9 1 Js.nd)) (fun _=>(aH (cA (iS (bE (aT (sK.2 T) (aF (aB 1) aR)))) (aH (bA (d7 PySem.F.plainAttrs_str PySem.F.slot_str_index PySem.F.type_str_index Ab Aw (bE (nB `r T.h)) (bB (bE (aT (xJ.2 T) (aQ (v_ 1) aR))) bC))) aN) aN) aN))) (aH (bA gU) aN))⟩
def Ij:=bP false AA Io.1
noncomputable abbrev BE:List Str:=["text","parts","at","words","wishes"]
noncomputable abbrev xQ:List Str:=["text"]
theorem oO:FnScope BE xQ (aA (top 37)):=bF
abbrev TM:FS:=(seqF (eM o9 (gK (dX (cG (aI (gv 3) aE) [] IX))) (seqF (fun _=>Out.stuck) bI) bI) bI)
def BQ:UT "rows_read" xQ 7 [Md.bw] BE:=⟨_,fun T=>bU (m':=o9) T.au oO fun hr hu1=>(aH (cA (kt (iS (bE (qV "str" "str" rfl (Aa _) `r T.j `r T.g (aB 0))))) (aH kK aN) aN) (aH (sc1 1 ["part"] [] oO.nd (dN (bE (d7 PySem.F.plainAttrs_str PySem.F.slot_str_split PySem.F.type_str_split AS AF (aB 0) (bB (bE cX) bC)))) (d7 PySem.F.plainAttrs_str PySem.F.slot_str_split PySem.F.type_str_split AS AF (aB 0) (bB (bE cX) bC))) (aH (q8 1 rfl (ir x_ rfl (E1 `r T.m (v_ 1)) (jQ rfl (fE (c9 2 oO.nd) (fE (c9 3 oO.nd) jY))) (aH (cA (kt (iS (bE (aT (IG.2 T) (aF (aB 3) aR))))) (aH kK aN) aN) aN))) (aH (bR 4 oO.nd (aT (Km.2 T) (aQ (SO.toE (iK ["words"] [] oO.nd (dN (aB 1)) (aT (Ip.2 T) (aF (aB 0) aR)))) aR))) (aH (bA (fQ (bN (v_ 4) (bN (aT (QQ.2 T) (aF (aB 4) (aF (SO.toB (iK ["words"] [] oO.nd (dN (aB 1)) (aT (Io.2 T) (aF (aB 0) aR)))) aR))) cI)))) aN)))))⟩
def S4:=bP false BE BQ.1
noncomputable abbrev sG:List Str:=["things"]
theorem LK:FnScope sG sG (aA (top 39)):=bF
def xU:UT "things_text" sG 1 [Md.bw] sG:=⟨_,fun T=>bU (m':=[Md.bw]) T.av LK fun hr hu1=>(aH (bA (@eV _ _ _ _ _ _ _ _ _ _ (SO.toB (iK ["thing"] [] LK.nd (dN (aB 0)) (df hu1 (bE (nB `r T.h)) (aB 0)))) rfl rfl)) aN)⟩
def Ld:=bP false sG xU.1
noncomputable abbrev Cc:List Str:=["hand","thing","letter"]
noncomputable abbrev Ll:List Str:=["hand","thing"]
theorem Ku:FnScope Cc Ll (aA (top 40)):=bF
def JO:UT "pair_text" Ll 1 q0 Cc:=⟨_,fun T=>bU (m':=jK) T.aw Ku fun hr hu1=>(aH (bR 2 Ku.nd (df hu1 (bE (nB `r T.h)) (aB 1))) (aH (bA (tt (vO (qZ (aB 0)) (D4 (vO (qZ (aB 2)) D3))))) aN))⟩
def JJ:=bP false Cc JO.1
noncomputable abbrev sB:List Str:=["ring"]
theorem Kv:FnScope sB sB (aA (top 41)):=bF
def BP:UT "ring_text" sB 2 [Md.bw] sB:=⟨_,fun T=>bU (m':=[Md.bw]) T.ax Kv fun hr hu1=>(aH (bA (@eV _ _ _ _ _ _ _ _ _ _ (SO.toB (tV ["hand","thing"] [] Kv.nd (dN (aB 0)) (aT (JO.2 T) (aF (aB 0) (aF (aB 1) aR))))) rfl rfl)) aN)⟩
def B4:=bP false sB BP.1
noncomputable abbrev oM:List Str:=["rings"]
theorem Lu:FnScope oM oM (aA (top 42)):=bF
def Cr:UT "round_text" oM 3 [Md.bw] oM:=⟨_,fun T=>bU (m':=[Md.bw]) T.ay Lu fun hr hu1=>(aH (bA (@eV _ _ _ _ _ _ _ _ _ _ (SO.toB (iK ["ring"] [] Lu.nd (dN (aB 0)) (aT (BP.2 T) (aF (aB 0) aR)))) rfl rfl)) aN)⟩
def KJ:=bP false oM Cr.1
noncomputable abbrev xR:List Str:=["told"]
theorem LI:FnScope xR xR (aA (top 43)):=bF
def K4:UT "rounds_text" xR 4 [Md.bw] xR:=⟨_,fun T=>bU (m':=[Md.bw]) T.az LI fun hr hu1=>(aH (bA (@eV _ _ _ _ _ _ _ _ _ _ (SO.toB (iK ["rings"] [] LI.nd (dN (aB 0)) (aT (Cr.2 T) (aF (aB 0) aR)))) rfl rfl)) aN)⟩
noncomputable abbrev Ca:List Str:=["deed","ring"]
noncomputable abbrev sF:List Str:=["deed"]
theorem Kt:FnScope Ca sF (aA (top 44)):=bF
def BN:UT "deed_text" sF 3 [Md.bw] Ca:=⟨_,fun T=>bU (m':=cV) T.a0 Kt fun hr hu1=>have hu64:=hr.units;(aH (bR 1 Kt.nd (lS (cP hu64 (xB hu1 (aB 0) iB) (bE cX)) (df hu1 (aB 0) iB) (fQ (bN (lT (aB 0) (ie iB) ic) cI)))) (aH (bA (d5 (bE (d5 (xB hu1 (aB 0) iB) (bE cX))) (bE (aT (BP.2 T) (aF (aB 1) aR))))) aN))⟩
def JH:=bP false Ca BN.1
noncomputable abbrev xY:List Str:=["deeds"]
theorem Lq:FnScope xY xY (aA (top 45)):=bF
def Tg:UT "deeds_text" xY 4 [Md.bw] xY:=⟨_,fun T=>bU (m':=[Md.bw]) T.a1 Lq fun hr hu1=>(aH (bA (@eV _ _ _ _ _ _ _ _ _ _ (SO.toB (iK ["deed"] [] Lq.nd (dN (aB 0)) (aT (BN.2 T) (aF (aB 0) aR)))) rfl rfl)) aN)⟩
noncomputable abbrev sJ:List Str:=["top","bottom"]
def KR:UT "share_text" sJ 1 q0 sJ:=⟨_,fun T=>bU (m':=q0) T.a2 bF fun hr hu1=>have hu64:=hr.units;(aH (bA (lS (cP hu64 (aB 1) iB) (VD (qZ (aB 0))) (tt (vO (qZ (aB 0)) (D4 (vO (qZ (aB 1)) D3)))))) aN)⟩
def KL:=bP false sJ KR.1
noncomputable abbrev xS:List Str:=["shares"]
theorem LJ:FnScope xS xS (aA (top 48)):=bF
def K5:UT "shares_text" xS 2 [Md.bw] xS:=⟨_,fun T=>bU (m':=[Md.bw]) T.a3 LJ fun hr hu1=>(aH (bA (@eV _ _ _ _ _ _ _ _ _ _ (SO.toB (tV ["top","bottom"] [] LJ.nd (dN (aB 0)) (aT (KR.2 T) (aF (aB 0) (aF (aB 1) aR))))) rfl rfl)) aN)⟩
noncomputable abbrev sA:List Str:=["row","things"]
theorem Ks:FnScope sA sA (aA (top 50)):=bF
def xI:UT "best_left" sA 1 q0 sA:=⟨_,fun T=>bU (m':=q0) T.a4 Ks fun hr hu1=>(aH (bA (df hu1 (SO.toB (iK ["thing","things"] [1] Ks.nd (dN (aB 0)) (v_ 0) (hq:=(nz (kY hu1 (aB 0) (aB 1)))))) iB)) aN)⟩
def qo:=bP false sA xI.1
noncomputable abbrev Ci:List Str:=["owns","line","thing","hand"]
noncomputable abbrev ye:List Str:=["owns","line","thing"]
theorem Ls:FnScope Ci ye (aA (top 51)):=bF
abbrev yl:FS:=(seqF (eM mK (bY (f2 (f2 (gv 0) (gv 3) cD) (gv 2) eqD)) (seqF (retF mK (gv 3)) bI) bI) bI)
def Cq:UT "owner_left" ye 1 jJ Ci:=⟨_,fun T=>bU (m':=mK) T.a5 Ls fun hr hu1=>have hu64:=hr.units;(aH (v4 x_ rfl (dN (aB 1)) (fun _=>(c9 3 Ls.nd)) (fun _=>(aH (cA (cP hu64 (xB hu1 (aB 0) (aB 3)) (aB 2)) (aH (bA (v_ 3)) aN) aN) aN))) (aH (bA gU) aN))⟩
def KI:=bP false Ci Cq.1
noncomputable abbrev Cv:List Str:=["hands"]
def K3:UT "ones_behind" Cv 1 [Md.bw] Cv:=⟨_,fun T=>bU (m':=[Md.bw]) T.a6 bF fun hr hu1=>(aH (bA (vY (bE (lT (aB 0) (ie iB) ic)) (bE (lT (aB 0) ic (ie iB))))) aN)⟩
def TH:=bP false Cv K3.1
noncomputable abbrev Az:List Str:=["rings","got","ring","hand","thing"]
theorem su:FnScope Az oM (aA (top 53)):=bF
abbrev J5:FS:=(seqF (putF [.bw,.ow,.sh,.sh,.sh] 1 (gv 3) (gv 4)) bI)
abbrev SK:FS:=(seqF (jz [.bw,.ow,.sh,.sh,.sh] (cF dh (gv 2)) (gI (dg (bD 3) (dg (bD 4) gz))) J5) bI)
def wM:UT "got_in" oM 1 [Md.bw] Az:=⟨_,fun T=>bU (m':=o9) T.a7 su fun hr hu1=>(aH (fF 1 su.nd `r (dP rfl) oz) (aH (vZ x_ rfl (Fs (yx 0)) (c9 2 su.nd) (aH (ir x_ rfl (n4 (v_ 2)) (jQ rfl (fE (c9 3 su.nd) (fE (c9 4 su.nd) jY))) (aH (lB 1 hu1 rfl `r (cN rfl) (aB 3) (v_ 4)) aN)) aN)) (aH (q8 1 rfl (bA (v_ 1))) aN)))⟩
def wL:=bP false Az wM.1
noncomputable abbrev sI:List Str:=["got"]
theorem Lp:FnScope sI sI (aA (top 54)):=bF
def xZ:UT "dealing_of" sI 1 [Md.bw] sI:=⟨_,fun T=>bU (m':=[Md.bw]) T.a8 Lp fun hr hu1=>(aH (bA (i8 `r T.d (bB (SO.toB (iK ["hand","got"] [0] Lp.nd (iZ.toC (kM `r T.c (bB (bE (di `r T.a (bB (aB 0) bC))) bC))) (df hu1 (aB 1) (aB 0)))) bC))) aN)⟩
def Tq:=bP false sI xZ.1
noncomputable abbrev CQ:List Str:=["owns","askers","turn","hands"]
noncomputable abbrev L9:List Str:=["owns","askers"]
theorem yr:FnScope CQ L9 (aA (top 56)):=bF
def CN:UT "ring_of_askers" L9 2 q0 CQ:=⟨_,fun T=>bU (m':=fJ) T.a9 yr fun hr hu1=>(aH (bR 2 yr.nd (d7 PySem.F.plainAttrs_list PySem.F.slot_list_index PySem.F.type_list_index xj xb (aB 1) (bB (bE (NV rfl `r T.q (bB (aB 1) bC))) bC))) (aH (bR 3 yr.nd (vY (bE (lT (aB 1) (ie (aB 2)) ic)) (bE (lT (aB 1) ic (ie (aB 2)))))) (aH (bA (i8 `r T.d (bB (SO.toB (tV ["hand","behind","owns"] [0] yr.nd (iZ.toC (qJ `r T.k (v_ 3) (aT (K3.2 T) (aF (aB 3) aR)))) (fQ (bN (v_ 0) (bN (df hu1 (aB 2) (aB 1)) cI))))) bC))) aN)))⟩
def Uy:=bP false CQ CN.1
noncomputable abbrev Cb:List Str:=["wishes","owns","line","things","askers","hand","thing","owner"]
noncomputable abbrev Lj:List Str:=["wishes","owns","line","things","askers"]
theorem yb:FnScope Cb Lj (aA (top 57)):=bF
def BO:UT "next_deed" Lj 3 [.bw,.bw,.bw,.bw,.bw] Cb:=⟨_,fun T=>bU (m':=jI) T.ba yb fun hr hu1=>have hu64:=hr.units;(aH (bR 5 yb.nd (df hu1 (aB 4) (bE (zq iB)))) (aH (bR 6 yb.nd (aT (xI.2 T) (aF (xB hu1 (aB 0) (aB 5)) (aF (aB 3) aR)))) (aH (bR 7 yb.nd (aT (Cq.2 T) (aF (aB 1) (aF (aB 2) (aF (aB 6) aR))))) (aH (cA (SW.toQ (gD (mD (aB 7) (bE gU)) (lQ (cP hu64 (aB 7) (aB 5))))) (aH (bA (fQ (bN cX (bN (v_ 5) (bN (v_ 6) cI))))) aN) aN) (aH (cA (n9 hu1 (aB 7) (aB 4)) (aH (bA (fQ (bN cX (bN (v_ 7) (bN (v_ 6) cI))))) aN) aN) (aH (bA (fQ (bN cX (bN (aT (CN.2 T) (aF (aB 1) (aF (bE (lT (aB 4) (ie (bE (d7 PySem.F.plainAttrs_list PySem.F.slot_list_index PySem.F.type_list_index xj xb (aB 4) (bB (aB 7) bC)))) ic)) aR))) cI)))) aN))))))⟩
def qp:=bP false Cb BO.1
def Bq:UT "pairs_of" sF 1 [Md.bw] sF:=⟨_,fun T=>bU (m':=[Md.bw]) T.bb bF fun hr hu1=>have hu64:=hr.units;(aH (cA (cP hu64 (xB hu1 (aB 0) iB) (bE cX)) (aH (bA (fQ cI)) aN) aN) (aH (bA (lS (cP hu64 (xB hu1 (aB 0) iB) (bE cX)) (df hu1 (aB 0) iB) (fQ (bN (lT (aB 0) (ie iB) ic) cI)))) aN))⟩
def JC:=bP false sF Bq.1
noncomputable abbrev Ai:List Str:=["wishes","owns","order","line","things","askers","told","deed","got","taken"]
noncomputable abbrev qi:List Str:=["wishes","owns","order"]
theorem kg:FnScope Ai qi (aA (top 59)):=bF
abbrev QN:FQ:=(dX (gv 3))
abbrev IZ:FS:=(seqF (eM gF (gK (dX (gv 5))) (seqF (aP gF 5 (gT (aI (f2 (gv 3) (ci 0) cD) aE))) bI) bI) (seqF (aP gF 7 (cG (aI (gv 0) (aI (gv 1) (aI (gv 3) (aI (gv 4) (aI (gv 5) aE))))) [] qp)) (seqF (c6 "list" gF 6 (aI (gv 7) aE) appD) (seqF (eM gF (bY (f2 (f2 (gv 7) (ci 0) cD) (fun _=>Res.ok (D.str "ahead")) eqD)) (seqF (c6 "list" gF 5 (aI (f2 (gv 7) (ci 1) cD) aE) appD) bI) bI) (seqF (aP gF 8 (cG (aI (gT (aI (cG (aI (gv 7) aE) [] JC) aE)) aE) [] wL)) (seqF (aP gF 9 (f1 (gv 8) vR)) (seqF (aP gF 3 (dE 1 [8] (cF dh (gv 3)) (bD 0) (bY (f2 (gv 0) (gv 1) eZ)) (gv 0))) (seqF (aP tR 5 (dE 1 [8] (cF dh (gv 5)) (bD 0) (bY (f2 (gv 0) (gv 1) eZ)) (gv 0))) (seqF (aP tR 4 (dE 1 [9] (cF dh (gv 4)) (bD 0) (bY (f2 (gv 0) (gv 1) eZ)) (gv 0))) bI)))))))))
def F6:UT "asked" qi 7 jJ Ai:=⟨_,fun T=>
 rR (ds:=[]) (k:=6) (m':=[.bw,.bw,.bw,.sh,.sh,.ow,.sh,.sh,.sh,.sh]) T.bc kg rfl 3 rfl (fun _ _ _ _ _ _ _ us hl=>by obtain⟨u0,u1,u2,rfl⟩:=qP us hl;exact⟨_,rfl,rfl⟩) fun f cdv A outer s H g E hr=>
 have hu1:=gq hr;have hu64:=hr.units
 (aH (bR 3 kg.nd (aT (qk.2 T) (aF (aB 0) (aF (aB 2) aR))))
   (aH (bR 4 kg.nd (SO.toE (qa rfl `r T.e `r T.c (bB (bE (aT (oK.2 T) (aF (aB 0) aR))) bC))))
   (aH (fF 5 kg.nd `r (dP rfl) (dR cI))
   (aH (fF 6 kg.nd `r (dP rfl) (dR cI))
   (aH (p5 64 x_ (iS (aB 3)) (qm (m':=[.bw,.bw,.bw,.sh,.ow,.ow,.ow,.sh,.sh,.sh]) 4 (qm (m':=[.bw,.bw,.bw,.ow,.ow,.ow,.ow,.sh,.sh,.sh]) 3 (aH (cA (kt (iS (aB 5))) (aH (fF 5 kg.nd `r (dP rfl) (dR (bN (df hu1 (aB 3) iB) cI)))
   aN)
   aN)
   (aH (bR 7 kg.nd (aT (BO.2 T) (aF (aB 0) (aF (aB 1) (aF (aB 3) (aF (aB 4) (aF (aB 5) aR)))))))
   (aH (fH 6 rfl (cN rfl) (v_ 7))
   (aH (cA (cP hu64 (xB hu1 (aB 7) iB) (bE cX)) (aH (fH 5 rfl (cN rfl) (df hu1 (aB 7) iB))
   aN)
   aN)
   (aH (bR 8 kg.nd (aT (wM.2 T) (aF (SO.toB (dR (bN (aT (Bq.2 T) (aF (aB 7) aR)) cI))) aR)))
   (aH (bR 9 kg.nd (SO.toE (Fz rfl `r T.e (aB 8))))
   (aH (sc1 3 ["hand","got"] [8] kg.nd (dN (aB 3)) (v_ 0) (hq:=(nz (n9 hu1 (aB 0) (aB 1)))))
   (aH (sc1 5 ["hand","got"] [8] kg.nd (dN (aB 5)) (v_ 0) (hq:=(nz (n9 hu1 (aB 0) (aB 1)))))
   (aH (sc1 4 ["thing","taken"] [9] kg.nd (dN (aB 4)) (v_ 0) (hq:=(nz (n9 hu1 (aB 0) (aB 1)))))
   aN))))))))) rfl) rfl))
   (aH (q8 6 rfl (bA (v_ 6)))
   aN))))))⟩
def Gd:=bP false Ai F6.1
noncomputable abbrev CJ:List Str:=["owns","line","thing","owner"]
theorem Me:FnScope CJ ye (aA (top 96)):=bF
def LZ:UT "hand_pointed_at" ye 2 jJ CJ:=⟨_,fun T=>bU (m':=mK) T.bd Me fun hr hu1=>(aH (bR 3 Me.nd (aT (Cq.2 T) (aF (aB 0) (aF (aB 1) (aF (aB 2) aR))))) (aH (bA (lS (mD (aB 3) (bE gU)) (df hu1 (aB 1) iB) (v_ 3))) aN))⟩
def CI:=bP false CJ LZ.1
noncomputable abbrev BD:List Str:=["first","targets","behind","ring","hand"]
noncomputable abbrev Lm:List Str:=["first","targets","behind"]
theorem yc:FnScope BD Lm (aA (top 97)):=bF
abbrev TU:FQ:=(fN (bY (f2 (gv 4) (gv 0) lL)) (bY (f2 (fC (aI (gv 3) aE) lenD) (fC (aI (gv 1) aE) lenD) nS)))
abbrev TL:FS:=(seqF (c6 "list" mJ 3 (aI (ik (aI (gv 4) (aI (f2 (gv 1) (gv 4) cD) aE))) aE) appD) (seqF (aP mJ 4 (f2 (gv 2) (gv 4) cD)) bI))
def JP:UT "ring_from" Lm 1 [.sh,.bw,.bw] BD:=⟨_,fun T=>bU (m':=mJ) T.be yc fun hr hu1=>have hu64:=hr.units;(aH (fF 3 yc.nd `r (dP rfl) (dR (bN (fQ (bN (v_ 0) (bN (df hu1 (aB 1) (aB 0)) cI))) cI))) (aH (bR 4 yc.nd (df hu1 (aB 2) (aB 0))) (aH (p5 64 x_ (SW.toQ (rc (jH (aB 4) (aB 0)) (rA (kW (bE (di `r T.a (bB (aB 3) bC))) (bE (di `r T.a (bB (aB 1) bC))))))) (aH (fH 3 rfl (cN rfl) (fQ (bN (v_ 4) (bN (df hu1 (aB 1) (aB 4)) cI)))) (aH (bR 4 yc.nd (df hu1 (aB 2) (aB 4))) aN))) (aH (bA (lS (cP hu64 (aB 4) (aB 0)) (i8 `r T.d (bB (aB 3) bC)) gU)) aN))))⟩
def S2:=bP false BD JP.1
noncomputable abbrev CS:List Str:=["wishes","owns","line","things","targets","behind","hand","walks"]
noncomputable abbrev Ma:List Str:=["wishes","owns","line","things"]
theorem qy:FnScope CS Ma (aA (top 98)):=bF
abbrev UA:FS:=(seqF (putF tM 4 (gv 6) (cG (aI (f2 (gv 0) (gv 6) cD) (aI (gv 3) aE)) [] qo)) (seqF (putF tM 5 (gv 6) (cG (aI (gv 1) (aI (gv 2) (aI (f2 (gv 4) (gv 6) cD) aE))) [] CI)) bI))
def CO:UT "rings_of_round" Ma 3 [.bw,.bw,.bw,.bw] CS:=⟨_,fun T=>bU (m':=[.bw,.bw,.bw,.bw,.ow,.ow,.sh,.ow]) T.bf qy fun hr hu1=>(aH (fF 4 qy.nd `r (dP rfl) oz) (aH (fF 5 qy.nd `r (dP rfl) oz) (aH (vZ x_ rfl (Fs (yx 2)) (c9 6 qy.nd) (aH (lB 4 hu1 rfl `r (cN rfl) (aB 6) (aT (xI.2 T) (aF (xB hu1 (aB 0) (aB 6)) (aF (aB 3) aR)))) (aH (lB 5 hu1 rfl `r (cN rfl) (aB 6) (aT (LZ.2 T) (aF (aB 1) (aF (aB 2) (aF (xB hu1 (aB 4) (aB 6)) aR))))) aN))) (aH (sc1 7 ["hand","targets","behind"] [4,5] qy.nd (dN (aB 2)) (aT (JP.2 T) (aQ (v_ 0) (aF (aB 1) (aF (aB 2) aR))))) (aH (bA (SO.toE (Qo hr `r T.t (bB (SO.toB (iK ["ring"] [] qy.nd (dN (aB 7)) (v_ 0) (hq:=(nz (Ex (aB 0) (bE gU)))))) bC)))) aN)))))⟩
def L5:=bP false CS CO.1
noncomputable abbrev AB:List Str:=["wishes","owns","order","line","things","told","rings","got","taken"]
theorem mr:FnScope AB qi (aA (top 99)):=bF
abbrev Se:FQ:=(dX (gv 3))
abbrev Sd:FS:=(seqF (aP li 6 (cG (aI (gv 0) (aI (gv 1) (aI (gv 3) (aI (gv 4) aE)))) [] L5)) (seqF (aP li 7 (cG (aI (gv 6) aE) [] wL)) (seqF (aP li 8 (f1 (gv 7) vR)) (seqF (aP li 3 (dE 1 [7] (cF dh (gv 3)) (bD 0) (bY (f2 (gv 0) (gv 1) eZ)) (gv 0))) (seqF (aP [.bw,.bw,.bw,.ow,.sh,.ow,.sh,.sh,.sh] 4 (dE 1 [8] (cF dh (gv 4)) (bD 0) (bY (f2 (gv 0) (gv 1) eZ)) (gv 0))) (seqF (c6 "list" tK 5 (aI (gv 6) aE) appD) bI))))))
def wN:UT "rounds" qi 7 jJ AB:=⟨_,fun T=>
 rR (ds:=[]) (k:=6) (m':=[.bw,.bw,.bw,.sh,.sh,.sh,.sh,.sh,.sh]) T.bg mr rfl 3 rfl (fun _ _ _ _ _ _ _ us hl=>by obtain⟨u0,u1,u2,rfl⟩:=qP us hl;exact⟨_,rfl,rfl⟩) fun f cdv A outer s H g E hr=>
 have hu1:=gq hr;have hu64:=hr.units
 (aH (bR 3 mr.nd (aT (qk.2 T) (aF (aB 0) (aF (aB 2) aR))))
   (aH (bR 4 mr.nd (SO.toE (qa rfl `r T.e `r T.c (bB (bE (aT (oK.2 T) (aF (aB 0) aR))) bC))))
   (aH (fF 5 mr.nd `r (dP rfl) (dR cI))
   (aH (p5 64 x_ (iS (aB 3)) (qm (m':=[.bw,.bw,.bw,.sh,.ow,.ow,.sh,.sh,.sh]) 4 (qm (m':=tK) 3 (aH (bR 6 mr.nd (aT (CO.2 T) (aF (aB 0) (aF (aB 1) (aF (aB 3) (aF (aB 4) aR))))))
   (aH (bR 7 mr.nd (aT (wM.2 T) (aF (aB 6) aR)))
   (aH (bR 8 mr.nd (SO.toE (Fz rfl `r T.e (aB 7))))
   (aH (sc1 3 ["hand","got"] [7] mr.nd (dN (aB 3)) (v_ 0) (hq:=(nz (n9 hu1 (aB 0) (aB 1)))))
   (aH (sc1 4 ["thing","taken"] [8] mr.nd (dN (aB 4)) (v_ 0) (hq:=(nz (n9 hu1 (aB 0) (aB 1)))))
   (aH (fH 5 rfl (cN rfl) (v_ 6))
   aN)))))) rfl) rfl))
   (aH (q8 5 rfl (bA (v_ 5)))
   aN)))))⟩
def Ay:=bP false AB wN.1
noncomputable abbrev Bg:List Str:=["wishes","owns","order","got","rings"]
theorem BY:FnScope Bg qi (aA (top 100)):=bF
abbrev Tu:FS:=(seqF (c6 "dict" [.bw,.bw,.bw,.ow,.sh] 3 (aI (cG (aI (gv 4) aE) [] wL) aE) updD) bI)
def Bp:UT "by_rings" qi 8 jJ Bg:=⟨_,fun T=>
 rR (ds:=[]) (k:=7) (m':=[.bw,.bw,.bw,.ow,.sh]) T.bh BY rfl 3 rfl (fun _ _ _ _ _ _ _ us hl=>by obtain⟨u0,u1,u2,rfl⟩:=qP us hl;exact⟨_,rfl,rfl⟩) fun f cdv A outer s H g E hr=>
 have hu1:=gq hr;have hu64:=hr.units
 (aH (fF 3 BY.nd `r (dP rfl) oz)
   (aH (ir x_ rfl (n4 (aT (wN.2 T) (aF (aB 0) (aF (aB 1) (aF (aB 2) aR))))) (c9 4 BY.nd) (aH (oh 3 rfl PySem.F.plainAttrs_dict PySem.F.slot_dict_update PySem.F.type_dict_update Ro NJ `r (cN rfl) (bN (aT (wM.2 T) (aF (aB 4) aR)) cI))
   aN))
   (aH (bA (aT (xZ.2 T) (aF (aB 3) aR)))
   aN)))⟩
def JA:=bP false Bg Bp.1
noncomputable abbrev Bf:List Str:=["wishes","order","things","got","hand"]
theorem xL:FnScope Bf oH (aA (top 93)):=bF
abbrev Tt:FS:=(seqF (putF o8 3 (gv 4) (cG (aI (f2 (gv 0) (gv 4) cD) (aI (gv 2) aE)) [] qo)) (seqF (c6 "list" o8 2 (aI (f2 (gv 3) (gv 4) cD) aE) remD) bI))
def sm:UT "by_order" oH 7 q0 Bf:=⟨_,fun T=>
 rR (ds:=[]) (k:=6) (m':=o8) T.bi xL rfl 2 rfl (fun _ _ _ _ _ _ _ us hl=>by obtain⟨u0,u1,rfl⟩:=jn us hl;exact⟨_,rfl,rfl⟩) fun f cdv A outer s H g E hr=>
 have hu1:=gq hr;have hu64:=hr.units
 (aH (fF 2 xL.nd `r (dP rfl) (qa rfl `r T.e `r T.c (bB (bE (aT (oK.2 T) (aF (aB 0) aR))) bC)))
   (aH (fF 3 xL.nd `r (dP rfl) oz)
   (aH (ir x_ rfl (n4 (aT (qk.2 T) (aF (aB 0) (aF (aB 1) aR)))) (c9 4 xL.nd) (aH (lB 3 hu1 rfl `r (cN rfl) (aB 4) (aT (xI.2 T) (aF (xB hu1 (aB 0) (aB 4)) (aF (aB 2) aR))))
   (aH (oh 2 rfl PySem.F.plainAttrs_list PySem.F.slot_list_remove PySem.F.type_list_remove Bb zV `r (cN rfl) (bN (df hu1 (aB 3) (aB 4)) cI))
   aN)))
   (aH (bA (aT (xZ.2 T) (aF (aB 3) aR)))
   aN))))⟩
def xv:=bP false Bf sm.1
noncomputable abbrev CL:List Str:=["one","other","rest"]
noncomputable abbrev Mm:List Str:=["one","other"]
theorem ym:FnScope CL Mm (aA (top 63)):=bF
abbrev yo:FQ:=(bY (f2 (gv 1) (ci 0) neD))
abbrev yn:FS:=(seqF (aP gY 2 (f2 (gv 0) (gv 1) bS)) (seqF (aP gY 0 (gv 1)) (seqF (aP gY 1 (gv 2)) bI)))
def Mc:UT "greatest_divisor" Mm 1 dU CL:=⟨_,fun T=>bU (m':=gY) T.bj ym fun hr hu1=>have hu64:=hr.units;(aH (p5 1000 x_ (o4 hu64 (aB 1) iB) (aH (bR 2 ym.nd (fj (aB 0) (aB 1))) (aH (bR 0 ym.nd (v_ 1)) (aH (bR 1 ym.nd (v_ 2)) aN)))) (aH (bA (V6 `r T.u (bB (aB 0) bC))) aN))⟩
def Uz:=bP false CL Mc.1
noncomputable abbrev Bh:List Str:=["top","bottom","divisor"]
theorem BZ:FnScope Bh sJ (aA (top 64)):=bF
def J8:UT "fraction" sJ 2 dU Bh:=⟨_,fun T=>bU (m':=gY) T.bk BZ fun hr hu1=>have hu64:=hr.units;(aH (cA (SW.toQ (gD (kt (iS (bE (aT (xC.2 T) (aF (aB 0) aR))))) (gD (kt (iS (bE (aT (xC.2 T) (aF (aB 1) aR))))) (lQ (cP hu64 (aB 1) iB))))) (aH kK aN) aN) (aH (bR 2 BZ.nd (aT (Mc.2 T) (aQ (v_ 0) (aQ (v_ 1) aR)))) (aH (cA (kW (aB 1) iB) (aH (bR 2 BZ.nd (zq (aB 2))) aN) aN) (aH (bA (fQ (bN (He (aB 0) (aB 2)) (bN (He (aB 1) (aB 2)) cI)))) aN))))⟩
def JB:=bP false Bh J8.1
def CV:UT "refuse_too_many_for_lots" kj 1 [Md.bw] kj:=⟨_,fun T=>bU (m':=[Md.bw]) T.bl bF fun hr hu1=>(aH (cA (jH (bE (di `r T.a (bB (aB 0) bC))) (bE (Au `r T.z))) (aH kK aN) aN) aN)⟩
noncomputable abbrev Cg:List Str:=["many","orders","number","longer","order","place"]
noncomputable abbrev LV:List Str:=["many"]
theorem oJ:FnScope Cg LV (aA (top 104)):=bF
abbrev LR:FS:=(seqF (c6 "list" o7 3 (aI (f2 (f2 (nU (gv 4) (fun _=>Res.ok none) (jm (gv 5))) (gT (aI (gv 2) aE)) addE) (nU (gv 4) (jm (gv 5)) (fun _=>Res.ok none)) addE) aE) appD) bI)
abbrev LS:FS:=(seqF (jz o7 (eD fY (aI (f2 (gv 2) (ci 1) addA) aE)) (bD 5) LR) bI)
abbrev Ul:FS:=(seqF (aP o6 3 (gT aE)) (seqF (jz o7 (cF dh (gv 1)) (bD 4) LS) (seqF (aP o6 1 (gv 3)) bI)))
def Cn:UT "all_orders" LV 1 [Md.bw] Cg:=⟨_,fun T=>bU (m':=o6) T.bm oJ fun hr hu1=>(aH (bR 1 oJ.nd (SO.toE (dR (bN (SO.toE (dR cI)) cI)))) (aH (ir x_ rfl (kM `r T.c (bB (aB 0) bC)) (c9 2 oJ.nd) (aH (fF 3 oJ.nd `r (dP rfl) (dR cI)) (aH (ir x_ rfl (n4 (v_ 1)) (c9 4 oJ.nd) (aH (ir x_ rfl (kM `r T.c (bB (bE (d5 (aB 2) iB)) bC)) (c9 5 oJ.nd) (aH (fH 3 rfl (cN rfl) (vY (bE (vY (bE (lT (aB 4) ic (ie (aB 5)))) (SO.toB (dR (bN (v_ 2) cI))))) (bE (lT (aB 4) (ie (aB 5)) ic)))) aN)) aN)) (aH (q8 3 rfl (bR 1 oJ.nd (v_ 3))) aN)))) (aH (bA (v_ 1)) aN)))⟩
def KG:=bP false Cg Cn.1
noncomputable abbrev BF:List Str:=["dealings","things","table","hand","got"]
noncomputable abbrev KW:List Str:=["dealings","things"]
theorem qx:FnScope BF KW (aA (top 105)):=bF
abbrev TQ:FS:=(seqF (aP fZ 4 (dE 1 [3] (cF dh (gv 0)) (bD 0) (fun _=>Res.ok true) (f2 (gv 0) (gv 1) cD))) (seqF (c6 "list" fZ 2 (aI (fC (aI (dE 1 [0,4] (eD fY (aI (gv 1) aE)) (bD 0) (fun _=>Res.ok true) (cG (aI (fM "list" (gv 2) (aI (gv 0) aE) v7) (aI (fC (aI (gv 1) aE) lenD) aE)) [] JB)) aE) tupD) aE) appD) bI))
def Kl:UT "shares_in" KW 3 q0 BF:=⟨_,fun T=>bU (m':=fZ) T.bn qx fun hr hu1=>(aH (fF 2 qx.nd `r (dP rfl) (dR cI)) (aH (ir x_ rfl (kM `r T.c (bB (bE (di `r T.a (bB (xB hu1 (aB 0) iB) bC))) bC)) (c9 3 qx.nd) (aH (bR 4 qx.nd (SO.toE (iK ["dealing","hand"] [3] qx.nd (dN (aB 0)) (df hu1 (aB 0) (aB 1))))) (aH (fH 2 rfl (cN rfl) (i8 `r T.d (bB (SO.toB (iK ["thing","dealings","got"] [0,4] qx.nd (iZ.toC (kM `r T.c (bB (aB 1) bC))) (aT (J8.2 T) (aQ (d7 PySem.F.plainAttrs_list PySem.F.slot_list_count PySem.F.type_list_count Rk QZ (aB 2) (bB (aB 0) bC)) (aQ (di `r T.a (bB (aB 1) bC)) aR))))) bC))) aN))) (aH (bA (i8 `r T.d (bB (aB 2) bC))) aN)))⟩
def S9:=bP false BF Kl.1
noncomputable abbrev yR:List Str:=["wishes","dealings"]
theorem Ff:FnScope yR kj (aA (top 106)):=bF
def zk:UT "lot" kj 8 [Md.bw] yR:=⟨_,fun T=>bU (m':=[.bw,.ow]) T.bo Ff fun hr hu1=>(aH (iT (aT (CV.2 T) (aF (aB 0) aR))) (aH (sc1 1 ["order","wishes"] [0] Ff.nd (dN (bE (aT (Cn.2 T) (aF (bE (di `r T.a (bB (aB 0) bC))) aR)))) (aT (sm.2 T) (aF (aB 1) (aF (aB 0) aR)))) (aH (bA (aT (Kl.2 T) (aF (aB 1) (aF (bE (aT (oK.2 T) (aF (aB 0) aR))) aR)))) aN)))⟩
def yQ:=bP false yR zk.1
noncomputable abbrev oQ:List Str:=["fits"]
def kl:UT "refuse_unless" oQ 1 [Md.bw] oQ:=⟨_,fun T=>bU (m':=[Md.bw]) T.bp bF fun hr hu1=>(aH (cA (kt (iS (aB 0))) (aH kK aN) aN) aN)⟩
def Lx:=bP false oQ kl.1
theorem UC:FnScope oQ oQ (aA (top 80)):=bF
def yq:FS:=(seqF (eM [Md.bw] (gK (dX (gv 0))) (seqF (kU [Md.bw] "NoLine" (aI (fun _=>Res.ok (D.str "the desk knows no such line")) aE)) bI) bI) bI)
def sP:List D->Res D:=fun ds=>bV false (yq (cH oQ.length ds))
variable{P:z_}{w:M_}{K:W.Frag}{mg:Str->Option a_}{base:Heap}
theorem CM(T:Txt K mg):CalleeX P w K mg base "refuse_unless" oQ [] 1 false [Md.bw] sP:=by
 obtain⟨b,c,Z,a,U,Y,n⟩:=T.p;refine lH (k:=0) (fs:=yq) (m':=[Md.bw]) T.bq UC rfl (fun _ _ _ _ _ _ i l=>by obtain⟨o,rfl⟩:=qO i l;kernel_rfl) fun f m A d s H g E h=>?_;have j:=gq h;have e:=h.units;exact(aH (cA (kt (iS (aB 0))) (aH (GM rfl U.xc U.xn `r (bN cX cI))
   aN)
   aN)
   aN)
noncomputable abbrev Bl:List Str:=["line"]
def xF:UT "words_in" Bl 2 [Md.bw] Bl:=⟨_,fun T=>bU (m':=[Md.bw]) T.br bF fun hr hu1=>(aH (iT (aT (kl.2 T) (aF (bE (qV "str" "str" rfl (Aa _) `r T.j `r T.g (aB 0))) aR))) (aH (bA (d7 PySem.F.plainAttrs_str PySem.F.slot_str_split PySem.F.type_str_split AS AF (aB 0) (bB (bE cX) bC))) aN))⟩
def iU:=bP false Bl xF.1
def II:UT "text_in" ki 2 [Md.bw] ki:=⟨_,fun T=>bU (m':=[Md.bw]) T.bs bF fun hr hu1=>(aH (iT (aT (kl.2 T) (aF (aB 0) aR))) (aH (bA (@eV _ _ _ _ _ _ _ _ _ _ (aB 0) rfl rfl)) aN))⟩
def Q7:=bP false ki II.1
noncomputable abbrev nN:List Str:=["word","signs"]
def JN:UT "number_in" nN 2 q0 nN:=⟨_,fun T=>bU (m':=q0) T.bt bF fun hr hu1=>have hu64:=hr.units;(aH (iT (aT (kl.2 T) (aF (bE (nu (eY hu64 (bE (di `r T.a (bB (aB 0) bC))) iB) (nv (oX hu1 (aB 0) (aB 1))))) aR))) (aH (bA (d7 PySem.F.plainAttrs_str PySem.F.slot_str_index PySem.F.type_str_index Ab Aw (aB 1) (bB (aB 0) bC))) aN))⟩
def xH:=bP false nN JN.1
theorem Uj:FnScope nN nN (aA (top 83)):=bF
def K2:{B // ∀{P w K c base} (T:Txt K c),CalleeX P w K c base "number_in" nN [] 2 false q0 (bP false nN B)}:=⟨_,fun T=>
 lH (k:=1) (m':=q0) T.bu Uj rfl (fun _ _ _ _ _ _ us d=>by obtain⟨i,h,rfl⟩:=jn us d;kernel_rfl) fun f e A Y s H g E b=>
 have Z:=gq b;have U:=b.units
 (aH (iT (kE (CM T) (b.mono `d) (aF (bE (nu (eY U (bE (di `r T.a (bB (aB 0) bC))) iB) (nv (oX Z (aB 0) (aB 1))))) aR)))
   oF)⟩
def TC:=K2.1
def xN:=bP false nN TC
noncomputable abbrev i9:List Str:=["words","signs"]
theorem Lr:FnScope i9 i9 (aA (top 84)):=bF
def sL:UT "numbers_in" i9 3 dU i9:=⟨_,fun T=>bU (m':=dU) T.bv Lr fun hr hu1=>have hu64:=hr.units;(aH (iT (aT (kl.2 T) (aF (bE (eY hu64 (bE (di `r T.a (bB (aB 0) bC))) (bE (di `r T.a (bB (aB 1) bC))))) aR))) (aH (bA (SO.toE (tV ["word","told"] [] Lr.nd (iZ.toC (qJ `r T.k (v_ 0) (v_ 1))) (aT (JN.2 T) (aF (aB 0) (aF (aB 1) aR)))))) aN))⟩
def Ts:=bP false i9 sL.1
theorem L4:FnScope i9 i9 (aA yv):=bF
def LP:FS:=(seqF (jW dU (ip (aI (f2 (fC (aI (gv 0) aE) lenD) (fC (aI (gv 1) aE) lenD) eqD) aE) [] sP)) (seqF (retF dU (ES 2 [] (jf (gv 0) (gv 1)) (gI (dg (bD 0) (dg (bD 1) gz))) (fun _=>Res.ok true) (ip (aI (gv 0) (aI (gv 1) aE)) [] xN))) bI))
def sQ:List D->Res D:=fun ds=>bV false (LP (cH i9.length ds))
theorem CB(T:Txt K mg):CalleeX P w K mg base "numbers_in" i9 [] 3 false dU sQ:=by
 refine lH (k:=2) (fs:=LP) (m':=dU) T.bw L4 rfl (fun _ _ _ _ _ _ c e=>by obtain⟨i,h,rfl⟩:=jn c e;kernel_rfl) fun f b A U s H g E Z=>?_;have d:=gq Z;have Y:=Z.units;exact(aH (iT (kE (CM T) (Z.mono `d) (aF (bE (eY Y (bE (di `r T.a (bB (aB 0) bC))) (bE (di `r T.a (bB (aB 1) bC))))) aR)))
   (aH (bA (SO.toE (Oi (X:=(cR (jj P w) P w K mg base i9 "numbers_in" (aA yv) f b A U s H E)) rfl rfl (N':=["word","told"]) (nl:=2) (cap:=[]) L4.nd rfl (sv (osc:=(aA yv)) (ON:=i9) rfl rfl `k) (iZ.toC (qJ `r T.k (v_ 0) (v_ 1))) (fun _ _ _ _ _ _=>(jQ rfl (fE (c9 0 (show Ċ (["word","told"]:List Str)by decide+kernel)) (fE (c9 1 (show Ċ (["word","told"]:List Str)by decide+kernel)) jY)))) (EW (w9 (oq `d) (w9 (oq `d) HR))) (fun _ _ _ _ _ _=>rB) (fun _ _=>nofun) (fun _ _ _ _ _ _ _=>(kE (K2.2 T) (Z.mono `d) (aF (aB 0) (aF (aB 1) aR)))))))
   aN))
noncomputable abbrev sD:List Str:=["words","signs","numbers"]
theorem Kx:FnScope sD i9 (aA (top 85)):=bF
def BS:UT "unlike_in" i9 4 dU sD:=⟨_,fun T=>bU (m':=gY) T.bx Kx fun hr hu1=>have hu64:=hr.units;(aH (bR 2 Kx.nd (aT (sL.2 T) (aQ (v_ 0) (aQ (v_ 1) aR)))) (aH (iT (aT (kl.2 T) (aF (bE (eY hu64 (bE (Qa rfl `r T.a `r T.v (aB 2))) (bE (di `r T.a (bB (aB 2) bC))))) aR))) (aH (bA (v_ 2)) aN)))⟩
def Ta:=bP false sD BS.1
theorem LM:FnScope sD i9 (aA (top 85)):=bF
def K9:FS:=(seqF (aP gY 2 (ip (aI (gv 0) (aI (gv 1) aE)) [] sQ)) (fun _=>Out.stuck))
def Cu:List D->Res D:=fun ds=>bV false (K9 (cH sD.length ds))
theorem Uf(T:Txt K mg):CalleeX P w K mg base "unlike_in" i9 [] 4 false dU Cu:=by
 refine lH (k:=3) (fs:=K9) (m':=gY) T.bz LM rfl (fun _ _ _ _ _ _ a c=>by obtain⟨h,e,rfl⟩:=jn a c;kernel_rfl) fun f d A U s H g E Y=>?_;have b:=gq Y;have Z:=Y.units;exact(aH (bR 2 LM.nd (kE (CB T) (Y.mono `d) (aQ (v_ 0) (aQ (v_ 1) aR))))
   oF)
def To:FS:=(seqF (retF [Md.bw] (mW (fun _=>Res.ok (D.str "0123456")) (fun _=>Res.ok none) (jm (fC (aI (gv 0) aE) lenD)))) bI)
def xW:List D->Res D:=fun ds=>bV false (To (cH kj.length ds))
theorem qv(T:Txt K mg):Callee P w K mg base "figures_of" kj [] 1 false [Md.bw] xW:=
 bU (m':=[Md.bw]) T.b0 bF fun Y U=>(aH (bA (zu (bE (nB `r T.y)) ic (ie (bE (di `r T.a (bB (aB 0) bC))))))
   aN)
def Cp:UT "letters_of" kj 2 [Md.bw] kj:=⟨_,fun T=>bU (m':=[Md.bw]) T.b1 bF fun hr hu1=>(aH (bA (zu (bE (nB `r T.h)) ic (ie (bE (aT (oK.2 T) (aF (aB 0) aR)))))) aN)⟩
def Tr:=bP false kj Cp.1
noncomputable abbrev gy:List Str:=["words","wishes"]
def wZ:UT "hand_in" gy 4 dS gy:=⟨_,fun T=>bU (m':=dS) T.b2 bF fun hr hu1=>(aH (bA (df hu1 (bE (aT (sL.2 T) (aQ (v_ 0) (aQ (SO.toE (dR (bN (aT (qv T) (aF (aB 1) aR)) cI))) aR)))) iB)) aN)⟩
def Q5:=bP false gy wZ.1
theorem TY:FnScope gy gy (aA (top 88)):=bF
def JE:FS:=(seqF (retF dS (f2 (ip (aI (gv 0) (aI (gT (aI (cG (aI (gv 1) aE) [] xW) aE)) aE)) [] sQ) (ci 0) cD)) bI)
def B3:List D->Res D:=fun ds=>bV false (JE (cH gy.length ds))
theorem T1(T:Txt K mg):CalleeX P w K mg base "hand_in" gy [] 4 false dS B3:=by
 refine lH (k:=3) (fs:=JE) (m':=dS) T.b3 TY rfl (fun _ _ _ _ _ _ b c=>by obtain⟨h,e,rfl⟩:=jn b c;kernel_rfl) fun f d A U s H g E Z=>?_;have Y:=gq Z;have a:=Z.units;exact(aH (bA (df Y (bE (kE (CB T) (Z.mono `d) (aQ (v_ 0) (aQ (SO.toE (dR (bN (aT (qv T) (aF (aB 1) aR)) cI))) aR)))) iB))
   aN)
def CT:UT "hand_and_thing_in" gy 4 dS gy:=⟨_,fun T=>bU (m':=dS) T.b4 bF fun hr hu1=>(aH (bA (aT (sL.2 T) (aQ (v_ 0) (aQ (SO.toE (dR (bN (aT (qv T) (aF (aB 1) aR)) (bN (aT (Cp.2 T) (aF (aB 1) aR)) cI)))) aR)))) aN)⟩
def UD:=bP false gy CT.1
theorem UH:FnScope gy gy (aA (top 89)):=bF
def Mg:{B // ∀{P w K Z base} (T:Txt K Z),CalleeX P w K Z base "hand_and_thing_in" gy [] 4 false dS (bP false gy B)}:=⟨_,fun T=>
 lH (k:=3) (m':=dS) T.b5 UH rfl (fun _ _ _ _ _ _ us c=>by obtain⟨h,e,rfl⟩:=jn us c;kernel_rfl) fun f d A U s H g E Y=>
 have b:=gq Y;have a:=Y.units
 (aH (bA (kE (CB T) (Y.mono `d) (aQ (v_ 0) (aQ (SO.toE (dR (bN (aT (qv T) (aF (aB 1) aR)) (bN (aT (Cp.2 T) (aF (aB 1) aR)) cI)))) aR))))
   aN)⟩
def Mf:=Mg.1
def UE:=bP false gy Mf
def xE:UT "order_in" gy 5 dS gy:=⟨_,fun T=>bU (m':=dS) T.b6 bF fun hr hu1=>(aH (bA (aT (BS.2 T) (aQ (v_ 0) (aQ (SO.toE (DP (dR (bN (aT (qv T) (aF (aB 1) aR)) cI)) (bE (di `r T.a (bB (aB 1) bC))))) aR)))) aN)⟩
def SH:=bP false gy xE.1
theorem T5:FnScope gy gy (aA (top 90)):=bF
def Kz:FS:=(seqF (retF dS (ip (aI (gv 0) (aI (f2 (gT (aI (cG (aI (gv 1) aE) [] xW) aE)) (fC (aI (gv 1) aE) lenD) kT) aE)) [] Cu)) bI)
def Cd:List D->Res D:=fun ds=>bV false (Kz (cH gy.length ds))
theorem Ub(T:Txt K mg):CalleeX P w K mg base "order_in" gy [] 5 false dS Cd:=by
 refine lH (k:=4) (fs:=Kz) (m':=dS) T.b7 T5 rfl (fun _ _ _ _ _ _ b d=>by obtain⟨i,h,rfl⟩:=jn b d;kernel_rfl) fun f e A U s H g E Y=>?_;have c:=gq Y;have Z:=Y.units;exact(aH (bA (kE (Uf T) (Y.mono `d) (aQ (v_ 0) (aQ (SO.toE (DP (dR (bN (aT (qv T) (aF (aB 1) aR)) cI)) (bE (di `r T.a (bB (aB 1) bC))))) aR))))
   aN)
noncomputable abbrev wW:List Str:=["self","wishes","owns","order"]
theorem R4:FnScope wW wW (aA oj):=bF
def IW:FN:=(mV "wishes" (gv 1) (mV "owns" (gv 2) (mV "order" (gv 3) (fun _ ds=>Res.ok ds))))
def IY:uT:=fun ds=>IW (none::(ds.map some++p_ (wW.length-(ds.length+1)) none)) []
theorem BC(T:Txt K mg):CalleeN P w K mg base "Kept" "Kept" wW [] 1 gY IY:=by refine Og (k:=0) (fn:=IW) T.b8 R4 rfl (fun _ _ _ _ _ _ c e=>by obtain⟨n,m,l,j,rfl⟩:=U0 c e;kernel_rfl) fun C U f h A Y s H g E a=>?_;have d:=gq a;have Z:=a.units;exact(zO (T.b "Kept" C rfl U).1 (T.b "Kept" C rfl U).2 rfl (cN rfl) (v_ 1) (zO (T.f "Kept" C rfl U).1 (T.f "Kept" C rfl U).2 rfl (cN rfl) (v_ 2) (zO (T.i "Kept" C rfl U).1 (T.i "Kept" C rfl U).2 rfl (cN rfl) (v_ 3) U2)))
noncomputable abbrev CF:List Str:=["text","read"]
theorem L3:FnScope CF xQ (aA (top 109)):=bF
def CH:UT "kept_of_text" xQ 8 [Md.bw] CF:=⟨_,fun T=>bU (m':=cV) T.b9 L3 fun hr hu1=>(aH (bR 1 L3.nd (aT (BQ.2 T) (aF (aB 0) aR))) (aH (bA (zQ (dds:=[]) (BC T) (hr.mono `d) (aQ (df hu1 (aB 1) iB) (aQ (df hu1 (aB 1) iB) (aQ gU aR))))) aN))⟩
def yk:=bP false CF CH.1
noncomputable abbrev dD:List Str:=["kept","words"]
def Cm:UT "after_rows" dD 9 q0 dD:=⟨_,fun T=>bU (m':=q0) T.ca bF fun hr hu1=>(aH (bA (aT (CH.2 T) (aF (bE (aT (II.2 T) (aF (aB 1) aR))) aR))) aN)⟩
def KF:=bP false dD Cm.1
noncomputable abbrev Bk:List Str:=["kept","hand","own","owns"]
noncomputable abbrev KO:List Str:=["kept","hand","own"]
theorem Kf:FnScope Bk KO (aA (top 111)):=bF
def Br:UT "with_own" KO 3 jK Bk:=⟨_,fun T=>bU (m':=[.bw,.bw,.sh,.ow]) T.cb Kf fun hr hu1=>have hu64:=hr.units;(aH (sc1 3 ["other","own"] [2] Kf.nd (dN (bE (eN T.f (aB 0)))) (lS (cP hu64 (aB 0) (aB 1)) gU (v_ 0))) (aH (lB 3 hu1 rfl `r (cN rfl) (aB 1) (v_ 2)) (aH (bA (zQ (dds:=[]) (BC T) (hr.mono `d) (aQ (eN T.b (aB 0)) (aQ (i8 `r T.d (bB (aB 3) bC)) (aQ (eN T.i (aB 0)) aR))))) aN)))⟩
def J4:=bP false Bk Br.1
noncomputable abbrev qq:List Str:=["kept","words","numbers"]
theorem Kr:FnScope qq dD (aA (top 112)):=bF
def BL:UT "after_own" dD 5 cV qq:=⟨_,fun T=>bU (m':=lf) T.cc Kr fun hr hu1=>(aH (bR 2 Kr.nd (aT (CT.2 T) (aQ (v_ 1) (aF (bE (eN T.b (aB 0))) aR)))) (aH (bA (aT (Br.2 T) (aF (aB 0) (aF (xB hu1 (aB 2) iB) (aQ (df hu1 (aB 2) iB) aR))))) aN))⟩
def S0:=bP false qq BL.1
theorem LH:FnScope qq dD (aA (top 112)):=bF
def K1:{B // ∀{P w K Z base} (T:Txt K Z),CalleeX P w K Z base "after_own" dD [] 5 false cV (bP false qq B)}:=⟨_,fun T=>
 lH (k:=4) (m':=lf) T.cd LH rfl (fun _ _ _ _ _ _ us d=>by obtain⟨i,h,rfl⟩:=jn us d;kernel_rfl) fun f e A U s H g E Y=>
 have c:=gq Y;have a:=Y.units
 (aH (bR 2 LH.nd (kE (Mg.2 T) (Y.mono `d) (aQ (v_ 1) (aF (bE (eN T.b (aB 0))) aR))))
   oF)⟩
def K7:=K1.1
def La:=bP false qq K7
def Ck:UT "after_none" dD 5 cV dD:=⟨_,fun T=>bU (m':=cV) T.ce bF fun hr hu1=>(aH (bA (aT (Br.2 T) (aF (aB 0) (aF (bE (aT (wZ.2 T) (aQ (v_ 1) (aF (bE (eN T.b (aB 0))) aR)))) (aQ gU aR))))) aN)⟩
def Tp:=bP false dD Ck.1
def Cw:UT "after_order" dD 6 cV dD:=⟨_,fun T=>bU (m':=cV) T.cf bF fun hr hu1=>(aH (bA (zQ (dds:=[]) (BC T) (hr.mono `d) (aQ (eN T.b (aB 0)) (aQ (eN T.f (aB 0)) (aQ (aT (xE.2 T) (aQ (v_ 1) (aF (bE (eN T.b (aB 0))) aR))) aR))))) aN)⟩
def TD:=bP false dD Cw.1
def CG:UT "answer_rings" dD 8 q0 dD:=⟨_,fun T=>bU (m':=q0) T.cg bF fun hr hu1=>(aH (iT (aT (kl.2 T) (aF (bE (zR (aB 1))) aR))) (aH (bA (aT (K4.2 T) (aF (bE (aT (wN.2 T) (aF (bE (eN T.b (aB 0))) (aF (bE (eN T.f (aB 0))) (aF (bE (eN T.i (aB 0))) aR))))) aR))) aN))⟩
def LQ:=bP false dD CG.1
def Cy:UT "answer_asks" dD 8 q0 dD:=⟨_,fun T=>bU (m':=q0) T.ch bF fun hr hu1=>(aH (iT (aT (kl.2 T) (aF (bE (zR (aB 1))) aR))) (aH (bA (aT (Tg.2 T) (aF (bE (aT (F6.2 T) (aF (bE (eN T.b (aB 0))) (aF (bE (eN T.f (aB 0))) (aF (bE (eN T.i (aB 0))) aR))))) aR))) aN))⟩
def Lb:=bP false dD Cy.1
def Cz:UT "answer_deal" dD 9 q0 dD:=⟨_,fun T=>bU (m':=q0) T.ci bF fun hr hu1=>(aH (iT (aT (kl.2 T) (aF (bE (zR (aB 1))) aR))) (aH (bA (aT (xU.2 T) (aF (bE (aT (Bp.2 T) (aF (bE (eN T.b (aB 0))) (aF (bE (eN T.f (aB 0))) (aF (bE (eN T.i (aB 0))) aR))))) aR))) aN))⟩
def Lc:=bP false dD Cz.1
def BM:UT "answer_by" dD 8 cV dD:=⟨_,fun T=>bU (m':=cV) T.cj bF fun hr hu1=>(aH (bA (aT (xU.2 T) (aF (bE (aT (sm.2 T) (aF (bE (eN T.b (aB 0))) (aF (bE (aT (xE.2 T) (aQ (v_ 1) (aF (bE (eN T.b (aB 0))) aR)))) aR)))) aR))) aN)⟩
def JG:=bP false dD BM.1
theorem Ui:FnScope dD dD (aA (top 118)):=bF
def K8:FS:=(seqF (retF cV (cG (aI (cG (aI (f1 (gv 0) (fL mn "wishes")) (aI (ip (aI (gv 1) (aI (f1 (gv 0) (fL mn "wishes")) aE)) [] Cd) aE)) [] xv) aE) [] Ld)) bI)
def Ct:List D->Res D:=fun ds=>bV false (K8 (cH dD.length ds))
theorem Uq(T:Txt K mg):CalleeX P w K mg base "answer_by" dD [] 8 false cV Ct:=by
 refine lH (k:=7) (fs:=K8) (m':=cV) T.ck Ui rfl (fun _ _ _ _ _ _ a d=>by obtain⟨i,h,rfl⟩:=jn a d;kernel_rfl) fun f e A U s H g E Y=>?_;have c:=gq Y;have Z:=Y.units;exact(aH (bA (aT (xU.2 T) (aF (bE (aT (sm.2 T) (aF (bE (eN T.b (aB 0))) (aF (bE (kE (Ub T) (Y.mono `d) (aQ (v_ 1) (aF (bE (eN T.b (aB 0))) aR)))) aR)))) aR)))
   aN)
noncomputable abbrev sH:List Str:=["kept","words","hand"]
theorem Lo:FnScope sH dD (aA (top 120)):=bF
def Co:UT "answer_lot" dD 9 cV sH:=⟨_,fun T=>bU (m':=lf) T.cl Lo fun hr hu1=>(aH (bR 2 Lo.nd (aT (wZ.2 T) (aQ (v_ 1) (aF (bE (eN T.b (aB 0))) aR)))) (aH (bA (aT (K5.2 T) (aF (xB hu1 (bE (aT (zk.2 T) (aF (bE (eN T.b (aB 0))) aR))) (aB 2)) aR))) aN))⟩
def KH:=bP false sH Co.1
theorem L1:FnScope sH dD (aA (top 120)):=bF
def LO:FS:=(seqF (aP lf 2 (ip (aI (gv 1) (aI (f1 (gv 0) (fL mn "wishes")) aE)) [] B3)) (fun _=>Out.stuck))
def CD:List D->Res D:=fun ds=>bV false (LO (cH sH.length ds))
theorem Uv(T:Txt K mg):CalleeX P w K mg base "answer_lot" dD [] 5 false cV CD:=by
 refine lH (k:=4) (fs:=LO) (m':=lf) T.cm L1 rfl (fun _ _ _ _ _ _ a d=>by obtain⟨i,h,rfl⟩:=jn a d;kernel_rfl) fun f e A U s H g E Y=>?_;have c:=gq Y;have Z:=Y.units;exact(aH (bR 2 L1.nd (kE (T1 T) (Y.mono `d) (aQ (v_ 1) (aF (bE (eN T.b (aB 0))) aR))))
   oF)
noncomputable abbrev JM:List Str:=["_law_script","_law_k","_law_cell_here","_law_stirred"]
noncomputable abbrev xP:List Str:=["_law_script","_law_k"]
theorem ya:FnScope JM xP (aA (top 126)):=bF
def JD:FS:=(seqF (aP fJ 2 (ci 0)) (seqF (eM fJ (bY (f2 (gv 1) (fC (aI (gv 0) aE) lenD) nS)) (seqF (aP fJ 2 (f2 (f2 (gv 0) (gv 1) cD) (f2 (ci 10) (ci 60) jc) bS)) bI) bI) (seqF (eM fJ (fN (bY (f2 (fC (aI (gv 0) aE) lenD) (ci 0) lL)) (bY (f2 (f2 (f2 (gv 0) (ci 0) cD) (ci 2) bS) (ci 0) eqD))) (seqF (retF fJ (gv 2)) bI) bI) (seqF (aP fJ 3 (f2 (f2 (f2 (f2 (f2 (f2 (f2 (gv 2) (f2 (f2 (ci 7) (gv 1) cK) (gv 1) cK) addA) (f2 (ci 13) (gv 1) cK) addA) (ci 5) addA) (ci 48271) cK) (ci 2147483647) bS) (ci 69621) cK) (ci 1000000007) bS)) (seqF (retF fJ (f2 (f2 (f2 (f2 (f2 (gv 3) (ci 1) addA) (ci 40692) cK) (ci 2147483629) bS) (ci 39373) cK) (ci 999999937) bS)) bI)))))
def B1:List D->Res D:=fun ds=>bV false (JD (cH JM.length ds))
theorem KS(T:Txt K mg):Callee P w K mg base "_law_cell" xP [] 1 false q0 B1:=
 bU (m':=fJ) T.cn ya fun Z Y=>have U:=Z.units;(aH (bR 2 ya.nd q9)
   (aH (cA (kW (aB 1) (bE (di `r T.a (bB (aB 0) bC)))) (aH (bR 2 ya.nd (fj (xB Y (aB 0) (aB 1)) (bE (Eu iB iB))))
   aN)
   aN)
   (aH (cA (SW.toQ (rc (jH (bE (di `r T.a (bB (aB 0) bC))) iB) (rA (cP U (bE (fj (xB Y (aB 0) iB) iB)) iB)))) (aH (bA (v_ 2))
   aN)
   aN)
   (aH (bR 3 ya.nd (fj (bE (i0 (bE (fj (bE (i0 (bE (d5 (bE (d5 (bE (d5 (aB 2) (bE (i0 (bE (i0 iB (aB 1))) (aB 1))))) (bE (i0 iB (aB 1))))) iB)) iB)) iB)) iB)) iB))
   (aH (bA (fj (bE (i0 (bE (fj (bE (i0 (bE (d5 (aB 3) iB)) iB)) iB)) iB)) iB))
   aN)))))
noncomputable abbrev B9:List Str:=["_law_script","_law_k","_law_cell_here","_law_wide_here","_law_turn","_law_place","_law_stirred"]
theorem oN:FnScope B9 xP (aA (top 127)):=bF
abbrev TK:FS:=(seqF (aP mI 5 (f2 (f2 (f2 (f2 (ci 7919) (gv 4) cK) (gv 4) cK) (f2 (ci 13) (gv 1) cK) addA) (ci 5) addA)) (seqF (aP mI 6 (f2 (f2 (f2 (f2 (f2 (gv 2) (gv 5) addA) (ci 48271) cK) (ci 2147483647) bS) (ci 69621) cK) (ci 1000000007) bS)) (seqF (aP mI 3 (f2 (f2 (gv 3) (ci 999999937) cK) (f2 (f2 (f2 (f2 (f2 (gv 6) (ci 1) addA) (ci 40692) cK) (ci 2147483629) bS) (ci 39373) cK) (ci 999999937) bS) addA)) bI)))
def BK:UT "_law_wide" xP 2 q0 B9:=⟨_,fun T=>bU (m':=mI) T.co oN fun hr hu1=>have hu64:=hr.units;(aH (cA (cP hu64 (bE (fj (xB hu1 (aB 0) iB) iB)) iB) (aH (bA (aT (KS T) (aF (aB 0) (aF (aB 1) aR)))) aN) aN) (aH (bR 2 oN.nd (fj (xB hu1 (aB 0) (aB 1)) (bE (Eu iB iB)))) (aH (bR 3 oN.nd q9) (aH (ir x_ rfl (kM `r T.c (bB iB bC)) (c9 4 oN.nd) (aH (bR 5 oN.nd (d5 (bE (d5 (bE (i0 (bE (i0 iB (aB 4))) (aB 4))) (bE (i0 iB (aB 1))))) iB)) (aH (bR 6 oN.nd (fj (bE (i0 (bE (fj (bE (i0 (bE (d5 (aB 2) (aB 5))) iB)) iB)) iB)) iB)) (aH (bR 3 oN.nd (d5 (bE (i0 (aB 3) iB)) (bE (fj (bE (i0 (bE (fj (bE (i0 (bE (d5 (aB 6) iB)) iB)) iB)) iB)) iB)))) aN)))) (aH (bA (v_ 3)) aN)))))⟩
def JF:=bP false B9 BK.1
noncomputable abbrev J6:List Str:=["_law_cell_here","_law_m","_law_row_here","_law_thing"]
noncomputable abbrev KN:List Str:=["_law_cell_here","_law_m"]
theorem xK:FnScope J6 KN (aA (top 128)):=bF
abbrev KM:FS:=(seqF (c6 "list" k9 2 (aI (f2 (gv 0) (f2 (gv 3) (ci 1) addA) bS) (aI (gv 3) aE)) insD) (seqF (aP k9 0 (f2 (gv 0) (f2 (gv 3) (ci 1) addA) gP)) bI))
def Sz:FS:=(seqF (aP [.sh,.bw,.sh,.sh] 2 (gT aE)) (seqF (jz k9 (eD fY (aI (gv 1) aE)) (bD 3) KM) (seqF (retF k9 (fC (aI (gv 2) aE) tupD)) bI)))
def xu:List D->Res D:=fun ds=>bV false (Sz (cH J6.length ds))
theorem Kk(T:Txt K mg):Callee P w K mg base "_law_row" KN [] 1 false dS xu:=
 bU (m':=k9) T.cp xK fun Y U=>(aH (fF 2 xK.nd `r (dP rfl) (dR cI))
   (aH (ir x_ rfl (kM `r T.c (bB (aB 1) bC)) (c9 3 xK.nd) (aH (oh 2 rfl PySem.F.plainAttrs_list PySem.F.slot_list_insert PySem.F.type_list_insert Rm Ng `r (cN rfl) (bN (fj (aB 0) (bE (d5 (aB 3) iB))) (bN (v_ 3) cI)))
   (aH (bR 0 xK.nd (j9 (aB 0) (bE (d5 (aB 3) iB))))
   aN)))
   (aH (bA (i8 `r T.d (bB (aB 2) bC)))
   aN)))
noncomputable abbrev B7:List Str:=["_law_cell_here","_law_n","_law_m","_law_owns_here","_law_hand","_law_thing"]
noncomputable abbrev Lh:List Str:=["_law_cell_here","_law_n","_law_m"]
theorem sN:FnScope B7 Lh (aA (top 129)):=bF
abbrev Le:FS:=(seqF (aP iJ 5 (f2 (gv 0) (f2 (gv 2) (ci 1) addA) bS)) (seqF (aP iJ 0 (f2 (gv 0) (f2 (gv 2) (ci 1) addA) gP)) (seqF (eM iJ (js (bY (f2 (gv 5) (gv 2) eqD)) (bY (f2 (gv 5) (gv 3) g6))) (seqF (c6 "list" iJ 3 (aI (fun _=>Res.ok D.non) aE) appD) bI) (seqF (c6 "list" iJ 3 (aI (gv 5) aE) appD) bI)) bI)))
def BJ:UT "_law_owns" Lh 1 [.sh,.bw,.bw] B7:=⟨_,fun T=>bU (m':=iJ) T.cq sN fun hr hu1=>have hu64:=hr.units;(aH (fF 3 sN.nd `r (dP rfl) (dR cI)) (aH (ir x_ rfl (kM `r T.c (bB (aB 1) bC)) (c9 4 sN.nd) (aH (bR 5 sN.nd (fj (aB 0) (bE (d5 (aB 2) iB)))) (aH (bR 0 sN.nd (j9 (aB 0) (bE (d5 (aB 2) iB)))) (aH (cA (SW.toQ (gD (cP hu64 (aB 5) (aB 2)) (lQ (kY hu1 (aB 5) (aB 3))))) (aH (fH 3 rfl (cN rfl) gU) aN) (aH (fH 3 rfl (cN rfl) (v_ 5)) aN)) aN)))) (aH (bA (i8 `r T.d (bB (aB 3) bC))) aN)))⟩
def SZ:=bP false B7 BJ.1
noncomputable abbrev B6:List Str:=["_law_row_here","_law_left","_law_thing"]
noncomputable abbrev Lg:List Str:=["_law_row_here","_law_left"]
theorem Kq:FnScope B6 Lg (aA (top 130)):=bF
abbrev xO:FS:=(seqF (eM jK (bY (f2 (gv 2) (gv 1) g6)) (seqF (retF jK (gv 2)) bI) bI) bI)
def BI:UT "_law_best" Lg 1 q0 B6:=⟨_,fun T=>bU (m':=jK) T.cr Kq fun hr hu1=>(aH (v4 x_ rfl (dN (aB 0)) (fun _=>(c9 2 Kq.nd)) (fun _=>(aH (cA (kY hu1 (aB 2) (aB 1)) (aH (bA (v_ 2)) aN) aN) aN))) (aH (bA gU) aN))⟩
def B0:=bP false B6 BI.1
noncomputable abbrev CK:List Str:=["_law_wishes","_law_owns_here","_law_order_here","_law_things","_law_line","_law_got","_law_here","_law_path","_law_thing","_law_hand"]
noncomputable abbrev Ml:List Str:=["_law_wishes","_law_owns_here","_law_order_here"]
theorem kh:FnScope CK Ml (aA (top 131)):=bF
abbrev CU:FQ:=(bY (f2 (gv 6) (gv 7) eZ))
abbrev Mn:FQ:=(bY (f2 (fC (aI (gv 4) aE) lenD) (ci 0) lL))
abbrev L7:FS:=(seqF (eM tJ (bY (f2 (f2 (gv 1) (gv 9) cD) (gv 8) eqD)) (seqF (aP tJ 6 (gv 9)) bI) bI) bI)
abbrev Mh:FS:=(seqF (c6 "list" fI 7 (aI (gv 6) aE) appD) (seqF (aP fI 8 (cG (aI (f2 (gv 0) (gv 6) cD) (aI (gv 3) aE)) [] B0)) (seqF (aP fI 6 (f2 (gv 4) (ci 0) cD)) (seqF (jz fI (cF dh (gv 4)) (bD 9) L7) bI))))
abbrev Mi:FS:=(seqF (putF fI 5 (gv 9) (cG (aI (f2 (gv 0) (gv 9) cD) (aI (gv 3) aE)) [] B0)) bI)
abbrev Mj:FS:=(seqF (c6 "list" fI 4 (aI (gv 9) aE) remD) (seqF (c6 "list" fI 3 (aI (f2 (gv 5) (gv 9) cD) aE) remD) bI))
abbrev UF:FS:=(seqF (aP mH 6 (f2 (gv 4) (ci 0) cD)) (seqF (aP mH 7 (gT aE)) (seqF (gW fI CU Mh 64) (seqF (jz fI (cF dh (gJ (gv 7) (jm (fM "list" (gv 7) (aI (gv 6) aE) rQ)) (fun _=>Res.ok none))) (bD 9) Mi) (seqF (jz fI (cF dh (gJ (gv 7) (jm (fM "list" (gv 7) (aI (gv 6) aE) rQ)) (fun _=>Res.ok none))) (bD 9) Mj) bI)))))
def Mb:UT "_law_rings_dealt" Ml 2 jJ CK:=⟨_,fun T=>bU (m':=mH) T.cs kh fun hr hu1=>have hu64:=hr.units;(aH (fF 3 kh.nd `r (dP rfl) (qa rfl `r T.e `r T.c (bB (bE (di `r T.a (bB (xB hu1 (aB 0) iB) bC))) bC))) (aH (fF 4 kh.nd `r (dP rfl) (vU `r T.e (bB (aB 2) bC))) (aH (sc1 5 ["_law_hand"] [] kh.nd (dN (aB 4)) gU) (aH (p5 64 x_ (jH (bE (di `r T.a (bB (aB 4) bC))) iB) (qm (m':=fI) 7 (aH (bR 6 kh.nd (df hu1 (aB 4) iB)) (aH (fF 7 kh.nd `r (dP rfl) (dR cI)) (aH (p5 64 x_ (n9 hu1 (aB 6) (aB 7)) (aH (fH 7 rfl (cN rfl) (v_ 6)) (aH (bR 8 kh.nd (aT (BI.2 T) (aF (xB hu1 (aB 0) (aB 6)) (aF (aB 3) aR)))) (aH (bR 6 kh.nd (df hu1 (aB 4) iB)) (aH (v4 x_ rfl (dN (aB 4)) (fun _=>(c9 9 kh.nd)) (fun _=>(aH (cA (cP hu64 (xB hu1 (aB 1) (aB 9)) (aB 8)) (aH (bR 6 kh.nd (v_ 9)) aN) aN) aN))) aN))))) (aH (ir x_ rfl (n4 (pF (aB 7) (ie (bE (d7 PySem.F.plainAttrs_list PySem.F.slot_list_index PySem.F.type_list_index xj xb (aB 7) (bB (aB 6) bC)))) ic)) (c9 9 kh.nd) (aH (lB 5 hu1 rfl `r (cN rfl) (aB 9) (aT (BI.2 T) (aF (xB hu1 (aB 0) (aB 9)) (aF (aB 3) aR)))) aN)) (aH (ir x_ rfl (n4 (pF (aB 7) (ie (bE (d7 PySem.F.plainAttrs_list PySem.F.slot_list_index PySem.F.type_list_index xj xb (aB 7) (bB (aB 6) bC)))) ic)) (c9 9 kh.nd) (aH (oh 4 rfl PySem.F.plainAttrs_list PySem.F.slot_list_remove PySem.F.type_list_remove Bb zV `r (cN rfl) (bN (v_ 9) cI)) (aH (oh 3 rfl PySem.F.plainAttrs_list PySem.F.slot_list_remove PySem.F.type_list_remove Bb zV `r (cN rfl) (bN (df hu1 (aB 5) (aB 9)) cI)) aN))) aN))))) rfl)) (aH (bA (i8 `r T.d (bB (aB 5) bC))) aN)))))⟩
def L8:=bP false CK Mb.1
noncomputable abbrev B8:List Str:=["_law_wishes","_law_owns_here","_law_parts","_law_row_here","_law_own","_law_words","_law_thing"]
noncomputable abbrev Li:List Str:=["_law_wishes","_law_owns_here"]
theorem qw:FnScope B8 Li (aA (top 132)):=bF
abbrev Lf:FS:=(seqF (c6 "list" mG 5 (aI (f2 (f2 (fun _=>Res.ok (D.str "ABCDEFGH")) (gv 6) cD) (f2 (fun _=>Res.ok (D.str "*")) (fC (aI (f2 (gv 6) (gv 4) eqD) aE) pN) qW) addA) aE) appD) bI)
abbrev TJ:FS:=(seqF (aP [.sh,.sh,.ow,.sh,.sh,.sh,.sh] 5 (gT aE)) (seqF (jz mG (cF dh (gv 3)) (bD 6) Lf) (seqF (c6 "list" mG 2 (aI (fM "str" (fun _=>Res.ok (D.str " ")) (aI (gv 5) aE) lF) aE) appD) bI)))
def qr:UT "_law_text" Li 1 dU B8:=⟨_,fun T=>bU (m':=[.sh,.sh,.ow,.sh,.sh,.sh,.sh]) T.ct qw fun hr hu1=>have hu64:=hr.units;(aH (fF 2 qw.nd `r (dP rfl) (dR cI)) (aH (ir x_ rfl (qJ `r T.k (v_ 0) (v_ 1)) (jQ rfl (fE (c9 3 qw.nd) (fE (c9 4 qw.nd) jY))) (qm (m':=mG) 5 (aH (fF 5 qw.nd `r (dP rfl) (dR cI)) (aH (ir x_ rfl (n4 (v_ 3)) (c9 6 qw.nd) (aH (fH 5 rfl (cN rfl) (d5 (xB hu1 (bE cX) (aB 6)) (bE (NX (bE cX) (bE (Fe `r T.o (bB (bE (eY hu64 (aB 6) (aB 4))) bC))))))) aN)) (aH (fH 2 rfl (cN rfl) (@eV _ _ _ _ _ _ _ _ _ _ (aB 5) rfl rfl)) aN))) rfl)) (aH (bA (@eV _ _ _ _ _ _ _ _ _ _ (aB 2) rfl rfl)) aN)))⟩
def B2:=bP false B8 qr.1
noncomputable abbrev Cf:List Str:=["_law_cell_here","_law_n","_law_m","_law_rows","_law_hand"]
noncomputable abbrev LU:List Str:=["_law_cell_here"]
theorem oI:FnScope Cf LU (aA (top 133)):=bF
abbrev Uk:FS:=(seqF (c6 "list" o5 3 (aI (cG (aI (f2 (gv 0) (ci 40320) bS) (aI (gv 2) aE)) [] xu) aE) appD) (seqF (aP o5 0 (f2 (gv 0) (ci 40320) gP)) bI))
def KQ:UT "_law_small" LU 2 [Md.bw] Cf:=⟨_,fun T=>bU (m':=o5) T.cu oI fun hr hu1=>(aH (bR 1 oI.nd (d5 iB (bE (fj (aB 0) iB)))) (aH (bR 2 oI.nd (d5 (aB 1) (bE (fj (bE (j9 (aB 0) iB)) (bE (VG iB (aB 1))))))) (aH (bR 0 oI.nd (j9 (aB 0) iB)) (aH (fF 3 oI.nd `r (dP rfl) (dR cI)) (aH (ir x_ rfl (kM `r T.c (bB (aB 1) bC)) (c9 4 oI.nd) (aH (fH 3 rfl (cN rfl) (aT (Kk T) (aQ (fj (aB 0) iB) (aF (aB 2) aR)))) (aH (bR 0 oI.nd (j9 (aB 0) iB)) aN))) (aH (bA (fQ (bN (i8 `r T.d (bB (aB 3) bC)) (bN (aT (BJ.2 T) (aQ (v_ 0) (aF (aB 1) (aF (aB 2) aR)))) cI)))) aN))))))⟩
def KB:=bP false Cf KQ.1
noncomputable abbrev KZ:List Str:=["_law_cell_here","_law_state","_law_wishes","_law_owns_here","_law_order_here","_law_n","_law_m","_law_way","_law_hand","_law_thing","_law_made","_law_row_here"]
noncomputable abbrev Lz:List Str:=["_law_cell_here","_law_state"]
theorem iV:FnScope KZ Lz (aA (top 134)):=bF
def Cs:FS:=(seqF (iO gE (gv 1) (gI (dg (bD 2) (dg (bD 3) (dg (bD 4) gz))))) (seqF (aP gE 5 (fC (aI (gv 2) aE) lenD)) (seqF (aP gE 6 (fC (aI (f2 (gv 2) (ci 0) cD) aE) lenD)) (seqF (aP gE 7 (f2 (gv 0) (ci 5) bS)) (seqF (aP gE 0 (f2 (gv 0) (ci 5) gP)) (seqF (eM eh (js (bY (f2 (gv 7) (ci 0) eqD)) (fN (bY (f2 (gv 7) (ci 4) eqD)) (bY (f2 (gv 5) (ci 1) eqD)))) (seqF (iO eh (cG (aI (gv 0) aE) [] KB) (gI (dg (bD 2) (dg (bD 3) gz)))) (seqF (retF eh (ik (aI (f2 (fun _=>Res.ok (D.str "rows ")) (cG (aI (gv 2) (aI (gv 3) aE)) [] B2) addA) (aI (ik (aI (gv 2) (aI (gv 3) (aI (fun _=>Res.ok D.non) aE)))) aE)))) bI)) bI) (seqF (aP eh 8 (f2 (gv 0) (gv 5) bS)) (seqF (eM eh (js (bY (f2 (gv 7) (ci 1) eqD)) (bY (f2 (gv 7) (ci 4) eqD))) (seqF (aP eh 9 (f2 (f2 (gv 0) (gv 5) gP) (gv 6) bS)) (seqF (aP eh 10 (dE 1 [9] (cF dh (gv 3)) (bD 0) (fun _=>Res.ok true) (nV (bY (f2 (gv 0) (gv 1) eqD)) (fun _=>Res.ok D.non) (gv 0)))) (seqF (putF mE 10 (gv 8) (gv 9)) (seqF (retF mE (ik (aI (f2 (f2 (f2 (fun _=>Res.ok (D.str "own ")) (fC (aI (gv 8) aE) lX) addA) (fun _=>Res.ok (D.str " ")) addA) (f2 (fun _=>Res.ok (D.str "ABCDEFGH")) (gv 9) cD) addA) (aI (ik (aI (gv 2) (aI (fC (aI (gv 10) aE) tupD) (aI (gv 4) aE)))) aE)))) bI)))) bI) (seqF (eM eh (bY (f2 (gv 7) (ci 2) eqD)) (seqF (aP eh 10 (fC (aI (gv 3) aE) vQ)) (seqF (putF mE 10 (gv 8) (fun _=>Res.ok D.non)) (seqF (retF mE (ik (aI (f2 (fun _=>Res.ok (D.str "none ")) (fC (aI (gv 8) aE) lX) addA) (aI (ik (aI (gv 2) (aI (fC (aI (gv 10) aE) tupD) (aI (gv 4) aE)))) aE)))) bI))) bI) (seqF (aP eh 11 (cG (aI (gv 0) (aI (gv 5) aE)) [] xu)) (seqF (retF eh (ik (aI (fM "str" (fun _=>Res.ok (D.str " ")) (aI (f2 (gT (aI (fun _=>Res.ok (D.str "order")) aE)) (dE 1 [] (cF dh (gv 11)) (bD 0) (fun _=>Res.ok true) (fC (aI (gv 0) aE) lX)) addA) aE) lF) (aI (ik (aI (gv 2) (aI (gv 3) (aI (gv 11) aE)))) aE)))) bI)))))))))))
def sE:List D->Res D:=fun ds=>bV false (Cs (cH KZ.length ds))
theorem LC(T:Txt K mg):Callee P w K mg base "_law_change" Lz [] 3 false cV sE:=
 bU (m':=eh) T.cv iV fun Z Y=>have U:=Z.units;(aH (vE (v_ 1) (jQ rfl (fE (c9 2 iV.nd) (fE (c9 3 iV.nd) (fE (c9 4 iV.nd) jY)))))
   (aH (bR 5 iV.nd (di `r T.a (bB (aB 2) bC)))
   (aH (bR 6 iV.nd (di `r T.a (bB (xB Y (aB 2) iB) bC)))
   (aH (bR 7 iV.nd (fj (aB 0) iB))
   (aH (bR 0 iV.nd (j9 (aB 0) iB))
   (aH (cA (SW.toQ (gD (cP U (aB 7) iB) (lQ (SW.toQ (rc (cP U (aB 7) iB) (rA (cP U (aB 5) iB))))))) (aH (vE (aT (KQ.2 T) (aF (aB 0) aR)) (jQ rfl (fE (c9 2 iV.nd) (fE (c9 3 iV.nd) jY))))
   (aH (bA (fQ (bN (d5 (bE cX) (bE (aT (qr.2 T) (aQ (v_ 2) (aQ (v_ 3) aR))))) (bN (fQ (bN (v_ 2) (bN (v_ 3) (bN gU cI)))) cI))))
   aN))
   aN)
   (aH (bR 8 iV.nd (fj (aB 0) (aB 5)))
   (aH (cA (SW.toQ (gD (cP U (aB 7) iB) (lQ (cP U (aB 7) iB)))) (GS (m2:=eh) (aH (bR 9 iV.nd (fj (bE (j9 (aB 0) (aB 5))) (aB 6)))
   (aH (sc1 10 ["_law_one","_law_thing"] [9] iV.nd (dN (aB 3)) (lS (cP U (aB 0) (aB 1)) gU (v_ 0)))
   (aH (lB 10 Y rfl `r (cN rfl) (aB 8) (v_ 9))
   (aH (bA (fQ (bN (d5 (bE (d5 (bE (d5 (bE cX) (bE (v5 `r T.g (bB (aB 8) bC))))) (bE cX))) (xB Y (bE cX) (aB 9))) (bN (fQ (bN (v_ 2) (bN (i8 `r T.d (bB (aB 10) bC)) (bN (v_ 4) cI)))) cI))))
   aN)))) (sg (sg (sg (Ig Ge)))) rfl)
   aN)
   (aH (cA (cP U (aB 7) iB) (GS (m2:=eh) (aH (fF 10 iV.nd `r (dP rfl) (vU `r T.e (bB (aB 3) bC)))
   (aH (lB 10 Y rfl `r (cN rfl) (aB 8) gU)
   (aH (bA (fQ (bN (d5 (bE cX) (bE (v5 `r T.g (bB (aB 8) bC)))) (bN (fQ (bN (v_ 2) (bN (i8 `r T.d (bB (aB 10) bC)) (bN (v_ 4) cI)))) cI))))
   aN))) (sg (sg (Ig Ge))) rfl)
   aN)
   (aH (bR 11 iV.nd (aT (Kk T) (aQ (v_ 0) (aF (aB 5) aR))))
   (aH (bA (fQ (bN (@eV _ _ _ _ _ _ _ _ _ _ (bE (d5 (SO.toB (dR (bN cX cI))) (SO.toB (iK ["_law_one"] [] iV.nd (dN (aB 11)) (v5 `r T.g (bB (aB 0) bC)))))) rfl rfl) (bN (fQ (bN (v_ 2) (bN (v_ 3) (bN (v_ 11) cI)))) cI))))
   aN)))))))))))
noncomputable abbrev Ce:List Str:=["_law_state"]
def Cj:UT "_law_order" Ce 1 [Md.bw] Ce:=⟨_,fun T=>bU (m':=[Md.bw]) T.cw bF fun hr hu1=>(aH (cA (mD (xB hu1 (aB 0) iB) (bE gU)) (aH (bA (SO.toE (qa rfl `r T.e `r T.c (bB (bE (di `r T.a (bB (xB hu1 (aB 0) iB) bC))) bC)))) aN) aN) (aH (bA (SO.toE (vU `r T.e (bB (xB hu1 (aB 0) iB) bC)))) aN))⟩
def KA:=bP false Ce Cj.1
noncomputable abbrev sR:List Str:=["_law_things"]
theorem L0:FnScope sR sR (aA (top 137)):=bF
def LY:UT "_law_letters" sR 1 [Md.bw] sR:=⟨_,fun T=>bU (m':=[Md.bw]) T.cx L0 fun hr hu1=>(aH (bA (@eV _ _ _ _ _ _ _ _ _ _ (SO.toB (iK ["_law_thing"] [] L0.nd (dN (aB 0)) (df hu1 (bE cX) (aB 0)))) rfl rfl)) aN)⟩
def CC:=bP false sR LY.1
abbrev lW:Stmt:=wD (top 124) 2
noncomputable abbrev j0:List Str:=["self"]
theorem GN:FnScope j0 j0 (aA lW):=bF
noncomputable def EH:de:=aZ pQ (aZ ra gQ)
noncomputable def wd:gN:=fun z ds=>fK (EH (cB j0.length ds) z)
variable{C:Addr}
theorem On(T:Txt K mg)(U:XN K "Desk" C)(A:MethAt K "Desk" "undo" "Desk.undo" lW):CalleeT P w K mg base "undo" j0 1 C [] wd:=by
 refine Ie (k:=0) (fs:=EH) (m':=[Md.bw]) A U GN rfl (fun _ _ _ _ _ _ b d=>by obtain⟨i,rfl⟩:=qO b d;kernel_rfl) fun f h A Y s H g E m=>?_;have Z:=T.l "Desk" C rfl U;have a:=T.n "Desk" C rfl U;have c:Nb g [Md.bw] 0:=qS fun j e=>by rcases j with _|j <;> simp at e ⊢
 exact du (Vu Z.1 a.2 rfl (cN rfl)) (du (Vv c Z.1 Z.2 a.2 rfl (cN rfl)) iu)
def wq(w:DW):FS:=seqF (eM [Md.bw] (fun _=>.ok w.2.isEmpty) (seqF (kU [Md.bw] "NoDeed" (aI (fun _=>Res.ok (D.str "there is nothing left to undo")) aE)) bI) bI) (fun _=>Out.stuck)
def Ag:m9:=fun z ds=>bV false (wq z (cB j0.length ds))
theorem Rc(T:Txt K mg)(d:XN K "Desk" C)(A:MethAt K "Desk" "undo" "Desk.undo" lW):CalleeTX P w K mg base "undo" j0 1 C [] Ag:=by obtain⟨b,c,Z,a,Y,U,r⟩:=T.p;refine Jy (k:=0) (fs:=wq) (m':=[Md.bw]) A d GN rfl (fun _ _ _ _ _ _ h m=>by obtain⟨t,rfl⟩:=qO h m;kernel_rfl) fun f q A e s H g z E u i=>?_;have o:=T.l "Desk" C rfl d;have j:=T.n "Desk" C rfl d;exact aH (cA (N9 i rfl o.1 j.2 rfl (cN rfl)) (aH (GM rfl U.xc U.xn `r (bN cX cI)) aN) aN) oF
abbrev lV:Stmt:=wD (top 124) 1
noncomputable abbrev zG:List Str:=["self","line","words","first","changed"]
noncomputable abbrev qg:List Str:=["self","line"]
theorem nE:FnScope zG qg (aA lV):=bF
noncomputable abbrev eU:List (Str×Str):=[("rings","answer_rings"),("asks","answer_asks"),("deal","answer_deal"),("by","answer_by"),("of","answer_of"),("lot","answer_lot"),("eat","answer_eat")]
noncomputable abbrev fX:List (Str×Str):=[("rows","after_rows"),("own","after_own"),("none","after_none"),("order","after_order")]
def wu:Str->Option (List D->Res D):=fun s=>if s = "rings" then some LQ else if s = "asks" then some Lb else if s = "deal" then some Lc else if s = "by" then some JG else if s = "lot" then some KH else none
def wt:Str->Option (List D->Res D):=fun s=>if s = "rows" then some KF else if s = "own" then some S0 else if s = "none" then some Tp else if s = "order" then some TD else none
noncomputable abbrev eO:List Md:=[.bw,.sh,.sh,.sh,.sh]
def vT:de:=aZ (cO fun _=>aP eO 2 (cG (aI (gv 1) aE) [] iU))
 (aZ (cO fun _=>aP eO 3 (f2 (gv 2) (ci 0) cD))
 (aZ (mT (fun _=>ph eU (gv 3)) (aZ (cO fun kd=>retF eO (qC wu (gv 3) (aI (fun _=>.ok kd) (aI (gJ (gv 2) (jm (ci 1)) (fun _=>Res.ok none)) aE)))) gQ) gQ)
 (aZ (mT (fun _=>ph fX (gv 3))
  (aZ (cO fun kd=>aP eO 4 (qC wt (gv 3) (aI (fun _=>.ok kd) (aI (gJ (gv 2) (jm (ci 1)) (fun _=>Res.ok none)) aE)))) (aZ zj (aZ (tm fun _=>(gv 4)) gQ)))
  (aZ (cO fun _=>jW eO (cG (aI (f2 (gv 2) (gT (aI (fun _=>Res.ok (D.str "undo")) aE)) eqD) aE) [] Lx)) (aZ (wf wd) gQ)))
 (aZ (cO fun kd=>retF eO (cG (aI (f1 (fun _=>.ok kd) (fL mn "wishes")) (aI (f1 (fun _=>.ok kd) (fL pR "owns")) aE)) [] B5)) gQ))))
def i6:gN:=fun z ds=>fK (vT (cB zG.length ds) z)
theorem Om(T:Txt K mg)(i:XN K "Desk" C)(A:MethAt K "Desk" "tell" "Desk.tell" lV)(r:QAt P w K mg "QUESTIONS" eU)(q:QAt P w K mg "CHANGES" fX)(U:CalleeT P w K mg base "undo" j0 1 C [] wd):CalleeT P w K mg base "tell" qg 10 C [.sh] i6:=by
 refine Ie (k:=9) (fs:=vT) (m':=eO) A i nE rfl (fun _ _ _ _ _ _ t v=>by obtain⟨G,F,rfl⟩:=jn t v;kernel_rfl) fun f B A m s H g E d=>?_;have p:=gq d;have c:=d.units;have Y:=T.l "Desk" C rfl i;have u:=T.n "Desk" C rfl i;have o:Nb g eO 0:=qS fun j x=>by rcases j with _|_|_|_|_|j <;> simp[eO]at x ⊢
 have z:∀s f,wu s=some f->∃n,eU.lookup s=some n/\Callee P w K mg base n dD [] 9 false cV f:=fun s f h=>by
  unfold wu at h;split at h
  .rename_i e;subst e;cases h;exact⟨_,rfl,((CG.2 T).lent2).up `d⟩
  split at h
  .rename_i e;subst e;cases h;exact⟨_,rfl,((Cy.2 T).lent2).up `d⟩
  split at h
  .rename_i e;subst e;cases h;exact⟨_,rfl,(Cz.2 T).lent2⟩
  split at h
  .rename_i e;subst e;cases h;exact⟨_,rfl,(BM.2 T).up `d⟩
  split at h
  .rename_i e;subst e;cases h;exact⟨_,rfl,(Co.2 T).up `d⟩
  .cases h
 have y:∀s f,wt s=some f->∃n,fX.lookup s=some n/\Callee P w K mg base n dD [] 9 false cV f:=fun s f h=>by
  unfold wt at h;split at h
  .rename_i e;subst e;cases h;exact⟨_,rfl,(Cm.2 T).lent2⟩
  split at h
  .rename_i e;subst e;cases h;exact⟨_,rfl,(BL.2 T).up `d⟩
  split at h
  .rename_i e;subst e;cases h;exact⟨_,rfl,(Ck.2 T).up `d⟩
  split at h
  .rename_i e;subst e;cases h;exact⟨_,rfl,(Cw.2 T).up `d⟩
  .cases h
 refine du (hV (mb:=[]) (fun a Z k=>bR 2 nE.nd (aT (xF.2 T) (aF (aB 1) aR))) rfl) ?_;refine du (hV (mb:=[]) (fun a Z k=>bR 3 nE.nd (df p (aB 2) iB)) rfl) ?_;refine du (mY (fun a Z k=>vC r (v_ 3)) (du (hV (mb:=[]) (fun a Z k=>bA (tu r z d (v_ 3) (aF (bE (pV k rfl Y.1 Y.2 rfl (cN rfl))) (aQ (pF (aB 2) (ie iB) ic) aR)))) rfl) iu) iu) ?_;refine du (mY (fun a Z k=>vC q (v_ 3)) (du (hV (mb:=[]) (fun a Z k=>bR 4 nE.nd (tu q y d (v_ 3) (aF (bE (pV k rfl Y.1 Y.2 rfl (cN rfl))) (aQ (pF (aB 2) (ie iB) ic) aR)))) rfl) (du (Vh o Y.1 Y.2 u.2 rfl (cN rfl)) (du (UJ o Y.1 Y.2 rfl (cN rfl) fun a Z k=>v_ 4) iu)))
  (du (hV (mb:=[]) (fun a Z k=>iT (aT (kl.2 T) (aF (bE (eY c (aB 2) (SO.toB (dR (bN cX cI))))) aR))) rfl) (du (Ox U (d.mono `d) o rfl (cN rfl)) iu))) ?_
 exact du (hV (mb:=[]) (fun a Z k=>bA (aT (BR.2 T) (aQ (eN T.b (bE (pV k rfl Y.1 Y.2 rfl (cN rfl)))) (aQ (eN T.f (bE (pV k rfl Y.1 Y.2 rfl (cN rfl)))) aR)))) rfl) iu
def wK:Str->Option (List D->Res D):=fun s=>if s = "by" then some Ct else if s = "lot" then some CD else none
def wJ:Str->Option (List D->Res D):=fun s=>if s = "own" then some La else none
def wp(w:DW):FS:=seqF (aP eO 2 (cG (aI (gv 1) aE) [] iU))
 (seqF (aP eO 3 (f2 (gv 2) (ci 0) cD))
 (seqF (eM eO (ph eU (gv 3)) (seqF (retF eO (qB wK (gv 3) (aI (fun _=>.ok w.1) (aI (gJ (gv 2) (jm (ci 1)) (fun _=>Res.ok none)) aE)))) bI) bI)
 (seqF (eM eO (ph fX (gv 3))
  (seqF (aP eO 4 (qB wJ (gv 3) (aI (fun _=>.ok w.1) (aI (gJ (gv 2) (jm (ci 1)) (fun _=>Res.ok none)) aE)))) (fun _=>Out.stuck))
  (seqF (jW eO (ip (aI (f2 (gv 2) (gT (aI (fun _=>Res.ok (D.str "undo")) aE)) eqD) aE) [] sP)) (seqF (jW eO (fun _=>Ag w [])) bI)))
 (fun _=>Out.stuck))))
def kL:m9:=fun z ds=>bV false (wp z (cB zG.length ds))
theorem Rb(T:Txt K mg)(i:XN K "Desk" C)(A:MethAt K "Desk" "tell" "Desk.tell" lV)(m:QAt P w K mg "QUESTIONS" eU)(j:QAt P w K mg "CHANGES" fX)(U:CalleeTX P w K mg base "undo" j0 1 C [] Ag):CalleeTX P w K mg base "tell" qg 10 C [.sh] kL:=by
 refine Jy (k:=9) (fs:=wp) (m':=eO) A i nE rfl (fun _ _ _ _ _ _ o p=>by obtain⟨v,u,rfl⟩:=jn o p;kernel_rfl) fun f t A b s H g z E Y c=>?_;have d:=gq Y;have Z:=Y.units;have a:=T.l "Desk" C rfl i;have r:∀s f,wK s=some f->∃n,eU.lookup s=some n/\CalleeX P w K mg base n dD [] 9 false cV f:=fun s f h=>by
  unfold wK at h;split at h
  .rename_i e;subst e;cases h;exact⟨_,rfl,(Uq T).up `d⟩
  split at h
  .rename_i e;subst e;cases h;exact⟨_,rfl,(Uv T).up `d⟩
  .cases h
 have q:∀s f,wJ s=some f->∃n,fX.lookup s=some n/\CalleeX P w K mg base n dD [] 9 false cV f:=fun s f h=>by
  unfold wJ at h;split at h
  .rename_i e;subst e;cases h;exact⟨_,rfl,(K1.2 T).up `d⟩
  .cases h
 refine aH (bR 2 nE.nd (aT (xF.2 T) (aF (aB 1) aR))) ?_;refine aH (bR 3 nE.nd (df d (aB 2) iB)) ?_;refine aH (cA (vC m (v_ 3)) (aH (bA (Et m r Y (v_ 3) (aF (bE (pV c.kept rfl a.1 a.2 rfl (cN rfl))) (aQ (pF (aB 2) (ie iB) ic) aR)))) aN) aN) ?_;exact aH (cA (vC j (v_ 3)) (aH (bR 4 nE.nd (Et j q Y (v_ 3) (aF (bE (pV c.kept rfl a.1 a.2 rfl (cN rfl))) (aQ (pF (aB 2) (ie iB) ic) aR)))) oF)
  (aH (iT (kE (CM T) (Y.mono `d) (aF (bE (eY Z (aB 2) (SO.toB (dR (bN cX cI))))) aR))) (aH (iT (RL U (Y.mono `d) c rfl rfl (cN rfl))) aN))) oF
noncomputable abbrev KP:List Str:=["_law_desk","_law_line","_law_due","_law_heard_here"]
noncomputable abbrev yd:List Str:=["_law_desk","_law_line","_law_due"]
theorem Lv:FnScope KP yd (aA (top 136)):=bF
noncomputable abbrev wH:List Md:=[.bw,.sh,.sh,.sh]
def xV:de:=aZ (EL 3 (fun _=>aI (gv 1) aE) i6) (aZ (cO fun _=>retF wH (kQ (f1 (gv 3) (pf "str")) (f2 (gv 3) (gv 2) eqD))) gQ)
def jq:gN:=fun z ds=>fK (xV (cB KP.length ds) z)
theorem Ua(T:Txt K mg)(U:CalleeT P w K mg base "tell" qg 10 C [.sh] i6):CalleeO P w K mg base "_law_heard" yd 11 C [.sh,.sh] jq:=by
 refine GB (k:=10) (fs:=xV) (m':=wH) T.cy Lv rfl (fun _ _ _ _ _ _ b h=>by obtain⟨p,o,n,rfl⟩:=qP b h;kernel_rfl) fun f m A Z s H g E a=>?_;have e:=gq a;have Y:=a.units;have c:Nb g wH 0:=qS fun j i=>by rcases j with _|_|_|_|j <;> simp[wH]at i ⊢
 refine du (Oz 3 U a `d c rfl (cN rfl) Lv.nd rfl (dP rfl) fun l d k=>aQ (v_ 1) aR) ?_;exact du (hV (mb:=[]) (fun l d k=>bA (nu (qV "str" "str" rfl (Aa _) `r T.j `r T.g (aB 3)) (nv (eY Y (aB 3) (aB 2))))) rfl) iu
abbrev nw:Stmt:=wD (top 124) 0
theorem Rv:FnScope j0 j0 (aA nw):=bF
theorem Q9(T:Txt K mg)(Y:XN K "Desk" C)(i:∀b,XN K "Desk" b->b=C)(A:MakeAt K mg "Desk" "Desk" "Desk.__init__" nw)(h:yk [.str "A*"]=.ok Z):CalleeI P w K mg base "Desk" j0 9 C Z:=by refine Of (k:=8) A i Rv rfl (fun _ _ _ _ _ _ c e=>by obtain⟨m,rfl⟩:=qO c e;kernel_rfl) fun f j A U s H g E o=>?_;have a:=T.l "Desk" C rfl Y;have d:=T.n "Desk" C rfl Y;refine Vt a.1 a.2 d.2 rfl (cN rfl) (fun r=>⟨_,aT (CH.2 T) (aF (bE cX) aR),?_⟩) (dR cI);show qA (yk [.str "A*"])=_;rw[h];rfl
noncomputable abbrev LW:List Str:=["_law_desk","_law_line","_law_told"]
noncomputable abbrev yp:List Str:=["_law_desk","_law_line"]
theorem yt:FnScope LW yp (aA (top 138)):=bF
noncomputable abbrev qR:List Md:=[.bw,.sh,.sh]
def yj(w:DW):FS:=seqF (aP qR 2 (fun _=>Res.ok (D.str "")))
 (seqF (kR qR (seqF (jW qR (nh w (aI (gv 1) aE) kL)) bI) (vA Sk JR (seqF (aP [.sh,.sh,.sh] 2 (fun _=>Res.ok (D.str "deed"))) bI) (vA JR (fun _=>false) (seqF (aP [.sh,.sh,.sh] 2 (fun _=>Res.ok (D.str "line"))) bI) uD)))
 (seqF (retF [.sh,.sh,.sh] (gv 2)) bI))
def qu:m9:=fun z ds=>bV false (yj z (cB LW.length ds))
theorem Uu(T:Txt K mg)(Z:CalleeTX P w K mg base "tell" qg 10 C [.sh] kL):CalleeOX P w K mg base "_law_refused" yp 11 C [.sh] qu:=by
 obtain⟨c,d,a,b,U,Y,h⟩:=T.p;refine Qm (k:=10) (fs:=yj) (m':=[.sh,.sh,.sh]) T.cz yt rfl (fun _ _ _ _ _ _ i m=>by obtain⟨q,o,rfl⟩:=jn i m;kernel_rfl) fun f n A e s H g z E l j=>?_;exact aH (bR 2 yt.nd cX) (aH (NY (m1:=qR) rfl rfl (fun _ _=>aH (iT (P8 Z l j.tr rfl rfl (cN rfl) (aQ (v_ 1) aR))) aN)
  (EZ Y.xc.bound Y.ob Y.be Y.hit (U.mis h) `r (fun _=>aH (bR 2 yt.nd cX) aN) (EZ U.xc.bound U.ob U.be U.hit qM.no `r (fun _=>aH (bR 2 yt.nd cX) aN) UR)))
  (aH (bA (v_ 2)) aN))
noncomputable abbrev yf:List Str:=["_law_desk","_law_state","_law_cell_here","_law_dealt","_law_n","_law_asks"]
noncomputable abbrev CP:List Str:=["_law_desk","_law_state","_law_cell_here"]
theorem sS:FnScope yf CP (aA yu):=bF
noncomputable abbrev n6:List Md:=[.bw,.sh,.sh,.sh,.sh,.sh]
def Ln:FE:=gT (aI (fun _=>Res.ok (D.str "rings")) (aI (fun _=>Res.ok (D.str "asks")) (aI (f2 (gT (aI (fun _=>Res.ok (D.str "lot 0")) (aI (fun _=>Res.ok (D.str "rings")) aE))) (fC (aI (f2 (gv 4) (ci 5) lL) aE) pN) cD) (aI (f2 (fun _=>Res.ok (D.str "by ")) (fM "str" (fun _=>Res.ok (D.str " ")) (aI (dE 1 [] (eD fY (aI (gv 4) aE)) (bD 0) (fun _=>Res.ok true) (fC (aI (gv 0) aE) lX)) aE) lF) addA) aE))))
def LX(w:DW):FQ:=fN (bY (f2 (f2 (gv 2) (ci 3) bS) (ci 0) eqD)) (bY (f2 (nh w (aI (f2 (gT (aI (fun _=>Res.ok (D.str "undo 0")) (aI (fun _=>Res.ok (D.str "own")) (aI (fun _=>Res.ok (D.str "by")) (aI (fun _=>Res.ok (D.str "lot x")) (aI (fun _=>Res.ok (D.str "rings.")) aE)))))) (f2 (f2 (gv 2) (ci 3) gP) (ci 5) bS) cD) aE) qu) (fun _=>Res.ok (D.str "line")) neD))
def yi:de:=aZ (cO fun _=>aP n6 3 (cG (aI (cG (aI (f2 (gv 1) (ci 0) cD) (aI (f2 (gv 1) (ci 1) cD) (aI (cG (aI (gv 1) aE) [] KA) aE))) [] L8) aE) [] CC))
 (aZ (yH LX (aZ (cO fun _=>retF n6 (fun _=>Res.ok (D.bl false))) gQ) gQ)
 (aZ (mT (fun _=>bY (f2 (f2 (gv 2) (ci 3) bS) (ci 1) eqD))
  (aZ (cO fun _=>aP n6 4 (fC (aI (f2 (gv 1) (ci 0) cD) aE) lenD)) (aZ (cO fun _=>aP n6 5 Ln) (aZ (v6 (fun _=>aI (f2 (gv 5) (f2 (f2 (gv 2) (ci 3) gP) (ci 4) bS) cD) aE) i6) gQ))) gQ)
 (aZ (jF (fun _=>aI (fun _=>Res.ok (D.str "deal")) (aI (gv 3) aE)) jq) gQ)))
def qt:gN:=fun z ds=>fK (yi (cB yf.length ds) z)
theorem Ut(T:Txt K mg)(Z:CalleeT P w K mg base "tell" qg 10 C [.sh] i6)(Y:CalleeO P w K mg base "_law_heard" yd 11 C [.sh,.sh] jq)(U:CalleeOX P w K mg base "_law_refused" yp 11 C [.sh] qu):CalleeO P w K mg base "_law_between" CP 12 C [.sh,.sh] qt:=by
 refine GB (k:=11) (fs:=yi) (m':=n6) T.c0 sS rfl (fun _ _ _ _ _ _ p q=>by obtain⟨v,u,t,rfl⟩:=qP p q;kernel_rfl) fun f m A e s H g E l=>?_;have b:=gq l;have d:=l.units;have n:Nb g n6 0:=qS fun j r=>by rcases j with _|_|_|_|_|_|j <;> simp[n6]at r ⊢
 refine du (hV (mb:=[]) (fun h i k=>bR 3 sS.nd (aT (LY.2 T) (aF (bE (aT (Mb.2 T) (aF (bE (df b (aB 1) iB)) (aF (bE (df b (aB 1) iB)) (aF (bE (aT (Cj.2 T) (aF (aB 1) aR))) aR))))) aR))) rfl) ?_;refine du (Vi (fun h w k=>SW.toQ (rc (cP d (bE (fj (aB 2) iB)) iB) (rA (o4 d (bE (HI U l k rfl rfl (cN rfl) (aQ (df b (SO.toB (dR (bN cX (bN cX (bN cX (bN cX (bN cX cI))))))) (bE (fj (bE (j9 (aB 2) iB)) iB))) aR))) (bE cX))))) (du (hV (mb:=[]) (fun h i k=>bA oY) rfl) iu) iu) ?_;refine du (mY (fun h i k=>cP d (bE (fj (aB 2) iB)) iB) (du (hV (mb:=[]) (fun h i k=>bR 4 sS.nd (di `r T.a (bB (bE (df b (aB 1) iB)) bC))) rfl) (du (hV (mb:=[]) (fun h i k=>bR 5 sS.nd (SO.toE (dR (bN cX (bN cX (bN (df b (SO.toB (dR (bN cX (bN cX cI)))) (bE (Fe `r T.o (bB (bE (Dk (aB 4) iB)) bC)))) (bN (d5 (bE cX) (bE (d7 PySem.F.plainAttrs_str PySem.F.slot_str_join PySem.F.type_str_join GD GL (bE cX) (bB (SO.toB (zH (X:=(cR fA P w K mg base yf "_law_between" (aA yu) f m A e s H E).nox) (N':=["_law_k"]) (nl:=1) (cap:=[]) sS.nd rfl (sv (osc:=(aA yu)) (ON:=yf) rfl rfl `k) (iZ.toC (kM `r T.c (bB (aB 4) bC))) (fun _ _ _ _ _ _=>(EX 0 (show Ċ (["_law_k"]:List Str)by decide+kernel) `r (dP rfl))) (oq `d) (fun _ _ _ _ _ _=>rB) (fun _ _ _ _ _ _=>(v5 `r T.g (bB (aB 0) bC))))) bC)))) cI))))))) rfl)
  (du (Oy Z (l.mono `d) n rfl (cN rfl) fun h i k=>aQ (df b (aB 5) (bE (fj (bE (j9 (aB 2) iB)) iB))) aR) iu))) iu) ?_
 exact du (Vx Y l n rfl (cN rfl) fun h i k=>aQ cX (aQ (v_ 3) aR)) iu
abbrev vS:Stmt:=top 140
noncomputable abbrev Mv:List Str:=["_law_script","_law_desk","_law_state","_law_ahead","_law_seed","_law_k","_law_line","_law_turn","_law_other"]
noncomputable abbrev Ah:List Str:=["_law_script"]
theorem jZ:FnScope Mv Ah (aA vS):=bF
noncomputable abbrev Fv:List Md:=[.sh,.bw,.sh,.sh,.sh,.sh,.sh,.sh,.sh]
noncomputable abbrev n8:List Md:=[.sh,.bw,.sh,.ow,.sh,.sh,.sh,.sh,.sh]
def pH(i:Nat):FE:=cG (aI (f2 (fun r=>gH r i) (ci 0) cD) (aI (f2 (fun r=>gH r i) (ci 1) cD) aE)) [] B2
def pW:de:=aZ (cO fun _=>c6 "list" n8 3 (aI (gv 2) aE) appD)
 (aZ (cO fun _=>iO n8 (cG (aI (cG (aI (gv 0) (aI (gv 5) aE)) [] JF) (aI (gv 2) aE)) [] sE) (gI (dg (bD 6) (dg (bD 2) gz))))
 (aZ (mM (fun _=>aI (gv 6) (aI (pH 2) aE)) jq (fun _=>aI (gv 2) (aI (f2 (gv 4) (f2 (gv 5) (ci 1) addA) gP) aE)) qt) gQ))
def pX:de:=aZ (cO fun _=>pD 3 2)
 (aZ (kC (fun _=>aI (fun _=>Res.ok (D.str "undo")) (aI (pH 2) aE)) jq)
 (aZ (kC (fun _=>aI (gv 2) (aI (f2 (gv 4) (f2 (gv 7) (ci 2) addA) gP) aE)) qt)
 (aZ (mT (fun _=>fN (bY (f2 (gv 7) (ci 1) eqD)) (bY (f2 (f2 (gv 4) (ci 2) bS) (ci 1) eqD)))
  (aZ (cO fun _=>iO n8 (cG (aI (f2 (gv 4) (ci 2) gP) (aI (gv 2) aE)) [] sE) (gI (dg (bD 6) (dg (bD 8) gz))))
  (aZ (kC (fun _=>aI (gv 6) (aI (pH 8) aE)) jq)
  (aZ (kC (fun _=>aI (fun _=>Res.ok (D.str "undo")) (aI (pH 2) aE)) jq) gQ))) gQ) gQ)))
def EG(kd:D):FS:=yZ 1 kd
 (aZ (cO fun _=>aP Fv 2 (ik (aI (ik (aI (ik (aI (ci 0) aE)) aE)) (aI (ik (aI (ci 0) aE)) (aI (fun _=>Res.ok D.non) aE)))))
 (aZ (cO fun _=>aP Fv 3 (gT aE))
 (aZ (cO fun _=>aP n8 4 (cG (aI (gv 0) (aI (ci 1) aE)) [] B1))
 (aZ (vJ (eD jb (aI (ci 2) (aI (fC (aI (fC (aI (gv 0) aE) lenD) (aI (ci 33) aE)) minD) aE))) 5 pW)
 (aZ (vJ (eD fY (aI (fC (aI (gv 3) aE) lenD) aE)) 7 pX)
 (aZ (mB (fun w=>f2 (nh w (aI (fun _=>Res.ok (D.str "undo")) aE) qu) (fun _=>Res.ok (D.str "deed")) eqD) (fun _=>aI (fun _=>Res.ok (D.str "deal")) (aI (fun _=>Res.ok (D.str "A")) aE)) jq) gQ))))))
def EI(kd:D):List D->Res D:=fun ds=>bV false (EG kd (cH Mv.length ds))
theorem Ol(T:Txt K mg)(A:Fun K "law" "law" vS n m)(U:CalleeO P w K mg base "_law_heard" yd 11 C [.sh,.sh] jq)(t:CalleeOX P w K mg base "_law_refused" yp 11 C [.sh] qu)(Z:CalleeO P w K mg base "_law_between" CP 12 C [.sh,.sh] qt)(r:CalleeI P w K mg base "Desk" j0 9 C b):FnOk P w K mg base fA 13 n m Ah (nQ K false [Md.sh] (EI b)):=by
 refine EU (k:=12) (fs:=EG b) (m':=n8) A jZ rfl fun p A l s H g E i=>?_;have d:=gq i;have f:=i.units;have Y:Room 11 _:=i.mono `d;have h:∀{g:GE},Nb g n8 1:=qS fun j o=>by rcases j with _|_|_|_|_|_|_|_|_|j <;> simp[n8]at o ⊢
 refine Pj `d rfl r (i.mono `d) jZ.nd rfl (dP rfl) ?_;refine du (hV (mb:=[]) (fun e b k=>bR 2 jZ.nd (fQ (bN (fQ (bN (fQ (bN q9 cI)) cI)) (bN (fQ (bN q9 cI)) (bN gU cI))))) rfl) ?_;refine du (hV (mb:=[]) (fun e b k=>fF 3 jZ.nd `r (dP rfl) (dR cI)) rfl) ?_;refine du (hV (mb:=[]) (fun e b k=>bR 4 jZ.nd (aT (KS T) (aF (aB 0) (aF iB aR)))) rfl) ?_;refine du (Mx 5 x_ rfl (fun e=>QD `r T.c (bB iB (bB (bE (VE rfl `r T.q (bB (bE (di `r T.a (bB (aB 0) bC))) (bB iB bC)))) bC))) rfl jZ.nd rfl (dP rfl) `d ?_) ?_
 .refine du (hV (mb:=[]) (fun e b k=>oh 3 rfl PySem.F.plainAttrs_list PySem.F.slot_list_append PySem.F.type_list_append xg EK `r (cN rfl) (bN (v_ 2) cI)) rfl) ?_;refine du (hV (mb:=[]) (fun e b k=>vE (aT (LC T) (aF (bE (aT (BK.2 T) (aF (aB 0) (aF (aB 5) aR)))) (aQ (v_ 2) aR))) (jQ rfl (fE (c9 6 jZ.nd) (fE (c9 2 jZ.nd) jY)))) rfl) ?_;exact du (UI U Y Z i h rfl (cN rfl) (fun e b k=>aQ (v_ 6) (aQ (aT (qr.2 T) (aQ (df d (aB 2) iB) (aQ (df d (aB 2) iB) aR))) aR)) (fun e b k=>aQ (v_ 2) (aQ (j9 (aB 4) (bE (d5 (aB 5) iB))) aR))) iu
 refine du (Mx 7 x_ rfl (fun e=>kM `r T.c (bB (bE (di `r T.a (bB (aB 3) bC))) bC)) rfl jZ.nd rfl (dP rfl) `d ?_) ?_
 .refine du (hV (mb:=[]) (fun e b k=>NW 3 2 rfl jZ.nd) rfl) ?_;refine du (wI U Y h rfl (cN rfl) fun e b k=>aQ cX (aQ (aT (qr.2 T) (aQ (df d (aB 2) iB) (aQ (df d (aB 2) iB) aR))) aR)) ?_;refine du (wI Z i h rfl (cN rfl) fun e b k=>aQ (v_ 2) (aQ (j9 (aB 4) (bE (d5 (aB 7) iB))) aR)) ?_;refine du (mY (fun e b k=>SW.toQ (rc (cP f (aB 7) iB) (rA (cP f (bE (fj (aB 4) iB)) iB)))) ?_ iu) iu;refine du (hV (mb:=[]) (fun e b k=>vE (aT (LC T) (aF (bE (j9 (aB 4) iB)) (aQ (v_ 2) aR))) (jQ rfl (fE (c9 6 jZ.nd) (fE (c9 8 jZ.nd) jY)))) rfl) ?_;refine du (wI U Y h rfl (cN rfl) fun e b k=>aQ (v_ 6) (aQ (aT (qr.2 T) (aQ (df d (aB 8) iB) (aQ (df d (aB 8) iB) aR))) aR)) ?_;exact du (wI U Y h rfl (cN rfl) fun e b k=>aQ cX (aQ (aT (qr.2 T) (aQ (df d (aB 2) iB) (aQ (df d (aB 2) iB) aR))) aR)) iu
 .exact du (Vw (fun e w k=>eY f (bE (HI t Y k rfl rfl (cN rfl) (aQ cX aR))) (bE cX)) U Y h rfl (cN rfl) fun e b k=>aQ cX (aQ cX aR)) iu
end Law
namespace Law
open PySem L2 DL
noncomputable abbrev nD(k:Nat):D:=.int (k:Int)
abbrev LN(l:List Nat):D:=.lst (l.map nD)
abbrev TN(l:List Nat):D:=.tup (l.map nD)
def oD:Option Nat->D
|none=>.non
|some k=>nD k
abbrev WD(rows:List (List Nat)):D:=.tup (rows.map TN)
abbrev OD(owns:List (Option Nat)):D:=.tup (owns.map oD)
theorem oU(h:ds.length<=1000):sz ds=some ds:=Q_d (S_ h `d)
@[simp] theorem addA_int(a b:Int):addA (.int a) (.int b)=some (.int (a+b)):=rfl
theorem GF(h:jO a b):cK (.int a) (.int b)=some (.int (a*b)):=by rw[cK,intsC_int,Q_d h]
theorem GC(h:0<b):bS (.int a) (.int b)=some (.int (a%b)):=by rw[bS,intsC_int,Q_d h]
theorem HM(h:ng a b):gP (.int a) (.int b)=some (.int (a/b)):=by rw[gP,intsC_int,Q_d h]
theorem aM(h:Y r=.nx r'):seqF Y U r=U r':=by unfold seqF;rw[h]
theorem aX(h:U r=.rt d):seqF U Y r=.rt d:=by unfold seqF;rw[h]
theorem bJ(h:f r=.ok d):aP m i f r=.nx (r.set i (some d)):=by unfold aP;rw[h];rfl
theorem bH(h:f r=.ok d):retF m f r=.rt d:=by unfold retF;rw[h];rfl
theorem qK(h:p r=.ok b):eM m p Y U r=if b=true then Y r else U r:=by unfold eM;rw[h];rfl
theorem dm(h:p r=.ok true):eM m p U Y r=U r:=by rw[qK h,Q_d rfl]
theorem bW(h:p r=.ok false):eM m p Y U r=U r:=by rw[qK h,Q_e w_]
theorem lZ(h:p r=.ok true):nV p f f' r=f r:=by unfold nV;rw[h];rfl
theorem lY(h:p r=.ok false):nV p f f' r=f' r:=by unfold nV;rw[h];rfl
theorem fR(h:fl r=.ok ds)(U:ds.length<=1000):ik fl r=.ok (.tup ds):=by unfold ik;rw[h,bind_ok,oU U];rfl
theorem gu(h:fl r=.ok ds)(U:ds.length<=1000):gT fl r=.ok (.lst ds):=by unfold gT;rw[h,bind_ok,oU U];rfl
theorem jA(h:ds.length<=1000):appD (.lst ds) [d]=some (.lst (ds++[d])):=by show(if ds.length<sizeLine then some _ else none)=_;rw[Q_d (by rw[G_];omega)]
theorem aU(Z:fl r=.ok U)(Y:F (U++dds)=.ok d):cG fl dds F r=.ok d:=by unfold cG;rw[Z,bind_ok,Y];rfl
theorem dq(Y:f r=.ok a)(U:k a=some d):f1 f k r=.ok d:=by unfold f1;rw[Y,bind_ok,U];rfl
theorem aK(Z:f r=.ok a)(Y:f' r=.ok b)(U:k a b=some d):f2 f f' k r=.ok d:=by unfold f2;rw[Z,bind_ok,Y,bind_ok,U];rfl
theorem bT(Y:fl r=.ok ds)(U:k ds=some d):fC fl k r=.ok d:=by unfold fC;rw[Y,bind_ok,U];rfl
theorem aD(Y:f r=.ok d)(U:fl r=.ok ds):aI f fl r=.ok (d::ds):=by unfold aI;rw[Y,bind_ok,U];rfl
theorem aG:aE r=.ok []:=rfl
theorem cJ(h:f r=.ok (.bl b)):bY f r=.ok b:=by unfold bY;rw[h];rfl
theorem ig(h:f r=.ok d)(U:iE d=some b):dX f r=.ok b:=by unfold dX;rw[h,bind_ok,U];rfl
theorem j8(h:p r=.ok b):gK p r=.ok (not b):=by unfold gK;rw[h];rfl
theorem nq(h:p r=.ok true):fN p q r=q r:=by unfold fN;rw[h];rfl
theorem qL(h:p r=.ok false):fN p q r=.ok false:=by unfold fN;rw[h];rfl
theorem mL(h:p r=.ok true):js p q r=.ok true:=by unfold js;rw[h];rfl
theorem eq(h:p r=.ok false):js p q r=q r:=by unfold js;rw[h];rfl
theorem on(h:f r=.ok (.bl true)):kQ f f' r=f' r:=by unfold kQ;rw[h];rfl
theorem eQ(h:fi r=.ok ds):jz m fi ft b r=bG ft b ds r:=by unfold jz;rw[h];rfl
theorem fq(h:f r=.ok d)(U:dh d=some ds):cF dh f r=.ok ds:=by unfold cF;rw[h,bind_ok,U];rfl
theorem fG:bG ft b [] r=.nx r:=`r
theorem fm(Y:ft d r=some r1)(U:b r1=.nx r'):bG ft b (d::ds) r=bG ft b ds r':=by
 conv=>lhs;unfold bG
 simp only[Y,U]
theorem zD(Y:ft d r=some r1)(U:b r1=.rt v):bG ft b (d::ds) r=.rt v:=by
 conv=>lhs;unfold bG
 simp only[Y,U]
theorem rP(h:p r=.ok false):gW m p b (n+1) r=.nx r:=by unfold gW;rw[h];rfl
theorem p6(h:p r=.ok true)(U:b r=.nx r'):gW m p b (n+1) r=gW m p b n r':=by
 conv=>lhs;unfold gW
 rw[h,onE_ok,Q_d rfl,U]
theorem h9(b:r[i]? = some (some d))(a:C1 T d=true)(Z:fl r=.ok ds)(Y:U d ds=some d'):c6 T m i fl U r=.nx (r.set i (some d')):=by unfold c6;rw[b];simp only[a,Q_k,Z,onE_ok,Y]
theorem kz(c:r[i]? = some (some d))(b:U r=.ok v)(a:Y r=.ok k)(Z:gA d k v=some d'):DL.putF m i Y U r=.nx (r.set i (some d')):=by unfold DL.putF;rw[b,onE_ok];simp only[c,a,onE_ok,Z]
theorem OS(f:Z r=.ok x)(e:Y r=.ok y)(c:k x y=some (.bl true))(b:fc r=.ok w)(a:U y w=some d):zB Z Y fc k U r=.ok d:=by unfold zB;rw[f,bind_ok,e,bind_ok,c,opt_some,bind_ok];rw[b,bind_ok,a];rfl
theorem QY:iq ft q fe U []=.ok []:=`r
theorem IQ{Y:Type}(e:Y->D)(U:Y->Bool)(g:Y->D):∀(l:List Y),(∀a∈l,∃r1,ft (e a) Z=some r1/\q r1=.ok (U a)/\(U a=true->fe r1=.ok (g a)))->iq ft q fe Z (l.map e)=.ok ((l.filter U).map g)
|[],_=>QY
|a::l,h=>by
  obtain⟨r1,j,i,f⟩:=h a g_;have c:=IQ e U g l fun b d=>h b (h_ _ d);rw[R_]
  conv=>lhs;unfold iq
  rw[j,opt_some,bind_ok,i,bind_ok];cases k:U a with
 |true=>rw[Q_d rfl,f k,bind_ok,c,bind_ok,ą,Q_d k];rfl
 |false=>simp_all
theorem dL{Y:Type}{l:List Y}(e:Y->D)(U:Y->Bool)(g:Y->D)(b:fi r=.ok (l.map e))(Z:l.length<=1000)(h:∀a∈l,∃r1,ft (e a) (dI nl cap r)=some r1/\q r1=.ok (U a)/\(U a=true->fe r1=.ok (g a))):dE nl cap fi ft q fe r=.ok (.lst ((l.filter U).map g)):=by unfold dE;rw[b,bind_ok,oU (by simpa using Z),opt_some,bind_ok,IQ e U g l h,noXL_ok,bind_ok]
theorem UZ(k:Nat):MO (.int 0) (nD k)=some (.bl true):=by show some (D.bl _)=_;rw[Q_c (Y3 k)]
theorem n5(a b:Nat):nS (nD a) (nD b)=some (.bl (decide (a<b))):=by show some _=_;simp
theorem n0(a b:Nat):lL (nD a) (nD b)=some (.bl (decide (b<a))):=by show some _=_;simp
theorem iR(a b:Nat):eqD (nD a) (nD b)=some (.bl (decide (a=b))):=by
 unfold eqD;rw[eqB_int];show some _=_;have:((a)==(b:Int))=decide (a=b):=by rw[XS,beq_iff_eq,Q_h];exact ś
 rw[this]
theorem c8{B:FS}(h:B (cH n ds)=.rt d):bV false (B (cH n ds))=.ok d:=by rw[h];rfl
noncomputable abbrev kI(k:Nat):bL:=Sum.inl (k:Int)
theorem zE(U:List (Nat×D))(k:Nat):gc (U.map fun p=>(kI p.1,p.2)) (kI k)=decide (k∈U.map (·.1)):=by
 unfold gc;rw[Z6,XS,ZR,Q_h,k_]
 grind
theorem Ht(U:List (Nat×D))(k:Nat)(d:D)(h:k∉U.map (·.1)):f8 (U.map fun p=>(kI p.1,p.2)) (kI k) d=(U++[(k,d)]).map fun p=>(kI p.1,p.2):=by unfold f8;have e:((U.map fun p=>(kI p.1,p.2)).any fun Y=>decide _)=decide _:=zE U k;rw[e,Q_b h,Q_e w_,XT];rfl
@[simp] theorem e_skip(r:aJ):bI r=.nx r:=rfl
@[simp] theorem e_tupL(ds:List D):tupD [.lst ds]=some (.tup ds):=rfl
@[simp] theorem e_valsD(U:List (bL×D)):vR (.dic U)=some (.lst (U.map (·.2))):=rfl
theorem gs(h:ds[i]? = some d):cD (.tup ds) (nD i)=some d:=by have U:=(e_.mp h).1;show im ds _=some d;unfold im iW;rw[Q_d (Y3 i),Q_d `o];simpa using h
theorem lE(h:ds[i]? = some d):cD (.lst ds) (nD i)=some d:=by have U:=(e_.mp h).1;show im ds _=some d;unfold im iW;rw[Q_d (Y3 i),Q_d `o];simpa using h
@[simp] theorem ixA_L0(d:D)(ds:List D):cD (.lst (d::ds)) (.int 0)=some d:=lE rfl
@[simp] theorem ixA_T0(d:D)(ds:List D):cD (.tup (d::ds)) (.int 0)=some d:=gs rfl
theorem zh(h:dc U (kI k)=some d):cD (.dic U) (nD k)=some d:=h
theorem uN(l:List Nat)(k:Nat):(l.map nD).any (fun y=>eqs y (nD k))=decide (k∈l):=by
 rw[Z6,XS,ZR,Q_h];constructor
 .rintro⟨x,h1,h2⟩
  have:(((x))==(k:Int))=true:=h2
  grind
 .intro h;exact⟨k,h,by show(((k):Int)==(k))=true;simp⟩
theorem uZ(l:List Nat):(l.map nD).all dw=true:=by rw[U_];intro x U;obtain⟨k,_,rfl⟩:=k_.mp U;rfl
theorem Ed(l:List Nat)(k:Nat):g6 (nD k) (LN l)=some (.bl (decide (k∈l))):=by show(if dw _=true/\(l.map nD).all dw=true then some _ else none).map D.bl=_;rw[Q_d ⟨rfl,uZ l⟩,uN];rfl
theorem wc(l:List Nat)(k:Nat):eZ (nD k) (LN l)=some (.bl (not (decide (k∈l)))):=by show(if dw _=true/\(l.map nD).all dw=true then some _ else none).map _=_;rw[Q_d ⟨rfl,uZ l⟩,uN];rfl
theorem KU(k b:Nat):xw [nD k,nD b]=.ok (.bl (decide (k<b))):=by
 refine dy (n:=2) ?_
 dsimp only[xA]
 refine aX (bH ?_);exact(on (aU (aD (d:=nD k) rfl aG) ((fun k=>rfl) k))).trans (OS rfl rfl (UZ k) rfl (n5 k b))
theorem jp{U:Type}(f:U->D)(l:List U):lenD [.tup (l.map f)]=some (nD l.length):=by show some _=_;rw[i_]
theorem ii{U:Type}(f:U->D)(l:List U):lenD [.lst (l.map f)]=some (nD l.length):=by show some _=_;rw[i_]
theorem HY{U:Type}(f:U->bL×D)(l:List U):lenD [.dic (l.map f)]=some (nD l.length):=by show some _=_;rw[i_]
theorem nI(n:Nat):eqD (nD n) (nD n)=some (.bl true):=by
 have e:=iR n n
 grind
theorem Fa(n:Nat):d9 0 n=(j_ n).map nD:=by unfold d9;simp_all
theorem Qj(j:Int):vK [.int j]=if-(2^62)<=j/\j<2^62/\j.toNat<=sizeLine then some (.lst (d9 0 j.toNat))else none:=rfl
theorem p9(h:n<=1000):vK [nD n]=some (LN (j_ n)):=by
 have U:(n:Int).toNat<=sizeLine:=by rw[Yg,G_];omega
 rw[Qj,Q_d ⟨`o,`o,U⟩,Yg,Fa]
theorem O3(j:Int):fY [.int j]=if-(2^62)<=j/\j<2^62 then some (d9 0 j.toNat)else none:=rfl
theorem kA(h:n<=1000):fY [nD n]=some ((j_ n).map nD):=by rw[O3,Q_d ⟨`o,`o⟩,Yg,Fa]
theorem kb(Z:fl r=.ok ds)(Y:k ds=some U):eD k fl r=.ok U:=by unfold eD;rw[Z,bind_ok,Y];rfl
theorem SM:∀(l:List Nat),l.find? p=(l.filter p).head?
|[]=>rfl
|a::l=>by grind
theorem uY(o:Option Nat)(x:Nat):eqD (oD o) (nD x)=some (.bl (decide (o=some x))):=by cases o with
|none=>unfold eqD oD;simp
|some k=>show eqD (nD k) _=_;rw[iR];simp
noncomputable def own(owns:List (Option Nat))(h:Nat):Option Nat:=(owns[h]?).join
theorem zI(U:h<owns.length):(owns.map oD)[h]? = some (oD (own owns h)):=by
 unfold own
 grind
theorem xr{rest:List (List Nat)}:sy [WD (U::rest)]=.ok (nD U.length):=by refine c8 ?_;exact aX (bH (bT (aD (aK rfl rfl (ixA_T0 _ _)) aG) (jp _ _)))
theorem HB(h:∃x∈Y,x∈U)(c:Y.length<=1000):qo [TN Y,LN U]=.ok (nD (Rg.best Y U)):=by
 refine c8 ?_;have Z:(dE 1 [1] (cF dh (gv 0)) (bD 0) (bY (f2 (gv 0) (gv 1) g6)) (gv 0)) [some (TN Y),some (LN U)]=.ok (LN (Y.filter fun x=>decide (x∈U))):=by
  refine dL nD _ nD rfl c fun a _=>⟨_,rfl,?_,fun _=>rfl⟩
  exact cJ (aK rfl rfl (Ed _ _))
 have d:∃t,(Y.filter fun x=>decide (x∈U))=Rg.best Y U::t:=by unfold Rg.best;rw[SM];cases e:Y.filter fun x=>decide (x∈U)with
 |nil=>
   obtain⟨x,g,f⟩:=h;have:x∈Y.filter fun x=>decide _:=o_.mpr ⟨g,by simpa using f⟩
   grind
 |cons a t=>exact⟨t,rfl⟩
 obtain⟨t,b⟩:=d;rw[b]at Z;exact aX (bH (aK Z rfl (ixA_L0 _ _)))
abbrev jy(pre:List Nat):D:=.dic ((pre.map fun k=>(k,D.bl true)).map fun p=>(kI p.1,p.2))
theorem FU(b:Nat)(Y:D):∀(U c:List Nat)(x y:Option D),(c++U).Nodup->(∀k∈U,k<b)->(c++U).length<=1000 ->∃f e,bG (gI (dg (bD 3) (dg (bD 4) gz))) Ly (eF c.length (U.map nD)) [some Y,some (nD b),some (jy c),x,y]=.nx [some Y,some (nD b),some (jy (c++U)),f,e]
|[],c,x,y,_,_,_=>⟨x,y,by rw[W_];exact fG⟩
|k::U,c,x,y,m,i,h=>by
  obtain⟨f,e,g⟩:=FU b Y U (c++[k]) (some (nD c.length)) (some (nD k)) (by simpa using m) (fun j n=>i j (h_ _ n)) (by simpa using h);refine⟨f,e,?_⟩;rw[show(c++[k]).length=c.length+1 by simp]at g;rw[show c++k::U=(c++[k])++U by simp,<-g];refine fm rfl ?_;have p:g6 (nD k) (jy c)=some (.bl false):=by
   show(some (gc _ (kI k))).map D.bl=_;rw[zE,B_]
   grind
  have o:gA (jy c) (nD k) (.bl true)=some (jy (c++[k])):=by show(if _ then some (D.dic (f8 _ (kI k) (.bl true)))else none)=_;rw[Q_d (by rw[i_,i_,G_];simp at h;omega),Ht _ _ _ `g];simp
  have q:decide (k<b)=true:=Q_c (i k g_);unfold Ly;have Z:(js (gK (dX (cG (aI (gv 4) (aI (gv 1) aE)) [] xw))) (bY (f2 (gv 4) (gv 2) g6))) [some Y,some (nD b),some (jy c),some (nD c.length),some (nD k)]=.ok false:=by have l:=KU k b;rw[q]at l;rw[eq (j8 (ig (b:=true) (aU (aD (d:=nD k) rfl (aD (d:=nD b) rfl aG)) l) rfl))];exact cJ (aK (a:=nD k) (b:=jy c) rfl rfl p)
  refine(aM (qK Z)).trans ?_;exact aM (kz (d:=jy c) (k:=nD k) rfl rfl rfl o)
theorem Hb(U:l.Nodup)(Y:∀k∈l,k<n)(Z:l.length=n)(c:n<=1000):Lw [LN l,nD n]=.ok (.bl true):=by
 refine dy (n:=2) ?_
 dsimp only[yh]
 subst Z;refine aX (bH ?_);rw[on (aK (a:=nD l.length) (b:=nD l.length) (bT (aD (d:=LN l) rfl aG) (ii _ _)) rfl (nI _))];exact aU (aD (d:=LN l) rfl (aD (d:=nD l.length) rfl aG)) ((fun U Y c=>by refine c8 ?_;exact aX (bH (aK (aU (aD rfl (aD rfl aG)) ((fun U Y Z=>by obtain⟨f,e,h⟩:=FU _ _ _ [] none none U Y Z;refine c8 ?_;refine(aM ((eQ rfl).trans h)).trans ?_;exact aX (bH (bT (aD rfl aG) (ii _ _)))) U Y c)) (bT (aD rfl aG) (ii _ _)) (nI _)))) U Y c)
theorem Jo(U:l.Nodup)(Z:∀k∈l,k<rows.length)(Y:l.length=rows.length)(a:rows.length<=1000):xy [WD rows,LN l]=.ok (LN l):=by
 refine dy (n:=2) ?_
 dsimp only[qk]
 refine(aM ((qK (b:=false) (j8 (b:=true) (ig (aU (aD (d:=LN l) rfl (aD (bT (aD (d:=WD rows) rfl aG) (jp _ _)) aG)) (Hb U Z Y a)) rfl))).trans rfl)).trans ?_;exact aX (bH (bT (aD (d:=LN l) rfl aG) rfl))
theorem FY(owns:List (Option Nat))(line:List Nat)(x:Nat):∀(l:List Nat)(y:Option D),(∀h∈l,h<owns.length) ->(match l.find? (fun h=>decide (own owns h=some x))with
  |some h=>bG (bD 3) yl (l.map nD) [some (OD owns),some (LN line),some (nD x),y]=.rt (nD h)
  |none=>∃Y,bG (bD 3) yl (l.map nD) [some (OD owns),some (LN line),some (nD x),y]=.nx [some (OD owns),some (LN line),some (nD x),Y])
|[],y,_=>⟨y,fG⟩
|h::l,y,U=>by have c:(bY (f2 (f2 (gv 0) (gv 3) cD) (gv 2) eqD)) [some _,some (LN line),some (nD x),some _]=.ok _:=cJ (aK (aK rfl rfl (gs (zI (U h g_)))) rfl (uY _ _));rw[V_];cases e:decide (own owns h=some x)with
 |true=>rw[e]at c;refine zD rfl ?_;exact aX ((dm c).trans (aX (bH rfl)))
 |false=>
   rw[e]at c;have b:=FY owns line x l (some (nD h)) fun k Z=>U k (h_ _ Z);have a:bG (bD 3) yl _ [some _,some _,some _,y]=bG _ yl (l.map nD) [some _,some _,some _,some _]:=fm rfl ((aM (bW c)).trans rfl)
   grind
theorem Jp(U:∀h∈line,h<owns.length):KI [OD owns,LN line,nD x]=.ok (oD (line.find? fun h=>decide (own owns h=some x))):=by refine c8 ?_;have h:=FY owns line x line none U;cases e:line.find? fun h=>decide (own owns h=some x)with
|some k=>rw[e]at h;exact aX ((eQ rfl).trans h)
|none=>rw[e]at h;obtain⟨Y,h⟩:=h;exact(aM ((eQ rfl).trans h)).trans (aX (bH rfl))
theorem DY(o:Option Nat):uB (oD o) .non=some (.bl (decide (o=none))):=by cases o <;> rfl
theorem RZ(Y:∀h∈line,h<owns.length)(U:line≠[]):CI [OD owns,LN line,nD x]=.ok (nD ((line.find? fun h=>decide (own owns h=some x)).getD (line.headD 0))):=by refine c8 ?_;refine(aM (bJ (aU (aD rfl (aD rfl (aD rfl aG))) (Jp Y)))).trans ?_;refine aX (bH ?_);have c:=cJ (aK (f:=gv 3) (f':=fun _=>Res.ok D.non) (r:=[some (OD owns),some (LN line),some (nD x),some _]) rfl rfl (DY (line.find? fun h=>decide (own owns h=some x))));cases e:line.find? fun h=>decide (own owns h=some x)with
|some k=>rw[e,Q_b `s]at c;exact(lY c).trans rfl
|none=>rw[e,Q_c rfl]at c;refine(lZ c).trans ?_;cases line with
 |nil=>exact Q_f rfl U
 |cons a l=>exact aK rfl rfl (ixA_L0 _ _)
abbrev KD(kvs:List (Nat×Nat)):D:=.dic (kvs.map fun p=>(kI p.1,nD p.2))
noncomputable abbrev FD(l:List Nat)(f:Nat->Nat):List (Nat×Nat):=l.map fun h=>(h,f h)
theorem xa:∀{U:List (Nat×Nat)}{h:Nat}{f:Nat->Nat},(∀p∈U,p.2=f p.1)->h∈U.map (·.1)->dc (U.map fun p=>(kI p.1,nD p.2)) (kI h)=some (nD (f h))
|[],_,_,_,Y=>by cases Y
|p::U,h,f,Z,Y=>by
  by_cases e:p.1=h
  .have:=Z p g_;subst e;simp[dc,V_,this]
  .have hh':h∈U.map (·.1):=`g
   have a:=xa (fun q b=>Z q (h_ _ b)) hh';have c:dc ((p::U).map fun p=>(kI p.1,nD p.2)) (kI h)=dc (U.map fun p=>(kI p.1,nD p.2)) (kI h):=by
    simp only[dc,R_]
    grind
   rw[c];exact a
theorem rh(Y:h∈l):cD (KD (FD l f)) (nD h)=some (nD (f h)):=zh (xa (fun p U=>`g) `g)
noncomputable def putN(kvs:List (Nat×Nat))(k v:Nat):List (Nat×Nat):=if k∈kvs.map (·.1)then kvs.map fun p=>if p.1=k then(p.1,v)else p else kvs++[(k,v)]
theorem uC(U:List (Nat×Nat))(k:Nat):((U.map fun p=>(kI p.1,nD p.2)).any fun Y=>decide (Y.1=kI k))=decide (k∈U.map (·.1)):=by
 rw[Z6,XS,ZR,Q_h,k_]
 grind
theorem E7(U:List (Nat×Nat))(k v:Nat):f8 (U.map fun p=>(kI p.1,nD p.2)) (kI k) (nD v)=(putN U k v).map fun p=>(kI p.1,nD p.2):=by
 unfold f8 putN;rw[uC];by_cases h:k∈U.map (·.1)
 .rw[Q_c h,Q_d rfl,Q_d h,B_,B_];refine YV fun p _=>?_
  grind
 grind
theorem RM(U:List (Nat×Nat))(k v j:Nat):j∈(putN U k v).map (·.1)↔j∈U.map (·.1)\/j=k:=by
 unfold putN
 grind
theorem QC{f:Nat->Nat}(h:∀p∈U,p.2=f p.1)(Z:v=f k):∀p∈putN U k v,p.2=f p.1:=by
 intro p Y;unfold putN at Y
 grind
theorem wj(Y:U.length<=1000):gA (KD U) (nD k) (nD v)=some (KD (putN U k v)):=by show(if (U.map fun p=>(kI p.1,nD p.2)).length<sizeLine then some _ else none)=_;rw[Q_d (by rw[i_,G_];omega),E7]
structure GI(t:Nat->Nat)(kvs:List (Nat×Nat))(L:List Nat):Prop where
 nd:(kvs.map (·.1)).Nodup
 val:∀p∈kvs,p.2=t p.1
 key:∀h,h∈kvs.map (·.1)↔h∈L
theorem Pp(h:(U.map (·.1)).Nodup):((putN U k v).map (·.1)).Nodup:=by
 unfold putN
 grind
theorem GI.put(g:GI t U L)(k:Nat):GI t (putN U k (t k)) (L++[k]):=⟨Pp g.nd,QC g.val rfl,fun h=>by rw[RM,g.key];simp⟩
theorem GI.len{L line:List Nat}(g:GI t U L)(hs:∀h∈L,h∈line):U.length<=line.length:=by have:=Rg.lG g.nd fun h Y=>hs h ((g.key h).mp Y);simpa using this
theorem GI.congr(g:GI t U L)(h:∀x∈L,t' x=t x):GI t' U L:=⟨g.nd,fun p Y=>by rw[g.val p Y,h p.1 ((g.key _).mp (k_.mpr ⟨p,Y,rfl⟩))],g.key⟩
theorem GI.mem(g:GI t U L)(h:∀x,x∈L↔x∈M):GI t U M:=⟨g.nd,g.val,fun x=>(g.key x).trans (h x)⟩
theorem GI.nil(t:Nat->Nat):GI t [] []:=⟨`s,fun _ U=>(nomatch U),fun h=>by simp⟩
theorem fu{U:Type}(l:List U):l.filter (fun _=>true)=l:=Zs.mpr fun _ _=>rfl
noncomputable def Wr(rows:List (List Nat))(h:Nat):List Nat:=(rows[h]?).getD []
theorem rE(U:h<rows.length):(rows.map TN)[h]? = some (TN (Wr rows h)):=by rw[H_];unfold Wr;rw[m_ U];rfl
theorem Hu(h:k∉U.map (·.1)):putN U k v=U++[(k,v)]:=by unfold putN;rw[Q_e h]
theorem LF(g:GI a U L)(h:∀x,x∈L↔x<n)(f:n<=60):Tq [KD U]=.ok (TN ((j_ n).map a)):=by
 have Z:U.length=n:=by have e:=g.len fun x Y=>u_.mpr ((h x).mp Y);have c:=Rg.lG Yn fun x Y=>(g.key x).mpr ((h x).mpr (u_.mp Y));simp at e c;omega
 refine dy (n:=1) ?_
 dsimp only[xZ]
 refine aX (bH (bT (aD (dL (l:=j_ n) nD (fun _=>true) (fun h=>nD (a h)) (kb (ds:=[nD n]) (aD (bT (aD (d:=KD U) rfl aG) (by rw[HY,Z])) aG) (kA `o)) `z fun x Y=>⟨[some (nD x),some (KD U)],rfl,rfl,fun _=>aK (a:=KD U) (b:=nD x) rfl rfl (zh (xa g.val ((g.key x).mpr ((h x).mpr (u_.mp Y)))))⟩) aG) ?_));rw[fu,e_tupL];show some (D.tup _)=some (D.tup _);rw[B_];rfl
abbrev jT(t:Nat->Nat)(h:Nat):D:=.tup [nD h,nD (t h)]
abbrev fD(t:Nat->Nat)(ring:List Nat):D:=.tup (ring.map (jT t))
def l9(t:Nat->Nat):Option (List Nat)->D
|some ring=>fD t ring
|none=>.non
section
variable{t f:Nat->Nat}{line:List Nat}{first:Nat}(hcl:∀h∈line,f h∈line)(hn:line.length<=60)
include hcl hn
theorem O1:∀(j:Nat)(Z:List Nat)(a:Nat),a∈line->Z.length<=line.length->line.length<j+Z.length ->∃Y U,gW mJ TU TL j [some (nD first),some (KD (FD line t)),some (KD (FD line f)),some (.lst (Z.map (jT t))),some (nD a)]=.nx [some (nD first),some (KD (FD line t)),some (KD (FD line f)),some (.lst (Y.map (jT t))),some (nD U)] /\∀k,line.length<k+Z.length->Rg.jP f line.length first k Z a=if U=first then some Y else none:=by
 intro j
 induction j with
|zero=>grind
|succ j g=>
  intro Z a e n m;have b:(bY (f2 (gv 4) (gv 0) lL)) [some (nD first),some (KD (FD line t)),some (KD (FD line f)),some (.lst (Z.map (jT t))),some (nD a)]=.ok _:=cJ (aK rfl rfl (n0 _ _));have d:(bY (f2 (fC (aI (gv 3) aE) lenD) (fC (aI (gv 1) aE) lenD) nS)) [some (nD first),some (KD (FD line t)),some (KD (FD line f)),some (.lst (Z.map (jT t))),some (nD a)]=.ok (decide (Z.length<line.length)):=by refine cJ (aK (bT (aD rfl aG) (ii _ _)) (bT (aD rfl aG) ?_) (n5 _ _));rw[HY,i_]
  by_cases c:first<a/\Z.length<line.length
  .have cq:=by rw[Q_c c.1]at b;rw[Q_c c.2]at d;exact(nq b).trans d
   obtain⟨Y,U,h,l⟩:=g (Z++[a]) _ (hcl a e) `z `z;refine⟨Y,U,?_,fun k i=>?_⟩
   .rw[p6 cq ?_]
    .exact h
    .refine(aM (h9 rfl rfl (aD (fR (aD rfl (aD (aK rfl rfl (rh e)) aG)) `s) aG) (jA `z))).trans ?_;refine(aM (bJ (aK rfl rfl (rh e)))).trans ?_;show Out.nx [_,_,_,some _,_]=_
     grind
   .cases k with
   |zero=>omega
   |succ k=>
     unfold Rg.jP
     grind
  .refine⟨Z,a,rP ?_,fun k i=>?_⟩
   .by_cases hc1:first<a
    .rw[Q_c hc1]at b;rw[Q_b (fun z=>c ⟨hc1,z⟩)]at d;exact(nq b).trans d
    .rw[Q_b hc1]at b;exact qL b
   .cases k with
   |zero=>omega
   |succ k=>unfold Rg.jP;rw[Q_e c]
theorem P4(Z:first∈line):S2 [nD first,KD (FD line t),KD (FD line f)]=.ok (l9 t (Rg.nZ f line.length first)):=by
 refine c8 ?_;have a:=Yv Z;obtain⟨Y,U,g,d⟩:=O1 hcl hn 64 [first] _ (hcl first Z) (by show 1<=_;omega) `o;refine(aM (bJ (gu (aD (fR (aD rfl (aD (aK rfl rfl (rh Z)) aG)) `s) aG) `s))).trans ?_;refine(aM (bJ (aK rfl rfl (rh Z)))).trans ?_;refine(aM g).trans ?_;have b:Rg.nZ f line.length first=if U=first then some Y else none:=d _ `o
 rw[b];have c:=cJ (aK (f:=gv 4) (f':=gv 0) (r:=[some _,some (KD (FD line t)),some (KD (FD line f)),some (.lst (Y.map (jT t))),some _]) rfl rfl (iR U first));by_cases e:U=first
 .rw[Q_c e]at c;rw[Q_d e];exact aX (bH ((lZ c).trans (bT (aD rfl aG) rfl)))
 .rw[Q_b e]at c;rw[Q_e e];exact aX (bH ((lY c).trans rfl))
end
structure Snd(rows:List (List Nat))(owns:List (Option Nat))(s:Rg.S):Prop where
 ok:Rg.Ok (Wr rows) (own owns) s
 inr:∀h∈s.line,h<rows.length
 ino:∀h∈s.line,h<owns.length
 wid:∀h∈s.line,(Wr rows h).length<=1000
 nl:s.line.length<=60
 nt:s.things.length<=60
variable{rows:List (List Nat)}{owns:List (Option Nat)}
section
variable{s:Rg.S}
theorem Snd.tg(S:Snd rows owns s)(U:h∈s.line):qo [TN (Wr rows h),LN s.things]=.ok (nD (Rg.eR (Wr rows) s h)):=HB (S.ok.some_thing U) (S.wid h U)
theorem Snd.pts(S:Snd rows owns s)(U:h∈s.line):CI [OD owns,LN s.line,nD x]=.ok (nD (Rg.pt (own owns) s x)):=RZ S.ino (XR U)
abbrev tS(rows:List (List Nat))(s:Rg.S):Nat->Nat:=Rg.eR (Wr rows) s
abbrev fS(rows:List (List Nat))(owns:List (Option Nat))(s:Rg.S):Nat->Nat:=Rg.nxt (Wr rows) (own owns) s
theorem Ha(S:Snd rows owns s):∀(U Y:List Nat)(y:Option D),Y++U=s.line ->
  ∃c,bG (bD 6) UA (U.map nD) [some (WD rows),some (OD owns),some (LN s.line),some (LN s.things),some (KD (FD Y (tS rows s))),some (KD (FD Y (fS rows owns s))),y,none]
   = .nx [some (WD rows),some (OD owns),some (LN s.line),some (LN s.things),some (KD (FD s.line (tS rows s))),some (KD (FD s.line (fS rows owns s))),c,none]
|[],Y,y,e=>⟨y,by rw[W_]at e;rw[e];exact fG⟩
|h::U,Y,y,e=>by
  obtain⟨c,i⟩:=Ha S U (Y++[h]) (some (nD h)) (by simpa using e);have f:h∈s.line:=by rw[<-e];simp
  have g:=S.ok.nl;rw[<-e]at g;have m:h∉Y:=fun z=>(List.nodup_append.mp g).2.2 h z h g_ rfl;have Z:Y.length<=1000:=by
   have:=S.nl
   grind
  refine⟨c,?_⟩;rw[<-i];refine fm rfl ?_;have l:gA (KD (FD Y (tS rows s))) (nD h) (nD (tS rows s h))=some (KD (FD (Y++[h]) (tS rows s))):=by
   rw[wj (by simpa using Z),Hu `g]
   grind
  have j:gA (KD (FD Y (fS rows owns s))) (nD h) (nD (fS rows owns s h))=some (KD (FD (Y++[h]) (fS rows owns s))):=by
   rw[wj (by simpa using Z),Hu `g]
   grind
  refine(aM (kz (d:=KD (FD Y (tS rows s))) (k:=nD h) (v:=nD (tS rows s h)) rfl (aU (aD (aK (a:=WD rows) (b:=nD h) rfl rfl (gs (rE (S.inr h f)))) (aD (d:=LN s.things) rfl aG)) (S.tg f)) rfl l)).trans ?_;refine(aM (kz (d:=KD (FD Y (fS rows owns s))) (k:=nD h) (v:=nD (fS rows owns s h)) rfl (aU (aD (d:=OD owns) rfl (aD (d:=LN s.line) rfl (aD (aK (a:=KD (FD (Y++[h]) (tS rows s))) (b:=nD h) rfl rfl (rh `s)) aG))) (S.pts f)) rfl j)).trans ?_;rfl
theorem zZ{U:Type}(t:Nat->Nat)(f:U->Option (List Nat)):∀(l:List U),(((l.map f).filter š).map (l9 t))=(l.filterMap f).map (fD t)
|[]=>rfl
|a::l=>by rw[R_,ą,Zp];cases e:f a with
 |none=>simpa using zZ t f l
 |some r=>simpa[l9]using zZ t f l
theorem SU(t:Nat->Nat)(h:Nat):ou (jT t h)=some [(h:Int),(t h:Int)]:=rfl
theorem Iv(t:Nat->Nat):∀(U:List Nat),og (U.map (jT t))=some (U.map fun h:Nat=>[(h:Int),(t h:Int)])
|[]=>rfl
|h::U=>by show(ou _).bind _=_;rw[SU,Iv t U];rfl
theorem Jk(t:Nat->Nat):∀(rs:List (List Nat)),(∀r∈rs,r≠[])->∃U,om (rs.map (fD t))=some U
|[],_=>⟨[],rfl⟩
|r::rs,h=>by obtain⟨U,e⟩:=Jk t rs fun x Y=>h x (h_ _ Y);have Z:=h r g_;cases r with
 |nil=>exact Q_f rfl Z
 |cons a r=>refine⟨((a::r).map fun h:Nat=>[(h),(t h)])::U,?_⟩;show(og ((a::r).map _)).bind _=_;rw[Iv,e];rfl
theorem R6(t:Nat->Nat)(rs:List (List Nat))(h:∀r∈rs,r≠[])(b:rs.length<64):∃U:List (List Nat),U.Perm rs/\zw [.lst (rs.map (fD t))]=some (.lst (U.map (fD t))):=by
 obtain⟨Y,e⟩:=Jk t rs h;refine⟨(lU (rs.map (fD t)).length fun i j=>gZ (Y.getD i []) (Y.getD j [])).map fun i=>rs.getD i [],?_,?_⟩
 .have:=(By (rs.map (fD t)).length fun i j=>gZ (Y.getD i []) (Y.getD j [])).map fun i=>rs.getD i [];refine this.trans ?_;rw[i_];have a:(j_ rs.length).map (fun i=>rs.getD i [])=rs:=by
   refine ă fun i=>?_
   grind
  rw[a]
 .show(om _).bind _=_;rw[e];show(if _ then _ else _)=_;rw[Q_d `g];rw[B_];congr 2;refine YV fun i Z=>?_;have Z:=A6 Z
  grind
theorem QF(t:Nat->Nat)(o:Option (List Nat)):mS (l9 t o) .non=some (.bl o.isSome):=by cases o <;> rfl
theorem RI(S:Snd rows owns s):∃rs:List (List Nat),rs.Perm (Rg.jv (Wr rows) (own owns) s)/\L5 [WD rows,OD owns,LN s.line,LN s.things]=.ok (.lst (rs.map (fD (tS rows s)))):=by
 obtain⟨k,U⟩:=Ha S s.line [] none rfl;have c:∀h∈s.line,fS rows owns s h∈s.line:=fun h Z=>Rg.oi (XR Z);have e:(Rg.jv (Wr rows) (own owns) s).length<=s.line.length:=ĭ _ _;obtain⟨Y,i,f⟩:=R6 (tS rows s) (Rg.jv (Wr rows) (own owns) s) (by intro r g;obtain⟨x,_,j⟩:=XU.mp g;exact Rg.G6 j) (by have:=S.nl;omega);refine⟨Y,i,dy (n:=8) ?_⟩
 dsimp only[CO]
 refine(aM ((eQ (ds:=s.line.map nD) rfl).trans U)).trans ?_;refine(aM (bJ (dL (l:=s.line) nD (fun _=>true) (fun h=>l9 (tS rows s) (Rg.nZ (fS rows owns s) s.line.length h)) rfl (by have:=S.nl;omega) fun h Z=>⟨[some (nD h),some (KD (FD s.line (tS rows s))),some (KD (FD s.line (fS rows owns s)))],rfl,rfl,fun _=>aU (aD (d:=nD h) rfl (aD (d:=KD (FD s.line (tS rows s))) rfl (aD (d:=KD (FD s.line (fS rows owns s))) rfl aG))) (P4 c S.nl Z)⟩))).trans ?_;rw[fu];refine aX (bH (bT (aD (dL (l:=s.line.map (Rg.nZ (fS rows owns s) s.line.length)) (l9 (tS rows s)) š (l9 (tS rows s)) ?_ (by have:=S.nl;simp;omega) fun o _=>⟨[some (l9 (tS rows s) o)],rfl,cJ (aK (a:=l9 (tS rows s) o) (b:=.non) rfl rfl (QF _ _)),fun _=>rfl⟩) aG) ?_))
 .rw[B_];rfl
 .rw[zZ];exact f
theorem Ec{line:List Nat}(j:line.length<=60)(c d:D):∀(Y L:List Nat)(Z:List (Nat×Nat))(x y:Option D),GI t Z L->(∀h∈L++Y,h∈line) ->∃U b a,GI t U (L++Y)/\bG (gI (dg (bD 3) (dg (bD 4) gz))) J5 (Y.map (jT t)) [some c,some (KD Z),some d,x,y]=.nx [some c,some (KD U),some d,b,a]
|[],L,Z,x,y,g,e=>⟨Z,x,y,`g,fG⟩
|h::Y,L,Z,x,y,g,e=>by obtain⟨U,b,a,k,f⟩:=Ec j c d Y _ _ _ _ (g.put h) (by simpa using e);refine⟨U,b,a,by simpa using k,?_⟩;rw[<-f];have l:=g.len fun x i=>e x (Zf _ i);exact fm rfl (aM (kz rfl rfl rfl (wj `o)))
theorem EY{line:List Nat}(f:line.length<=60)(a:D):∀(rs:List (List Nat))(L:List Nat)(Z:List (Nat×Nat))(z x y:Option D),GI t Z L->(∀h∈L++rs.flatten,h∈line) ->∃U b d c,GI t U (L++rs.flatten)/\bG (bD 2) SK (rs.map (fD t)) [some a,some (KD Z),z,x,y]=.nx [some a,some (KD U),b,d,c]
|[],L,Z,z,x,y,g,e=>⟨Z,z,x,y,by simpa using g,fG⟩
|r::rs,L,Z,z,x,y,g,e=>by obtain⟨Y,j,i,m,l⟩:=Ec f a _ r L Z x y g fun h n=>e h `g;obtain⟨U,b,d,c,o,k⟩:=EY f a rs _ Y _ j i m `g;refine⟨U,b,d,c,`g,?_⟩;rw[<-k];exact fm rfl (aM ((eQ rfl).trans l))
theorem Af{line:List Nat}{rs:List (List Nat)}(a:line.length<=60)(hs:∀h∈rs.flatten,h∈line):∃Y,GI t Y rs.flatten/\wL [.lst (rs.map (fD t))]=.ok (KD Y):=by obtain⟨U,c,e,d,b,h⟩:=EY a _ rs [] [] none none none ⟨`s,fun _ Z=>(nomatch Z),fun h=>by simp⟩ (by simpa using hs);refine⟨U,by simpa using b,c8 ?_⟩;refine(aM ((eQ rfl).trans h)).trans ?_;exact aX (bH rfl)
end
inductive Ch(rows:List (List Nat))(owns:List (Option Nat)):Rg.S->List (List (List Nat)×Rg.S)->Prop where
 |nil {s:Rg.S}:s.line=[]->Ch rows owns s []
 |cons {s:Rg.S} {rs:List (List Nat)} {l:List (List (List Nat)×Rg.S)}:rs.Perm (Rg.jv (Wr rows) (own owns) s)->Ch rows owns (Rg.minus (Wr rows) s rs.flatten) l->Ch rows owns s ((rs,s)::l)
abbrev jV(rows:List (List Nat))(p:List (List Nat)×Rg.S):D:=.lst (p.1.map (fD (tS rows p.2)))
theorem AD{rs:List (List Nat)}(Z:rs.Perm (Rg.jv (Wr rows) (own owns) s)):Rg.Cyc (Wr rows) (own owns) s rs.flatten:=Rg.G9 (fun h U=>by obtain⟨r,b,a⟩:=YA.mp U;grind) (fun r Y h U=>YA.mpr ⟨r,Z.mem_iff.mpr Y,U⟩)
theorem Snd.minus(S:Snd rows owns s)(c:Rg.Cyc (Wr rows) (own owns) s C):Snd rows owns (Rg.minus (Wr rows) s C) where
 ok:=Rg.pZ S.ok c
 inr:=fun h U=>S.inr h (o_.mp U).1
 ino:=fun h U=>S.ino h (o_.mp U).1
 wid:=fun h U=>S.wid h (o_.mp U).1
 nl:=S_ (YI _ _) S.nl
 nt:=S_ (YI _ _) S.nt
theorem Ic(c:Rg.Cyc (Wr rows) (own owns) s C)(U:C≠[]):(Rg.minus (Wr rows) s C).line.length<s.line.length:=by obtain⟨x,Y⟩:=YL _ U;have:=Rg.xM (fun h=>decide (h∉C)) s.line;have Z:0<(s.line.filter fun h=>not (decide (h∉C))).length:=Yv (o_.mpr ⟨c.sub x Y,by simpa using Y⟩);show(s.line.filter _).length<_;omega
theorem yW(g:GI t U L)(h:Nat):eZ (nD h) (KD U)=some (.bl (decide (h∉L))):=by
 show(some _).map _=_;have e:gc _ _=decide _:=uC U h;have:decide (h∈U.map (·.1))=decide (h∈L):=by rw[decide_eq_decide];exact g.key h
 grind
theorem DO(g:GI t U L)(x:Nat):eZ (nD x) (LN (U.map (·.2)))=some (.bl (decide (x∉L.map t))):=by
 rw[wc,decide_not];congr 3;rw[decide_eq_decide];exact by
    constructor
    .intro hx;obtain⟨p,Y,rfl⟩:=k_.mp hx;exact k_.mpr ⟨p.1,(g.key _).mp (k_.mpr ⟨p,Y,rfl⟩),(g.val p Y).symm⟩
    .intro hx;obtain⟨h,Y,rfl⟩:=k_.mp hx;obtain⟨p,Z,rfl⟩:=k_.mp ((g.key h).mpr Y);exact k_.mpr ⟨p,Z,g.val p Z⟩
theorem Ps(k:D):∀(j:Nat)(s:Rg.S)(told:List D)(x y z:Option D),Snd rows owns s->s.line.length<j->told.length+s.line.length<=60 ->
  ∃(Y:Rg.S)(l:List (List (List Nat)×Rg.S))(e b Z:Option D),Ch rows owns s l/\l.length<=s.line.length /\
   gW li Se Sd j [some (WD rows),some (OD owns),some k,some (LN s.line),some (LN s.things),some (.lst told),x,y,z]
    = .nx [some (WD rows),some (OD owns),some k,some (LN Y.line),some (LN Y.things),some (.lst (told++l.map (jV rows))),e,b,Z]:=by
 intro j
 induction j with
|zero=>grind
|succ j o=>
  intro s told x y z S B A;by_cases U:s.line=[]
  .refine⟨s,[],x,y,z,.nil U,XY _,?_⟩;rw[Yo,W_];rw[U];rfl
  .obtain⟨rs,hp,hr⟩:=RI S;have c:=AD hp;obtain⟨f,g,w⟩:=Af S.nl c.sub;have u:=Ic c ((fun hp U=>by obtain⟨x,p⟩:=YL _ (Rg.FX U);obtain⟨r,i,n⟩:=YA.mp p;exact XR (YA.mpr ⟨r,hp.mem_iff.mpr i,n⟩)) hp U);obtain⟨Y,l,e,b,Z,i,n,m⟩:=o _ (told++[jV rows _]) _ _ _ (S.minus c) `o `z;refine⟨Y,_,e,b,Z,.cons hp i,`z,?_⟩;rw[Zd]at m;refine ZM (p6 (ig rfl ?_) ?_) m
   .cases q:s.line with
   |nil=>exact Q_f q U
   |cons a t=>rfl
   .refine(aM (bJ (aU (aD rfl (aD rfl (aD rfl (aD rfl aG)))) hr))).trans ?_;refine(aM (bJ (aU (aD rfl aG) w))).trans ?_;refine(aM (bJ (d:=LN (f.map (·.2))) (dq rfl ?_))).trans ?_
    .rw[e_valsD,B_];show some (D.lst _)=some (D.lst _);rw[B_];rfl
    refine(aM (bJ (dL nD _ nD rfl `o fun h v=>⟨_,rfl,cJ (aK rfl rfl (yW g h)),fun _=>rfl⟩))).trans ?_;refine(aM (bJ (dL nD _ nD rfl (by have:=S.nt;omega) fun h v=>⟨_,rfl,cJ (aK rfl rfl (DO g h)),fun _=>rfl⟩))).trans ?_;refine(aM (h9 rfl rfl (aD rfl aG) (jA `o))).trans ?_;rfl
def dO:Option (List Nat)->D
|none=>.non
|some l=>LN l
noncomputable def s0(rows:List (List Nat))(o:Option (List Nat)):Rg.S:=⟨o.getD (j_ rows.length),j_ (rows.headD []).length⟩
theorem JW(U:∀l,o=some l->l.Nodup/\(∀k∈l,k<rows.length)/\l.length=rows.length)(c:rows.length<=60):xy [WD rows,dO o]=.ok (LN (s0 rows o).line):=by cases o with
|none=>exact(show xy [WD rows,.non]=.ok (LN (j_ rows.length))by
    refine dy (n:=2) ?_
    dsimp only[qk]
    refine aX ((qK (b:=true) rfl).trans ?_);rw[Q_d rfl];exact aX (bH (bT (ds:=[nD rows.length]) (aD (bT (aD (d:=WD rows) rfl aG) (jp _ _)) aG) (p9 `o))))
|some l=>obtain⟨a,Z,Y⟩:=U l rfl;exact Jo a Z Y `o
theorem JX(Z:∀l,o=some l->l.Nodup/\(∀k∈l,k<rows.length)/\l.length=rows.length)(Y:rows≠[])(a:rows.length<=60)(S:Snd rows owns (s0 rows o)):∃l,Ch rows owns (s0 rows o) l/\l.length<=60/\Ay [WD rows,OD owns,dO o]=.ok (.lst (l.map (jV rows))):=by
 obtain⟨h,l,g,f,e,c,i,b⟩:=Ps (rows:=rows) (owns:=owns) (dO o) 64 (s0 rows o) [] none none none S (by have:=S.nl;omega) (by have:=S.nl;simp;omega);refine⟨l,c,by have:=S.nl;omega,dy (n:=9) ?_⟩
 dsimp only[wN]
 cases rows with
|nil=>exact Q_f rfl Y
|cons U rest=>refine(aM (bJ (aU (aD (d:=WD (U::rest)) rfl (aD (d:=dO o) rfl aG)) (JW Z a)))).trans ?_;refine(aM (bJ (bT (aD (aU (aD (d:=WD (U::rest)) rfl aG) xr) aG) (p9 (by have:=S.nt;unfold s0 at this;simp at this;omega))))).trans ?_;refine(aM b).trans ?_;exact aX (bH rfl)
theorem GA:∀(U Y:List (Nat×Nat)),zN (Y.map fun p=>(kI p.1,nD p.2)) (U.map fun p=>(kI p.1,nD p.2))=(U.foldl (fun Z p=>putN Z p.1 p.2) Y).map fun p=>(kI p.1,nD p.2)
|[],Y=>rfl
|p::U,Y=>by have a:=GA U (putN Y p.1 p.2);rw[ZB,<-a,<-E7];rfl
theorem Ib:∀(U Y:List (Nat×Nat))(L:List Nat),GI t Y L->(∀p∈U,p.2=t p.1)->GI t (U.foldl (fun Z p=>putN Z p.1 p.2) Y) (L++U.map (·.1))
|[],Y,L,g,_=>by simpa using g
|p::U,Y,L,g,h=>by
  have:=Ib U (putN Y p.1 p.2) _ (by rw[h p g_];exact g.put p.1) fun q a=>h q (h_ _ a)
  grind
theorem F8{line:List Nat}(i:line.length<=60)(d:D):∀(l:List (List (List Nat)×Rg.S))(L:List Nat)(Y:List (Nat×Nat))(z:Option D),GI a Y L->(∀h∈L,h∈line) ->(∀p∈l,∀h∈p.1.flatten,a h=tS rows p.2 h/\h∈line) ->∃U c,GI a U (L++l.flatMap fun p=>p.1.flatten)/\bG (bD 4) Tu (l.map (jV rows)) [some (WD rows),some (OD owns),some d,some (KD Y),z]=.nx [some (WD rows),some (OD owns),some d,some (KD U),c]
|[],L,Y,z,g,_,_=>⟨Y,z,by simpa using g,fG⟩
|p::l,L,Y,z,g,s,f=>by
  have e:=f p g_;obtain⟨Z,k,r⟩:=Af i fun h b=>(e h b).2;have j:=k.congr fun x n=>(e x n).1;have t:=(Ib Z Y L g j.val).mem (M:=L++p.1.flatten) fun x=>by rw[X9,X9,j.key]
  obtain⟨U,c,w,m⟩:=F8 i d l _ _ _ t (fun h b=>`g) fun q o=>f q (h_ _ o);refine⟨U,c,`g,?_⟩;rw[<-m];refine fm rfl (aM (h9 rfl rfl (aD (aU (aD rfl aG) r) aG) ?_));have v:=g.len s;have u:=k.len fun h b=>(e h b).2;show(if _ then some _ else none)=_;rw[Q_d (by rw[i_,i_,G_];omega),GA]
theorem F9(c:Ch rows owns s l):Rg.Ok (Wr rows) (own owns) s->Rg.TTC (Wr rows) (own owns) a s->(∀p∈l,∀h∈p.1.flatten,a h=tS rows p.2 h/\h∈s.line)/\∀h∈s.line,∃p∈l,h∈p.1.flatten:=by induction c with
|nil m=>grind
|@cons s b l j c g=>
  intro k t;have Z:=AD j;obtain⟨f,e⟩:=Rg.MD t k Z;obtain⟨d,i⟩:=g (Rg.pZ k Z) f;refine⟨fun p U h Y=>?_,fun h Y=>?_⟩
  .rcases s_.mp U with rfl|q
   .exact⟨e h Y,Z.sub h Y⟩
   .exact⟨(d p q h Y).1,(o_.mp (d p q h Y).2).1⟩
  .by_cases hc:h∈b.flatten
   .exact⟨(b,s),g_,hc⟩
   .obtain⟨p,h1,h2⟩:=i h (o_.mpr ⟨Y,by simpa using hc⟩)
    grind
theorem TV(j:∀l,o=some l->l.Nodup/\(∀k∈l,k<rows.length)/\l.length=rows.length)(f:rows≠[])(c:rows.length<=60)(S:Snd rows owns (s0 rows o))(b:∀h,h<rows.length->h∈(s0 rows o).line)(t:Rg.TTC (Wr rows) (own owns) a (s0 rows o)):JA [WD rows,OD owns,dO o]=.ok (TN ((j_ rows.length).map a)):=by
 obtain⟨l,q,s,Z⟩:=JX j f c S;obtain⟨e,u⟩:=F9 q S.ok t;obtain⟨Y,r,g,U⟩:=F8 (rows:=rows) (owns:=owns) (a:=a) S.nl (dO o) l [] [] none ⟨`s,fun _ i=>(nomatch i),fun h=>by simp⟩ (fun _ m=>(nomatch m)) e;refine dy (n:=5) ?_
 dsimp only[Bp]
 refine(aM ((eQ (ds:=l.map (jV rows)) (fq (aU (aD (d:=WD rows) rfl (aD (d:=OD owns) rfl (aD (d:=dO o) rfl aG))) Z) rfl)).trans U)).trans ?_;refine aX (bH (aU (aD (d:=KD Y) rfl aG) (LF g (n:=rows.length) (fun x=>?_) c)));rw[ł,List.mem_flatMap];constructor
 .rintro⟨p,h1,h2⟩
  exact S.inr x (e p h1 x h2).2
 grind
theorem kx(h:0<b):bS (nD a) (nD b)=some (nD (a%b)):=`a
theorem nG(h:0<b)(U:b<1000):gP (nD a) (nD b)=some (nD (a/b)):=by
 rw[HM (⟨`o,`o⟩)]
 grind
theorem l6(a b:Nat):addA (nD a) (nD b)=some (nD (a+b)):=`a
section
variable{f f':FE}{r:aJ}
theorem jX(h:∃i:Int,f r=.ok (.int i))(h':f' r=.ok (.int b))(Y:0<b):∃c:Nat,f2 f f' bS r=.ok (nD c):=by obtain⟨i,U⟩:=h;refine⟨(i%b).toNat,aK U h' ?_⟩;rw[GC Y];show some _=some (D.int _);rw[Ř (Ę _ `o)]
theorem yI(h:∃c:Nat,f r=.ok (nD c)):∃i:Int,f r=.ok (.int i):=let⟨c,e⟩:=h;⟨c,e⟩
theorem kB(h:∃i:Int,f r=.ok (.int i))(h':f' r=.ok (.int b))(Y : -(2^64)<b/\b<2^64):∃i:Int,f2 f f' cK r=.ok (.int i):=by obtain⟨i,U⟩:=h;exact⟨i*b,aK U h' (GF (.inr Y))⟩
theorem pM(h:∃i:Int,f r=.ok (.int i))(h':∃i:Int,f' r=.ok (.int i)):∃i:Int,f2 f f' addA r=.ok (.int i):=by obtain⟨i,Y⟩:=h;obtain⟨j,U⟩:=h';exact⟨i+j,aK Y U rfl⟩
end
theorem D9(h:∃c:Nat,f r=.ok (nD c))(k:∀c:Nat,∃d:Nat,U (r.set i (some (nD c)))=.rt (nD d)):∃d:Nat,seqF (aP m i f) U r=.rt (nD d):=by obtain⟨c,Z⟩:=h;obtain⟨d,Y⟩:=k c;exact⟨d,(aM (bJ Z)).trans Y⟩
noncomputable abbrev IN(ns:List Int):D:=.lst (ns.map .int)
theorem HC(U:List Int)(k:Nat)(w:k<=1000):∃c:Nat,B1 [IN U,nD k]=.ok (nD c):=by
 suffices h:∃c:Nat,JD _=.rt _ by obtain⟨c,p⟩:=h;exact⟨c,c8 p⟩
 have v:seqF (aP fJ 2 (ci 0))=seqF _:=rfl;refine D9 ⟨0,rfl⟩ fun i=>?_;show ∃d:Nat,seqF _ _ [some _,some _,some _,none]=_;have e:∃Y:Nat,(eM fJ (bY (f2 (gv 1) (fC (aI (gv 0) aE) lenD) nS)) (seqF (aP fJ 2 (f2 (f2 (gv 0) (gv 1) cD) (f2 (ci 10) (ci 60) jc) bS)) bI) bI) [some (IN U),some (nD k),some (nD i),none]=.nx [some (IN U),some (nD k),some (nD Y),none]:=by
  have t:=cJ (aK (f:=gv 1) (r:=[some (IN U),some _,some (nD i),none]) rfl (bT (aD (f:=gv 0) rfl aG) (ii _ _)) (n5 k U.length));by_cases Z:k<U.length
  .rw[Q_c Z]at t;have n:(U.map D.int)[k]? = some (.int U[k]):=`a
   have o:jc (.int 10) (.int 60)=some (.int (10^60)):=`r
   obtain⟨Y,g⟩:=jX (f:=f2 (gv 0) (gv 1) cD) (f':=f2 (fun _=>Res.ok _) (fun _=>Res.ok _) jc) (r:=[some _,some _,some _,none]) ⟨U[k],aK rfl rfl (lE n)⟩ (aK rfl rfl o) `d;exact⟨Y,(dm t).trans ((aM (bJ g)).trans rfl)⟩
  .rw[Q_b Z]at t;exact⟨i,(bW t).trans rfl⟩
 obtain⟨Y,g⟩:=e;rw[aM g];have m:∃b,(fN (bY (f2 (fC (aI (gv 0) aE) lenD) (ci 0) lL)) (bY (f2 (f2 (f2 (gv 0) (ci 0) cD) (ci 2) bS) (ci 0) eqD))) [some (IN U),some (nD k),some (nD Y),none]=.ok b:=by have t:=cJ (aK (f:=fC (aI (gv 0) aE) lenD) (f':=fun _=>Res.ok _) (r:=[some (IN U),some (nD k),some (nD Y),none]) (bT (aD rfl aG) (ii _ _)) rfl (n0 U.length 0));cases U with
 |nil=>exact⟨false,qL t⟩
 |cons a U=>obtain⟨l,s⟩:=jX (f:=f2 (gv 0) (fun _=>Res.ok _) cD) (f':=fun _=>Res.ok (D.int 2)) (r:=[some _,some _,some _,none]) ⟨a,aK rfl rfl (ixA_L0 _ _)⟩ rfl `d;exact⟨_,(nq t).trans (cJ (aK s rfl (iR l 0)))⟩
 obtain⟨b,j⟩:=m;cases b with
|true=>exact⟨Y,aX ((dm j).trans (aX (bH rfl)))⟩
|false=>rw[aM ((bW j).trans (e_skip _))];refine D9 (jX (kB (yI (jX (kB (pM (pM (pM ⟨_,rfl⟩ (kB (kB ⟨7,rfl⟩ rfl `o) rfl `o)) (kB ⟨13,rfl⟩ rfl `o)) ⟨5,rfl⟩) rfl `d) rfl `d)) rfl `d) rfl `d) fun l=>?_;obtain⟨u,q⟩:=jX (f:=(f2 (f2 (f2 (f2 (gv 3) (fun _=>Res.ok _) addA) (ci 40692) cK) (ci 2147483629) bS) (ci 39373) cK)) (f':=fun _=>Res.ok (D.int 999999937)) (r:=[some _,some _,some _,some _]) (kB (yI (jX (kB (pM ⟨_,rfl⟩ ⟨1,rfl⟩) rfl `d) rfl `d)) rfl `d) rfl `d;exact⟨u,aX (bH q)⟩
theorem QE:dW (U.map nD) i (nD x)=(dW U i x).map nD:=by unfold dW;rw[i_,XT,R_,Ĉ,Ň]
theorem Rq{x:Nat}:(dW U i x).Perm (x::U):=by refine ľ.trans ?_;rw[YJ]
theorem HA(m:Nat):∀(j i c:Nat)(Z:List Nat)(x:Option D),Z.Perm (j_ i)->i+j<=60 ->∃(d:Nat)(U:List Nat)(b:Option D),U.Perm (j_ (i+j))/\bG (bD 3) KM ((û i j).map nD) [some (nD c),some (nD m),some (LN Z),x]=.nx [some (nD d),some (nD m),some (LN U),b]
|0,i,c,Z,x,a,_=>⟨c,Z,x,a,fG⟩
|j+1,i,c,Z,x,a,h=>by
  have e:Z.length=i:=by rw[a.length_eq];simp
  obtain⟨d,U,b,g,f⟩:=HA m j _ _ (dW Z ((c%(i+1))) i) _ (by refine Rq.trans ?_;rw[ć];exact(List.Perm.cons i a).trans (ĩ i _).symm) `o;refine⟨d,U,b,by rw[show i+(j+1)=i+1+j by omega];exact g,?_⟩;rw[<-f];have Y:c%(i+1)<i+1:=ZG _ `o;refine fm rfl ?_;refine(aM (h9 (d':=LN (dW Z ((c%(i+1):Nat)) i)) rfl rfl (aD (aK rfl (aK rfl rfl (l6 i 1)) (kx `o)) (aD rfl aG)) ?_)).trans ?_
  .show(if _ then some _ else none)=_;rw[Q_d ⟨by rw[i_,G_];omega,`o,`o⟩,QE]
  .exact aM (bJ (aK rfl (aK rfl rfl (l6 i 1)) (nG `o `o)))
theorem Hd(c m:Nat)(d:m<=60):∃Y:List Nat,Y.Perm (j_ m)/\xu [nD c,nD m]=.ok (TN Y):=by obtain⟨e,U,b,a,Z⟩:=HA m m 0 c [] none `s `o;rw[Đ]at a;rw[<-ZW]at Z;refine⟨U,a,c8 ?_⟩;refine(aM (bJ (gu aG `s))).trans ?_;refine(aM ((eQ (kb (aD rfl aG) (kA `o))).trans Z)).trans ?_;exact aX (bH (bT (aD rfl aG) rfl))
structure Own(owns:List (Option Nat))(m:Nat):Prop where
 lt:∀x,some x∈owns->x<m
 inj:∀h k x,own owns h=some x->own owns k=some x->h=k
theorem rT(e:own owns h=some x):some x∈owns/\h<owns.length:=by
 unfold own at e
 grind
theorem Gm:own (owns++[o]) h=if h<owns.length then own owns h else if h=owns.length then o else none:=by
 unfold own;by_cases q:h<owns.length
 .rw[Q_d q,J_ q]
 .rw[Q_e q,XQ `o];by_cases z:h=owns.length
  .subst z;simp
  .rw[Q_e z,List.getElem?_eq_none `z];rfl
theorem Own.app_none(w:Own owns m):Own (owns++[none]) m where
 lt:=fun x Z=>w.lt x (by simpa using Z)
 inj:=fun h k x Y U=>by
  rw[Gm]at Y U;have f:∀h,(if h<owns.length then own owns h else if h=owns.length then none else none)=some x->own owns h=some x:=`g
  exact w.inj h k x (f h Y) (f k U)
theorem Own.app_some(w:Own owns m)(b:t<m)(Z:some t∉owns):Own (owns++[some t]) m where
 lt:=fun x a=>by
  rcases X9.mp a with z|z
  .exact w.lt x z
  .simp at z;omega
 inj:=fun h k x Y U=>by
  rw[Gm]at Y U;split at Y <;> split at U
  .exact w.inj h k x Y U
  .split at U
   .cases U;exact Q_f (rT Y).1 Z
   .cases U
  .split at Y
   .cases Y;exact Q_f (rT U).1 Z
   .cases Y
  grind
theorem DE(l:List (Option Nat))(k:Nat):(l.map oD).any (fun y=>eqs y (nD k))=decide (some k∈l):=by
 rw[Z6,XS,ZR,Q_h];constructor
 .rintro⟨x,h1,h2⟩
  cases x with
 |none=>cases h2
 |some x=>
   have:(((x))==(k:Int))=true:=h2
   grind
 .intro h;exact⟨some k,h,by show(((k):Int)==(k))=true;simp⟩
theorem UN(l:List (Option Nat)):(l.map oD).all dw=true:=by rw[U_];intro x U;obtain⟨k,_,rfl⟩:=k_.mp U;cases k <;> rfl
theorem UV(l:List (Option Nat))(k:Nat):g6 (nD k) (.lst (l.map oD))=some (.bl (decide (some k∈l))):=by show(if dw _=true/\(l.map oD).all dw=true then some _ else none).map D.bl=_;rw[Q_d ⟨rfl,UN l⟩,DE];rfl
structure Scene(rows:List (List Nat))(owns:List (Option Nat))(o:Option (List Nat))(n m:Nat):Prop where
 n1:1<=n
 n7:n<=7
 nm:n<=m
 m8:m<=8
 rl:rows.length=n
 rp:∀row∈rows,row.Perm (j_ m)
 ow:Own owns m
 ol:owns.length=n
 op:∀l,o=some l->l.Perm (j_ n)
theorem Gk(n m:Nat)(u:m<=60):∀(l:List Nat)(c:Nat)(owns:List (Option Nat))(x y:Option D),Own owns m->owns.length+l.length<=60 ->∃(k:Nat)(Z:List (Option Nat))(i g:Option D),Own Z m/\Z.length=owns.length+l.length/\bG (bD 4) Le (l.map nD) [some (nD c),some (nD n),some (nD m),some (.lst (owns.map oD)),x,y]=.nx [some (nD k),some (nD n),some (nD m),some (.lst (Z.map oD)),i,g]
|[],c,owns,x,y,w,_=>⟨c,owns,x,y,w,rfl,fG⟩
|h::l,c,owns,x,y,w,v=>by
  have Y:c%(m+1)<m+1:=ZG _ `o;have b:∃o,Own (owns++[o]) m/\Le [some (nD c),some (nD n),some (nD m),some (.lst (owns.map oD)),some (nD h),y]=.nx [some (nD (c/(m+1))),some (nD n),some (nD m),some (.lst ((owns++[o]).map oD)),some (nD h),some (nD (c%(m+1)))]:=by
   have a:=cJ (aK (f:=gv 5) (f':=gv 2) (r:=[some (nD (c/(m+1))),some (nD n),some _,some (.lst (owns.map oD)),some (nD h),some _]) rfl rfl (iR (c%(m+1)) m));have e:=cJ (aK (f:=gv 5) (f':=gv 3) (r:=[some (nD (c/(m+1))),some (nD n),some (nD m),some _,some (nD h),some _]) rfl rfl (UV owns (c%(m+1))));have d:∀j,seqF (aP iJ 5 (f2 (gv 0) (f2 (gv 2) (ci 1) addA) bS)) (seqF (aP iJ 0 (f2 (gv 0) (f2 (gv 2) (ci 1) addA) gP)) j) [some (nD c),some (nD n),some (nD m),some (.lst (owns.map oD)),some (nD h),y]=j [some (nD (c/(m+1))),some (nD n),some (nD m),some (.lst (owns.map oD)),some (nD h),some (nD (c%(m+1)))]:=by intro j;refine(aM (bJ (aK rfl (aK rfl rfl (l6 m 1)) (kx `o)))).trans ?_;exact aM (bJ (aK rfl (aK rfl rfl (l6 m 1)) (nG `o `o)))
   have U:(owns.map oD).length<=1000:=`g
   by_cases q:c%(m+1)=m\/some (c%(m+1))∈owns
   .refine⟨none,w.app_none,(d _).trans ((aM ((dm ?_).trans (aM (h9 rfl rfl (aD rfl aG) (jA U))))).trans ?_)⟩
    .by_cases z:c%(m+1)=m
     .rw[Q_c z]at a;exact mL a
     .rw[Q_b z]at a;rw[Q_c (q.resolve_left z)]at e;exact(eq a).trans e
    .rw[XT];rfl
   .have z1:=fun z=>q (.inl z);have p:=fun z=>q (.inr z);rw[Q_b z1]at a;rw[Q_b p]at e;refine⟨_,w.app_some `o p,(d _).trans ((aM ((bW ((eq a).trans e)).trans (aM (h9 rfl rfl (aD rfl aG) (jA U))))).trans ?_)⟩;rw[XT];rfl
  obtain⟨o,s,t⟩:=b;obtain⟨k,Z,i,g,C,B,A⟩:=Gk n m u l _ _ _ _ s (by simp at v ⊢;omega);refine⟨k,Z,i,g,C,by rw[B];simp;omega,?_⟩;rw[<-A];exact fm rfl t
theorem PZ(c n m:Nat)(j:n<=60)(Z:m<=60):∃owns:List (Option Nat),Own owns m/\owns.length=n/\SZ [nD c,nD n,nD m]=.ok (OD owns):=by
 obtain⟨l,U,i,g,f,b,a⟩:=Gk n m Z (j_ n) c [] none none ⟨fun x Y=>(nomatch Y),fun h k x e=>by unfold own at e;simp at e⟩ `z;refine⟨U,f,by rw[b];simp,dy (n:=6) ?_⟩
 dsimp only[BJ]
 refine(aM (bJ (d:=.lst []) (gu aG `s))).trans ?_;refine(aM ((eQ (ds:=(j_ n).map nD) (kb (aD (d:=nD n) rfl aG) (kA `o))).trans a)).trans ?_;exact aX (bH (bT (aD (d:=.lst (U.map oD)) rfl aG) rfl))
end Law
namespace Law
open PySem PyProof.Rows L2 DL
theorem D8(a b:Nat):eqs (nD a) (nD b)=decide (a=b):=by show(((a):Int)==(b))=_;rw[XS,beq_iff_eq,Q_h];exact ś
theorem zY(k:Nat):∀l:List Nat,k∈l->jx (nD k) (l.map nD)=some (l.idxOf k)
|[],h=>by cases h
|a::l,h=>by
  show(if eqs _ _=true then some 0 else(jx _ _).map _)=_;rw[D8];by_cases e:a=k
  .simp_all
  .rw[Q_e (by simpa using e),zY k l `g]
   grind
theorem FK(k:Nat):∀l:List Nat,(l.map nD).eraseIdx (l.idxOf k)=(l.erase k).map nD
|[]=>rfl
|a::l=>by
  by_cases e:a=k
  .subst e;simp
  .rw[List.idxOf_cons,List.erase_cons_tail (by simpa using e)];have:(a==k)=false:=by simpa using e
   rw[this];show nD a::(l.map nD).eraseIdx _=_;rw[FK k l];rfl
theorem zU(h:k∈l):remD (LN l) [nD k]=some (LN (l.erase k)):=by show(if (l.map nD).all isInt=true then(jx _ _).map fun j=>D.lst _ else none)=_;rw[Q_d (by rw[U_];intro x U;obtain⟨y,_,rfl⟩:=k_.mp U;rfl),zY k l h];show some (D.lst _)=some _;rw[FK]
theorem fB(b:U r=.ok d)(Y:yz T d=true)(a:fl r=.ok ds)(Z:k d ds=some d'):fM T U fl k r=.ok d':=by unfold fM;rw[b,bind_ok,Q_d Y,a,bind_ok,Z];rfl
section
variable{rows:List (List Nat)}{owns:List (Option Nat)}{o:Option (List Nat)}{n m:Nat}
theorem Scene.ne(S:Scene rows owns o n m):rows≠[]:=by
 rintro rfl
 have:=S.rl;have:=S.n1;simp at *;omega
theorem Scene.row(S:Scene rows owns o n m)(U:h<n):(Wr rows h).Perm (j_ m):=by unfold Wr;rw[m_ (by rw[S.rl];exact U)];exact S.rp _ (Yl _)
theorem Scene.row0(S:Scene rows owns o n m):(rows.headD []).length=m:=by cases rows with
|nil=>exact Q_f rfl S.ne
|cons r t=>rw[List.headD_cons,(S.rp r g_).length_eq];simp
theorem Scene.line_perm(S:Scene rows owns o n m):(s0 rows o).line.Perm (j_ n):=by unfold s0;cases o with
|none=>rw[S.rl];grind
|some l=>exact S.op l rfl
theorem Scene.mem(S:Scene rows owns o n m):h∈(s0 rows o).line↔h<n:=by rw[S.line_perm.mem_iff];exact u_
theorem Scene.things(S:Scene rows owns o n m):(s0 rows o).things=j_ m:=by unfold s0;rw[S.row0]
theorem Scene.ok(S:Scene rows owns o n m):Rg.Ok (Wr rows) (own owns) (s0 rows o) where
 nl:=S.line_perm.nodup_iff.mpr Yn
 nt:=by rw[S.things];grind
 le:=by rw[S.things,S.line_perm.length_eq];simp;exact S.nm
 row:=fun h Y x U=>by rw[S.things]at U;exact(S.row (S.mem.mp Y)).mem_iff.mpr U
 inj:=S.ow.inj
 own:=fun h Y x U=>by rw[S.things];exact u_.mpr (S.ow.lt x (rT U).1)
theorem Scene.snd(S:Scene rows owns o n m):Snd rows owns (s0 rows o) where
 ok:=S.ok
 inr:=fun h U=>by rw[S.rl];exact S.mem.mp U
 ino:=fun h U=>by rw[S.ol];exact S.mem.mp U
 wid:=fun h U=>by have:=(S.row (S.mem.mp U)).length_eq;have:=S.m8;simp at *;omega
 nl:=by have:=S.line_perm.length_eq;have:=S.n7;simp at *;omega
 nt:=by rw[S.things];have:=S.m8;simp;omega
theorem Scene.ord(S:Scene rows owns o n m):∀l,o=some l->l.Nodup/\(∀k∈l,k<rows.length)/\l.length=rows.length:=by
 intro l U;have p:=S.op l U;refine⟨p.nodup_iff.mpr Yn,fun k Y=>?_,?_⟩
 .rw[S.rl];grind
 .rw[p.length_eq,S.rl];simp
theorem we(h:f r=.ok d)(Y:ft d r=some r'):iO U f ft r=.nx r':=by unfold iO;rw[h,onE_ok];simp only[Y]
end
theorem AQ(h:k∈l):rQ (LN l) [nD k]=some (nD (l.idxOf k)):=by show(if dw _=true/\(l.map nD).all dw=true then(jx _ _).map fun j=>D.int j else none)=_;rw[Q_d ⟨rfl,uZ l⟩,zY k l h];rfl
theorem rO{i:Nat}(h:i<=l.length):qz (LN l) (some (i:Int)) none=some (LN (l.drop i)):=by show some _=_;unfold eI;rw[HT.fT,HT.d8,i_,Ō h];rw[List.take_of_length_le `s];show some _=some (D.lst _);rw[Ň]
theorem iA(h:f r=.ok (.int i)):jm f r=.ok (some i):=by unfold jm;rw[h];rfl
theorem lC{lo hi:Option Int}(c:Y r=.ok d)(b:fl r=.ok lo)(a:U r=.ok hi)(Z:qz d lo hi=some d'):nU Y fl U r=.ok d':=by unfold nU;rw[c,bind_ok,b,bind_ok,a,bind_ok,Z];rfl
theorem wl(h:i<ds.length):gA (.lst ds) (nD i) v=some (.lst (ds.set i v)):=by show(iW ds.length _).map _=_;unfold iW;rw[Q_d (Y3 i),Q_d `o];simp
theorem AZ{U:Type}{l:List U}(e:U->D)(g:U->D)(d:fi r=.ok (l.map e))(b:l.length<=1000)(h:∀a∈l,∃r1,ft (e a) (dI nl cap r)=some r1/\fe r1=.ok (g a)):dE nl cap fi ft (fun _=>Res.ok true) fe r=.ok (.lst (l.map g)):=by
 have:=dL e (fun _=>true) g d b fun a c=>by obtain⟨r1,Z,Y⟩:=h a c;exact⟨r1,Z,rfl,fun _=>Y⟩
 rw[this,fu]
theorem Gv(Z U:List Nat)(Y:D):∀(l:List Nat)(y:Option D),(match l.find? (fun h=>decide (h∈U))with
  |some h=>bG (bD 2) xO (l.map nD) [some Y,some (LN U),y]=.rt (nD h)
  |none=>∃a,bG (bD 2) xO (l.map nD) [some Y,some (LN U),y]=.nx [some Y,some (LN U),a])
|[],y=>⟨y,fG⟩
|h::l,y=>by have c:(bY (f2 (gv 2) (gv 1) g6)) [some Y,some (LN U),some (nD h)]=.ok _:=cJ (aK rfl rfl (Ed _ _));rw[V_];cases e:decide (h∈U)with
 |true=>rw[e]at c;refine zD rfl ?_;exact aX ((dm c).trans (aX (bH rfl)))
 |false=>
   rw[e]at c;have d:=Gv Z U Y l (some (nD h));have b:bG _ xO _ [some Y,some _,y]=bG (bD 2) xO (l.map nD) [some Y,some _,some _]:=fm rfl ((aM (bW c)).trans rfl)
   grind
theorem Jm(h:∃x∈Y,x∈U):B0 [TN Y,LN U]=.ok (nD (Rg.best Y U)):=by refine c8 ?_;have Z:=Gv Y U (TN Y) Y none;unfold Rg.best;cases e:Y.find? fun x=>decide (x∈U)with
|none=>grind
|some k=>rw[e]at Z;exact aX ((eQ rfl).trans Z)
theorem Ew(l:List Nat)(i:Nat):qz (LN l) none (some (i:Int))=some (LN (l.take i)):=by show some _=_;unfold eI;rw[HT.fT,HT.d8,i_,Ç,Nat.sub_zero,<-Ĉ];simp_all
theorem EJ(h:a.length+b.length<=1000):addE (LN a) (LN b)=some (LN (a++b)):=by show(if (a.map nD).length+(b.map nD).length<=sizeLine then some _ else none)=_;rw[Q_d (by rw[i_,i_,G_];omega),<-XT]
noncomputable abbrev oZ(l:List Nat):List Nat:=l.drop 1++l.take 1
theorem RS(U:1<=l.length)(Y:l.length<=900):TH [LN l]=.ok (LN (oZ l)):=by refine c8 ?_;exact aX (bH (aK (lC rfl (iA rfl) rfl (rO U)) (lC rfl rfl (iA rfl) (Ew l 1)) (EJ `z)))
theorem Ik:∀l:List Nat,gV (l.map nD)=some (l.map fun k:Nat=>(k:Int))
|[]=>rfl
|k::l=>by show(gV _).map _=_;rw[Ik l];rfl
theorem Pc(h:l≠[]):∃k∈l,(∀x∈l,k<=x)/\yV [LN l]=some (nD k):=by cases l with
|nil=>exact Q_f rfl h
|cons a l=>
  have e:yV [LN (a::l)]=some (.int (lj ((a::l).map fun k:Nat=>(k)))):=by show(gV ((a::l).map nD)).map _=_;rw[Ik];rfl
  have b:=Ql (ks:=(a::l).map fun k:Nat=>(k)) `s;obtain⟨k,Y,U⟩:=k_.mp b;refine⟨k,Y,fun x Z=>?_,by rw[e,<-U]⟩;have:=Oe (ks:=(a::l).map fun k:Nat=>(k)) (k_.mpr ⟨x,Z,rfl⟩)
  grind
theorem Ad{A:List Nat}(hi:i<=A.length)(U:j<A.length):(A.drop i++A.take i)[j]? = A[(i+j)%A.length]?:=by
 by_cases h:j<A.length-i
 .rw[J_ (by rw[YX];exact h),Ym,Č `o]
 .rw[XQ (by rw[YX];omega),YX,Ķ,Q_d `o];congr 1;have:i+j=(i+j-A.length)+A.length:=`o
  rw[this,Nat.add_mod_right,Č `o];omega
theorem O0{A:List Nat}(hi:i<A.length){j h l:Nat}(Y:((A.drop i++A.take i).zip (oZ (A.drop i++A.take i)))[j]? = some (h,l)):∃k,A[k]? = some h/\A[(k+1)%A.length]? = some l:=by
 have a:(A.drop i++A.take i).length=A.length:=by rw[XB,YX,YW];omega
 have b:j<A.length:=by have:=(e_.mp Y).1;rw[Ń]at this;omega
 rw[List.getElem?_zip_eq_some]at Y;obtain⟨Z,U⟩:=Y;rw[Ad `o b]at Z;rw[Ad `o `o,a,Ad `o (ZG _ `o)]at U;refine⟨(i+j)%A.length,Z,?_⟩;rw[Nat.add_mod_mod]at U;rw[Nat.mod_add_mod,show i+j+1=i+(1+j)by omega];exact U
theorem Iy:∀(l r:List Nat),YQ (fun a b=>D.tup [a,b]) (l.map nD) (r.map nD)=(l.zip r).map fun p=>D.tup [nD p.1,nD p.2]
|[],_=>rfl
|_::_,[]=>rfl
|a::l,b::r=>by show D.tup [nD a,nD b]::YQ _ _ _=_;rw[Iy l r];rfl
theorem PM(h:Y r=.ok d)(g:U r=.ok e)(f:dh d=some ds)(c:dh e=some Z):jf Y U r=.ok (YQ (fun a b=>D.tup [a,b]) ds Z):=by unfold jf;rw[h,bind_ok,g,bind_ok,f,opt_some,bind_ok,c,opt_some,bind_ok]
theorem SX(o:A≠[])(v:A.length<=60)(f:∀h∈A,h<owns.length)(u:∀i h l,A[i]? = some h->A[(i+1)%A.length]? = some l->own owns l=some (t h)):∃k,k∈A/\(∀x∈A,k<=x)/\Uy [OD owns,LN A]=.ok (fD t (A.drop (A.idxOf k)++A.take (A.idxOf k))):=by
 obtain⟨k,Y,e,c⟩:=Pc o;have b:=Yd Y;refine⟨k,Y,e,dy (n:=4) ?_⟩;generalize U:A.idxOf k=i at b;have a:(A.drop i++A.take i).length=A.length:=`g
 dsimp only[CN]
 refine(aM (bJ (d:=nD i) (fB (d:=LN A) rfl rfl (aD (bT (aD (d:=LN A) rfl aG) c) aG) (by rw[AQ Y,U])))).trans ?_;refine(aM (bJ (aK (lC (d:=LN A) rfl (iA rfl) rfl (rO `o)) (lC (d:=LN A) rfl rfl (iA rfl) (Ew A i)) (EJ `z)))).trans ?_;have g:∀p∈(A.drop i++A.take i).zip _,p.2∈A/\own owns p.2=some (t p.1):=fun p Z=>by
  obtain⟨j,m⟩:=Yr Z;obtain⟨q,s,r⟩:=O0 b (h:=p.1) (l:=p.2) m
  grind
 refine aX (bH (bT (aD (dL (l:=(A.drop i++A.take i).zip (oZ (A.drop i++A.take i))) (fun p=>D.tup [nD p.1,nD p.2]) (fun _=>true) (fun p=>jT t p.1) ?_ ?_ fun p Z=>⟨_,rfl,rfl,fun _=>?_⟩) aG) ?_))
 .rw[<-Iy];exact PM rfl (aU (aD rfl aG) (RS `o `o)) rfl rfl
 .grind
 .obtain⟨p1,p2⟩:=g p Z;have:=zI (f p.2 p1);rw[p2]at this;exact fR (aD rfl (aD (aK rfl rfl (gs this)) aG)) `s
 .rw[fu,e_tupL];congr 2;rw[show(fun p:Nat×Nat=>jT t p.1)=jT t∘Prod.fst from rfl,<-B_];congr 1;rw[Ŀ];simp;omega
variable{rows:List (List Nat)}{owns:List (Option Nat)}{s:Rg.S}{A:List Nat}
section
variable{z:Nat}
abbrev lD(owns:List (Option Nat))(s:Rg.S)(x:Nat):Option Nat:=s.line.find? fun h=>decide (own owns h=some x)
theorem AI(S:Snd rows owns s)(Z:A[A.length-1]? = some z)(Y:z∈s.line)(U:FS):(seqF (aP jI 5 (f2 (gv 4) (f1 (ci 1) tY) cD)) (seqF (aP jI 6 (cG (aI (f2 (gv 0) (gv 5) cD) (aI (gv 3) aE)) [] qo)) (seqF (aP jI 7 (cG (aI (gv 1) (aI (gv 2) (aI (gv 6) aE))) [] KI)) U))) [some (WD rows),some (OD owns),some (LN s.line),some (LN s.things),some (LN A),none,none,none]
  = U [some (WD rows),some (OD owns),some (LN s.line),some (LN s.things),some (LN A),some (nD z),some (nD (tS rows s z)),some (oD (lD owns s (tS rows s z)))]:=by refine(aM (bJ (d:=nD z) (aK (a:=LN A) (b:=.int (-1)) rfl rfl ((fun h=>by show im _ (-1)=some _;unfold im iW;rw[Q_e `o,Q_d `g,i_];show(A.map nD)[(-1+(A.length:Int)).toNat]? = _;rw[show(-1+(A.length:Int)).toNat=A.length-1 by omega,H_,h];rfl) Z)))).trans ?_;refine(aM (bJ (aU (aD (aK (a:=WD rows) (b:=nD z) rfl rfl (gs (rE (S.inr z Y)))) (aD (d:=LN s.things) rfl aG)) (S.tg Y)))).trans ?_;exact aM (bJ (aU (aD (d:=OD owns) rfl (aD (d:=LN s.line) rfl (aD (d:=nD (tS rows s z)) rfl aG))) (Jp S.ino)))
abbrev yC(rows:List (List Nat))(owns:List (Option Nat))(s:Rg.S)(A:List Nat)(z:Nat):aJ:=[some (WD rows),some (OD owns),some (LN s.line),some (LN s.things),some (LN A),some (nD z),some (nD (tS rows s z)),some (oD (lD owns s (tS rows s z)))]
theorem Eh(S:Snd rows owns s):(bY (f2 (gv 7) (fun _=>Res.ok D.non) uB)) (yC rows owns s A z)=.ok (decide (lD owns s (tS rows s z)=none)):=cJ (aK rfl rfl (DY _))
theorem Ei(S:Snd rows owns s):(bY (f2 (gv 7) (gv 5) eqD)) (yC rows owns s A z)=.ok (decide (lD owns s (tS rows s z)=some z)):=cJ (aK rfl rfl (uY _ _))
theorem LG(S:Snd rows owns s)(Z:A[A.length-1]? = some z)(a:z∈s.line)(h:lD owns s (tS rows s z)=none\/lD owns s (tS rows s z)=some z):qp [WD rows,OD owns,LN s.line,LN s.things,LN A]=.ok (.tup [.str "takes",nD z,nD (tS rows s z)]):=by
 refine c8 ?_;refine(AI S Z a _).trans ?_;have U:=Eh (A:=A) (z:=z) S;have Y:=Ei (A:=A) (z:=z) S;refine aX ((dm ?_).trans (aX (bH (fR (aD rfl (aD rfl (aD rfl aG))) `s))));rcases h with h|h
 .rw[Q_c h]at U;exact mL U
 .rw[Q_b (by rw[h];simp)]at U;rw[Q_c h]at Y;exact(eq U).trans Y
theorem IR(S:Snd rows owns s)(h:lD owns s (tS rows s z)=some l)(a:l≠z)(Z:FS):(seqF (eM jI (js (bY (f2 (gv 7) (fun _=>Res.ok D.non) uB)) (bY (f2 (gv 7) (gv 5) eqD))) (seqF (retF jI (ik (aI (fun _=>Res.ok (D.str "takes")) (aI (gv 5) (aI (gv 6) aE))))) bI) bI) Z) (yC rows owns s A z)=Z (yC rows owns s A z):=by have Y:=Eh (A:=A) (z:=z) S;have U:=Ei (A:=A) (z:=z) S;rw[Q_b (by rw[h];simp)]at Y;rw[Q_b `g]at U;exact aM ((bW ((eq Y).trans U)).trans (e_skip _))
theorem Uh(S:Snd rows owns s)(Y:A[A.length-1]? = some z)(a:z∈s.line)(h:lD owns s (tS rows s z)=some l)(b:l≠z)(Z:l∉A):qp [WD rows,OD owns,LN s.line,LN s.things,LN A]=.ok (.tup [.str "ahead",nD l,nD (tS rows s z)]):=by refine c8 ?_;refine(AI S Y a _).trans ((IR S h b _).trans ?_);show seqF _ _ [some _,some _,some _,some _,some _,some _,some _,some _]=_;rw[h];have U:=cJ (aK (f:=gv 7) (f':=gv 4) (r:=[some (WD rows),some (OD owns),some (LN s.line),some (LN s.things),some _,some (nD z),some (nD (tS rows s z)),some _]) rfl rfl (wc A l));rw[Q_b Z]at U;exact aX ((dm U).trans (aX (bH (fR (aD rfl (aD rfl (aD rfl aG))) `s))))
theorem Sh(S:Snd rows owns s)(c:Rg.Chain (Wr rows) (own owns) s A)(a:A[A.length-1]? = some z)(hi:A[i]? = some l)(b:own owns l=some (tS rows s z)):∀j h k,(A.drop i)[j]? = some h->(A.drop i)[(j+1)%(A.drop i).length]? = some k->own owns k=some (tS rows s h):=by
 intro j h k Y U;have Z:=(e_.mp Y).1;rw[YX]at Z U;rw[Ym]at Y;by_cases q:j+1<A.length-i
 .rw[Č q,Ym]at U;exact c.nx _ h k Y `g
 .have:j+1=A.length-i:=`o
  rw[this,Nat.mod_self,Ym,Nat.add_zero,hi]at U
  grind
theorem T3(S:Snd rows owns s)(c:Rg.Chain (Wr rows) (own owns) s A)(a:A[A.length-1]? = some z)(h:lD owns s (tS rows s z)=some l)(j:l≠z)(hi:A.idxOf l=i)(d:l∈A)(Y:A.length<=60):∃k,k∈A.drop i/\qp [WD rows,OD owns,LN s.line,LN s.things,LN A]=.ok (.tup [.str "ring",fD (tS rows s) ((A.drop i).drop ((A.drop i).idxOf k)++(A.drop i).take ((A.drop i).idxOf k))]):=by
 have Z:i<A.length:=`g
 have U:A[i]? = some l:=`g
 have n:own owns l=some (tS rows s z):=`g
 obtain⟨k,g,_,e⟩:=SX (List.ne_nil_of_length_pos `g) `g (fun h m=>S.ino h (c.sub h (ZV m))) (Sh S c a U n);refine⟨k,g,c8 ?_⟩
 dsimp only[BO]
 refine(AI S a (c.sub z (c.at a)) _).trans ((IR S h j _).trans ?_);show seqF _ _ [some (WD rows),some (OD owns),some (LN s.line),some (LN s.things),some (LN A),some (nD z),some _,some _]=_;rw[h];have b:=cJ (aK (f:=gv 7) (f':=gv 4) (r:=[some (WD rows),some (OD owns),some (LN s.line),some (LN s.things),some (LN A),some (nD z),some (nD (tS rows s z)),some (nD l)]) rfl rfl (wc A l));rw[Q_c d]at b;refine(aM ((bW b).trans (e_skip _))).trans ?_;refine aX (bH (fR (aD rfl (aD (aU (aD rfl (aD (lC rfl (iA (fB rfl rfl (aD rfl aG) (by rw[AQ d,hi]))) rfl (rO `o)) aG)) e) aG)) `s))
inductive Dd where
 |tk (h:Nat)|ah (h x:Nat)|rg (r:List Nat)
noncomputable def Dd.hands:Dd->List Nat
|.tk h=>[h]
|.ah _ _=>[]
|.rg r=>r
def fw(a:Nat->Nat):Dd->D
|.tk h=>.tup [.str "takes",nD h,nD (a h)]
|.ah h x=>.tup [.str "ahead",nD h,nD x]
|.rg r=>.tup [.str "ring",fD a r]
theorem RH(a:Nat->Nat)(d:Dd):JC [fw a d]=.ok (fD a d.hands):=by
 refine dy (n:=1) ?_
 dsimp only[Bq]
 cases d with
|tk h=>refine(aM ((bW (cJ (aK (a:=.str "takes") (b:=.str "ahead") (aK (a:=fw a (.tk h)) (b:=.int 0) rfl rfl (ixA_T0 _ _)) rfl (d:=.bl false) (by unfold eqD;rw[eqB_str];rfl)))).trans (e_skip _))).trans ?_;refine aX (bH ((lY (cJ (aK (a:=.str "takes") (b:=.str "ring") (aK (a:=fw a (.tk h)) (b:=.int 0) rfl rfl (ixA_T0 _ _)) rfl (d:=.bl false) (by unfold eqD;rw[eqB_str];rfl)))).trans ?_));exact fR (aD (lC (d:=fw a (.tk h)) (d':=.tup [nD h,nD (a h)]) rfl (iA (i:=1) rfl) rfl rfl) aG) (by simp[Dd.hands])
|ah h x=>exact aX ((dm (cJ (aK (a:=.str "ahead") (b:=.str "ahead") (aK (a:=fw a (.ah h x)) (b:=.int 0) rfl rfl (ixA_T0 _ _)) rfl (d:=.bl true) (by unfold eqD;rw[eqB_str];rfl)))).trans (aX (bH (fR aG (by simp[Dd.hands])))))
|rg r=>refine(aM ((bW (cJ (aK (a:=.str "ring") (b:=.str "ahead") (aK (a:=fw a (.rg r)) (b:=.int 0) rfl rfl (ixA_T0 _ _)) rfl (d:=.bl false) (by unfold eqD;rw[eqB_str];rfl)))).trans (e_skip _))).trans ?_;refine aX (bH ((lZ (cJ (aK (a:=.str "ring") (b:=.str "ring") (aK (a:=fw a (.rg r)) (b:=.int 0) rfl rfl (ixA_T0 _ _)) rfl (d:=.bl true) (by unfold eqD;rw[eqB_str];rfl)))).trans ?_));exact aK (a:=fw a (.rg r)) (b:=nD 1) rfl rfl (gs rfl)
theorem Kp(h:A.Nodup)(i:Nat){C:List Nat}(Y:∀x,x∈C↔x∈A.drop i):(A.filter fun x=>decide (x∉C))=A.take i:=by
 have Z:(A.take i++A.drop i).Nodup:=by rw[YJ];exact h
 conv=>lhs;rw[<-YJ i A]
 have b:((A.take i).filter fun x=>decide (x∉C))=A.take i:=Zs.mpr fun x U=>by grind
 have a:((A.drop i).filter fun x=>decide (x∉C))=[]:=į.mpr fun x U=>by grind
 grind
theorem Jx(h:∀x,x∈C↔x∈E):Rg.minus W s C=Rg.minus W s E:=by
 unfold Rg.minus
 grind
end
theorem Sv{l C:List Nat}(U:l.Nodup)(Y:C.Nodup)(hs:∀x∈C,x∈l):(C++l.filter fun x=>decide (x∉C)).Perm l:=`g
section
variable{A1 A2:List Nat}{a:Nat->Nat}
noncomputable def Dd.good(a:Nat->Nat):Dd->Prop
|.tk h=>h<7/\a h<8
|.ah h x=>h<7/\x<8
|.rg r=>r.length<=70/\∀h∈r,h<7/\a h<8
noncomputable def qD(dd:Dd)(A:List Nat):List Nat:=match dd with
|.ah h _=>A++[h]
|_=>A
abbrev mA:List Md:=gF
theorem NM(S:Snd rows owns s)(f:D)(Y:s.line≠[])(U:A1=if A=[]then[s.line.headD 0]else A)(p:A1.length<=60)(o:told.length<=900)(n:qp [WD rows,OD owns,LN s.line,LN s.things,LN A1]=.ok (fw a dd))(hs:∀h∈dd.hands,h∈s.line) :
  ∃k j,IZ [some (WD rows),some (OD owns),some f,some (LN s.line),some (LN s.things),some (LN A),some (.lst told),x7,x8,x9]
   = .nx [some (WD rows),some (OD owns),some f,some (LN (s.line.filter fun h=>decide (h∉dd.hands))),some (LN (s.things.filter fun x=>decide (x∉dd.hands.map a))),some (LN ((qD dd A1).filter fun h=>decide (h∉dd.hands))),some (.lst (told++[fw a dd])),some (fw a dd),k,j]:=by
 obtain⟨c,g,m⟩:=Af (t:=a) (line:=s.line) (rs:=[dd.hands]) S.nl (by simpa using hs);rw[show[dd.hands].flatten=dd.hands by simp]at g;refine⟨some (KD c),some (LN (c.map (·.2))),?_⟩;refine(aM (r':=[some (WD rows),some (OD owns),some f,some (LN s.line),some (LN s.things),some (LN A1),some (.lst told),x7,x8,x9]) ?_).trans ?_
 .cases hA:A with
 |nil=>rw[hA,Q_d rfl]at U;subst U;refine(aM (bJ (d:=LN [s.line.headD 0]) (gu (ds:=[nD (s.line.headD 0)]) (aD (aK (a:=LN s.line) (b:=.int 0) rfl rfl ?_) aG) `s))).trans rfl;cases e:s.line with
  |nil=>exact Q_f e Y
  |cons b t=>exact ixA_L0 _ _
 |cons b t=>rw[hA,Q_e `s]at U;subst U;exact(bW (j8 (b:=true) (ig (d:=LN (b::t)) rfl rfl))).trans rfl
 refine(aM (bJ (aU (aD (d:=WD rows) rfl (aD (d:=OD owns) rfl (aD (d:=LN s.line) rfl (aD (d:=LN s.things) rfl (aD (d:=LN A1) rfl aG))))) n))).trans ?_;refine(aM (h9 (d:=.lst told) (ds:=[fw a dd]) rfl rfl (aD (d:=fw a dd) rfl aG) (jA `o))).trans ?_;refine(aM (r':=[some (WD rows),some (OD owns),some f,some (LN s.line),some (LN s.things),some (LN (qD dd A1)),some (.lst (told++[fw a dd])),some (fw a dd),x8,x9]) ?_).trans ?_
 .cases dd with
 |tk h=>exact(bW (cJ (aK (a:=.str "takes") (b:=.str "ahead") (aK (a:=fw a (.tk h)) (b:=.int 0) rfl rfl (ixA_T0 _ _)) rfl (d:=.bl false) (by unfold eqD;rw[eqB_str];rfl)))).trans rfl
 |rg r=>exact(bW (cJ (aK (a:=.str "ring") (b:=.str "ahead") (aK (a:=fw a (.rg r)) (b:=.int 0) rfl rfl (ixA_T0 _ _)) rfl (d:=.bl false) (by unfold eqD;rw[eqB_str];rfl)))).trans rfl
 |ah h x=>
   refine(aM (h9 (d:=LN A1) (ds:=[nD h]) rfl rfl (aD (aK (b:=nD 1) rfl rfl (gs rfl)) aG) (jA `z))).trans ?_;show Out.nx [_,_,_,_,_,some (D.lst (A1.map nD++[nD h])),_,_,_,_]=Out.nx [_,_,_,_,_,some (D.lst ((A1++[h]).map nD)),_,_,_,_]
   grind
 have Z:(qD dd A1).length<=61:=by cases dd <;> simp[qD] <;> omega
 refine(aM (bJ (aU (aD (gu (aD (aU (aD (d:=fw a dd) rfl aG) (RH a dd)) aG) `s) aG) m))).trans ?_;refine(aM (bJ (d:=LN (c.map (·.2))) (dq (a:=KD c) rfl ?_))).trans ?_
 .rw[e_valsD,B_];show some (D.lst _)=some (D.lst ((c.map (·.2)).map nD));rw[B_];rfl
 refine(aM (bJ (dL (l:=s.line) nD _ nD rfl (by have:=S.nl;omega) fun h i=>⟨_,rfl,cJ (aK (a:=nD h) (b:=KD c) rfl rfl (yW g h)),fun _=>rfl⟩))).trans ?_;refine(aM (bJ (dL (l:=qD dd A1) nD _ nD rfl `o fun h i=>⟨_,rfl,cJ (aK (a:=nD h) (b:=KD c) rfl rfl (yW g h)),fun _=>rfl⟩))).trans ?_;refine(aM (bJ (dL (l:=s.things) nD _ nD rfl (by have:=S.nt;omega) fun h i=>⟨_,rfl,cJ (aK (a:=nD h) (b:=LN (c.map (·.2))) rfl rfl (DO g h)),fun _=>rfl⟩))).trans ?_;rfl
theorem Fi(S:Snd rows owns s)(k:Rg.Ok (Wr rows) (own owns) U)(Z:∀h∈U.line,h∈s.line)(b:U.line.length<=s.line.length)(a:U.things.length<=s.things.length):Snd rows owns U:=⟨k,fun h Y=>S.inr h (Z h Y),fun h Y=>S.ino h (Z h Y),fun h Y=>S.wid h (Z h Y),S_ b S.nl,S_ a S.nt⟩
abbrev uI(p:(Nat->Nat)×Dd):D:=fw p.1 p.2
theorem NN(I:D):∀(j:Nat)(s:Rg.S)(A:List Nat)(told:List D)(x7 x8 x9:Option D),Snd rows owns s->(∀h∈s.line,h<7)->(∀x∈s.things,x<8)->Rg.Chain (Wr rows) (own owns) s A->2*s.line.length<j+A.length->told.length+2*s.line.length<=300+A.length ->
  ∃(v:Rg.S)(w:List Nat)(l:List ((Nat->Nat)×Dd))(Q R Cl:Option D),l.length+A.length<=2*s.line.length/\(∀p∈l,p.2.good p.1) /\
   gW mA QN IZ j [some (WD rows),some (OD owns),some I,some (LN s.line),some (LN s.things),some (LN A),some (.lst told),x7,x8,x9]
    = .nx [some (WD rows),some (OD owns),some I,some (LN v.line),some (LN v.things),some (LN w),some (.lst (told++l.map uI)),Q,R,Cl]:=by
 intro j
 induction j with
|zero=>intro s A told x7 x8 x9 S G P c h;have:=Rg.lG c.nd c.sub;omega
|succ j ih=>
  intro s A told x7 x8 x9 S G P c hj ht;have Wq:A.length<=s.line.length:=Rg.lG c.nd c.sub;have Wp:=S.nl;by_cases Y:s.line=[]
  .refine⟨s,A,[],x7,x8,x9,`z,fun d m=>(nomatch m),?_⟩;rw[Yo,W_];refine rP (ig (d:=LN s.line) rfl ?_);rw[Y];rfl
  .have hpos:=Zr.mpr Y;generalize H:(if A=[]then[s.line.headD 0]else A)=a;have n:Rg.Chain (Wr rows) (own owns) s a:=by
    rw[<-H];split
    .exact Rg.Vr Y
    .exact c
   have Ty:a≠[]:=by
    rw[<-H];split
    .simp
    .assumption
   have Wn:A.length<=a.length:=by
    rw[<-H];split
    .rename_i e;rw[e];simp
    .exact l_ _
   have Wo:a.length<=s.line.length:=Rg.lG n.nd n.sub;obtain⟨u,s1,A2,m,K,L,O,eA,S',g,B⟩:=by
      have hp:=Zr.mpr Ty;have o:a[a.length-1]? = some a[a.length-1]:=m_ _;generalize a[a.length-1]=z at o;have U:=n.sub z (n.at o);have M:∀h∈s.line,h<7/\tS rows s h<8:=fun h f=>⟨G h f,P _ ((fun S f=>S.ok.tgt_mem f) S f)⟩
      have y:∀{C:List Nat},C.Nodup->(∀h∈C,h∈s.line)->(s.line.filter fun h=>decide (h∉C)).length+C.length=s.line.length:=fun hC K=>by
       have:=(Sv S.ok.nl hC K).length_eq
       grind
      have ed:∀x,x∈a.drop (a.length-1)↔x∈[z]:=fun x=>by
       constructor
       .intro hx;obtain⟨j,h1,h2⟩:=Rg.xh hx
        grind
       .intro hx;rw[A_.mp hx];exact Rg.A4 (l_ _) o
      have tk:=fun(m) (k') (g)=>by
       have Tm:∀h∈[z],h∈s.line:=fun h f=>by grind
       have J:=y `s Tm;have ll:(Rg.minus (Wr rows) s [z]).line.length+1=s.line.length:=J;exact(⟨.tk z,Rg.minus (Wr rows) s [z],_,m,Tm,M z U,rfl,(Kp n.nd _ fun x=>(ed x).symm).symm,Fi S k' (fun h f=>(o_.mp f).1) `o (YI _ _),g,`g⟩:∃(u:Dd)(v:Rg.S)(w:List Nat),qp [WD rows,OD owns,LN s.line,LN s.things,LN a]=.ok (fw (tS rows s) u)/\(∀h∈u.hands,h∈s.line)/\u.good _/\v=⟨s.line.filter fun h=>decide (h∉u.hands),s.things.filter fun x=>decide (x∉u.hands.map _)⟩/\w=(qD u a).filter (fun h=>decide (h∉u.hands)) /\Snd rows owns v/\Rg.Chain (Wr rows) (own owns) v w/\2*v.line.length+a.length+1<=2*s.line.length+w.length)
      cases E:lD owns s (tS rows s z)with
     |none=>
       obtain⟨k',g⟩:=Rg.VW S.ok n o fun h f=>by grind
       exact tk (LG S o U (.inl E)) k' g
     |some l=>
       have N:own owns l=some (tS rows s z):=`g
       have ST:=Ī E;by_cases IO:l=z
       .subst IO;obtain⟨k',g⟩:=Rg.MB S.ok n o o N;rw[Jx ed]at k' g;exact tk (LG S o U (.inr E)) k' g
       .by_cases B:l∈a
        .obtain⟨k,k1,m⟩:=T3 S n o E IO rfl B `o;have Wm:=Yd B;have hi:a[a.idxOf l]? = some l:=`g
         obtain⟨k',g⟩:=Rg.MB S.ok n o hi N;generalize a.idxOf l=i at m Wm k' g k1;generalize hr:(a.drop i).drop _++(a.drop i).take _=r at m;have Z:r.Perm (a.drop i):=by rw[<-hr];exact List.perm_append_comm.trans (by rw[YJ])
         have T:∀x,x∈r↔x∈a.drop i:=fun x=>Z.mem_iff;have X:=fun h f=>n.sub h (ZV ((T h).mp f));have J:=y (Z.nodup_iff.mpr (n.nd.sublist (List.drop_sublist _ _))) X;have l2:r.length=a.length-i:=`g
         rw[Jx fun x=>(T x).symm]at k' g;have ll:(Rg.minus (Wr rows) s r).line.length+r.length=s.line.length:=J;exact⟨.rg r,Rg.minus _ s r,a.take i,m,X,⟨`o,fun h f=>M h (X h f)⟩,rfl,(Kp n.nd i T).symm,Fi S k' (fun h f=>(o_.mp f).1) `o (YI _ _),g,`g⟩
        .have g:=Rg.Vm n o ST B N;refine⟨.ah l _,s,_,Uh S o U E IO B,fun h f=>(nomatch f),⟨G l ST,(M z U).2⟩,?_,?_,S,g,`g⟩
         .show s=⟨s.line.filter fun h=>decide (h∉[]),s.things.filter fun x=>decide (x∉[])⟩
          simp[fu]
         .show _=(a++[l]).filter fun h=>decide (h∉[]);simp[fu]
   obtain⟨y8,y9,hb⟩:=NM (told:=told) (x7:=x7) (x8:=x8) (x9:=x9) S I Y H.symm `o `o m K;obtain⟨v,w,l,Q,R,Cl,h2,F,h3⟩:=ih s1 A2 (told++[fw (tS rows s) u]) (some (fw (tS rows s) u)) y8 y9 S' (fun h f=>G h (by rw[O]at f;exact(o_.mp f).1)) (fun x hx=>P x (by rw[O]at hx;exact(o_.mp hx).1)) g `o (by rw[XB];simp;omega);refine⟨v,w,(tS rows s,u)::l,Q,R,Cl,`z,fun d m=>?_,?_⟩
   .rcases s_.mp m with rfl|m
    .exact L
    .exact F d m
   .rw[Zd]at h3;rw[R_];refine ZM (p6 (ig (b:=true) (d:=LN s.line) rfl ?_) ?_) h3
    .cases q:s.line with
    |nil=>exact Q_f q Y
    |cons b t=>rfl
    .rw[hb,O,eA]
theorem RC(d:∀l,o=some l->l.Nodup/\(∀k∈l,k<rows.length)/\l.length=rows.length)(c:rows≠[])(j:rows.length<=30)(S:Snd rows owns (s0 rows o))(Z:(s0 rows o).line.length<=30)(g:∀h∈(s0 rows o).line,h<7)(f:∀x∈(s0 rows o).things,x<8):∃l:List ((Nat->Nat)×Dd),l.length<=60/\(∀p∈l,p.2.good p.1)/\Gd [WD rows,OD owns,dO o]=.ok (.lst (l.map uI)):=by obtain⟨i,q,l,Y,n,U,m,a,e⟩:=NN (dO o) 64 _ [] [] none none none S g f Rg.Vq `o `o;refine⟨l,`o,a,c8 ?_⟩;cases rows with
|nil=>exact Q_f rfl c
|cons b rest=>refine(aM (bJ (aU (aD rfl (aD rfl aG)) (JW d `o)))).trans ?_;refine(aM (bJ (bT (aD (aU (aD rfl aG) xr) aG) (p9 (by have:=S.nt;unfold s0 at this;simp at this;omega))))).trans ?_;refine(aM e).trans ?_;exact aX (bH rfl)
end
end Law
namespace Law
open PySem PyProof.Rows L2 DL PySem.Builtin PySem.Builtin.Str
noncomputable def jl(y:List Nat):List (List Nat)->List Nat
|[]=>[]
|[p]=>p
|p::q::r=>p++(y++jl y (q::r))
theorem EO:∀{p q r s:List Nat},c∉p->c∉q->p++c::r=q++c::s->p=q/\r=s
|[],[],r,s,_,_,h=>⟨rfl,(Î h).2⟩
|[],b::q,r,s,_,U,h=>Q_f (Î h).1 (fun e=>U `g)
|a::p,[],r,s,Y,_,h=>Q_f (Î h).1 (fun e=>Y `g)
|a::p,b::q,r,s,Y,U,h=>by
  obtain⟨d,Z⟩:=Î h;obtain⟨g,f⟩:=EO (fun z=>Y (h_ _ z)) (fun z=>U (h_ _ z)) Z
  grind
theorem Ft:∀{Y U:List (List Nat)},Y≠[]->U≠[]->(∀p∈Y,c∉p)->(∀q∈U,c∉q)->jl (c::b) Y=jl (c::b) U->Y=U
|[],_,h,_,_,_,_=>Q_f rfl h
|_::_,[],_,h,_,_,_=>Q_f rfl h
|[p],[q],_,_,_,_,h=>by rw[show p=q from h]
|[p],q::e::s,_,_,a,_,h=>by have h:p=q++(c::b++jl _ _):=h;exact Q_f (by rw[h];simp) (a p g_)
|p::f::r,[q],_,_,_,Z,h=>by have h:p++(c::b++jl _ _)=q:=h;exact Q_f (by rw[<-h];simp) (Z q g_)
|p::f::r,q::e::s,_,_,a,Z,h=>by obtain⟨j,i⟩:=EO (a p g_) (Z q g_) h;have g:=List.append_cancel_left i;rw[j,Ft `s `s (fun z d=>a z (h_ _ d)) (fun z d=>Z z (h_ _ d)) g]
theorem D5(U:c∉Y):∀{a:List (List Nat)},(∀p∈a,c∉p)->∀k,(jl (c::Y) a)[k]? = some c->((jl (c::Y) a).drop k).take (c::Y).length=c::Y
|[],_,k,h=>by simp[jl]at h
|[p],Z,k,h=>Q_f (Yq h) (Z p g_)
|p::q::r,Z,k,h=>by
  have e:jl (c::Y) (p::q::r)=p++((c::Y)++jl (c::Y) (q::r)):=rfl;rw[e]at h ⊢;by_cases f:k<p.length
  .rw[J_ f]at h;exact Q_f (Yq h) (Z p g_)
  .obtain⟨j,rfl⟩:∃j,k=p.length+j:=⟨k-p.length,`o⟩
   rw[XQ `o,ň]at h;rw[<-Ņ,ņ];by_cases d:j<(c::Y).length
   .rw[J_ d]at h;cases j with
   |zero=>rw[Ç,List.take_left]
   |succ j=>rw[Į]at h;exact Q_f (Yq h) U
   .obtain⟨i,rfl⟩:∃i,j=(c::Y).length+i:=⟨j-(c::Y).length,`o⟩
    rw[XQ `o,ň]at h;rw[<-Ņ,ņ];exact D5 U (fun z b=>Z z (h_ _ b)) i h
theorem p8(y:Str):∀U:List Str,(O_ y U).cps.toList=jl y.cps.toList (U.map fun p=>p.cps.toList)
|[]=>rfl
|[p]=>rfl
|p::q::r=>by
  have Y:=p8 y (q::r);show(p++y++O_ y _).cps.toList=p.cps.toList++(y.cps.toList++jl y.cps.toList ((q::r).map fun p=>p.cps.toList))
  rw[<-Y];simp only[Str.cps_append,Ŕ,Zd]
theorem QG(x:Str):1<=Zt x:=by
 unfold Zt;split
 .exact l_ _
 .split <;> decide
section
variable{c:Nat}{x y:Str}
theorem Iu(d:∀k,x.cps.toList[k]? = some c->ZS x y x.length k)(Y:∀k,a<=k->k<b->¬ ZS x y x.length k):c∉(strSub x a b).cps.toList:=by
 intro U;rw[StrLaws.strSub_toList]at U;obtain⟨j,Z⟩:=Yr U
 grind
theorem IU(b:∀k,x.cps.toList[k]? = some c->ZS x y x.length k):∀(U:List Nat)(a f:Nat),StrLaws.ChainG x y x.length a U f->(∀k,f<=k->¬ ZS x y x.length k)->∀p∈StrLaws.partsFrom x y.length a U,c∉p.cps.toList
|[],a,f,h,Z,p,Y=>by subst h;rw[A_.mp Y];exact Iu b fun k g _=>Z k g
|d::r,a,f,h,Z,p,Y=>by
  rcases s_.mp Y with e|e
  .rw[e];exact Iu b h.2.2.1
  .exact IU b r _ f h.2.2.2 Z p e
theorem J0(i:Zt y=1)(Y:1<=y.length)(b:∀k,x.cps.toList[k]? = some c->ZS x y x.length k):∀q∈Txt.split x y,c∉q.cps.toList:=by
 have a:(∀k,¬ ZS x y x.length k)->c∉x.cps.toList:=fun h z=>by obtain⟨j,d⟩:=Yr z;exact h j (b j d)
 obtain⟨f,Z,e⟩:=StrLaws.occ_tight x y Y;unfold Txt.split;split
 .intro q hq;rw[A_.mp hq];refine a fun k U=>?_;have:=U.1;have g:=QG x
  grind
 .split
  .rename_i h;rw[List.isEmpty_iff.mp h]at Z;have Z:f=0:=Z
   grind
  .rw[ŝ];exact IU b _ 0 f Z e
theorem AE(x y:Str):Txt.split x y≠[]:=by
 unfold Txt.split;split
 .simp
 .split
  .simp
  .rw[ŝ];obtain⟨p,r,e⟩:=StrLaws.partsFrom_ne x y.length 0 _;rw[e];simp
theorem Bz(d:y.cps.toList=c::f)(m:Zt y=1)(Y:c∉f)(U:Z≠[])(r:∀p∈Z,c∉p.cps.toList):Txt.split (O_ y Z) y=Z:=by
 have l:y.length=(c::f).length:=by rw[<-d];simp[Ë]
 have n:∀k,(O_ y Z).cps.toList[k]? = some c->ZS (O_ y Z) y (O_ y Z).length k:=by
  intro k h;rw[p8,d]at h;have o:=D5 Y (fun p g=>`g) k h;rw[<-d,<-p8]at o;refine⟨?_,?_⟩
  .have h4:(O_ y Z).cps.toList.length=(O_ y Z).length:=by simp[Ë]
   grind
  .rw[Ş,l,<-d]
   grind
 have i:=J0 m `g n;have j:=AE (O_ y Z) y;have e:(O_ y (Txt.split (O_ y Z) y)).cps.toList=(O_ y Z).cps.toList:=by rw[ę]
 rw[p8 y _,p8 y Z,d]at e;have q:=Ft (by simpa using j) (by simpa using U) (fun p g=>`g) (fun p g=>`g) e;exact(List.map_inj_right fun a b h=>Str.ext' (ŕ.mp h)).mp q
end
noncomputable abbrev cL(x:Nat):Str:=⟨#[65+x]⟩
def word(x:Nat)(o:Option Nat):Str:=if o=some x then cL x++"*" else cL x
theorem pj{p:Nat->Prop}(e:p 0)(d:p 1)(c:p 2)(b:p 3)(a:p 4)(Z:p 5)(Y:p 6)(U:p 7)(h:x<8):p x:=`g
theorem pS(h:x<8):cD (.str "ABCDEFGH") (nD x)=some (.str (cL x)):=pj (p:=fun x=>cD _ _=some (.str _)) (rfl) (rfl) (rfl) (rfl) (rfl) (rfl) (rfl) (rfl) h
theorem IA(h:x<8):qY (.str "ABCDEFGH") [.str (cL x)]=some (nD x):=pj (p:=fun x=>qY _ [.str _]=some _) `q `q `q `q `q `q `q `q h
theorem Na(h:x<8):g6 (.str (cL x)) (.str "ABCDEFGH")=some (.bl true):=pj (p:=fun x=>g6 (.str _) _=some _) `q `q `q `q `q `q `q `q h
theorem OM(h:x<8):lenD [.str (cL x)]=some (nD 1):=pj (p:=fun x=>lenD [.str _]=some _) (rfl) (rfl) (rfl) (rfl) (rfl) (rfl) (rfl) (rfl) h
theorem AH(x:Nat)(o:Option Nat):(word x o).length<=2:=by
 unfold word;split
 .exact l_ 2
 .exact É 1
theorem word_chr(h:c∈(word x o).cps.toList):c=42\/65<=c:=by
 unfold word at h;split at h
 .have h:c∈(#[65+x]++("*" : Str).cps).toList:=h;rw[Ŕ]at h;rcases X9.mp h with z|z
  .grind
  .left;exact A_.mp z
 grind
theorem j4(h:a.length+b.length<=1000):addA (.str a) (.str b)=some (.str (a++b)):=by show(if a.length+b.length<=sizeLine then _ else _)=_;rw[Q_d (by rw[G_];omega)]
theorem IB(x:Nat):(cL x).length+(("*" : Str)).length<=1000:=by
 have h:(("*")).length=1:=`k
 show 1+1<=1000;decide
theorem ER(x:Nat)(o:Option Nat):eqD (nD x) (oD o)=some (.bl (decide (o=some x))):=by cases o with
|none=>rfl
|some y=>
  rw[show oD _=nD y from rfl,iR];congr 2
  grind
theorem P7(o:Option Nat)(h:x<8):JK [nD x,oD o]=.ok (.str (word x o)):=by
 refine c8 ?_;refine(aM (r':=[some _,some _,some _]) (bJ (aK rfl rfl (pS h)))).trans (aX (bH ?_));have t:bY (f2 (gv 0) (gv 1) eqD) [some _,some _,some (.str (cL x))]=.ok _:=cJ (aK rfl rfl (ER x o));unfold word;by_cases c:o=some x
 .rw[Q_c c]at t;rw[Q_d c,lZ t];exact aK rfl rfl (j4 (IB x))
 .rw[Q_b c]at t;rw[Q_e c,lY t];rfl
theorem BX(o:Option Nat)(h:x<8):xX [.str (word x o)]=.ok (.bl (decide (o=some x))):=by
 refine dy (n:=1) ?_
 dsimp only[sK]
 refine aX (bH (fB (d:=.str (word x o)) (ds:=[.str "*"]) rfl rfl rfl ?_));unfold word;by_cases c:o=some x
 .rw[Q_d c,Q_c c];exact pj (p:=fun x=>uX _ [.str "*"]=some _) (rfl) (rfl) (rfl) `q `q `q `q (rfl) h
 .rw[Q_e c,Q_b c];exact pj (p:=fun x=>uX (.str (cL x)) [.str "*"]=some _) (rfl) (rfl) (rfl) (rfl) (rfl) (rfl) (rfl) (rfl) h
theorem zS{lo hi:Option Int}(c:Y r=.ok d)(b:fl r=.ok lo)(a:U r=.ok hi)(Z:yD d lo hi=some d'):mW Y fl U r=.ok d':=by unfold mW;rw[c,bind_ok,b,bind_ok,a,bind_ok,Z];rfl
theorem Bu(o:Option Nat)(h:x<8):JI [.str (word x o)]=.ok (.str (cL x)):=by
 refine c8 ?_;refine aX (bH ?_);have t:dX (cG (aI (gv 0) aE) [] xX) [some _]=.ok _:=ig (aU (aD rfl aG) (BX o h)) rfl;by_cases c:o=some x
 .rw[Q_c c]at t;refine(lZ t).trans (zS rfl rfl (iA rfl) ?_);unfold word;rw[Q_d c];exact pj (p:=fun x=>yD (.str (cL x++"*")) none (some (-1))=some (.str (cL x))) `q `q (rfl) (rfl) `q `q `q (rfl) h
 .rw[Q_b c]at t;refine(lY t).trans ?_;show Res.ok _=_;unfold word;rw[Q_e c]
theorem RX(o:Option Nat)(h:x<8):Q6 [.str (word x o)]=.ok (.bl true):=by refine c8 ?_;refine(aM (bJ (aU (aD rfl aG) (Bu o h)))).trans (aX (bH ?_));rw[on (aK (bT (aD rfl aG) (OM h)) rfl (nI 1))];exact aK rfl rfl (Na h)
def cY(row:List Nat)(o:Option Nat):Str:=O_ " " (row.map fun x=>word x o)
def d4(rows:List (List Nat))(owns:List (Option Nat)):Str:=O_ "; " ((rows.zip owns).map fun p=>cY p.1 p.2)
theorem Bn:∀l:List Str,l7 (l.map D.str)=some l
|[]=>rfl
|x::l=>by show(l7 _).map _=_;rw[Bn l];rfl
theorem j7(Z:∀y∈l,y.length<=B)(h:l.length*B+l.length*U.length<=16777216):lF (.str U) [.lst (l.map D.str)]=some (.str (O_ U l)):=by
 show(match l7 _ with|some Y=>if ï U Y=true then some _ else none|none=>none)=_;rw[Bn];have:ï U l=true:=by unfold ï;rw[StrLaws.joinFits Z h];rfl
 simp only[this];show some (D.str (PySem.Builtin.Str.glued U l))=_;rw[ZP]
theorem wS(o:Option Nat)(b:U.length<=8):(cY U o).length<=24:=by
 have h:=Yw " " (U.map fun x=>word x o);have a:=ZN (U.map fun x=>word x o) (fun y Y=>by obtain⟨x,_,rfl⟩:=k_.mp Y;exact AH x o);have Z:((" " : Str)).length=1:=`k
 rw[Z,i_]at h;rw[i_]at a;unfold cY;omega
theorem Jl(a:∀U∈rows,U.length<=8)(d:rows.length<=7):(d4 rows owns).length<=1000:=by
 have h:=Yw "; " ((rows.zip owns).map fun p=>cY p.1 p.2);have c:=ZN ((rows.zip owns).map fun p=>cY p.1 p.2) (fun y Y=>by obtain⟨p,Z,rfl⟩:=k_.mp Y;exact wS p.2 (a p.1 (Yu Z).1));have b:(("; " : Str)).length=2:=`k
 have e:(rows.zip owns).length<=7:=`g
 rw[b,i_]at h;rw[i_]at c;unfold d4;omega
theorem SY(o:Option Nat)(a:∀x∈U,x<8)(b:U.length<=8):J3 [TN U,oD o]=.ok (.str (cY U o)):=by
 refine c8 ?_;have e:dE 1 [1] (cF dh (gv 0)) (bD 0) (fun _=>Res.ok true) (cG (aI (gv 0) (aI (gv 1) aE)) [] JK) (cH 2 [TN U,oD o])=.ok (.lst ((U.map fun x=>word x o).map D.str)):=by refine(dL nD _ _ (fq rfl rfl) `o fun x Z=>⟨_,rfl,rfl,fun _=>aU (aD rfl (aD rfl aG)) (P7 o (a x Z))⟩).trans ?_;rw[fu,B_];rfl
 have c:((" " : Str)).length=1:=`k
 exact aX (bH (fB rfl rfl (aD e aG) (j7 (fun y Y=>by obtain⟨x,_,rfl⟩:=k_.mp Y;exact AH x o) `g)))
theorem Am(h:Y r=.ok d)(g:U r=.ok e)(f:dh d=some ds)(c:dh e=some Z):jf Y U r=.ok (YQ (fun a b=>DL.D.tup [a,b]) ds Z):=by unfold jf;rw[h,bind_ok,g,bind_ok,f,opt_some,bind_ok,c,opt_some,bind_ok]
theorem Em(rows:List (List Nat))(owns:List (Option Nat)):YQ (fun a b=>DL.D.tup [a,b]) (rows.map TN) (owns.map oD)=(rows.zip owns).map fun p=>.tup [TN p.1,oD p.2]:=by rw[List.zipWith_map,List.zip,List.map_zipWith]
theorem TX(b:∀U∈rows,∀x∈U,x<8)(Z:∀U∈rows,U.length<=8)(c:rows.length<=7):B5 [WD rows,OD owns]=.ok (.str (d4 rows owns)):=by
 refine dy (n:=2) ?_
 dsimp only[BR]
 have f:(rows.zip owns).length<=7:=`g
 have e:dE 2 [] (jf (gv 0) (gv 1)) (gI (dg (bD 0) (dg (bD 1) gz))) (fun _=>Res.ok true) (cG (aI (gv 0) (aI (gv 1) aE)) [] J3) (cH 2 [WD rows,OD owns])=.ok (.lst (((rows.zip owns).map fun p=>cY p.1 p.2).map D.str)):=by refine(dL (l:=rows.zip owns) (fun p=>.tup [TN p.1,oD p.2]) (fun _=>true) (fun p=>.str (cY p.1 p.2)) ((Am (d:=WD rows) (e:=OD owns) rfl rfl rfl rfl).trans (by rw[Em])) `o fun p Y=>⟨[some (TN p.1),some (oD p.2)],rfl,rfl,fun _=>aU (aD (d:=TN p.1) rfl (aD (d:=oD p.2) rfl aG)) (SY p.2 (b p.1 (Yu Y).1) (Z p.1 (Yu Y).1))⟩).trans ?_;rw[fu,B_];rfl
 have g:(("; " : Str)).length=2:=`k
 exact aX (bH (fB (d:=.str "; ") rfl rfl (aD e aG) (j7 (B:=24) (fun y a=>by obtain⟨p,Y,rfl⟩:=k_.mp a;exact wS p.2 (Z p.1 (Yu Y).1)) `g)))
theorem mem_jl:∀{U:List (List Nat)},c∈jl y U->c∈y\/∃p∈U,c∈p
|[],h=>by cases h
|[p],h=>.inr ⟨p,g_,h⟩
|p::q::r,h=>by
  rcases X9.mp (h)with z|z
  .exact .inr ⟨p,g_,z⟩
  .rcases X9.mp z with z|z
   .exact .inl z
   .rcases mem_jl z with z|⟨Y,a,Z⟩
    .exact .inl z
    .exact .inr ⟨Y,h_ _ a,Z⟩
theorem wn:((" " : Str)).cps.toList=[32]:=rfl
theorem NZ:(("; " : Str)).cps.toList=[59,32]:=`q
theorem rowS_chr(h:c∈(cY U o).cps.toList):c=32\/c=42\/65<=c:=by
 unfold cY at h;rw[p8,wn]at h;rcases mem_jl h with z|⟨p,Y,Z⟩
 .grind
 .rw[B_]at Y;obtain⟨x,_,rfl⟩:=k_.mp Y;exact .inr (word_chr Z)
abbrev WS(row:List Nat)(o:Option Nat):D:=.lst (row.map fun x=>D.str (word x o))
theorem Ax(Y:0<b.length)(U:a.length<=10000):rF (.str a) [.str b]=some (.lst ((Txt.split a b).map D.str)):=by show(if 0<b.length/\a.length<=10000 then some _ else none)=_;rw[Q_d ⟨Y,U⟩]
theorem Tl(o:Option Nat)(U:Y≠[])(a:Y.length<=8):rF (.str (cY Y o)) [.str " "]=some (WS Y o):=by
 rw[Ax `k (by have:=wS o a;omega)];unfold cY;rw[Bz wn `k `s (by simpa using U) (fun p Z=>?_),B_]
 .rfl
 .obtain⟨x,_,rfl⟩:=k_.mp Z;intro z;rcases word_chr z with e|e <;> omega
theorem R8(U:rows.zip owns≠[])(b:∀Y∈rows,Y.length<=8)(a:rows.length<=7):rF (.str (d4 rows owns)) [.str "; "]=some (.lst ((rows.zip owns).map fun p=>D.str (cY p.1 p.2))):=by
 rw[Ax `k (by have:=Jl (owns:=owns) b a;omega)];unfold d4;rw[Bz NZ `k `s (by simpa using U) (fun p Z=>?_),B_]
 .rfl
 .obtain⟨x,_,rfl⟩:=k_.mp Z;intro z;rcases rowS_chr z with e|e|e <;> omega
variable{o:Option Nat}
section
variable{row:List Nat}
theorem MX:∀{l:List Nat},l.Nodup->(∀x∈l,x=y)->l.length<2
|[],_,_=>by simp
|[a],_,_=>by simp
|a::b::r,U,h=>by simp_all
theorem SL(Y:row.Nodup):(row.filter fun x=>decide (o=some x)).length<2:=by cases o with
|none=>rw[į.mpr (fun x _=>`s)];simp
|some y=>refine MX (y:=y) (List.Nodup.sublist List.filter_sublist Y) fun x U=>?_;have:=(o_.mp U).2;simp at this;exact this.symm
theorem PU(a:fi r=.ok U)(Z:U.length<=1000)(c:∀d∈U,∃r1,ft d (dI nl cap r)=some r1/\f r1=.ok (.bl true)):fC (aI (dE nl cap fi ft (fun _=>Res.ok true) f) aE) allD r=.ok (.bl true):=by
 have e:=dL (nl:=nl) (cap:=cap) (fi:=fi) (ft:=ft) (q:=fun _=>Res.ok true) (fe:=f) id (fun _=>true) (fun _=>.bl true) (by rw[List.map_id];exact a) Z (fun d b=>`g);refine bT (aD e aG) ?_;show(l5 _).map _=_;have:∀l:List D,l5 (l.map fun _=>D.bl true)=some (l.map fun _=>true):=by
  intro l
  induction l with
 |nil=>rfl
 |cons d l Y=>simp[l5,Y]
 rw[this];simp
theorem RW(Z:row.Nodup)(Y:∀x∈row,x<8)(e:row.length<=8):IX [WS row o]=.ok (.bl true):=by refine c8 ?_;refine(aM (bJ (dL _ _ _ (fq rfl rfl) `o fun x U=>⟨_,rfl,ig (aU (aD rfl aG) (BX o (Y x U))) rfl,fun _=>rfl⟩))).trans (aX (bH ?_));have a:=SL (o:=o) Z;rw[on (aK (b:=nD 2) (bT (aD rfl aG) (ii _ _)) rfl (by rw[n5,Q_c a]))];refine PU (fq rfl rfl) `g fun d c=>?_;obtain⟨x,U,rfl⟩:=k_.mp c;exact⟨_,rfl,aU (aD rfl aG) (RX o (Y x U))⟩
theorem Gh:∀(l:List Nat)(U:Option D),(∀x∈l,x<8) ->(∀y,o=some y->y∈l->bG (bD 1) xz (l.map fun x=>D.str (word x o)) [some W,U]=.rt (nD y)) /\((∀y,o=some y->y∉l)->∃a,bG (bD 1) xz (l.map fun x=>D.str (word x o)) [some W,U]=.nx [some W,a])
|[],U,_=>⟨fun y _ h=>(nomatch h),fun _=>⟨U,fG⟩⟩
|x::l,U,Z=>by
  have Y:=Z x g_;obtain⟨f,e⟩:=Gh (W:=W) l (some (.str (word x o))) fun z b=>Z z (h_ _ b);have t:dX (cG (aI (gv 1) aE) [] xX) [some W,some _]=.ok _:=ig (aU (aD rfl aG) (BX o Y)) rfl;by_cases c:o=some x
  .rw[Q_c c]at t;refine⟨fun y g _=>?_,fun h=>Q_f g_ (h x c)⟩;have:y=x:=`g
   subst this;refine zD rfl (aX ((dm t).trans (aX (bH ?_))));exact fB rfl rfl (aD (aU (aD rfl aG) (Bu o Y)) aG) (IA Y)
  .rw[Q_b c]at t;have d:bG (bD 1) xz _ [some W,U]=bG _ xz (l.map fun x=>D.str (word x o)) [some W,some _]:=fm rfl (aM ((bW t).trans (e_skip _)))
   grind
theorem RF(a:∀x∈row,x<8)(Z:∀y,o=some y->y∈row):Ij [WS row o]=.ok (oD o):=by obtain⟨Y,U⟩:=Gh (o:=o) (W:=WS row o) row none a;refine c8 ?_;cases o with
|none=>obtain⟨c,h⟩:=U fun y b=>nomatch b;exact(aM ((eQ (fq rfl rfl)).trans h)).trans (aX (bH rfl))
|some y=>exact aX ((eQ (fq rfl rfl)).trans (Y y rfl (Z y rfl)))
end
structure Txs(rows:List (List Nat))(owns:List (Option Nat))(n m:Nat):Prop where
 n1:1<=n
 n7:n<=7
 nm:n<=m
 m8:m<=8
 rl:rows.length=n
 rp:∀row∈rows,row.Perm (j_ m)
 ow:Own owns m
 ol:owns.length=n
variable{rows:List (List Nat)}{owns:List (Option Nat)}{n m:Nat}
theorem Txs.bd(S:Txs rows owns n m):∀U∈rows,∀x∈U,x<m:=fun U Z x Y=>u_.mp ((S.rp U Z).mem_iff.mp Y)
theorem Txs.b8(S:Txs rows owns n m):∀U∈rows,∀x∈U,x<8:=fun U Z x Y=>y_ (S.bd U Z x Y) S.m8
theorem Txs.len(S:Txs rows owns n m):∀U∈rows,U.length=m:=fun U Y=>by rw[(S.rp U Y).length_eq];simp
theorem Txs.l8(S:Txs rows owns n m):∀U∈rows,U.length<=8:=fun U Y=>by rw[S.len U Y];exact S.m8
theorem Txs.nd(S:Txs rows owns n m):∀U∈rows,U.Nodup:=fun U Y=>(S.rp U Y).nodup_iff.mpr Yn
theorem Txs.zl(S:Txs rows owns n m):(rows.zip owns).length=n:=by rw[Ń,S.rl,S.ol,Nat.min_self]
theorem Txs.zr(S:Txs rows owns n m)(h:p∈rows.zip owns):p.1∈rows/\p.2∈owns:=Yu h
theorem Hn:∀(l:List (List Nat))(k:Nat)(x y:Option D),(∀U∈l,U.Nodup/\(∀z∈U,z<m)/\U.length=m)->m<=8->∃Z Y,bG (gI (dg (bD 2) (dg (bD 3) gz))) TR (eF k (l.map LN)) [some W,some (nD m),x,y]=.nx [some W,some (nD m),Z,Y]
|[],k,x,y,_,_=>⟨x,y,fG⟩
|U::l,k,x,y,h,e=>by obtain⟨Z,Y,a⟩:=Hn (W:=W) l (k+1) (some (nD k)) (some (LN U)) (fun r c=>h r (h_ _ c)) e;obtain⟨i,g,f⟩:=h U g_;refine⟨Z,Y,?_⟩;rw[<-a];refine fm rfl (aM ((bW ?_).trans (e_skip _)));exact j8 (b:=true) (ig (d:=.bl true) (aU (aD (d:=LN U) rfl (aD (d:=nD m) rfl aG)) (Hb i g f `o)) rfl)
theorem ka{m:List Md}(h:f r=.ok d):jW m f r=.nx r:=by unfold jW;rw[h];rfl
theorem O8(a:1<=U.length)(Z:U.length<=7):UG [.lst U]=.ok .non:=by
 show bV false (yw.1 (cH 1 [.lst U]))=_;have Y:fC (aI (gv 0) aE) lenD (cH 1 [.lst U])=.ok _:=bT (aD rfl aG) rfl;have:yw.1 (cH 1 [.lst U])=.nx [some (.lst U)]:=by refine aM ((bW ?_).trans (e_skip _));refine(eq (cJ (aK (b:=nD 1) Y rfl (by rw[n5,Q_b `o])))).trans (cJ (aK (b:=nD 7) Y rfl (by rw[n0,Q_b `o])))
 rw[this];rfl
theorem NU(S:Txs rows owns n m):Tb [.lst (rows.map LN)]=.ok (WD rows):=by
 have e:=S.rl;have Y:=S.n1;have Z:=S.n7;have U:=S.m8;have k:=S.nm;obtain⟨j,i,f⟩:=Hn (W:=.lst (rows.map LN)) rows 0 none none (fun a c=>⟨S.nd a c,S.bd a c,S.len a c⟩) S.m8;obtain⟨d,h,g⟩:∃d,(rows.map LN)[0]? = some (LN d)/\d.length=m:=by cases rows with
 |nil=>simp at e;omega
 |cons r t=>exact⟨r,rfl,S.len r g_⟩
 refine c8 ?_;refine(aM (ka (aU (aD rfl aG) (O8 `g `g)))).trans ?_;refine(aM (bJ (bT (aD (aK rfl rfl (lE h)) aG) (by rw[ii,g])))).trans ?_;refine(aM ((bW ?_).trans (e_skip _))).trans ?_
 .refine(eq (cJ (aK rfl (bT (aD rfl aG) (by rw[ii,e])) (by rw[n5,Q_b `o])))).trans (cJ (aK (b:=nD 8) rfl rfl (by rw[n0,Q_b `o])))
 refine(aM ((eQ rfl).trans f)).trans (aX (bH ?_));refine bT (aD ((dL LN _ TN (fq rfl rfl) `o fun a c=>⟨_,rfl,rfl,fun _=>bT (aD rfl aG) rfl⟩).trans (by rw[fu])) aG) rfl
theorem OI(U:List Nat)(k:Nat):g6 (nD k) (jy U)=some (.bl (decide (k∈U))):=by
 show(some _).map D.bl=_;rw[zE,B_];have:decide (k∈U.map ((fun p=>p.1)∘fun k=>(k,D.bl true)))=decide (k∈U):=by simp[ŭ]
 rw[this];rfl
theorem Qd(Z:k∉U)(Y:U.length<=60):gA (jy U) (nD k) (.bl true)=some (jy (U++[k])):=by show(if _ then some _ else none)=_;rw[Q_d (by rw[i_,i_,G_];omega),Ht _ _ _ `g];simp
theorem AU(o:sy [W]=.ok (nD m)):∀(l:List (Option Nat))(Y:List Nat)(k:Nat)(x y:Option D),(∀z,some z∈l->z<m/\z∉Y)->(∀(i j:Nat) z,l[i]? = some (some z)->l[j]? = some (some z)->i=j)->Y.length+l.length<=60->∃U b Z,bG (gI (dg (bD 3) (dg (bD 4) gz))) Tc (eF k (l.map oD)) [some W,some T,some (jy Y),x,y]=.nx [some W,some T,some (jy U),b,Z]
|[],Y,k,x,y,_,_,_=>⟨Y,x,y,fG⟩
|none::l,Y,k,x,y,h,f,n=>by simp  at n;obtain⟨U,b,Z,g⟩:=AU o l Y _ _ (some .non) (fun z d=>h z (h_ _ d)) (fun i j z q p=>by have:=f (i+1) (j+1) z q p;omega) `o;refine⟨U,b,Z,?_⟩;rw[<-g];exact fm rfl (aM ((bW (cJ (aK rfl rfl rfl))).trans (e_skip _)))
|some a::l,Y,k,x,y,h,f,n=>by
  simp  at n;obtain⟨t,c⟩:=h a g_;obtain⟨U,b,Z,g⟩:=AU o l (Y++[a]) (k+1) _ _ (fun z d=>by
   refine⟨(h z (h_ _ d)).1,fun s=>?_⟩;rcases X9.mp s with e|e
   .grind
   .obtain⟨j,hj⟩:=Yr d;have e:=A_.mp e;subst e;have:=f 0 (j+1) z rfl hj;omega) (fun i j z q p=>by have:=f (i+1) (j+1) z q p;omega) `z
  refine⟨U,b,Z,?_⟩;rw[<-g];refine fm rfl (aM ((dm (cJ (aK rfl rfl rfl))).trans ?_));refine(aM ((bW ?_).trans (e_skip _))).trans (aM (kz rfl rfl rfl (Qd c `o)));have r:=KU a m;rw[Q_c t]at r;refine(eq (j8 (ig (aU (aD rfl (aD (aU (aD rfl aG) o) aG)) r) rfl))).trans (cJ (aK (a:=nD a) rfl rfl ?_));rw[OI,Q_b c]
theorem Kd(S:Txs rows owns n m):sy [WD rows]=.ok (nD m):=by have Y:=S.rl;have U:=S.n1;cases rows with
|nil=>simp at Y;omega
|cons r t=>rw[xr,S.len r g_]
theorem Hw(S:Txs rows owns n m):∀(l:List (List Nat×Option Nat))(k:Nat)(x y:Option D),(∀p∈l,p∈rows.zip owns)->∃Z Y,bG (gI (dg (bD 2) (dg (bD 3) gz))) TM (eF k (l.map fun p=>WS p.1 p.2)) [some W,some P,x,y,x4]=.nx [some W,some P,Z,Y,x4]
|[],k,x,y,_=>⟨x,y,fG⟩
|p::l,k,x,y,h=>by obtain⟨Z,Y,a⟩:=Hw S l _ _ _ (fun r U=>h r (h_ _ U));have U:=(S.zr (h p g_)).1;refine⟨Z,Y,?_⟩;rw[<-a];refine fm rfl (aM ((bW ?_).trans (e_skip _)));exact j8 (ig (aU (aD rfl aG) (RW (S.nd _ U) (S.b8 _ U) (S.l8 _ U))) rfl)
theorem P3(S:Txs rows owns n m):S4 [.str (d4 rows owns)]=.ok (.tup [WD rows,OD owns]):=by
 have h:=S.zl;have Z:=S.n1;have U:=S.n7;have w:=S_ S.n1 S.nm;obtain⟨f,e,g⟩:=Hw (W:=.str (d4 rows owns)) (P:=.lst ((rows.zip owns).map fun p=>WS p.1 p.2)) (x4:=none) S (rows.zip owns) 0 none none (fun p c=>c);refine dy (n:=5) ?_
 dsimp only[BQ]
 refine(aM ((bW (j8 (b:=true) (ig (d:=.bl true) (dq (a:=.str (d4 rows owns)) rfl rfl) rfl))).trans (e_skip _))).trans ?_;refine(aM (r':=[some (.str (d4 rows owns)),some (.lst ((rows.zip owns).map fun p=>WS p.1 p.2)),none,none,none]) (bJ ((dL (l:=rows.zip owns) (fun p=>D.str (cY p.1 p.2)) (fun _=>true) (fun p=>WS p.1 p.2) (fq (d:=.lst ((rows.zip owns).map fun p=>D.str (cY p.1 p.2))) (fB (d:=.str (d4 rows owns)) rfl rfl (aD (d:=.str "; ") rfl aG) (R8 `g S.l8 (by rw[S.rl];omega))) rfl) `o fun p c=>⟨[some (.str (cY p.1 p.2))],rfl,rfl,fun _=>fB (d:=.str (cY p.1 p.2)) rfl rfl (aD (d:=.str " ") rfl aG) (Tl p.2 (by intro z;have:=S.len p.1 (S.zr c).1;grind) (S.l8 _ (S.zr c).1))⟩).trans (by rw[fu])))).trans ?_;refine(aM ((eQ (ds:=eF 0 ((rows.zip owns).map fun p=>WS p.1 p.2)) rfl).trans g)).trans ?_;have v:dE 1 [] (cF dh (gv 1)) (bD 0) (fun _=>Res.ok true) (cG (aI (gv 0) aE) [] PR) [some (.str (d4 rows owns)),some (.lst ((rows.zip owns).map fun p=>WS p.1 p.2)),f,e,none]=.ok (.lst (rows.map LN)):=by
  refine(dL (l:=rows.zip owns) (fun p=>WS p.1 p.2) (fun _=>true) (fun p=>LN p.1) (fq (d:=.lst ((rows.zip owns).map fun p=>WS p.1 p.2)) rfl rfl) `o fun p c=>⟨[some (WS p.1 p.2)],rfl,rfl,fun _=>aU (aD (d:=WS p.1 p.2) rfl aG) ((fun o g=>by refine c8 ?_;refine aX (bH ((dL _ _ nD (fq rfl rfl) `o fun x k=>⟨_,rfl,rfl,fun _=>?_⟩).trans (by rw[fu])));exact fB rfl rfl (aD (aU (aD rfl aG) (Bu _ (o x k))) aG) (IA (o x k))) (S.b8 _ (S.zr c).1) (S.l8 _ (S.zr c).1))⟩).trans ?_;rw[fu];congr 2;have:=Ŀ (l₁:=rows) (l₂:=owns) (by rw[S.rl,S.ol];exact l_ _)
  conv=>rhs;rw[<-this]
  rw[B_];rfl
 have u:∀x4:Option D,dE 1 [] (cF dh (gv 1)) (bD 0) (fun _=>Res.ok true) (cG (aI (gv 0) aE) [] Ij) [some (.str (d4 rows owns)),some (.lst ((rows.zip owns).map fun p=>WS p.1 p.2)),f,e,x4]=.ok (.lst (owns.map oD)):=by
  intro x4;refine(dL (l:=rows.zip owns) (fun p=>WS p.1 p.2) (fun _=>true) (fun p=>oD p.2) (fq (d:=.lst ((rows.zip owns).map fun p=>WS p.1 p.2)) rfl rfl) `o fun p c=>⟨[some (WS p.1 p.2)],rfl,rfl,fun _=>aU (aD (d:=WS p.1 p.2) rfl aG) (RF (S.b8 _ (S.zr c).1) fun y t=>?_)⟩).trans ?_
  .rw[(S.rp _ (S.zr c).1).mem_iff,u_];exact S.ow.lt y (by rw[<-t];exact(S.zr c).2)
  .rw[fu];congr 2;have:=ĺ (l₁:=rows) (l₂:=owns) (by rw[S.rl,S.ol];exact l_ _)
   conv=>rhs;rw[<-this]
   rw[B_];rfl
 refine(aM (r':=[some (.str (d4 rows owns)),some (.lst ((rows.zip owns).map fun p=>WS p.1 p.2)),f,e,some (WD rows)]) (bJ (aU (aD (d:=.lst (rows.map LN)) v aG) (NU S)))).trans (aX (bH ?_));exact fR (aD (d:=WD rows) rfl (aD (d:=OD owns) (aU (aD (d:=WD rows) rfl (aD (d:=.lst (owns.map oD)) (u _) aG)) ((fun S=>by
    have q:=S.ol;have U:=S.n7;obtain⟨Y,f,e,g⟩:=AU (Kd S) _ [] 0 none none (fun z h=>⟨S.ow.lt z h,`s⟩) (fun i j z s r=>S.ow.inj i j z (by unfold own;rw[s];rfl) (by unfold own;rw[r];rfl)) `z;refine c8 ?_;refine(aM ((bW (cJ (aK (bT (aD rfl aG) (by rw[ii,q])) (bT (aD rfl aG) (by rw[jp,S.rl])) ?_))).trans (e_skip _))).trans ?_
    .show some (D.bl (not ((((_):Int)==((_))))))=_;simp
    refine(aM ((eQ rfl).trans g)).trans (aX (bH (bT (aD rfl aG) rfl)))) S)) aG)) `s
theorem N8:qW (.str "*") (.int 1)=some (.str "*"):=rfl
theorem N7:qW (.str "*") (.int 0)=some (.str Zj):=rfl
section
variable{a0 a1 a2 a3:Option D}
theorem Gz:∀(l:List Nat)(ws:List Str)(U:Option D),(∀x∈l,x<8)->ws.length+l.length<=60->∃Z,bG (bD 6) Lf (l.map nD) [a0,a1,a2,a3,some (oD o),some (.lst (ws.map D.str)),U]=.nx [a0,a1,a2,a3,some (oD o),some (.lst ((ws++l.map fun x=>word x o).map D.str)),Z]
|[],ws,U,_,_=>⟨U,by rw[Yo,Yo,W_];exact fG⟩
|x::l,ws,U,a,g=>by
  simp  at g;have f:=a x g_;obtain⟨Z,d⟩:=Gz l (ws++[word x o]) (some (nD x)) (fun z e=>a z (h_ _ e)) `z;refine⟨Z,?_⟩;rw[R_,R_,show ws++(word x o::l.map fun x=>word x o)=ws++[word x o]++l.map fun x=>word x o by simp,<-d];refine fm rfl (aM ?_);refine(h9 (ds:=[.str (word x o)]) rfl rfl (aD ?_ aG) (jA `z)).trans `g;have b:f2 (fun _=>Res.ok _) (gv 6) cD [a0,a1,a2,a3,some (oD o),some (.lst (ws.map D.str)),some _]=.ok _:=aK rfl rfl (pS f);have Y:fC (aI (f2 (gv 6) (gv 4) eqD) aE) pN [a0,a1,a2,a3,some _,some (.lst (ws.map D.str)),some _]=.ok _:=bT (aD (aK rfl rfl (ER x o)) aG) rfl;unfold word;by_cases c:o=some x
  .rw[Q_c c,Q_d rfl]at Y;rw[Q_d c];exact aK b (aK rfl Y N8) (j4 (IB x))
  .rw[Q_b c,Q_e w_]at Y;rw[Q_e c];refine aK b (aK rfl Y N7) ?_;rw[j4 (by show 1+0<=1000;decide),Ē]
theorem Gy(S:Txs rows owns n m):∀(l:List (List Nat×Option Nat))(U:List Str)(a x4 Z Y:Option D),(∀p∈l,p∈rows.zip owns)->U.length+l.length<=60->∃e d c b,bG (gI (dg (bD 3) (dg (bD 4) gz))) TJ (l.map fun p=>.tup [TN p.1,oD p.2]) [some W,some O,some (.lst (U.map D.str)),a,x4,Z,Y]=.nx [some W,some O,some (.lst ((U++l.map fun p=>cY p.1 p.2).map D.str)),e,d,c,b]
|[],U,a,x4,Z,Y,_,_=>⟨a,x4,Z,Y,by rw[Yo,Yo,W_];exact fG⟩
|p::l,U,a,x4,Z,Y,g,r=>by
  simp  at r;have f:=(S.zr (g p g_)).1;have s:=S.l8 _ f;obtain⟨h,k⟩:=Gz p.1 [] Y (S.b8 _ f) `z;obtain⟨e,d,c,b,i⟩:=Gy S l (U++[cY p.1 p.2]) (some (TN p.1)) (some (oD p.2)) (some (.lst ((p.1.map fun x=>word x p.2).map D.str))) h (fun q o=>g q (h_ _ o)) `z;refine⟨e,d,c,b,?_⟩;rw[R_,R_,show U++(cY p.1 p.2::l.map fun p=>cY p.1 p.2)=U++[cY p.1 p.2]++l.map fun p=>cY p.1 p.2 by simp,<-i];refine fm rfl ?_;refine(aM ((eQ (fq rfl rfl)).trans k)).trans (aM ?_);have t:((" " : Str)).length=1:=`k
  refine(h9 (ds:=[.str (cY p.1 p.2)]) rfl rfl (aD (fB rfl rfl (aD rfl aG) (j7 (fun y j=>by obtain⟨x,_,rfl⟩:=k_.mp j;exact AH x _) `g)) aG) (jA `z)).trans `g
theorem Jn(S:Txs rows owns n m):B2 [WD rows,OD owns]=.ok (.str (d4 rows owns)):=by
 have f:=S.zl;have U:=S.n7;obtain⟨e,d,c,b,a⟩:=Gy S _ [] none none none none (fun p Y=>Y) `g;refine c8 ?_;refine(aM ((eQ ((Am rfl rfl rfl rfl).trans (by rw[Em]))).trans a)).trans (aX (bH ?_));have g:(("; " : Str)).length=2:=`k
 exact fB rfl rfl (aD rfl aG) (j7 (fun y Z=>by obtain⟨p,Y,rfl⟩:=k_.mp Z;exact wS p.2 (S.l8 _ (S.zr Y).1)) `g)
end
def pP(owns:List (Option Nat))(x:Nat)(l:List Nat)(here:Nat):Nat:=l.foldl (fun acc h=>if own owns h=some x then h else acc) here
theorem JT:∀{l:List Nat}{U:Nat},(∀h∈l,own owns h≠some x)->pP owns x l U=U
|[],_,_=>rfl
|a::l,U,h=>by show pP owns x l (if own owns a=some x then a else U)=U;rw[Q_e (h a g_)];exact JT fun k Y=>h k (h_ _ Y)
theorem JU(Z:own owns k=some x)(Y:∀h,own owns h=some x->h=k):∀{l:List Nat}{U:Nat},k∈l\/U=k->pP owns x l U=k
|[],_,h=>by
  rcases h with z|z
  .cases z
  .exact z
|a::l,U,h=>by
  show pP owns x l _=k;refine JU Z Y ?_
  grind
section
variable{s:Rg.S}
theorem QI(k:Rg.Ok (Wr rows) (own owns) s)(x:Nat):pP owns x s.line (s.line.headD 0)=Rg.pt (own owns) s x:=by unfold Rg.pt;cases e:s.line.find? fun h=>decide (own owns h=some x)with
|none=>exact JT fun h Z=>by grind
|some h=>have U:=Z1 e;simp  at U;exact JU U (fun j Y=>k.inj j h x Y U) (.inl (Ī e))
theorem Hf(w a Z b g Y:Option D)(x:Nat):∀(l:List Nat)(U:Nat)(y:Option D),(∀h∈l,h<owns.length) ->∃d,bG (bD 9) L7 (l.map nD) [w,some (OD owns),a,Z,b,g,some (nD U),Y,some (nD x),y]=.nx [w,some (OD owns),a,Z,b,g,some (nD (pP owns x l U)),Y,some (nD x),d]
|[],U,y,_=>⟨y,fG⟩
|h::l,U,y,f=>by
  obtain⟨d,i⟩:=Hf w a Z b g Y x l (if own owns h=some x then h else U) _ fun k j=>f k (h_ _ j);refine⟨d,ZM ?_ i⟩;have c:(bY (f2 (f2 (gv 1) (gv 9) cD) (gv 8) eqD)) [w,some _,a,Z,b,g,some (nD U),Y,some (nD x),some _]=.ok _:=cJ (aK (aK rfl rfl (gs (zI (f h g_)))) rfl (uY _ _));refine fm rfl ?_;by_cases e:own owns h=some x
  .rw[Q_c e]at c;rw[Q_d e];exact(aM ((dm c).trans (aM (bJ rfl)))).trans rfl
  .rw[Q_b e]at c;rw[Q_e e];exact(aM ((bW c).trans (e_skip _))).trans rfl
theorem Pq(S:Snd rows owns s)(i g:Option D):∀(j:Nat)(f:List Nat)(Z:Nat)(x y:Option D),Z∈s.line->f.length<=s.line.length->f.Nodup->(∀h∈f,h∈s.line)->s.line.length<j+f.length ->
  ∃l k,gW fI CU Mh j [some (WD rows),some (OD owns),i,some (LN s.things),some (LN s.line),g,some (nD Z),some (LN f),x,y]
   = .nx [some (WD rows),some (OD owns),i,some (LN s.things),some (LN s.line),g,some (nD (Rg.lP (fS rows owns s) j f Z).2),some (LN (Rg.lP (fS rows owns s) j f Z).1),l,k]:=by
 intro j
 induction j with
|zero=>grind
|succ j p=>
  intro f Z x y m A r z B;have q:CU [some (WD rows),some (OD owns),i,some (LN s.things),some (LN s.line),g,some (nD Z),some (LN f),x,y]=.ok _:=cJ (aK rfl rfl (wc _ _));by_cases c:Z∈f
  .rw[Q_c c]at q;refine⟨x,y,(rP q).trans ?_⟩;unfold Rg.lP;rw[Q_d c]
  .rw[Q_b c]at q;have U:(f++[Z]).Nodup:=Ĺ.mpr ⟨r,`s,fun a E b C=>by grind⟩;have Y:∀h∈f++[Z],h∈s.line:=fun h u=>by grind
   obtain⟨o,n⟩:=Hf _ i _ _ g _ (tS rows s Z) s.line _ y S.ino;rw[QI S.ok]at n;have v:fS rows owns s Z∈s.line:=Rg.oi (XR m);obtain⟨l,k,w⟩:=p _ _ _ o v (Rg.lG U Y) U Y `z;refine⟨l,k,(p6 q ?_).trans (w.trans ?_)⟩
   .have hap:appD (LN f) [nD Z]=some (LN (f++[Z])):=by
     rw[jA (by have:=S.nl;simp;omega)]
     grind
    refine(aM (h9 rfl rfl (aD rfl aG) hap)).trans ?_;refine(aM (bJ (aU (aD (aK rfl rfl (gs (rE (S.inr Z m)))) (aD rfl aG)) (Jm (S.ok.some_thing m))))).trans ?_;refine(aM (bJ (d:=nD (s.line.headD 0)) (aK rfl rfl ?_))).trans ?_
    .cases e:s.line with
    |nil=>grind
    |cons b t=>exact ixA_L0 _ _
    exact aM ((eQ rfl).trans n)
   .have e:Rg.lP (fS rows owns s) (j+1) f Z=Rg.lP (fS rows owns s) j (f++[Z]) (fS rows owns s Z):=by
     conv=>lhs;unfold Rg.lP
     rw[Q_e c]
    rw[e]
theorem Gs(S:Snd rows owns s){a:Nat->Nat}(c d Z Y U:Option D):∀(C:List Nat)(g:List (Option Nat))(y:Option D),g.length=n->(∀h∈C,h∈s.line/\h<n/\a h=tS rows s h) ->∃(g':List (Option Nat))(b:Option D),g'.length=n/\(∀h,h∈C->g'[h]? = some (some (a h)))/\(∀h,h∉C->g'[h]? = g[h]?) /\bG (bD 9) Mi (C.map nD) [some (WD rows),some (OD owns),c,some (LN s.things),d,some (.lst (g.map oD)),Z,Y,U,y]=.nx [some (WD rows),some (OD owns),c,some (LN s.things),d,some (.lst (g'.map oD)),Z,Y,U,b]
|[],g,y,f,_=>⟨g,y,f,fun h o=>(nomatch o),fun _ _=>rfl,fG⟩
|h::C,g,y,f,i=>by
  obtain⟨j,t,p⟩:=i h g_;obtain⟨g',b,m,r,q,l⟩:=Gs S c d Z Y U C (g.set h (some (a h))) _ (by simpa using f) fun k e=>i k (h_ _ e);refine⟨g',b,m,fun k e=>?_,fun k e=>?_,ZM ?_ l⟩
  .grind
  .grind
  .refine fm rfl ?_;refine(aM (kz rfl (aU (aD (aK rfl rfl (gs (rE (S.inr h j)))) (aD rfl aG)) (Jm (S.ok.some_thing j))) rfl ?_)).trans rfl;show(iW (g.map oD).length _).map _=_;unfold iW;rw[Q_d (Y3 h),Q_d `g,Z7,p];rfl
theorem Gu(w e f c b U:Option D)(g:List (Option Nat)):∀(C L T:List Nat)(y:Option D),C.Nodup->(C.map a).Nodup->(∀h∈C,h∈L/\a h∈T/\g[h]? = some (some (a h))) ->∃d,bG (bD 9) Mj (C.map nD) [w,e,f,some (LN T),some (LN L),some (.lst (g.map oD)),c,b,U,y]=.nx [w,e,f,some (LN ((C.map a).foldl (fun l h=>l.erase h) T)),some (LN (C.foldl (fun l h=>l.erase h) L)),some (.lst (g.map oD)),c,b,U,d]
|[],L,T,y,_,_,_=>⟨y,fG⟩
|h::C,L,T,y,j,i,n=>by
  have Z:=Yt.mp j;have Y:=Yt.mp i;obtain⟨q,p,o⟩:=n h g_;obtain⟨d,m⟩:=Gu w e f c b U g C (L.erase h) (T.erase (a h)) _ Z.2 Y.2 fun k r=>by grind
  refine⟨d,ZM ?_ m⟩;refine fm rfl ?_;refine(aM (h9 rfl rfl (aD rfl aG) (zU q))).trans ?_;refine(aM (h9 rfl rfl (aD (aK rfl rfl (lE (by rw[H_,o];rfl))) aG) (zU p))).trans rfl
end
theorem O5(e:Option D):∀(j:Nat)(s:Rg.S)(g:List (Option Nat))(m l i x4:Option D),Snd rows owns s->Rg.TTC (Wr rows) (own owns) a s->s.line.length<j->(∀h∈s.line,h<n)->g.length=n->(∀h,h<n->h∉s.line->g[h]? = some (some (a h))) ->
  ∃(g':List (Option Nat))(G:List Nat)(x v u r:Option D),g'.length=n/\(∀h,h<n->g'[h]? = some (some (a h))) /\
   gW mH Mn UF j [some (WD rows),some (OD owns),e,some (LN s.things),some (LN s.line),some (.lst (g.map oD)),m,l,i,x4]
    = .nx [some (WD rows),some (OD owns),e,some (LN G),some (LN []),some (.lst (g'.map oD)),x,v,u,r]:=by
 intro j
 induction j with
|zero=>grind
|succ j ih=>intro s g m l i x4 S t hj U R E;have q:Mn [some (WD rows),some (OD owns),e,some (LN s.things),some (LN s.line),some (.lst (g.map oD)),m,l,i,x4]=.ok _:=cJ (aK (bT (aD rfl aG) (ii _ _)) rfl (n0 s.line.length 0));cases B:s.line with
 |nil=>rw[B]at q E;exact⟨g,s.things,m,l,i,x4,R,fun h b=>E h b (fun z=>(nomatch z)),rP q⟩
 |cons f rest=>
   have p:f∈s.line:=`g
   rw[Q_c (Yv p)]at q;have F:∀h∈s.line,fS rows owns s h∈s.line:=fun h b=>Rg.oi (XR b);obtain⟨k,k1,y,N⟩:=Rg.NL F p 64 0 (by simp[Rg.dJ]) (by have:=S.nl;omega);have e0:Rg.dJ (fS rows owns s) f 0=[]:=rfl;have e1:Rg.it (fS rows owns s) 0 f=f:=rfl;rw[e0,e1]at N;obtain⟨c,Y⟩:=Rg.M0 p k1 y;obtain⟨o,y',Q⟩:=Pq S e (some (.lst (g.map oD))) 64 [] f i x4 p (XY _) `s (fun h b=>(nomatch b)) (by have:=S.nl;omega);rw[N]at Q;have BT:=Yd y;generalize hC:(Rg.dJ _ f k).drop _=C at c Y;have L:C.Nodup:=`g
   obtain⟨t1,J⟩:=Rg.MD t S.ok c;have A:=Rg.VT t S.ok;have Z:(C.map a).Nodup:=by rw[Ĩ,ĸ];exact ũ (fun ha hb h z=>h (A _ (c.sub _ ha) _ (c.sub _ hb) z)) L
   have ea:=YV J;obtain⟨X,w1,i1,P,i3,i4⟩:=Gs S e _ _ _ o C g y' R fun h b=>⟨c.sub h b,U h (c.sub h b),J h b⟩
   obtain⟨w2,O⟩:=Gu _ _ e _ _ o X C s.line s.things w1 L Z fun h b=>⟨c.sub h b,Rg.uV t S.ok h (c.sub h b),P h b⟩
   rw[Rg.z7 S.ok.nl,Rg.z7 S.ok.nt,ea]at O;have hlt:=Ic c Y;obtain⟨g',G,x,v,u,r,j1,j2,j3⟩:=ih _ X _ _ o w2 (S.minus c) t1 `o (fun h b=>U h (o_.mp b).1) i1 fun h b hn=>by
    by_cases z:h∈C
    .exact P h z
    .rw[i3 h z];exact E h b fun w=>hn (o_.mpr ⟨w,by simpa using z⟩)
   refine⟨g',G,x,v,u,r,j1,j2,?_⟩;rw[<-B];refine(p6 q ?_).trans j3;refine(aM (bJ (d:=nD f) (aK rfl rfl ?_))).trans ?_
   .rw[B];exact ixA_L0 _ _
   refine(aM Q).trans ?_;have K:∀T H,∀I M,(cF dh (nU (gv 7) (jm (fM "list" (gv 7) (aI (gv 6) aE) rQ)) (fun _=>Res.ok none))) [some (WD rows),some (OD owns),e,some (LN I),some (LN M),T,some (nD (Rg.it (fS rows owns s) k f)),some (LN (Rg.dJ (fS rows owns s) f k)),o,H]=.ok (C.map nD):=by intro T H I M;refine fq (d:=LN C) (lC rfl (iA (fB rfl rfl (aD rfl aG) (AQ y))) rfl ?_) rfl;rw[rO `o,hC]
   refine(aM ((eQ (K _ _ _ _)).trans i4)).trans ?_;exact aM ((eQ (K _ _ _ _)).trans O)
section
variable{f f':FE}{r:aJ}
theorem zA(h:∃c:Nat,f r=.ok (nD c))(h':∃c:Nat,f' r=.ok (nD c)):∃c:Nat,f2 f f' addA r=.ok (nD c):=by obtain⟨i,Y⟩:=h;obtain⟨j,U⟩:=h';exact⟨i+j,aK Y U (l6 i j)⟩
theorem wa(h:∃c:Nat,f r=.ok (nD c))(h':f' r=.ok (nD b))(Y:b<2^64):∃c:Nat,f2 f f' cK r=.ok (nD c):=by
 obtain⟨i,U⟩:=h;refine⟨i*b,aK U h' ?_⟩;rw[GF (.inr ⟨`o,`o⟩)]
 grind
end
theorem Hm(m:k<=1000):∀(l:List Nat)(w:Nat)(x4 Y U:Option D),(∀t∈l,t<=1000)->∃(w':Nat)(b a Z:Option D),bG (bD 4) TK (l.map nD) [some A,some (nD k),some (nD c),some (nD w),x4,Y,U]=.nx [some A,some (nD k),some (nD c),some (nD w'),b,a,Z]
|[],w,x4,Y,U,_=>⟨w,x4,Y,U,fG⟩
|t::l,w,x4,Y,U,d=>by
  have n:=d t g_;obtain⟨p,j⟩:=zA (f:=f2 (f2 (f2 (fun _=>Res.ok _) (gv 4) cK) (gv 4) cK) (f2 (fun _=>Res.ok _) (gv 1) cK) addA) (f':=fun _=>Res.ok _) (r:=[some A,some (nD k),some _,some _,some (nD t),Y,U]) (zA (wa (wa ⟨7919,rfl⟩ rfl `o) rfl `o) (wa ⟨13,rfl⟩ rfl `o)) ⟨5,rfl⟩;obtain⟨q,i⟩:=jX (f:=f2 (f2 (f2 (f2 (gv 2) (gv 5) addA) (ci 48271) cK) (ci 2147483647) bS) (ci 69621) cK) (f':=fun _=>Res.ok (D.int 1000000007)) (r:=[some A,some _,some _,some _,some _,some _,U]) (kB (yI (jX (kB (pM ⟨_,rfl⟩ ⟨_,rfl⟩) rfl `d) rfl `d)) rfl `d) rfl `d;obtain⟨v,h⟩:=zA (f:=f2 (gv 3) (ci 999999937) cK) (f':=f2 (f2 (f2 (f2 (f2 (gv 6) (fun _=>Res.ok _) addA) (ci 40692) cK) (ci 2147483629) bS) (ci 39373) cK) (ci 999999937) bS) (r:=[some A,some _,some _,some _,some _,some _,some _])
   (wa ⟨w,rfl⟩ rfl `d) (jX (kB (yI (jX (kB (pM ⟨_,rfl⟩ ⟨1,rfl⟩) rfl `d) rfl `d)) rfl `d) rfl `d)
  obtain⟨w',b,a,Z,e⟩:=Hm m l v _ _ _ fun z g=>d z (h_ _ g);refine⟨w',b,a,Z,ZM ?_ e⟩;refine fm rfl ?_;exact(aM (bJ j)).trans ((aM (bJ i)).trans (aM (bJ h)))
theorem P6(U:List Int)(k:Nat)(d:k<=1000)(m:k<U.length):∃c:Nat,JF [IN U,nD k]=.ok (nD c):=by
 suffices h:∃c:Nat,BK.1 _=.rt _ by obtain⟨c,Y⟩:=h;exact⟨c,c8 Y⟩
 have i:∃b,(bY (f2 (f2 (f2 (gv 0) (ci 0) cD) (ci 2) bS) (ci 0) eqD)) (cH 7 [IN U,nD k])=.ok b:=by cases U with
 |nil=>simp at m
 |cons a U=>obtain⟨o,Z⟩:=jX (f:=f2 (gv 0) (fun _=>Res.ok _) cD) (f':=fun _=>Res.ok (D.int 2)) (r:=cH 7 [IN (a::U),nD k]) ⟨a,aK rfl rfl (ixA_L0 _ _)⟩ rfl `d;exact⟨_,cJ (aK Z rfl (iR o 0))⟩
 obtain⟨b,e⟩:=i;cases b with
|true=>obtain⟨c,Y⟩:=HC U k d;exact⟨c,aX ((dm e).trans (aX (bH (aU (aD rfl (aD rfl aG)) Y))))⟩
|false=>
  have j:(U.map D.int)[k]? = some (.int U[k]):=`g
  have l:jc (.int 10) (.int 60)=some (.int (10^60)):=`r
  obtain⟨v,n⟩:=jX (f:=f2 (gv 0) (gv 1) cD) (f':=f2 (fun _=>Res.ok _) (fun _=>Res.ok _) jc) (r:=cH 7 [IN U,nD k]) ⟨U[k],aK rfl rfl (lE j)⟩ (aK rfl rfl l) `d;obtain⟨g,s,q,p,Z⟩:=Hm d (j_ 7) 0 none none none fun t u=>by grind
  refine⟨g,(aM ((bW e).trans (e_skip _))).trans ?_⟩;refine(aM (bJ n)).trans ((aM (bJ rfl)).trans ?_);exact(aM ((eQ (kb (aD rfl aG) (kA `o))).trans Z)).trans (aX (bH rfl))
theorem zX(h:0<b)(U:b<1073741824):gP (nD a) (nD b)=some (nD (a/b)):=by
 rw[HM ⟨`o,`o⟩]
 grind
theorem GR(d:m<=60):∀(l:List Nat)(c:Nat)(rows:List (List Nat))(x:Option D),(∀Y∈rows,Y.Perm (j_ m))->rows.length+l.length<=60->∃(Z:Nat)(U:List (List Nat))(y:Option D),U.length=rows.length+l.length/\(∀Y∈U,Y.Perm (j_ m)) /\bG (bD 4) Uk (l.map nD) [some (nD c),some (nD n),some (nD m),some (.lst (rows.map TN)),x]=.nx [some (nD Z),some (nD n),some (nD m),some (.lst (U.map TN)),y]
|[],c,rows,x,a,_=>⟨c,rows,x,rfl,a,fG⟩
|t::l,c,rows,x,a,h=>by rw[XJ]at h;obtain⟨Y,p,i⟩:=Hd _ m d;obtain⟨Z,U,y,g,f,e⟩:=GR d l _ (rows++[Y]) _ (fun z o=>`g) `z;refine⟨Z,U,y,by rw[g];simp;omega,f,ZM ?_ e⟩;have k:f2 (gv 0) (fun _=>Res.ok _) bS [some (nD c),some (nD n),some (nD m),some (.lst (rows.map TN)),some (nD t)]=.ok _:=aK (b:=nD 40320) rfl rfl (kx `o);have j:∀z,f2 (gv 0) (fun _=>Res.ok _) gP [some (nD c),some (nD n),some (nD m),z,some (nD t)]=.ok _:=fun z=>aK (b:=nD 40320) rfl rfl (zX `o `o);refine fm rfl ?_;refine(aM (h9 (d':=.lst ((rows++[Y]).map TN)) rfl rfl (aD (aU (aD k (aD rfl aG)) i) aG) (by rw[jA `z,XT];rfl))).trans ?_;exact aM (bJ (j _))
theorem RK(c:Nat):∃(rows:List (List Nat))(owns:List (Option Nat))(n m:Nat),Txs rows owns n m/\KB [nD c]=.ok (.tup [WD rows,OD owns]):=by
 have j:c/7%(9-(1+c%7))<9-(1+c%7):=ZG _ `o;obtain⟨i,rows,y,f,d,b⟩:=GR (m:=1+c%7+c/7%(9-(1+c%7))) `o (j_ (1+c%7)) _ [] none (fun _ h=>(nomatch h)) `z;obtain⟨owns,a,Z,Y⟩:=PZ i (1+c%7) (1+c%7+c/7%(9-(1+c%7))) `o `o;have U:rows.length=1+c%7:=by rw[f];simp
 refine⟨rows,owns,_,_,⟨`o,`o,`o,`o,U,d,a,Z⟩,c8 ?_⟩;have g:sY (nD 9) (nD (1+c%7))=some (nD (9-(1+c%7))):=by
  have e:((9:Nat):Int)-((1+c%7:Nat))=((9-(1+c%7):Nat)):=`o
  show some (D.int _)=_;rw[e]
 refine(aM (bJ (aK rfl (aK (aK rfl rfl (nG `d `d)) (aK rfl rfl g) (kx `o)) (l6 _ _)))).trans ?_;refine(aM (bJ (aK rfl rfl (nG `d `d)))).trans ?_;refine(aM (bJ (gu aG `s))).trans ?_;refine(aM ((eQ (kb (aD rfl aG) (kA `o))).trans b)).trans ?_;exact aX (bH (fR (aD (bT (aD rfl aG) rfl) (aD (aU (aD rfl (aD rfl (aD rfl aG))) Y) aG)) `s))
end Law
namespace Law
open PySem PyProof.Rows L2 DL PySem.Builtin PySem.Builtin.Str
theorem Tk:∀q∈Txt.split x " ",32∉q.cps.toList:=J0 `k `k fun k h=>by
   have U:((" " : Str)).length=1:=`k
   have Y:=(e_.mp h).1;have Z:x.cps.toList.length=x.length:=by simp[Ë]
   refine⟨`o,?_⟩;rw[Ş,U,wn];have:(x.cps.toList.drop k).take 1=[32]:=by rw[X3 Y,List.take_succ_cons,List.take_zero,(e_.mp h).2]
   grind
theorem A9(h:ws≠[]):O_ " " (a::ws)=a++" "++O_ " " ws:=by cases ws with
|nil=>exact Q_f rfl h
|cons b t=>rfl
theorem HW:∀ws:List Str,(ws.map (·.length)).sum+ws.length<=(O_ " " ws).length+1
|[]=>by simp
|[a]=>by simp[O_]
|a::b::t=>by
  have Y:=HW (b::t);have U:((" " : Str)).length=1:=`k
  rw[A9 `s,L_,L_,U,R_,List.sum_cons,XJ];omega
noncomputable abbrev cW(ws:List Str):D:=.lst (ws.map D.str)
theorem mq(h:iE d=some true):Lx [d]=.ok .non:=by
 show bV false (kl.1 (cH 1 [d]))=_;have:kl.1 (cH 1 [d])=.nx [some d]:=by exact aM ((bW (j8 (ig rfl h))).trans (e_skip _))
 rw[this];rfl
theorem oG(U:ws≠[])(Z:∀p∈ws,32∉p.cps.toList)(Y:(O_ " " ws).length<=10000):iU [.str (O_ " " ws)]=.ok (cW ws):=by
 refine dy (n:=1) ?_
 dsimp only[xF]
 refine(aM (ka (aU (aD (d:=.bl true) (dq (a:=.str (O_ " " ws)) rfl rfl) aG) (mq rfl)))).trans (aX (bH (fB (d:=.str (O_ " " ws)) rfl rfl (aD (d:=.str " ") rfl aG) ?_)));rw[Ax `k Y,Bz wn `k `s U Z]
theorem P5(U:ws≠[])(Y:(O_ " " ws).length<=10000):Q7 [cW ws]=.ok (.str (O_ " " ws)):=by
 refine c8 ?_;refine(aM (ka (aU (aD rfl aG) (mq ?_)))).trans (aX (bH (fB rfl rfl (aD rfl aG) ((fun h=>by
    show(match l7 _ with|some Z=>if ï " " Z=true then some _ else none|none=>none)=_;rw[Bn];have Y:((" " : Str)).length=1:=`k
    have:ï " " ws=true:=by
     unfold ï;have:=HW ws;rw[StrLaws.joinTotal,Y];unfold tooLong sizeLine
     grind
    simp only[this];show some (D.str (PySem.Builtin.Str.glued " " ws))=_;rw[ZP]) Y))))
 cases ws with
|nil=>exact Q_f rfl U
|cons a t=>rfl
noncomputable abbrev aV(h:Nat):Str:=⟨#[48+h]⟩
noncomputable def cQ(n:Nat):Str:=Txt.slice "0123456" none (some (n:Int))
noncomputable def iL(m:Nat):Str:=Txt.slice "ABCDEFGH" none (some (m:Int))
theorem OH:((j_ 8).all fun n=>(j_ n).all fun h=>not ((XG (cQ n) (aV h) 0 (cQ n).length 1).isEmpty)&&(XG (cQ n) (aV h) 0 (cQ n).length 1).head? == some h)=true:=`q
theorem Oa:((j_ 9).all fun n=>(j_ n).all fun h=>not ((XG (iL n) (cL h) 0 (iL n).length 1).isEmpty)&&(XG (iL n) (cL h) 0 (iL n).length 1).head? == some h)=true:=`q
theorem AG(U:h<7):lX [nD h]=some (.str (aV h)):=by match h,U with
|0,_=>kernel_rfl
|1,_=>kernel_rfl
|2,_=>kernel_rfl
|3,_=>kernel_rfl
|4,_=>kernel_rfl
|5,_=>kernel_rfl
|6,_=>kernel_rfl
theorem Hc(Y:w.length=1)(U:(not ((XG s w 0 s.length 1).isEmpty)&&(XG s w 0 s.length 1).head? == some k)=true):xH [.str w,.str s]=.ok (nD k):=by
 rw[P_]at U;obtain⟨Z,a⟩:=U;refine c8 ?_;have c:kQ (f2 (fC (aI (gv 0) aE) lenD) (ci 1) eqD) (f2 (gv 0) (gv 1) g6) (cH 2 [.str w,.str s])=.ok (.bl true):=by rw[on (aK (bT (aD rfl aG) (by show(if w.length<=sizeLine then some _ else none)=_;rw[Q_d (by rw[Y,G_];decide),Y])) rfl (nI 1))];refine aK rfl rfl ?_;show some _=_;rw[Z]
 refine(aM (ka (aU (aD c aG) (mq rfl)))).trans (aX (bH (fB rfl rfl (aD rfl aG) ?_)));show(match XG s w 0 s.length 1 with|i::_=>some _|[]=>none)=_
 grind
theorem Ae(Y:n<=7)(U:h<n):xH [.str (aV h),.str (cQ n)]=.ok (nD h):=Hc rfl (U_.mp (U_.mp OH n (u_.mpr `o)) h (u_.mpr U))
theorem Pa(Y:m<=8)(U:t<m):xH [.str (cL t),.str (iL m)]=.ok (nD t):=Hc rfl (U_.mp (U_.mp Oa m (u_.mpr `o)) t (u_.mpr U))
theorem BW{l:List (Str×Str×Nat)}(Z:l.length<=60)(h:∀p∈l,xH [.str p.1,.str p.2.1]=.ok (nD p.2.2)):Ts [.lst (l.map fun p=>.str p.1),.lst (l.map fun p=>.str p.2.1)]=.ok (LN (l.map (·.2.2))):=by
 refine dy (n:=2) ?_
 dsimp only[sL]
 refine(aM (ka (aU (aD (d:=.bl true) (aK (a:=nD l.length) (b:=nD l.length) (bT (aD rfl aG) (ii _ _)) (bT (aD rfl aG) (ii _ _)) (nI _)) aG) (mq rfl)))).trans (aX (bH ?_));have U:YQ (fun a b=>DL.D.tup [a,b]) (l.map fun p=>D.str p.1) (l.map fun p=>D.str p.2.1)=l.map fun p=>.tup [.str p.1,.str p.2.1]:=`a
 refine(dL (l:=l) _ (fun _=>true) (fun p=>nD p.2.2) ((Am rfl rfl rfl rfl).trans (by rw[U])) `o fun p Y=>⟨_,rfl,rfl,fun _=>aU (aD (d:=.str p.1) rfl (aD (d:=.str p.2.1) rfl aG)) (h p Y)⟩).trans ?_;rw[fu];show Res.ok (D.lst _)=Res.ok (D.lst ((l.map (·.2.2)).map nD));rw[B_];rfl
section
variable{rows:List (List Nat)}{owns:List (Option Nat)}{n m:Nat}
theorem qf(S:Txs rows owns n m):xW [WD rows]=.ok (.str (cQ n)):=by refine c8 ?_;exact aX (bH (zS rfl rfl (iA (bT (aD rfl aG) (by rw[jp,S.rl]))) rfl))
theorem HF(S:Txs rows owns n m):Tr [WD rows]=.ok (.str (iL m)):=by refine dy (n:=1) ?_;exact aX (bH (zS (d:=.str "ABCDEFGH") (lo:=none) (hi:=some (m:Int)) rfl rfl (iA (aU (aD (d:=WD rows) rfl aG) (Kd S))) rfl))
theorem HD(S:Txs rows owns n m)(Y:h<n):Q5 [cW [aV h],WD rows]=.ok (nD h):=by
 refine dy (n:=2) ?_
 dsimp only[wZ]
 have e:=BW (l:=[(aV h,cQ n,h)]) `s (fun p U=>by rw[A_.mp U];exact Ae S.n7 Y);exact aX (bH (aK (a:=LN [h]) (b:=nD 0) (aU (aD (d:=cW [aV h]) rfl (aD (d:=.lst [.str (cQ n)]) (gu (aD (aU (aD (d:=WD rows) rfl aG) (qf S)) aG) `s) aG)) e) rfl (ixA_L0 _ _)))
theorem O9(S:Txs rows owns n m)(Z:h<n)(Y:t<m):UD [cW [aV h,cL t],WD rows]=.ok (LN [h,t]):=by
 refine dy (n:=2) ?_
 dsimp only[CT]
 have e:=BW (l:=[(aV h,cQ n,h),(cL t,iL m,t)]) `s (fun p U=>by
  rcases s_.mp U with rfl|U
  .exact Ae S.n7 Z
  .rw[A_.mp U];exact Pa S.m8 Y)
 exact aX (bH (aU (aD (d:=cW [aV h,cL t]) rfl (aD (d:=.lst [.str (cQ n),.str (iL m)]) (gu (aD (aU (aD (d:=WD rows) rfl aG) (qf S)) (aD (aU (aD (d:=WD rows) rfl aG) (HF S)) aG)) `s) aG)) e))
theorem Il:∀l:List Nat,gV (l.map nD)=some (l.map fun k:Nat=>(k:Int))
|[]=>rfl
|k::l=>by show(gV _).map _=_;rw[Il l];rfl
theorem L6:∀(Y U:List Int),(U++Y).Nodup->(Y.foldl Ì U).length=U.length+Y.length
|[],U,_=>rfl
|k::Y,U,h=>by
  have e:Ì U k=U++[k]:=by
   unfold Ì
   grind
  rw[ZB,e,L6 Y _ (by simpa using h)];simp;omega
theorem GY(ds:List D)(k:Int):kT (.lst ds) (.int k)=if-(2^62)<=k/\k<2^62/\ds.length*k.toNat<=sizeLine then some (.lst ((p_ k.toNat ds).flatten))else none:=rfl
theorem Hx{U:Type}(a:U):∀n:Nat,(p_ n [a]).flatten=p_ n a
|0=>rfl
|n+1=>by simp_all
theorem Kc(S:Txs rows owns n m)(Z:l.Perm (j_ n)):SH [cW (l.map aV),WD rows]=.ok (LN l):=by
 have Y:=S.n7;have c:l.length=n:=by rw[Z.length_eq];simp
 have U:l.Nodup:=Z.nodup_iff.mpr Yn;have e:=BW (l:=l.map fun h=>(aV h,cQ n,h)) (by rw[i_];omega) (fun p g=>by obtain⟨h,i,rfl⟩:=k_.mp g;exact Ae S.n7 (u_.mp (Z.mem_iff.mp i)));simp only[B_]at e;have o:l.map ((fun p:Str×Str×Nat=>p.2.2)∘fun h=>(aV h,cQ n,h))=l:=by simp[ŭ]
 rw[o]at e;have j:kT (.lst [.str (cQ n)]) (nD n)=some (.lst (l.map ((fun p:Str×Str×Nat=>D.str p.2.1)∘fun h=>(aV h,cQ n,h)))):=by rw[GY];rw[Q_d ⟨`o,`o,by rw[G_];simp;omega⟩,Yg];rw[Hx,<-c,<-ZC];rfl
 have f:Ta [cW (l.map aV),.lst (l.map ((fun p:Str×Str×Nat=>D.str p.2.1)∘fun h=>(aV h,cQ n,h)))]=.ok (LN l):=by
  refine dy (n:=3) ?_
  dsimp only[BS]
  refine(aM (bJ (aU (aD (d:=cW (l.map aV)) rfl (aD (d:=.lst (l.map ((fun p:Str×Str×Nat=>D.str p.2.1)∘fun h=>(aV h,cQ n,h)))) rfl aG)) (by rw[show cW (l.map aV)=D.lst (l.map ((fun p:Str×Str×Nat=>D.str p.1)∘fun h=>(aV h,cQ n,h)))by rw[cW,B_];rfl];exact e)))).trans ?_;refine(aM (ka (aU (aD (d:=.bl true) (aK (a:=nD l.length) (b:=nD l.length) (dq (a:=LN l) rfl ((fun q c=>by
     show(gV _).bind _=_;rw[Il];show(if _ then some _ else none)=_;have U:(l.map fun k:Nat=>(k:Int)).Nodup:=`g
     have e:(jo (l.map fun k:Nat=>(k))).length=l.length:=by have:=L6 _ [] (by simpa using U);unfold jo;rw[this];simp
     rw[Q_d (by rw[i_];unfold YY;omega),e]) U `o)) (bT (aD (d:=LN l) rfl aG) (ii _ _)) (nI _)) aG) (mq rfl)))).trans (aX (bH rfl))
 refine dy (n:=2) ?_
 dsimp only[xE]
 exact aX (bH (aU (aD (d:=cW (l.map aV)) rfl (aD (aK (a:=.lst [.str (cQ n)]) (b:=nD n) (gu (aD (aU (aD (d:=WD rows) rfl aG) (qf S)) aG) `s) (bT (aD (d:=WD rows) rfl aG) (by rw[jp,S.rl])) j) aG)) f))
end
abbrev kD(rows:List (List Nat))(owns:List (Option Nat))(o:Option (List Nat)):D:=iD "Kept" [("wishes",WD rows),("owns",OD owns),("order",dO o)]
theorem vM(h:fl r=.ok [WD rows,OD owns,dO o]):vL "Kept" fl [] IY r=.ok (kD rows owns o):=by unfold vL;rw[h];rfl
variable{rows:List (List Nat)}{owns:List (Option Nat)}{o:Option (List Nat)}{n m:Nat}
theorem il:fL mn "wishes" (kD rows owns o)=some (WD rows):=rfl
theorem pi:fL pR "owns" (kD rows owns o)=some (OD owns):=rfl
theorem uF:fL wb "order" (kD rows owns o)=some (dO o):=rfl
noncomputable def ownS(owns:List (Option Nat))(h t:Nat):List (Option Nat):=(owns.map fun x=>if x=some t then none else x).set h (some t)
theorem GT(fi:FI)(r:aJ)(a:owns.length<=60)(Z:fi r=.ok (owns.map oD))(Y:dI 1 U r=[none,some (nD t)]):dE 1 U fi (bD 0) (fun _=>Res.ok true) (nV (bY (f2 (gv 0) (gv 1) eqD)) (fun _=>Res.ok D.non) (gv 0)) r=.ok (.lst ((owns.map fun x=>if x=some t then none else x).map oD)):=by
 refine(dL oD _ (fun x=>oD _) Z `o fun x _=>⟨_,by rw[Y];rfl,rfl,fun _=>?_⟩).trans (by rw[fu,B_];rfl);have c:=cJ (aK (f:=gv 0) (f':=gv 1) (r:=[some _,some _]) rfl rfl (uY x t));by_cases e:x=some t
 .rw[Q_c e]at c;rw[Q_d e];exact(lZ c).trans rfl
 .rw[Q_b e]at c;rw[Q_e e];exact(lY c).trans rfl
theorem VB(x:Option Nat):eqD (oD x) .non=some (.bl (decide (x=none))):=by cases x <;> rfl
theorem Tw(Y:h<owns.length)(U:owns.length<=60):J4 [kD rows owns o,nD h,nD t]=.ok (kD rows (ownS owns h t) o):=by
 refine c8 ?_;refine(aM (bJ (GT _ _ U (fq (dq rfl pi) rfl) rfl))).trans ?_;refine(aM (kz (d':=.lst ((ownS owns h t).map oD)) rfl rfl rfl ?_)).trans ?_
 .rw[wl (by simpa using Y)];unfold ownS;rw[Z7];rfl
 .exact aX (bH (vM (aD (dq rfl il) (aD (bT (aD rfl aG) rfl) (aD (dq rfl uF) aG)))))
theorem Tv(U:h<owns.length)(Y:owns.length<=60):J4 [kD rows owns o,nD h,.non]=.ok (kD rows (owns.set h none) o):=by
 refine c8 ?_;refine(aM (bJ ((dL oD _ oD (fq (dq rfl pi) rfl) `o fun x _=>⟨_,rfl,rfl,fun _=>?_⟩).trans (by rw[fu])))).trans ?_
 .have c:=cJ (aK (f:=gv 0) (f':=gv 1) (r:=[some _,some .non]) rfl rfl (VB x));cases x with
 |none=>exact(lZ c).trans rfl
 |some k=>exact(lY c).trans rfl
 refine(aM (kz (d':=.lst ((owns.set h none).map oD)) rfl rfl rfl ?_)).trans ?_
 .rw[wl (by simpa using U),Z7];rfl
 .exact aX (bH (vM (aD (dq rfl il) (aD (bT (aD rfl aG) rfl) (aD (dq rfl uF) aG)))))
theorem HE(S:Txs rows owns n m):yk [.str (d4 rows owns)]=.ok (kD rows owns none):=by refine c8 ?_;refine(aM (bJ (aU (aD rfl aG) (P3 S)))).trans (aX (bH (vM ?_)));exact aD (aK rfl rfl (gs rfl)) (aD (aK rfl rfl (gs rfl)) (aD rfl aG))
theorem Bt(S:Txs rows owns n m):(d4 rows owns).length<=1000:=Jl S.l8 (by rw[S.rl];exact S.n7)
theorem RQ(S:Txs rows owns n m):KF [k,cW (Txt.split (d4 rows owns) " ")]=.ok (kD rows owns none):=by
 have e:=ę (d4 rows owns) " ";have Y:=Bt S;refine dy (n:=2) ?_
 dsimp only[Cm]
 have U:=P5 (AE (d4 rows owns) " ") (by rw[e];omega);rw[e]at U;exact aX (bH (aU (aD (aU (aD rfl aG) U) aG) (HE S)))
def lJ(l:List Nat):Str:=O_ " " (l.map cL)
theorem GV(Y:l.length<=60):lF (.str " ") [.lst ((l.map cL).map D.str)]=some (.str (lJ l)):=by
 have Z:((" " : Str)).length=1:=`k
 exact j7 (fun y U=>by obtain⟨x,_,rfl⟩:=k_.mp U;exact l_ 1) `g
theorem Fc(Z:∀x∈l,x<8)(Y:l.length<=60):Ld [TN l]=.ok (.str (lJ l)):=by
 refine c8 ?_;have e:dE 1 [] (cF dh (gv 0)) (bD 0) (fun _=>Res.ok true) (f2 (fun _=>Res.ok (D.str "ABCDEFGH")) (gv 0) cD) (cH 1 [TN l])=.ok (.lst ((l.map cL).map D.str)):=by refine(dL nD _ _ (fq rfl rfl) `o fun x U=>⟨_,rfl,rfl,fun _=>aK rfl rfl (pS (Z x U))⟩).trans ?_;rw[fu,B_];rfl
 exact aX (bH (fB rfl rfl (aD e aG) (GV Y)))
theorem NS(Z:∀x∈l,x<8)(Y:l.length<=60):CC [TN l]=.ok (.str (lJ l)):=by
 refine c8 ?_;have e:dE 1 [] (cF dh (gv 0)) (bD 0) (fun _=>Res.ok true) (f2 (fun _=>Res.ok (D.str "ABCDEFGH")) (gv 0) cD) (cH 1 [TN l])=.ok (.lst ((l.map cL).map D.str)):=by refine(dL nD _ _ (fq rfl rfl) `o fun x U=>⟨_,rfl,rfl,fun _=>aK rfl rfl (pS (Z x U))⟩).trans ?_;rw[fu,B_];rfl
 exact aX (bH (fB rfl rfl (aD e aG) (GV Y)))
theorem NR(h:JA [WD rows,OD owns,dO o]=.ok (TN l))(Y:∀x∈l,x<8)(U:l.length<=60):Lc [kD rows owns o,.lst []]=.ok (.str (lJ l)):=by
 refine dy (n:=2) ?_
 dsimp only[Cz]
 refine(aM (ka (aU (aD (d:=.bl true) (dq (a:=.lst []) rfl rfl) aG) (mq rfl)))).trans ?_;exact aX (bH (aU (aD (aU (aD (dq (a:=kD rows owns o) rfl il) (aD (dq (a:=kD rows owns o) rfl pi) (aD (dq (a:=kD rows owns o) rfl uF) aG))) h) aG) (Fc Y U)))
section
variable{r r':aJ}{w w':DW}{d:D}{f1' f2':de}{f:D->FS}{p:D->FQ}
theorem dC(h:f1' r w=.nx r' w'):aZ f1' f2' r w=f2' r' w':=by unfold aZ;rw[h]
theorem pK(h:f1' r w=.rt d w'):aZ f1' f2' r w=.rt d w':=by unfold aZ;rw[h]
theorem jk(h:f w.1 r=.nx r'):cO f r w=.nx r' w:=by unfold cO;rw[h]
theorem y0(h:f w.1 r=.rt d):cO f r w=.rt d w:=by unfold cO;rw[h]
theorem mX(h:p w.1 r=.ok true):mT p f1' f2' r w=f1' r w:=by unfold mT;rw[h];rfl
theorem lu(h:p w.1 r=.ok false):mT p f1' f2' r w=f2' r w:=by unfold mT;rw[h];rfl
end
theorem j5(h:f r=.ok (.str s))(e:(U.lookup s).isSome=b):ph U f r=.ok b:=by unfold ph;rw[h,bind_ok];grind
theorem My(b:U r=.ok (.str s))(a:F s=some g)(Z:fl r=.ok ds)(Y:g ds=.ok d):qC F U fl r=.ok d:=by unfold qC;rw[b,bind_ok];simp only[a,Z,bind_ok,Y];rfl
theorem vG:yE (.lst (a::ds)) (some 1) none=some (.lst ds):=by show some _=_;unfold eI;have U:HT.sIx (a::ds).length 0 (some 1)=1:=(HT.fT _ _ 1).trans (rfl);rw[U,HT.d8];simp
theorem wm{lo hi:Option Int}(c:Y r=.ok d)(b:fl r=.ok lo)(a:U r=.ok hi)(Z:yE d lo hi=some d'):gJ Y fl U r=.ok d':=by unfold gJ;rw[c,bind_ok,b,bind_ok,a,bind_ok,Z];rfl
theorem Ap(h:vT (cB 5 ds) z=.rt d U):i6 z ds=some (d,U):=by show fK (vT (cB 5 ds) z)=_;rw[h];rfl
section
variable{k:D}{past:List D}{first line:Str}{ws:List Str}
theorem Ao(Z:iU [.str line]=.ok (cW (U::ws))):aZ (cO fun _=>aP eO 2 (cG (aI (gv 1) aE) [] iU)) (aZ (cO fun _=>aP eO 3 (f2 (gv 2) (ci 0) cD)) Y) (cB 5 [.str line]) z=Y [none,some (.str line),some (cW (U::ws)),some (.str U),none] z:=by refine(dC (jk (bJ (aU (aD rfl aG) Z)))).trans ?_;exact dC (jk (bJ (aK rfl rfl (ixA_L0 _ _))))
theorem Eg(S:Txs rows owns n m):aZ (cO fun U=>retF eO (cG (aI (f1 (fun _=>.ok U) (fL mn "wishes")) (aI (f1 (fun _=>.ok U) (fL pR "owns")) aE)) [] B5)) gQ r (kD rows owns o,past)=.rt (.str (d4 rows owns)) (kD rows owns o,past):=pK (y0 (bH (aU (aD (dq (a:=kD rows owns o) rfl il) (aD (dq (a:=kD rows owns o) rfl pi) aG)) (TX S.b8 S.l8 (by rw[S.rl];exact S.n7)))))
theorem wT(S:Txs rows owns n m)(Y:iU [.str line]=.ok (cW (U::ws)))(hq:(eU.lookup U).isSome=false)(a:(fX.lookup U).isSome=true)(b:wt U=some f)(Z:f [k,cW ws]=.ok (kD rows owns o))(c:past.length<=1000):i6 (k,past) [.str line]=some (.str (d4 rows owns),(kD rows owns o,past++[k])):=by
 refine Ap ?_;refine(Ao Y).trans ?_;refine(dC (lu (j5 rfl hq))).trans ?_;refine(dC (r':=[none,some (.str line),some (cW (U::ws)),some (.str U),some (kD rows owns o)]) ((mX (j5 rfl a)).trans ?_)).trans (Eg S);refine(dC (jk (bJ (My rfl b (aD rfl (aD (wm rfl (iA rfl) rfl vG) aG)) Z)))).trans ?_;refine(dC (r':=[none,some (.str line),some (cW (U::ws)),some (.str U),some (kD rows owns o)]) (w':=(k,past++[k])) ?_).trans ?_
 .show(if past.length<sizeLine then _ else _)=_;rw[Q_d (by rw[G_];omega)];rfl
 .exact dC rfl
theorem rq(Y:iU [.str line]=.ok (cW (U::ws)))(hq:(eU.lookup U).isSome=true)(Z:wu U=some f)(h:f [k,cW ws]=.ok a):i6 (k,past) [.str line]=some (a,(k,past)):=by refine Ap ?_;refine(Ao Y).trans ?_;refine pK ((mX (j5 rfl hq)).trans (pK (y0 (bH ?_))));exact My rfl Z (aD rfl (aD (wm rfl (iA rfl) rfl vG) aG)) h
theorem FH:eqD (cW ["undo"]) (cW ["undo"])=some (.bl true):=by
 have h:∀d∈(["undo"]:List Str).map D.str,db 59 d:=fun d U=>by rw[A_.mp U];unfold db;decide+kernel
 unfold eqD;rw[AK rfl (nF.mpr h) (nF.mpr h)];unfold nW;simp[cU,zjl,Í,Ė]
theorem Ry(S:Txs rows owns n m):i6 (k,past++[kD rows owns o]) [.str "undo"]=some (.str (d4 rows owns),(kD rows owns o,past)):=by
 refine Ap ?_;have U:iU [.str "undo"]=.ok _:=oG (ws:=["undo"]) `s (fun p Z=>by rw[A_.mp Z];decide+kernel) `k;refine(Ao U).trans ?_;refine(dC (lu (j5 rfl `k))).trans ?_;refine(dC (r':=[none,some (.str "undo"),some (cW ["undo"]),some (.str "undo"),none]) ((lu (j5 rfl `k)).trans ?_)).trans (Eg S);refine(dC (jk (ka (aU (aD (aK rfl rfl FH) aG) (mq rfl))))).trans (dC ?_);have Y:wd (k,past++[kD rows owns o]) []=some (.non,(kD rows owns o,past)):=by
  show fK (aZ pQ _ (cB 1 []) _)=_;have b:pQ (cB 1 []) (k,past++[kD rows owns o])=.nx (cB 1 []) (k,past++[kD rows owns o]):=by unfold pQ;rw[Q_e `s]
  have a:ra (cB 1 []) (k,past++[kD rows owns o])=.nx (cB 1 []) (kD rows owns o,past):=by
   unfold ra
   grind
  rw[dC b,dC a];rfl
 unfold wf;rw[Y]
theorem wP(h:i6 z [.str line]=some (.str s,U)):jq z [.str line,.str s]=some (.bl true,U):=by
 show fK (xV (cB 4 [.str line,.str s]) z)=_;have e:xV (cB 4 [.str line,.str s]) z=.rt (.bl true) U:=by
  refine(dC (r':=[none,some (.str line),some (.str s),some (.str s)]) ?_).trans (pK (y0 (bH ?_)))
  .show(match i6 z [.str line]with|some (d,Y)=>OutD.nx _ Y|none=>.stuck)=_;rw[h];rfl
  .rw[on (dq (a:=.str s) rfl rfl)];refine aK rfl rfl ?_;unfold eqD;rw[eqB_str,beq_self_eq_true];rfl
 rw[e];rfl
end
theorem Go(U:h<l.length)(j:Nat):own (l.set h a) j=if j=h then a else own l j:=by
 unfold own
 grind
theorem Ou(l:List (Option Nat))(t j:Nat):own (l.map fun x=>if x=some t then none else x) j=if own l j=some t then none else own l j:=by
 unfold own
 grind
theorem Own.ownS(w:Own owns m)(b:h<owns.length)(a:t<m):Own (ownS owns h t) m where
 lt:=fun x Z=>by
  rcases ī Z with z|z
  .obtain⟨y,h1,h2⟩:=k_.mp z;split at h2
   .cases h2
   .subst h2;exact w.lt x h1
  .cases z;exact a
 inj:=fun j k x h1 h2=>by
  unfold Law.ownS at h1 h2;rw[Go (by simpa using b),Ou]at h1 h2;by_cases Y:j=h <;> by_cases U:k=h
  .rw[Y,U]
  .grind
  .grind
  .rw[Q_e Y]at h1;rw[Q_e U]at h2;split at h1
   .cases h1
   .split at h2
    .cases h2
    .exact w.inj j k x h1 h2
theorem Own.lose(w:Own owns m)(a:h<owns.length):Own (owns.set h none) m where
 lt:=fun x Z=>by
  rcases ī Z with z|z
  .exact w.lt x z
  .cases z
 inj:=fun j k x Y U=>by
  rw[Go a]at Y U;split at Y
  .cases Y
  .split at U
   .cases U
   .exact w.inj j k x Y U
def oT:Option (List Nat)->D
|none=>.non
|some l=>TN l
abbrev jE(rows:List (List Nat))(owns:List (Option Nat))(o:Option (List Nat)):D:=.tup [WD rows,OD owns,oT o]
theorem Scene.tx(S:Scene rows owns o n m):Txs rows owns n m:=⟨S.n1,S.n7,S.nm,S.m8,S.rl,S.rp,S.ow,S.ol⟩
def uU(rows:List (List Nat))(owns:List (Option Nat))(o:Option (List Nat))(line:Str)(rows':List (List Nat))(owns':List (Option Nat))(o':Option (List Nat)):Prop:=(∃n m,Scene rows' owns' o' n m)/\∀past:List D,past.length<=1000->i6 (kD rows owns o,past) [.str line]=some (.str (d4 rows' owns'),(kD rows' owns' o',past++[kD rows owns o]))
theorem wO:32∉(aV h).cps.toList:=`g
theorem OT(S:Scene rows owns o n m)(Y:h<n)(Z:t<m):uU rows owns o ("own "++aV h++" "++cL t) rows (ownS owns h t) o:=by
 have l:h<owns.length:=by rw[S.ol];exact Y
 have g:Scene rows _ o n m:=⟨S.n1,S.n7,S.nm,S.m8,S.rl,S.rp,S.ow.ownS l Z,by unfold ownS;rw[ZY,i_,S.ol],S.op⟩
 refine⟨⟨n,m,g⟩,fun f c=>?_⟩;have k:(O_ " " ["own",aV h,cL t]).length<=10000:=by
  have:=Yw " " ["own",aV h,cL t];have u:("own" : Str).length=3:=`k
  have s:(" " : Str).length=1:=`k
  simp  at this;have r:(aV h).length=1:=rfl;have q:(cL t).length=1:=rfl;omega
 have j:=oG `s (fun p c=>by
  rcases s_.mp c with e|e
  .rw[e];decide+kernel
  grind) k
 exact wT g.tx j `k `k ((Q_e `k).trans (Q_d rfl)) ((fun S Y Z=>by
    have U:=S.n7;refine dy (n:=3) ?_
    dsimp only[BL]
    refine(aM (bJ (aU (aD (d:=cW [aV h,cL t]) rfl (aD (dq (a:=kD rows owns o) rfl il) aG)) (O9 S Y Z)))).trans ?_;exact aX (bH (aU (aD (d:=kD rows owns o) rfl (aD (d:=nD h) (aK (a:=LN [h,t]) (b:=nD 0) rfl rfl (ixA_L0 _ _)) (aD (d:=nD t) (aK (a:=LN [h,t]) (b:=nD 1) rfl rfl (lE (i:=1) rfl)) aG))) (Tw (by rw[S.ol];exact Y) (by rw[S.ol];omega))))) S.tx Y Z) c
theorem PF(S:Scene rows owns o n m)(Y:h<n):uU rows owns o ("none "++aV h) rows (owns.set h none) o:=by
 have g:h<owns.length:=by rw[S.ol];exact Y
 have c:Scene rows _ o n m:=⟨S.n1,S.n7,S.nm,S.m8,S.rl,S.rp,S.ow.lose g,by rw[ZY,S.ol],S.op⟩
 refine⟨⟨n,m,c⟩,fun b Z=>?_⟩;have k:("none ") = "none"++" " := rfl;have j:O_ " " ["none",aV h] = "none "++aV h:=`r
 have i:("none ").length=5:=`k
 have f:=oG (ws:=["none",aV h]) `s (fun p Z=>by
  rcases s_.mp Z with e|e
  .rw[e];decide+kernel
  grind) (by show 5+1<=10000;decide)
 exact wT c.tx f `k `k ((Q_e `k).trans ((Q_e `k).trans (Q_d rfl))) ((fun S Y=>by
    have U:=S.n7;refine dy (n:=2) ?_
    dsimp only[Ck]
    exact aX (bH (aU (aD (d:=kD rows owns o) rfl (aD (aU (aD (d:=cW [aV h]) rfl (aD (dq (a:=kD rows owns o) rfl il) aG)) (HD S Y)) (aD (d:=.non) rfl aG))) (Tv (by rw[S.ol];exact Y) (by rw[S.ol];omega))))) S.tx Y) Z
theorem QX(S:Scene rows owns o n m)(Y:l.Perm (j_ n)):uU rows owns o (O_ " " ("order"::l.map aV)) rows owns (some l):=by
 have b:Scene rows owns (some l) n m:=⟨S.n1,S.n7,S.nm,S.m8,S.rl,S.rp,S.ow,S.ol,fun j e=>by cases e;exact Y⟩
 refine⟨⟨n,m,b⟩,fun Z i=>?_⟩;have k:l.length=n:=by rw[Y.length_eq];simp
 have U:=S.n7;have g:(O_ " " ("order"::l.map aV)).length<=10000:=by
  have h:=Yw " " ("order"::l.map aV);have q:=ZN (B:=5) ("order"::l.map aV) (fun y c=>by
   rcases s_.mp c with e|e
   .rw[e];decide+kernel
   .obtain⟨x,_,rfl⟩:=k_.mp e;show 1<=5;decide)
  have r:(" " : Str).length=1:=`k
  grind
 have f:=oG `s (fun p Y=>by
  rcases s_.mp Y with e|e
  .rw[e];decide+kernel
  grind) g
 exact wT b.tx f `k `k ((Q_e `k).trans ((Q_e `k).trans ((Q_e `k).trans (Q_d rfl)))) ((fun S Y=>by
    refine dy (n:=2) ?_
    dsimp only[Cw]
    exact aX (bH (vM (aD (dq (a:=kD rows owns o) rfl il) (aD (dq (a:=kD rows owns o) rfl pi) (aD (d:=LN l) (aU (aD (d:=cW (l.map aV)) rfl (aD (dq (a:=kD rows owns o) rfl il) aG)) (Kc S Y)) aG)))))) S.tx Y) i
theorem Vk(h:a.length+b.length<=1000):addA (.lst a) (.lst b)=some (.lst (a++b)):=by show(if a.length+b.length<=sizeLine then _ else _)=_;rw[Q_d (by rw[G_];omega)]
theorem RT(S:Scene rows owns o n m)(c:Nat):∃line a b g,uU rows owns o line a b g/\sE [nD c,jE rows owns o]=.ok (.tup [.str line,jE a b g]):=by
 have LT:=S.n1;have ST:=S.n7;have KK:=S.m8;have Tm:=S.nm;have G:c/5%n<n:=ZG _ `o;have T:c/5/n%m<m:=ZG _ `o;have s:lenD [WD rows]=some (nD n):=by rw[jp,S.rl]
 obtain⟨w,IO,Cl⟩:∃w,cD (WD rows) (.int 0)=some (TN w)/\lenD [TN w]=some (nD m):=by have Id:=S.ne;have h0:=S.row0;cases rows with
 |nil=>exact Q_f rfl Id
 |cons r rest=>exact⟨r,ixA_T0 _ _,by rw[jp];grind⟩
 suffices h:∃line a b g,uU rows owns o line a b g/\Cs _=.rt _ by obtain⟨line,a,b,g,h1,h2⟩:=h;exact⟨line,a,b,g,h1,c8 (n:=12) h2⟩
 unfold Cs;have go:∀v,(seqF (iO gE (gv 1) (gI (dg (bD 2) (dg (bD 3) (dg (bD 4) gz))))) (seqF (aP gE 5 (fC (aI (gv 2) aE) lenD)) (seqF (aP gE 6 (fC (aI (f2 (gv 2) (ci 0) cD) aE) lenD)) (seqF (aP gE 7 (f2 (gv 0) (ci 5) bS)) (seqF (aP gE 0 (f2 (gv 0) (ci 5) gP)) v))))) (cH 12 [nD c,jE rows owns o])
   = v [some (nD (c/5)),some (jE rows owns o),some (WD rows),some (OD owns),some (oT o),some (nD n),some (nD m),some (nD (c%5)),none,none,none,none]:=by intro v;refine(aM (we rfl rfl)).trans ?_;refine(aM (bJ (bT (aD rfl aG) s))).trans ?_;refine(aM (bJ (bT (aD (aK rfl rfl IO) aG) Cl))).trans ?_;refine(aM (bJ (aK rfl rfl (kx `d)))).trans ?_;exact aM (bJ (aK rfl rfl (nG `d `d)))
 rw[go];have U:∀(k:Nat)(J I Q Z:Option D),(bY (f2 (gv 7) (fun _=>Res.ok (D.int (k))) eqD)) [some (nD (c/5)),some (jE rows owns o),some (WD rows),some (OD owns),some (oT o),some (nD n),some (nD m),some (nD (c%5)),J,I,Q,Z]=.ok _:=fun k J I Q Z=>cJ (aK rfl rfl (iR _ _));have f:(bY (f2 (gv 5) (ci 1) eqD)) [some (nD (c/5)),some (jE rows owns o),some (WD rows),some (OD owns),some (oT o),some (nD n),some (nD m),some (nD (c%5)),none,none,none,none]=.ok _:=cJ (aK rfl rfl (iR _ _));by_cases C:c%5=0\/(c%5=4/\n=1)
 .obtain⟨a,b,n',m',S',hs⟩:=RK _;refine⟨_,a,b,none,(by
     refine⟨⟨n',m',S'.n1,S'.n7,S'.nm,S'.m8,S'.rl,S'.rp,S'.ow,S'.ol,fun l h=>nomatch h⟩,fun L j=>?_⟩;have e0:("rows " : Str) = "rows"++" " := rfl;have e:=ę (d4 a b) " ";have O:O_ " " ("rows"::Txt.split (d4 a b) " ") = "rows "++d4 a b:=by rw[A9 (AE _ _),e,e0]
     have F:=Bt S';have H:("rows " : Str).length=5:=`k
     have M:=oG (ws := "rows"::Txt.split _ " ") `s (fun p j=>by
      rcases s_.mp j with e|e
      .rw[e];decide+kernel
      .exact Tk p e) (by rw[O,L_,H];omega)
     rw[O]at M;exact wT S' M `k `k (Q_d rfl) (RQ S') j),aX ((dm ?_).trans ?_)⟩
  .have w0:=U 0 none none none none;have d:=U 4 none none none none;by_cases z:c%5=0
   .rw[Q_c z]at w0;exact mL w0
   .obtain⟨z4,z1⟩:=C.resolve_left z;rw[Q_b z]at w0;rw[Q_c z4]at d;rw[Q_c z1]at f;exact(eq w0).trans ((nq d).trans f)
  .refine(aM (we (aU (aD rfl aG) hs) rfl)).trans ?_;refine aX (bH (fR (aD (aK rfl (aU (aD rfl (aD rfl aG)) (Jn S')) ?_) (aD (fR (aD rfl (aD rfl (aD rfl aG))) `s) aG)) `s));have F:=Bt S';have H:("rows " : Str).length=5:=`k
   show(if ("rows " : Str).length+(d4 a b).length<=sizeLine then _ else _)=_;rw[Q_d (by rw[H,G_];omega)]
 .have f1':(js (bY (f2 (gv 7) (ci 0) eqD)) (fN (bY (f2 (gv 7) (ci 4) eqD)) (bY (f2 (gv 5) (ci 1) eqD)))) [some (nD (c/5)),some (jE rows owns o),some (WD rows),some (OD owns),some (oT o),some (nD n),some (nD m),some (nD (c%5)),none,none,none,none]=.ok false:=by
   have w0:=U 0 none none none none;have d:=U 4 none none none none;rw[Q_b (fun z=>C (.inl z))]at w0;refine(eq w0).trans ?_;by_cases z4:c%5=4
   .rw[Q_c z4]at d;rw[Q_b (fun z=>C (.inr ⟨z4,z⟩))]at f;exact(nq d).trans f
   .rw[Q_b z4]at d;exact qL d
  rw[aM ((bW f1').trans (e_skip _))];rw[aM (bJ (aK rfl rfl (kx `o)))];show ∃line a b g,_/\seqF _ _ [some _,some _,some _,some _,some _,some _,some _,some _,some _,none,none,none]=_;have N:c/5%n<owns.length:=by rw[S.ol];exact G
  have E:owns.length<=60:=by rw[S.ol];omega
  have Y:=AG (h:=c/5%n) `o;have i:=U 1 (some (nD (c/5%n))) none none none;have d:=U 4 (some (nD (c/5%n))) none none none;by_cases A:c%5=1\/c%5=4
  .refine⟨_,rows,_,o,OT S G T,aX ((dm ?_).trans ?_)⟩
   .by_cases z:c%5=1
    .rw[Q_c z]at i;exact mL i
    .rw[Q_b z]at i;rw[Q_c (A.resolve_left z)]at d;exact(eq i).trans d
   .refine(aM (bJ (aK (aK rfl rfl (nG `o `o)) rfl (kx `o)))).trans ?_;refine(aM (bJ (GT _ _ E (fq rfl rfl) rfl))).trans ?_;refine(aM (kz (d':=.lst ((ownS owns (c/5%n) (c/5/n%m)).map oD)) rfl rfl rfl ?_)).trans ?_
    .rw[wl (by simpa using N)];unfold ownS;rw[Z7];rfl
    .have e4:("own " : Str).length=4:=`k
     have P:(" " : Str).length=1:=`k
     have t:(aV (c/5%n)).length=1:=rfl;have el:(cL (c/5/n%m)).length=1:=rfl;refine aX (bH (fR (aD (aK (aK (aK rfl (bT (aD rfl aG) Y) (j4 (by rw[e4,t];decide))) rfl (j4 (by rw[L_,e4,t,P];decide)))
      (aK rfl rfl (pS `o)) (j4 (by rw[L_,L_,e4,t,P,el];decide))) (aD (fR (aD rfl (aD (bT (aD rfl aG) rfl) (aD rfl aG))) `s) aG)) `s))
  .have q:(js (bY (f2 (gv 7) (ci 1) eqD)) (bY (f2 (gv 7) (ci 4) eqD))) [some (nD (c/5)),some (jE rows owns o),some (WD rows),some (OD owns),some (oT o),some (nD n),some (nD m),some (nD (c%5)),some (nD (c/5%n)),none,none,none]=.ok false:=by rw[Q_b (fun z=>A (.inl z))]at i;rw[Q_b (fun z=>A (.inr z))]at d;exact(eq i).trans d
   rw[aM ((bW q).trans (e_skip _))];have u:=U 2 (some (nD (c/5%n))) none none none;by_cases K:c%5=2
   .rw[Q_c K]at u;refine⟨_,rows,_,o,PF S G,aX ((dm u).trans ?_)⟩;refine(aM (kz (d':=.lst ((owns.set (c/5%n) none).map oD)) rfl rfl rfl ?_)).trans ?_
    .rw[wl (by simpa using N),Z7];rfl
    .have e5:("none " : Str).length=5:=`k
     have t:(aV (c/5%n)).length=1:=rfl;refine aX (bH (fR (aD (aK rfl (bT (aD rfl aG) Y) (j4 (by rw[e5,t];decide))) (aD (fR (aD rfl (aD (bT (aD rfl aG) rfl) (aD rfl aG))) `s) aG)) `s))
   .rw[Q_b K]at u;obtain⟨l,j,F⟩:=Hd _ n `o;have LE:l.length=n:=by rw[j.length_eq];simp
    refine⟨_,rows,owns,some l,QX S j,(aM ((bW u).trans (e_skip _))).trans ?_⟩;refine(aM (bJ (aU (aD rfl (aD rfl aG)) F))).trans ?_;have h3:((" " : Str)).length=1:=`k
    have ec:∀r,gH r 11=.ok (TN l)->dE 1 [] (cF dh (gv 11)) (bD 0) (fun _=>Res.ok true) (fC (aI (gv 0) aE) lX) r=.ok (.lst ((l.map aV).map D.str)):=fun r X=>by refine(dL nD _ _ (fq X rfl) `o fun x hx=>⟨_,rfl,rfl,fun _=>bT (aD rfl aG) (AG `g)⟩).trans ?_;rw[fu,B_];rfl
    refine aX (bH (fR (aD (fB rfl rfl (aD (aK (gu (aD rfl aG) `s) (ec _ rfl) (Vk `z)) aG)
     (j7 (l := "order"::l.map aV) (B:=5) (fun y R=>by
      rcases s_.mp R with e|e
      .rw[e];decide+kernel
      .obtain⟨x,_,rfl⟩:=k_.mp e;show 1<=5;decide) `g)) (aD (fR (aD rfl (aD rfl (aD rfl aG))) `s) aG)) `s))
end Law
namespace Law
open PySem PyProof.Rows L2 DL Fq
abbrev FR(x:Int×Nat):D:=.tup [.int x.1,nD x.2]
abbrev TF(l:List (Int×Nat)):D:=.tup (l.map FR)
theorem Nv(h:a<2^k)(U:k<=2000):a<qF:=by exact y_ h (Ŋ `d U)
theorem HN(Z:0<b)(Y:b<2^k)(U:k<=2000):za (.int a) (nD b)=some (.int (a/(b:Int))):=by rw[za,intsC_int,Q_d ⟨`o,by exact Nv Y U⟩]
theorem DN(b:Nat):neD (nD b) (.int 0)=some (.bl (not (decide (b=0)))):=by
   unfold neD;rw[eqB_int];show some _=_;have:((b)==(0:Int))=decide (b=0):=`g
   rw[this]
theorem PP:∀(k n:Nat)(a:Int)(b:Nat)(x:Option D),b<2^k->2*k+1<=n ->∃(Y:Int)(y:Option D),gW m yo yn n [some (.int a),some (nD b),x]=.nx [some (.int Y),some (nD 0),y]/\Y.natAbs=æ a b:=by
 have Z:∀(n:Nat)(a:Int)(x:Option D),1<=n->∃(Y:Int)(y:Option D),gW m yo yn n [some (.int a),some (nD 0),x]=.nx [some (.int Y),some (nD 0),y]/\Y.natAbs=æ a 0:=by
  intro n a x h;obtain⟨n,rfl⟩:∃k,n=k+1:=⟨n-1,`o⟩
  exact⟨a,x,rP (cJ (aK rfl rfl (DN 0))),`s⟩
 have e:∀(n:Nat)(a:Int)(b:Nat)(x:Option D),0<b->gW m yo yn (n+1) [some (.int a),some (nD b),x]=gW m yo yn n [some (nD b),some (nD (a%(b:Int)).toNat),some (nD (a%(b:Int)).toNat)]:=by
  intro n a b x c;have U:=DN b;rw[Q_b `o]at U;refine p6 (cJ (aK rfl rfl U)) ?_;refine(aM (bJ (d:=nD (a%(b:Int)).toNat) (aK rfl rfl ?_))).trans ?_
  .rw[GC `o];show some (D.int _)=some (D.int _);rw[Ř (Ę _ `o)]
  refine(aM (bJ rfl)).trans ?_;exact aM (bJ rfl)
 have g:∀(a:Int)(b:Nat),0<b->(((a%(b:Int)).toNat:Nat):Int)=a%(b:Int)/\(a%(b:Int)).toNat<b:=by
  intro a b c;have w:=Ę a (show(b:Int)≠0 by omega);have v:=Int.emod_lt_of_pos a (show(0:Int)<b by omega)
  grind
 intro k
 induction k with
|zero=>
  intro n a b x c h;have:b=0:=`g
  subst this;exact Z n a x `o
|succ k o=>
  intro n a b x c h;by_cases q:b=0
  .subst q;exact Z n a x `o
  .have hbp:0<b:=`o
   obtain⟨n,rfl⟩:∃j,n=j+2:=⟨n-2,`o⟩
   obtain⟨f,l⟩:=g a b hbp;have i:=e (n+1) a b x hbp;generalize(a%(b:Int)).toNat=r at f l i;rw[i,HS a b,<-f];by_cases p:r=0
   .subst p;exact Z (n+1) b _ `o
   .obtain⟨s1,s2⟩:=g _ r `o;have s:=e n (b:Int) r (some (nD r)) `o;have t:((b:Int)%(r:Int)).toNat=b%r:=rfl;rw[s,HS _ r,<-s1];refine o n _ (b%r) _ ?_ `o;have u:b%r<=b-r:=by have:=Nat.mod_eq_sub_mod (show r<=b by omega);rw[this];exact Nat.mod_le _ _
    grind
theorem RU(U:b<2^k)(Z:k<=499):Uz [.int a,nD b]=.ok (nD (æ a b)):=by
 obtain⟨d,y,Y,c⟩:=PP k 1000 a b none U `o;refine c8 ?_;refine(aM Y).trans (aX (bH (bT (aD rfl aG) ?_)));show some _=some _
 grind
theorem Jq(i:Int):SF [.int i]=.ok (.bl true):=rfl
theorem TW(Z:0<b)(c:b<2^k)(a:k<=499):JB [.int t,nD b]=.ok (FR (low t b)):=by
 refine c8 ?_;have Y:=FV t Z;have U:æ t b<2^k:=by have d:=ŗ.mp (Zc t b);have:=ō Z d;omega
 refine(aM ((bW ?_).trans (e_skip _))).trans ?_
 .refine(eq (j8 (ig (aU (aD rfl aG) (Jq t)) rfl))).trans ((eq (j8 (ig (aU (aD rfl aG) (Jq b)) rfl))).trans ?_);have:=iR b 0;rw[Q_b `o]at this;exact cJ (aK rfl rfl this)
 refine(aM (bJ (aU (aD rfl (aD rfl aG)) (RU c a)))).trans ?_;refine(aM ((bW ?_).trans (e_skip _))).trans ?_
 .have:=n5 b 0;exact cJ (aK rfl rfl this)
 refine aX (bH (fR (aD (aK rfl rfl (HN Y U `o)) (aD (aK rfl rfl (HN Y U `o)) aG)) `s))
theorem OV(l:List Nat)(t:Nat):v7 (LN l) [nD t]=some (nD (l.count t)):=by
 show(if dw _=true/\(l.map nD).all dw=true then some _ else none)=_;rw[Q_d ⟨rfl,uZ l⟩,Ł];have:(fun z=>eqs z (nD t))∘nD=fun z=>z==t:=by
  funext z;show eqs _ _=_;rw[D8]
  grind
 rw[this];rfl
abbrev uO(l:List (List (Int×Nat))):D:=.tup (l.map TF)
structure Rws(rows:List (List Nat))(n m:Nat):Prop where
 n1:1<=n
 n7:n<=7
 nm:n<=m
 m8:m<=8
 rl:rows.length=n
 rp:∀row∈rows,row.Perm (j_ m)
section
variable{rows:List (List Nat)}{n m:Nat}
theorem Rws.row(R:Rws rows n m)(U:h<n):(Wr rows h).Perm (j_ m):=by unfold Wr;rw[m_ (by rw[R.rl];exact U)];exact R.rp _ (Yl _)
theorem Rws.has(R:Rws rows n m)(Y:h<n)(U:x<m):x∈Wr rows h:=(R.row Y).mem_iff.mpr (u_.mpr U)
theorem Rws.one(R:Rws rows n m){T:List Nat}(Y:h<n)(Z:0<T.length)(U:∀x∈T,x<m):∃x∈Wr rows h,x∈T:=⟨T[0],R.has Y (U _ (Yl _)),Yl _⟩
theorem Rws.best(R:Rws rows n m)(U:h<n)(Z:0<T.length)(Y:∀x∈T,x<m):qo [TN (Wr rows h),LN T]=.ok (nD (Rg.best (Wr rows h) T)):=HB (R.one U Z Y) (by rw[(R.row U).length_eq];have:=R.m8;simp;omega)
theorem Rws.inT(R:Rws rows n m)(Y:h<n)(Z:0<T.length)(U:∀x∈T,x<m):Rg.best (Wr rows h) T∈T:=Rg.E2 (R.one Y Z U)
theorem Rws.things(R:Rws rows n m):sy [WD rows]=.ok (nD m):=by
 obtain⟨r,rest,e,U⟩:∃r rest,rows=r::rest/\r.length=m:=by cases e:rows with
   |nil=>have:=R.rl;have:=R.n1;grind
   |cons r rest=>exact⟨r,rest,rfl,by rw[(R.rp r `g).length_eq];simp⟩
 rw[e,xr,U]
theorem Rws.len(R:Rws rows n m):lenD [WD rows]=some (nD n):=by rw[jp,R.rl]
theorem F7(R:Rws rows n m)(d:Nat->Nat)(f:Option D):∀(o L T:List Nat)(c:List (Nat×Nat))(y:Option D),Rg.pr (Wr rows) d o T->GI d c L->(∀h∈L++o,h<n)->o.length<=T.length->(∀x∈T,x<m) ->∃U q e,GI d U (L++o)/\bG (bD 4) Tt (o.map nD) [some (WD rows),f,some (LN T),some (KD c),y]=.nx [some (WD rows),f,some (LN q),some (KD U),e]
|[],L,T,c,y,_,g,_,_,_=>⟨c,T,y,`g,fG⟩
|h::o,L,T,c,y,s,g,p,w,l=>by
  have j:h<n:=p h `s;have r:0<T.length:=by simp at w;omega
  have t:=R.best j r l;have Y:=R.inT j r l;rw[s.1]at t Y;obtain⟨U,q,e,A,u⟩:=F7 R d f o (L++[h]) (T.erase (d h)) (putN c h (d h)) (some (nD h)) s.2 (g.put h) (by simpa using p) `g (fun x i=>l x (ı i));refine⟨U,q,e,by simpa using A,?_⟩;rw[<-u];have z:=g.len (line:=j_ n) fun x i=>u_.mpr (p x (Zf _ i));have Z:=R.n7;refine fm rfl ?_;refine(aM (kz (d:=KD c) (k:=nD h) (v:=nD (d h)) rfl (aU (aD (aK (a:=WD rows) (b:=nD h) rfl rfl (gs (rE (by rw[R.rl];exact j)))) (aD (d:=LN T) rfl aG)) t) rfl (wj (by simp at z;omega)))).trans ?_;exact aM (h9 (d:=LN T) (ds:=[nD (d h)]) rfl rfl (aD (aK (b:=nD h) rfl rfl (zh (xa (g.put h).val (((g.put h).key h).mpr `s)))) aG) (zU Y))
theorem RD(R:Rws rows n m)(i:xy [WD rows,a]=.ok (LN o))(c:o.Perm (j_ n))(s:Rg.pr (Wr rows) d o (j_ m)):xv [WD rows,a]=.ok (TN ((j_ n).map d)):=by
 have Z:=R.n7;have Y:=R.m8;have q:=R.nm;have b:∀h∈o,h<n:=fun h k=>u_.mp (c.mem_iff.mp k);have e:o.length=n:=by rw[c.length_eq];simp
 obtain⟨U,p,l,g,j⟩:=F7 R d (some a) o [] (j_ m) [] none s (GI.nil d) (by simpa using b) `z (fun x f=>u_.mp f);refine dy (n:=5) ?_
 dsimp only[sm]
 refine(aM (bJ (d:=LN (j_ m)) (bT (aD (aU (aD (d:=WD rows) rfl aG) R.things) aG) (p9 `o)))).trans ?_;refine(aM ((eQ (ds:=o.map nD) (fq (aU (aD (d:=WD rows) rfl (aD (d:=a) rfl aG)) i) rfl)).trans j)).trans ?_;exact aX (bH (aU (aD (d:=KD U) rfl aG) (LF g (fun x=>`g) `o)))
end
theorem N6{i:Nat}(h:i<=l.length):qz (LN l) none (some (i:Int))=some (LN (l.take i)):=by show some _=_;unfold eI;rw[HT.fT,HT.d8,i_,Ō h,Ç,Nat.sub_zero];show some _=some (D.lst _);rw[Ĉ]
theorem F5(h:a.length+b.length<=2000):addE (LN a) (LN b)=some (LN (a++b)):=by show(if (a.map nD).length+(b.map nD).length<=sizeLine then some _ else none)=some (D.lst _);rw[Q_d (by rw[i_,i_,G_];omega),XT]
noncomputable def fc:Nat->Nat
|0=>1
|i+1=>fc i*(i+1)
theorem y7(h:i<=5):fc i<=120:=by match i,h with
|0,_=>decide
|1,_=>decide
|2,_=>decide
|3,_=>decide
|4,_=>decide
|5,_=>decide
theorem zC:∀i,0<fc i
|0=>by decide
|i+1=>Nat.mul_pos (zC i) `o
theorem RO{U:List Nat}(Z:U.Perm (j_ i))(Y:Nat):(U.take Y++[i]++U.drop Y).Perm (j_ (i+1)):=by
 have a:(U.take Y++[i]++U.drop Y).Perm (i::U):=by rw[Zd,Ĳ];refine ľ.trans ?_;rw[YJ]
 refine a.trans ?_;rw[ć];exact(List.Perm.cons i Z).trans (ĩ i _).symm
abbrev LL(l:List (List Nat)):D:=.lst (l.map LN)
noncomputable def ins(i:Nat)(row:List Nat)(a:Nat):List Nat:=row.take a++[i]++row.drop a
def ext(i:Nat)(row:List Nat):List (List Nat):=(j_ (i+1)).map (ins i row)
def lp:Nat->List (List Nat)
|0=>[[]]
|i+1=>(lp i).flatMap (ext i)
theorem FM(i:Nat)(U:List Nat):(ext i U).length=i+1:=by unfold ext;simp
theorem wG:∀i,(lp i).length=fc i
|0=>rfl
|i+1=>by
  have:∀l:List _,(l.flatMap (ext i)).length=l.length*(i+1):=fun l=>by induction l with
  |nil=>simp
  |cons r l U=>rw[List.flatMap_cons,XB,FM,U,XJ,È];omega
  show((lp i).flatMap _).length=fc i*(i+1);rw[this,wG i]
theorem AR:∀(i:Nat)(r:List Nat),r∈lp i->r.Perm (j_ i)
|0,r,h=>by rw[A_.mp h];exact .refl _
|i+1,r,h=>by obtain⟨U,Z,Y⟩:=List.mem_flatMap.mp h;obtain⟨a,_,rfl⟩:=k_.mp Y;exact RO (AR i U Z) a
theorem uM(f U:Option D)(d:Z.length=i)(hi:i<=10):∀(l:List Nat)(c:List (List Nat))(y:Option D),(∀a∈l,a<=i)->c.length+l.length<=200 ->∃e:Option D,bG (bD 5) LR (l.map nD) [f,U,some (nD i),some (LL c),some (LN Z),y]=.nx [f,U,some (nD i),some (LL (c++l.map (ins i Z))),some (LN Z),e]
|[],c,y,_,_=>⟨y,by rw[Yo,Yo,W_];exact fG⟩
|a::l,c,y,h,g=>by
  obtain⟨e,k⟩:=uM f U d hi l (c++[ins i Z a]) _ (fun x j=>h x (h_ _ j)) (by simp at g ⊢;omega);refine⟨e,ZM ?_ (k.trans `g)⟩;have Y:=h a g_;refine fm rfl ?_;refine(aM (h9 (d':=LL (c++[Z.take a++[i]++Z.drop a])) rfl rfl (aD (aK (aK (b:=LN [i]) (lC rfl rfl (iA rfl) (N6 `o)) (gu (aD rfl aG) `s) (F5 `z)) (lC rfl (iA rfl) rfl (rO `o)) (F5 `z)) aG) ?_)).trans rfl;rw[jA (by simp at g ⊢;omega)]
  grind
theorem uL(c U:Option D)(hi:i<=10):∀(l:List (List Nat))(Z:List (List Nat))(x y:Option D),(∀r∈l,r.length=i)->Z.length+l.length*(i+1)<=200 ->∃e d:Option D,bG (bD 4) LS (l.map LN) [c,U,some (nD i),some (LL Z),x,y]=.nx [c,U,some (nD i),some (LL (Z++l.flatMap (ext i))),e,d]
|[],Z,x,y,_,_=>⟨x,y,by rw[Yo,List.flatMap_nil,W_];exact fG⟩
|Y::l,Z,x,y,f,n=>by
  have b:=f Y g_;have m:(Y::l).length*(i+1)=l.length*(i+1)+(i+1):=`g
  obtain⟨g,k⟩:=uM c U b hi (j_ (i+1)) Z y (fun a o=>`g) `z;obtain⟨e,d,h⟩:=uL c U hi l (Z++ext i Y) _ g (fun r j=>f r (h_ _ j)) (by rw[XB,FM];omega);refine⟨e,d,ZM ?_ (h.trans `g)⟩;exact fm rfl (aM ((eQ (kb (aD (aK rfl rfl (l6 i 1)) aG) (kA `o))).trans k))
theorem uK(b:Option D):∀(j i:Nat)(a Z x4 Y:Option D),i+j<=5 ->∃f e d c:Option D,bG (bD 2) Ul ((û i j).map nD) [b,some (LL (lp i)),a,Z,x4,Y]=.nx [b,some (LL (lp (i+j))),f,e,d,c]
|0,i,a,Z,x4,Y,_=>⟨a,Z,x4,Y,fG⟩
|j+1,i,a,Z,x4,Y,n=>by have o:fc (i+1)<=120:=y7 `o;have U:fc (i+1)=fc i*(i+1):=rfl;obtain⟨h,g,m⟩:=uL b _ (i:=i) `o _ [] x4 Y (fun r l=>by rw[(AR i r l).length_eq,List.length_range]) (by rw[wG,<-U];simp;omega);obtain⟨f,e,d,c,k⟩:=uK b j (i+1) _ _ h g `o;refine⟨f,e,d,c,ZM ?_ (k.trans `g)⟩;refine fm rfl ?_;refine(aM ((eQ rfl).trans m)).trans ?_;exact aM (bJ rfl)
theorem O7(c:k<=5):KG [nD k]=.ok (LL (lp k)):=by
 obtain⟨b,a,Z,Y,U⟩:=uK (some (nD k)) k 0 none none none none `o;rw[Đ,<-ZW]at U;refine dy (n:=6) ?_
 dsimp only[Cn]
 refine(aM (bJ (d:=LL [[]]) (gu (aD (gu aG `s) aG) `s))).trans ?_;refine(aM ((eQ (ds:=(j_ k).map nD) (kb (aD (d:=nD k) rfl aG) (kA `o))).trans U)).trans ?_;exact aX (bH (d:=LL (lp k)) rfl)
abbrev yM(l:List (List (Int×Nat))):D:=.lst (l.map TF)
noncomputable def col(dls:List (List Nat))(i:Nat):List Nat:=dls.map fun dl=>dl.getD i 0
def lK(dls:List (List Nat))(m h:Nat):List (Int×Nat):=(j_ m).map fun t=>low (((col dls h).count t:Nat):Int) dls.length
theorem GO(f:0<Y.length)(U:Y.length<=120)(q:∀a∈Y,a.length=n)(h:m<=60):∀(j i:Nat)(Z:List (List (Int×Nat)))(x y:Option D),i+j<=n->n<=60->Z.length=i ->∃c b,bG (bD 3) TQ ((û i j).map nD) [some (.lst (Y.map TN)),some (nD m),some (yM Z),x,y]=.nx [some (.lst (Y.map TN)),some (nD m),some (yM (Z++(û i j).map (lK Y m))),c,b]
|0,i,Z,x,y,_,_,_=>⟨x,y,by rw[show(û i 0).map (lK Y m)=[]from rfl,W_];exact fG⟩
|j+1,i,Z,x,y,o,g,l=>by
  obtain⟨c,b,e⟩:=GO f U q h j (i+1) (Z++[lK Y m i]) _ _ `o g (by simp[l]);refine⟨c,b,?_⟩;rw[Zd,Ĳ]at e;rw[List.range'_succ,R_,R_,<-e];refine fm (r1:=[some _,some (nD m),some _,some (nD i),y]) rfl ?_;refine(aM (bJ (d:=LN (col Y i)) ?_)).trans ?_
  .have:=AZ (nl:=1) (cap:=[3]) (fi:=cF dh (gv 0)) (ft:=bD 0) (fe:=f2 (gv 0) (gv 1) cD) (r:=[some (.lst (Y.map TN)),some (nD m),some (yM Z),some (nD i),y]) TN (fun a=>nD (a.getD i 0)) rfl `o fun a p=>⟨_,rfl,aK rfl rfl (gs ?_)⟩
   .rw[this];show Res.ok (D.lst _)=Res.ok (D.lst _);unfold col;rw[B_];rfl
   grind
  have s:yM (Z++[lK Y m i])=D.lst (Z.map TF++[TF (lK Y m i)]):=`g
  rw[s];refine aM (h9 rfl rfl (aD (bT (aD (AZ nD (fun t=>FR (low (((col Y i).count t:Nat):Int) Y.length)) (kb (aD rfl aG) (kA `o)) `z fun t u=>⟨_,rfl,?_⟩) aG) ?_) aG) (jA `g))
  .exact aU (aD (fB rfl rfl (aD rfl aG) (OV _ t)) (aD (bT (aD rfl aG) (ii _ _)) aG)) (TW (k:=7) f `o `o)
  .show some (D.tup _)=some (D.tup _);unfold lK;rw[B_];rfl
theorem T4(d:0<Y.length)(U:Y.length<=120)(a:∀f∈Y,f.length=n)(c:m<=60)(b:n<=60):S9 [.lst (Y.map TN),nD m]=.ok (uO ((j_ n).map (lK Y m))):=by obtain⟨j,i,h⟩:=GO d U a c n 0 [] none none `o b rfl;rw[<-ZW,ł]at h;refine c8 ?_;cases Z:Y with
|nil=>grind
|cons g rest=>have e:=a g `g;rw[<-Z];refine(aM ((eQ (kb (aD (bT (aD (aK rfl rfl (by rw[Z];exact ixA_L0 _ _)) aG) (by rw[jp,e])) aG) (kA `o))).trans h)).trans ?_;exact aX (bH (bT (aD rfl aG) rfl))
section
variable{rows:List (List Nat)}{n m:Nat}
def jw(rows:List (List Nat))(n m:Nat)(o:List Nat):List Nat:=(j_ n).map (Rg.jD (Wr rows) o (j_ m))
theorem Fb(R:Rws rows n m)(Y:o.Perm (j_ n)):xv [WD rows,LN o]=.ok (TN (jw rows n m o)):=by have U:=R.n7;exact RD R (Jo (Y.nodup_iff.mpr Yn) (by rw[R.rl];grind) (by rw[R.rl,Y.length_eq];simp) (by rw[R.rl];omega)) Y (Rg.yT o _ (Y.nodup_iff.mpr Yn))
def tZ(rs:List (List Nat))(rows:List (List Nat))(n m:Nat):List (List (Int×Nat)):=(j_ n).map (lK (rs.map (jw rows n m)) m)
theorem Pb(R:Rws rows n m)(b:n<=5)(i:∀r∈rs,r.Perm (j_ n))(j:rs.length=fc n)(g:KG [nD n]=.ok (LL rs)):yQ [WD rows]=.ok (uO (tZ rs rows n m)):=by
 have Y:=y7 b;have Z:=zC n;have U:=R.m8;refine dy (n:=2) ?_
 dsimp only[zk]
 refine(aM ((fun h=>by unfold jW;rw[h];rfl) (aU (aD (d:=WD rows) rfl aG) ((fun R b=>by
    show bV false (CV.1 (cH 1 [WD rows]))=_;have:CV.1 (cH 1 [WD rows])=.nx [some (WD rows)]:=by have c:=n0 n 5;rw[Q_b `o]at c;exact aM ((bW (cJ (aK (bT (aD rfl aG) R.len) rfl c))).trans (e_skip _))
    rw[this];rfl) R b)))).trans ?_
 refine(aM (bJ (AZ (l:=rs) LN (fun o=>TN (jw rows n m o)) (fq (aU (aD (bT (aD (d:=WD rows) rfl aG) R.len) aG) g) rfl) `o fun o f=>⟨[some (LN o),some (WD rows)],rfl,aU (aD (d:=WD rows) rfl (aD (d:=LN o) rfl aG)) (Fb R (i o f))⟩))).trans ?_;have e:rs.map (fun o=>TN (jw rows n m o))=(rs.map (jw rows n m)).map TN:=by rw[B_];rfl
 rw[e];refine aX (bH (aU (aD (d:=.lst ((rs.map (jw rows n m)).map TN)) rfl (aD (aU (aD (d:=WD rows) rfl aG) R.things) aG)) (T4 `g `g (fun k a=>?_) `o `o)));obtain⟨o,_,rfl⟩:=k_.mp a;unfold jw;simp
end
section
variable{fe:FE}{f:FJ}{r:aJ}{d:D}{y z a:Str}
theorem rj(Y:fe r=.ok d)(U:je d=some y):uG fe r=.ok (.str y):=dq Y (by rw[U];rfl)
theorem vP(Z:fe r=.ok (.str y))(U:y.length<=1001)(Y:f r=some z):mP fe f r=some (y++z):=by unfold mP;grind
theorem D6(U:f r=some z):pe a f r=some (a++z):=by unfold pe;rw[U];rfl
theorem Ea(h:f r=some z)(U:z.length<=100000):uE f r=.ok (.str z):=by unfold uE;grind
end
theorem UP(h:x.length<=1000):je (.str x)=some x:=by show(if x.length<=1000 then some x else none)=_;rw[Q_d h]
theorem UO(U:h<7):je (nD h)=some (aV h):=by match h,U with
|0,_=>kernel_rfl
|1,_=>kernel_rfl
|2,_=>kernel_rfl
|3,_=>kernel_rfl
|4,_=>kernel_rfl
|5,_=>kernel_rfl
|6,_=>kernel_rfl
def jS(h t:Nat):Str:=aV h++" "++cL t
theorem qj(h t:Nat):(jS h t).length=3:=by
 have e:(" ").length=1:=`k
 rfl
theorem P0(Y:h<7)(U:t<8):JJ [nD h,nD t]=.ok (.str (jS h t)):=by
 refine c8 ?_;refine(aM (bJ (aK rfl rfl (pS U)))).trans (aX (bH ?_));have e:aV h++(" "++(cL t++Zj))=jS h t:=by unfold jS;rw[Ē,ZQ]
 rw[<-e];refine Ea (vP (rj rfl (UO Y)) (by show 1<=1001;decide) (D6 (vP (rj rfl (UP (by show 1<=1000;decide))) (by show 1<=1001;decide) rfl))) ?_;rw[e,qj];decide
def lA(t:Nat->Nat)(hs:List Nat):Str:=O_ " " (hs.map fun h=>jS h (t h))
theorem wE(hs:U.length=s)(Y:l.length<=n)(Z:∀y∈l,y.length<=B):(O_ U l).length<=n*B+n*s:=by have h:=Yw U l;have c:=ZN l Z;rw[hs]at h;have b:=ŋ B Y;have a:=ŋ s Y;omega
theorem gb:(" " : Str).length=1:=`k
theorem pd:("; " : Str).length=2:=`k
theorem Du:(" | " : Str).length=3:=`k
theorem xo(Y:hs.length<=70):(lA t hs).length<=280:=by have:=wE (l:=hs.map fun h=>jS h (t h)) (n:=70) gb `g (fun y U=>by obtain⟨h,_,rfl⟩:=k_.mp U;rw[qj];exact l_ _);unfold lA;omega
section
variable{t:Nat->Nat}{hs:List Nat}
theorem A5(a:hs.length<=70)(Y:∀h∈hs,h<7/\t h<8):B4 [fD t hs]=.ok (.str (lA t hs)):=by
 refine c8 ?_;have e:dE 2 [] (cF dh (gv 0)) (gI (dg (bD 0) (dg (bD 1) gz))) (fun _=>Res.ok true) (cG (aI (gv 0) (aI (gv 1) aE)) [] JJ) (cH 1 [fD t hs])=.ok (.lst ((hs.map fun h=>jS h (t h)).map D.str)):=by refine(dL _ _ _ (fq rfl rfl) `o fun h U=>⟨_,rfl,rfl,fun _=>aU (aD rfl (aD rfl aG)) (P0 (Y h U).1 (Y h U).2)⟩).trans ?_;rw[fu,B_];rfl
 exact aX (bH (fB rfl rfl (aD e aG) (j7 (fun y Z=>by obtain⟨h,_,rfl⟩:=k_.mp Z;rw[qj];exact l_ _) (by rw[gb,i_];omega))))
end
def yL(t:Nat->Nat)(rs:List (List Nat)):Prop:=rs.length<=70/\∀r∈rs,r.length<=70/\∀h∈r,h<7/\t h<8
def rD(t:Nat->Nat)(rs:List (List Nat)):Str:=O_ "; " (rs.map (lA t))
theorem RP(g:yL t rs):(rD t rs).length<=20000:=by have:=wE (l:=rs.map (lA t)) pd (by rw[i_];exact g.1) (fun y U=>by obtain⟨h,Y,rfl⟩:=k_.mp U;exact xo (g.2 h Y).1);unfold rD;omega
theorem R1(g:yL t rs):KJ [.lst (rs.map (fD t))]=.ok (.str (rD t rs)):=by
 have a:=g.1;refine dy (n:=1) ?_
 dsimp only[Cr]
 have e:dE 1 [] (cF dh (gv 0)) (bD 0) (fun _=>Res.ok true) (cG (aI (gv 0) aE) [] B4) (cH 1 [.lst (rs.map (fD t))])=.ok (.lst ((rs.map (lA t)).map D.str)):=by refine(dL (l:=rs) (fD t) (fun _=>true) (fun r=>.str (lA t r)) (fq (d:=.lst (rs.map (fD t))) rfl rfl) `o fun r U=>⟨[some (fD t r)],rfl,rfl,fun _=>aU (aD (d:=fD t r) rfl aG) (A5 (g.2 r U).1 (g.2 r U).2)⟩).trans ?_;rw[fu,B_];rfl
 exact aX (bH (fB (d:=.str "; ") rfl rfl (aD e aG) ((fun g=>by have:=g.1;exact j7 (fun y Y=>by obtain⟨h,Z,rfl⟩:=k_.mp Y;exact xo (g.2 h Z).1) (by rw[pd,i_];omega)) g)))
section
variable{rows:List (List Nat)}{owns:List (Option Nat)}{o:Option (List Nat)}{n m:Nat}{s:Rg.S}{l:List (List (List Nat)×Rg.S)}
def O6(rows:List (List Nat))(l:List (List (List Nat)×Rg.S)):Str:=O_ " | " (l.map fun p=>rD (tS rows p.2) p.1)
theorem Jr:∀(k:Nat)(U:List Nat)(Y:Nat)(r:List Nat),Rg.jP f n Z k U Y=some r->r.length<=U.length+k
|0,_,_,_,h=>by cases h
|k+1,U,Y,r,h=>by
  unfold Rg.jP at h;split at h
  .have:=Jr k _ _ r h
   grind
  grind
theorem EM(c:Ch rows owns s l):Snd rows owns s->s.line.length<=7->∀p∈l,p.1.length<=70/\∀r∈p.1,r.length<=70:=by induction c with
|nil _=>grind
|@cons s Z l Y c a=>
  intro S f p U;rcases s_.mp U with rfl|q
  .have e:(Rg.jv (Wr rows) (own owns) s).length<=s.line.length:=ĭ _ _;refine⟨by rw[Y.length_eq];omega,fun r b=>?_⟩;obtain⟨h,_,d⟩:=XU.mp (Y.mem_iff.mp b);have:=Jr _ _ _ r d
   grind
  .have h1:(Rg.minus (Wr rows) s Z.flatten).line.length<=s.line.length:=YI _ _;exact a (S.minus (AD Y)) `o p q
theorem Scene.rds(S:Scene rows owns o n m):∃l:List (List (List Nat)×Rg.S),l.length<=60/\(∀p∈l,yL (tS rows p.2) p.1)/\Ay [WD rows,OD owns,dO o]=.ok (.lst (l.map (jV rows))):=by
 have Z:=S.n7;have k:=S.m8;have Y:(s0 rows o).line.length<=7:=by rw[S.line_perm.length_eq];simp;omega
 obtain⟨l,c,g,h⟩:=JX S.ord S.ne (by rw[S.rl];omega) S.snd;have t:=Rg.MC (W:=Wr rows) (O:=own owns) ((s0 rows o).line.length+1) (s0 rows o) `o;have f:=(F9 c S.ok t).1;refine⟨l,g,fun p U=>⟨(EM c S.snd Y p U).1,fun r a=>⟨(EM c S.snd Y p U).2 r a,fun h i=>?_⟩⟩,h⟩;obtain⟨e,b⟩:=f p U h (YA.mpr ⟨r,a,i⟩);have j:=S.mem.mp b;have d:=Rg.uV t S.ok h b;rw[S.things]at d;have:=u_.mp d;exact⟨`o,`o⟩
end
def pI(a:Nat->Nat):Dd->Str
|.tk h => "takes"++" "++jS h (a h)
|.ah h x => "ahead"++" "++jS h x
|.rg r => "ring"++" "++lA a r
theorem QK(g:d.good a):(pI a d).length<=300:=by
 have Z:("takes" : Str).length=5:=`k
 have Y:("ahead" : Str).length=5:=`k
 have U:("ring" : Str).length=4:=`k
 cases d with
|tk h=>unfold pI;rw[L_,L_,Z,gb,qj];decide
|ah h x=>unfold pI;rw[L_,L_,Y,gb,qj];decide
|rg r=>unfold pI;rw[L_,L_,U,gb];have:=xo (t:=a) g.1;omega
theorem FG(a b:Str):eqD (.str a) (.str b)=some (.bl (a==b)):=`r
theorem NP(h x:Nat):lA (fun _=>x) [h]=jS h x:=rfl
theorem RE(g:d.good a):JH [fw a d]=.ok (.str (pI a d)):=by
 have f:("takes" : Str).length=5:=`k
 have e:("ahead" : Str).length=5:=`k
 have Z:("ring" : Str).length=4:=`k
 refine dy (n:=2) ?_
 dsimp only[BN]
 have U:∀{w:Str}{h x:Nat},(w==("ring" : Str))=false->w.length<=5->h<7->x<8->(seqF (aP cV 1 (nV (bY (f2 (f2 (gv 0) (ci 0) cD) (fun _=>Res.ok (D.str "ring")) eqD)) (f2 (gv 0) (ci 1) cD) (ik (aI (nU (gv 0) (jm (ci 1)) (fun _=>Res.ok none)) aE)))) (seqF (retF cV (f2 (f2 (f2 (gv 0) (ci 0) cD) (fun _=>Res.ok (D.str " ")) addA) (cG (aI (gv 1) aE) [] B4) addA)) bI)) (cH 2 [.tup [.str w,nD h,nD x]])=.rt (.str (w++" "++jS h x)):=fun{w h x} hw hl hh hx=>by refine(aM (bJ ((lY (cJ (aK (a:=.str w) (b:=.str "ring") (aK (a:=.tup [.str w,nD h,nD x]) (b:=.int 0) rfl rfl (ixA_T0 _ _)) rfl (by rw[FG,hw])))).trans (fR (aD (d:=.tup [nD h,nD x]) (lC (d:=.tup [.str w,nD h,nD x]) rfl (iA (i:=1) rfl) rfl rfl) aG) `s)))).trans (aX (bH ?_));have Y:=A5 (t:=fun _=>x) (hs:=[h]) `s (fun z c=>by rw[A_.mp c];exact⟨hh,hx⟩);rw[NP]at Y;exact aK (a:=.str (w++" ")) (b:=.str (jS h x)) (aK (a:=.str w) (b:=.str " ") (aK (a:=.tup [.str w,nD h,nD x]) (b:=.int 0) rfl rfl (ixA_T0 _ _)) rfl (j4 (by rw[gb];omega))) (aU (aD (d:=fD (fun _=>x) [h]) rfl aG) Y) (j4 (by rw[L_,gb,qj];omega))
 cases d with
|tk h=>exact U `k (by rw[f];decide) g.1 g.2
|ah h x=>exact U `k (by rw[e];decide) g.1 g.2
|rg r=>refine(aM (bJ ((lZ (cJ (aK (a:=.str "ring") (b:=.str "ring") (aK (a:=fw a (.rg r)) (b:=.int 0) rfl rfl (ixA_T0 _ _)) rfl (by rw[FG,beq_self_eq_true])))).trans (aK (a:=fw a (.rg r)) (b:=nD 1) rfl rfl (gs (i:=1) rfl))))).trans (aX (bH ?_));have:=xo (t:=a) g.1;exact aK (a:=.str ("ring"++" ")) (b:=.str (lA a r)) (aK (a:=.str "ring") (b:=.str " ") (aK (a:=fw a (.rg r)) (b:=.int 0) rfl rfl (ixA_T0 _ _)) rfl (j4 (by rw[gb,Z];decide))) (aU (aD (d:=fD a r) rfl aG) (A5 g.1 g.2)) (j4 (by rw[L_,gb,Z];omega))
abbrev Mz(p:(Nat->Nat)×Dd):Str:=pI p.1 p.2
def Vy(l:List ((Nat->Nat)×Dd)):Str:=O_ "; " (l.map Mz)
noncomputable abbrev my(i:Int):Str:=Ð i
theorem MM(h:a<2^k)(U:k<=61):a<2^64:=y_ h (Ŋ `d `o)
theorem wC(h:i.natAbs<2^64):(my i).length<=65:=by
 rw[PySem.ofString_length];by_cases z:i.natAbs=0
 .have:i=0:=`o
  subst this;decide
 .exact int_text_length_le `d ((Ê z).mpr h)
theorem zc(h:i.natAbs<2^64):je (.int i)=some (my i):=Q_d ((fun h=>`g) h)
def oV(x:Int×Nat):Str:=if x.2=1 then my x.1 else my x.1++"/"++my (x.2:Int)
structure So(x:Int×Nat):Prop where
 t:x.1.natAbs<2^64
 b:x.2<2^64
 p:0<x.2
theorem Vg(h:Bd k x)(U:k<=61):So x:=⟨MM h.top U,MM h.bot U,h.pos⟩
section
variable{x:Int×Nat}
theorem So.nb(s:So x):((x.2:Int)).natAbs<2^64:=by exact s.b
theorem uA:("/" : Str).length=1:=`k
theorem Pg(s:So x):(oV x).length<=131:=by
 have Y:=wC s.t;have U:=wC s.nb;unfold oV;split
 .omega
 .rw[L_,L_,uA];omega
theorem RJ(s:So x):KL [.int x.1,nD x.2]=.ok (.str (oV x)):=by
 have Z:=wC s.t;have Y:=wC s.nb;refine c8 ?_;refine aX (bH ?_);have c:=cJ (aK (f:=gv 1) (f':=fun _=>Res.ok (D.int 1)) (r:=cH 2 [.int x.1,nD x.2]) rfl rfl (iR _ _));unfold oV;by_cases e:x.2=1
 .rw[Q_c e]at c;rw[Q_d e];exact(lZ c).trans (rj rfl (zc s.t))
 .rw[Q_b e]at c;rw[Q_e e];refine(lY c).trans ?_;have U:my x.1++("/"++(my (x.2)++Zj))=my x.1++"/"++my (x.2):=by rw[Ē,ZQ]
  rw[<-U];refine Ea (vP (rj rfl (zc s.t)) `o (D6 (vP (rj rfl (zc s.nb)) `o rfl))) ?_;rw[U,L_,L_,uA];omega
end
def Ph(l:List (Int×Nat)):Str:=O_ " " (l.map oV)
theorem OG{l:List Nat}(Z:l.length<=60)(Y:∀x∈l,x<7)(h:fi r=.ok (l.map nD)):dE 1 [] fi (bD 0) (fun _=>Res.ok true) (fC (aI (gv 0) aE) lX) r=.ok (.lst ((l.map aV).map D.str)):=by refine(dL nD _ _ h `o fun x U=>⟨_,rfl,rfl,fun _=>bT (aD rfl aG) (AG (Y x U))⟩).trans ?_;rw[fu,B_];rfl
variable{rows:List (List Nat)}{owns:List (Option Nat)}{o:Option (List Nat)}{n m:Nat}
theorem Scene.rw(S:Scene rows owns o n m):Rws rows n m:=⟨S.n1,S.n7,S.nm,S.m8,S.rl,S.rp⟩
theorem xG{l:List Nat}(Z:32∉w.cps.toList)(U:w.length<=5)(hs:∀x,(s x).length=1)(c:∀x,32∉(s x).cps.toList)(b:l.length<=60):iU [.str (O_ " " (w::l.map s))]=.ok (cW (w::l.map s)):=by
 refine oG `s (fun p a=>?_) ?_
 .grind
 .have:=wE (l:=w::l.map s) (B:=5) (n:=61) gb `g (fun y Y=>`g);omega
theorem qd(U:32∉w.cps.toList)(Y:w.length<=5):iU [.str w]=.ok (cW [w]):=xG (l:=[]) (s:=aV) U Y (fun _=>rfl) (fun _=>wO) `s
theorem Jg(U:32∉w.cps.toList)(Y:w.length<=5):iU [.str (w++" "++aV h)]=.ok (cW [w,aV h]):=xG (l:=[h]) (s:=aV) U Y (fun _=>rfl) (fun _=>wO) `s
theorem PV(U:l.length<=60)(g:∀p∈l,yL (tS rows p.2) p.1)(h:Ay [WD rows,OD owns,dO o]=.ok (.lst (l.map (jV rows)))):LQ [kD rows owns o,.lst []]=.ok (.str (O6 rows l)):=by
 refine dy (n:=2) ?_
 dsimp only[CG]
 refine(aM (ka (aU (aD (d:=.bl true) (dq (a:=.lst []) rfl rfl) aG) (mq rfl)))).trans ?_;exact aX (bH (aU (aD (aU (aD (dq (a:=kD rows owns o) rfl il) (aD (dq (a:=kD rows owns o) rfl pi) (aD (dq (a:=kD rows owns o) rfl uF) aG))) h) aG) ((fun U g=>by
    refine dy (n:=1) ?_
    dsimp only[K4]
    have e:dE 1 [] (cF dh (gv 0)) (bD 0) (fun _=>Res.ok true) (cG (aI (gv 0) aE) [] KJ) (cH 1 [.lst (l.map (jV rows))])=.ok (.lst ((l.map fun p=>rD (tS rows p.2) p.1).map D.str)):=by refine(dL (l:=l) (jV rows) (fun _=>true) _ (fq (d:=.lst (l.map (jV rows))) rfl rfl) `o fun p Y=>⟨[some (jV rows p)],rfl,rfl,fun _=>aU (aD (d:=jV rows p) rfl aG) (R1 (g p Y))⟩).trans ?_;rw[fu,B_];rfl
    exact aX (bH (fB (d:=.str " | ") rfl rfl (aD e aG) ((fun U g=>j7 (fun y Z=>by obtain⟨p,Y,rfl⟩:=k_.mp Z;exact RP (g p Y)) (by rw[Du,i_];omega)) U g)))) U g)))
theorem NO(U:l.length<=60)(g:∀p∈l,p.2.good p.1)(h:Gd [WD rows,OD owns,dO o]=.ok (.lst (l.map uI))):Lb [kD rows owns o,.lst []]=.ok (.str (Vy l)):=by
 refine dy (n:=2) ?_
 dsimp only[Cy]
 refine(aM (ka (aU (aD (d:=.bl true) (dq (a:=.lst []) rfl rfl) aG) (mq rfl)))).trans ?_;exact aX (bH (aU (aD (aU (aD (dq (a:=kD rows owns o) rfl il) (aD (dq (a:=kD rows owns o) rfl pi) (aD (dq (a:=kD rows owns o) rfl uF) aG))) h) aG) ((fun U g=>by
    refine c8 ?_;have e:dE 1 [] (cF dh (gv 0)) (bD 0) (fun _=>Res.ok true) (cG (aI (gv 0) aE) [] JH) (cH 1 [.lst (l.map uI)])=.ok (.lst ((l.map Mz).map D.str)):=by refine(dL uI _ _ (fq rfl rfl) `o fun d Y=>⟨_,rfl,rfl,fun _=>aU (aD rfl aG) (RE (g d Y))⟩).trans ?_;rw[fu,B_];rfl
    exact aX (bH (fB rfl rfl (aD e aG) ((fun U g=>j7 (fun y Z=>by obtain⟨d,Y,rfl⟩:=k_.mp Z;exact QK (g d Y)) (by rw[pd,i_];omega)) U g)))) U g)))
theorem Vf(S:Txs rows owns n m)(U:p.Perm (j_ n))(h:xv [WD rows,LN p]=.ok (TN l))(Z:∀x∈l,x<8)(Y:l.length<=60):JG [kD rows owns o,cW (p.map aV)]=.ok (.str (lJ l)):=by
 refine dy (n:=2) ?_
 dsimp only[BM]
 exact aX (bH (aU (aD (aU (aD (dq (a:=kD rows owns o) rfl il) (aD (d:=LN p) (aU (aD (d:=cW (p.map aV)) rfl (aD (dq (a:=kD rows owns o) rfl il) aG)) (Kc S U)) aG)) h) aG) (Fc Z Y)))
theorem Vl(S:Txs rows owns n m)(f:h<n)(k:yQ [WD rows]=.ok (uO Y))(j:Y[h]? = some l)(U:l.length<=60)(g:∀x∈l,So x):KH [kD rows owns o,cW [aV h]]=.ok (.str (Ph l)):=by
 refine dy (n:=3) ?_
 dsimp only[Co]
 refine(aM (bJ (aU (aD (d:=cW [aV h]) rfl (aD (dq (a:=kD rows owns o) rfl il) aG)) (HD S f)))).trans (aX (bH ?_));exact aU (aD (d:=TF l) (aK (a:=uO Y) (b:=nD h) (aU (aD (dq (a:=kD rows owns o) rfl il) aG) k) rfl (gs (by rw[H_,j];rfl))) aG) ((fun U g=>by
    refine dy (n:=1) ?_
    dsimp only[K5]
    have e:dE 2 [] (cF dh (gv 0)) (gI (dg (bD 0) (dg (bD 1) gz))) (fun _=>Res.ok true) (cG (aI (gv 0) (aI (gv 1) aE)) [] KL) (cH 1 [TF l])=.ok (.lst ((l.map oV).map D.str)):=by refine(dL (l:=l) FR (fun _=>true) (fun x=>.str (oV x)) (fq (d:=TF l) rfl rfl) `o fun x c=>⟨_,rfl,rfl,fun _=>aU (aD (d:=.int x.1) rfl (aD (d:=nD x.2) rfl aG)) (RJ (g x c))⟩).trans ?_;rw[fu,B_];rfl
    exact aX (bH (fB (d:=.str " ") rfl rfl (aD e aG) ((fun U g=>j7 (fun y Z=>by obtain⟨d,i,rfl⟩:=k_.mp Z;exact Pg (g d i)) (by rw[gb,i_];omega)) U g)))) U g)
theorem Fg(R:Rws rows n m):∀(p T:List Nat),Rg.pr (Wr rows) d p T->(∀h∈p,h<n)->p.length<=T.length->(∀x∈T,x<m)->∀h∈p,d h<m
|[],_,_,_,_,_,h,Y=>nomatch Y
|k::p,T,s,a,e,Z,h,Y=>by
  rw[XJ]at e;have U:=R.inT (a k g_) `o Z;rw[s.1]at U;rcases s_.mp Y with rfl|Y
  .exact Z _ U
  .exact Fg R p _ s.2 (fun z b=>a z (h_ _ b)) `g (fun x c=>Z x (ı c)) h Y
theorem PJ(R:Rws rows n m)(Y:p.Perm (j_ n)):(∀x∈jw rows n m p,x<m)/\(jw rows n m p).length=n:=by have U:=R.nm;refine⟨fun x Z=>?_,by unfold jw;simp⟩;obtain⟨h,b,rfl⟩:=k_.mp Z;exact Fg R p _ (Rg.yT p _ (Y.nodup_iff.mpr Yn)) (fun z a=>u_.mp (Y.mem_iff.mp a)) (by rw[Y.length_eq];simp;omega) (fun x Z=>u_.mp Z) h (Y.mem_iff.mpr b)
theorem Nu(R:Rws rows n m)(Y:n<=5)(d:h<n):∃(Z:List (List (Int×Nat)))(l:List (Int×Nat)),yQ [WD rows]=.ok (uO Z)/\Z[h]? = some l/\l.length<=60/\∀x∈l,So x:=by
 have U:=R.m8;have b:((lp n).map (jw rows n m)).length=fc n:=by rw[i_,wG]
 refine⟨_,lK ((lp n).map (jw rows n m)) m h,Pb R Y (AR n) (wG n) (O7 Y),?_,by unfold lK;simp;omega,fun x a=>?_⟩
 .unfold tZ
  grind
 .obtain⟨t,_,rfl⟩:=k_.mp a;have c:=zC n;have f:=y7 Y;have e:(col ((lp n).map (jw rows n m)) h).length=fc n:=by unfold col;grind
  exact Vg (Bd.low (k:=7) (by rw[b];exact c) `o `g) `d
end Law
namespace Law
open PySem PyProof.Rows L2 DL
variable{r:aJ}{d:D}
section
variable{r':aJ}{x:D}{fl:aJ->Res (List D)}{f f':FE}{F:List D->Res D}{m:List Md}{dds:List D}
theorem fW(h:U r=.exc x r'):seqF U Y r=.exc x r':=by unfold seqF;rw[h]
theorem kJ{B:FS}(h:B (cH n ds)=.exc x r'):bV false (B (cH n ds))=.exc x:=by rw[h];rfl
theorem wB(h:f r=.exc x):aP m i f r=.exc x (forget m r):=by unfold aP;rw[h];rfl
theorem rY(h:f r=.exc x):jW m f r=.exc x (forget m r):=by unfold jW;rw[h];rfl
theorem p0(h:f r=.exc x):retF m f r=.exc x (forget m r):=by unfold retF;rw[h];rfl
theorem jB(Z:fl r=.ok U)(Y:F U=z):ip fl [] F r=z:=by unfold ip;rw[Z,bind_ok,W_,Y]
theorem AY{F:m9}(Z:fl r=.ok U)(Y:F w U=z):nh w fl F r=z:=by unfold nh;rw[Z,bind_ok,Y]
theorem HJ(h:fl r=.exc x):cG fl dds F r=.exc x:=by unfold cG;rw[h];rfl
theorem Fu(h:f r=.exc x):aI f fl r=.exc x:=by unfold aI;rw[h];rfl
theorem OL(U:f r=.ok d)(h:fl r=.exc x):aI f fl r=.exc x:=by unfold aI;rw[U,h];rfl
theorem GX(h:fl r=.ok [d]):kU m nm fl r=.exc (xD nm []) (forget m r):=by unfold kU;rw[h];rfl
end
abbrev jr:D:=xD "NoLine" []
theorem zo(h:iE d=some false):sP [d]=.exc jr:=kJ (fW ((dm (j8 (ig rfl h))).trans (fW (GX rfl))))
theorem Eo(h:iE d=some true):sP [d]=.ok .non:=by
 show bV false (yq (cH 1 [d]))=_;have:yq (cH 1 [d])=.nx [some d]:=by exact aM ((bW (j8 (ig rfl h))).trans (e_skip _))
 rw[this];rfl
theorem t8:lenD [.lst l]=some (nD l.length):=by have:=ii (fun x:D=>x) l;rw[List.map_id']at this;exact this
theorem Hr(h:a.length≠b.length):sQ [.lst a,.lst b]=.exc jr:=kJ (fW (rY (jB (aD (aK (bT (aD rfl aG) t8) (bT (aD rfl aG) t8) (by rw[iR,Q_b h])) aG) (zo rfl))))
theorem CY:((j_ 8).all fun n=>(PySem.Builtin.Str.occurrences (cQ n) "x" 0 (cQ n).length 1).isEmpty)=true:=`q
theorem VU:("x" : Str).length=1:=`k
theorem U5(Y:n<=7):xN [.str "x",.str (cQ n)]=.exc jr:=by have U:=U_.mp CY n (u_.mpr `o);refine kJ (fW (rY (jB (aD (d:=.bl false) ?_ aG) (zo rfl))));rw[on (aK (bT (aD rfl aG) (by show(if ("x").length<=sizeLine then some _ else none)=_;rw[Q_d `d,VU])) rfl (nI 1))];refine aK rfl rfl ?_;show some _=_;rw[U];rfl
theorem MV(U:n<=7):sQ [.lst [.str "x"],.lst [.str (cQ n)]]=.exc jr:=by
 refine kJ (n:=2) (r':=forget dU (cH 2 [.lst [.str "x"],.lst [.str (cQ n)]])) ?_;refine(aM (ka (jB (aD (aK (bT (aD rfl aG) rfl) (bT (aD rfl aG) rfl) (nI 1)) aG) (Eo rfl)))).trans (fW (p0 ?_));show(iq _ _ _ _ [.tup [.str "x",.str _]]).bind _=_;have e:iq (gI (dg (bD 0) (dg (bD 1) gz))) (fun _=>Res.ok true) (ip (aI (gv 0) (aI (gv 1) aE)) [] xN) (dI 2 [] (cH 2 [.lst [.str "x"],.lst [.str (cQ n)]])) [.tup [.str "x",.str (cQ n)]]=.exc jr:=by show(Res.bind (ip _ [] xN [some _,some _]) _)=_;rw[jB (aD rfl (aD rfl aG)) (U5 U)];rfl
 rw[e];rfl
variable{m n:Nat}{rows:List (List Nat)}{owns:List (Option Nat)}{o:Option (List Nat)}
theorem V0(S:Txs rows owns n m):La [kD rows owns o,.lst []]=.exc jr:=by have e:UE [.lst [],WD rows]=.exc jr:=kJ (B:=Mf) (n:=2) (fW (p0 (jB (aD (d:=.lst []) rfl (aD (gu (aD (aU (aD (d:=WD rows) rfl aG) (qf S)) (aD (aU (aD (d:=WD rows) rfl aG) (HF S)) aG)) `s) aG)) (Hr `s))));exact kJ (B:=K7) (n:=3) (fW (wB (jB (aD (d:=.lst []) rfl (aD (dq (a:=kD rows owns o) rfl il) aG)) e)))
theorem DD(S:Txs rows owns n m):Ct [kD rows owns o,.lst []]=.exc jr:=by
 have Y:=S.n1;have U:Cu [.lst [],.lst (p_ n (.str (cQ n)))]=.exc jr:=kJ (fW (wB (jB (aD rfl (aD rfl aG)) (Hr `g))));have e:Cd [.lst [],WD rows]=.exc jr:=by refine kJ (fW (p0 (jB (aD rfl (aD ?_ aG)) U)));refine aK (gu (aD (aU (aD rfl aG) (qf S)) aG) `s) (bT (aD rfl aG) (by rw[jp,S.rl])) ?_;have:=S.n7;rw[GY,Q_d ⟨`o,`o,by rw[G_];simp;omega⟩,Yg,Hx]
 exact kJ (fW (p0 (HJ (Fu (HJ (OL (dq rfl il) (Fu (jB (aD rfl (aD (dq rfl il) aG)) e))))))))
theorem U1(S:Txs rows owns n m):CD [kD rows owns o,.lst [.str "x"]]=.exc jr:=by have e:B3 [.lst [.str "x"],WD rows]=.exc jr:=kJ (fW (p0 ((fun h=>by unfold f2;rw[h];rfl) (jB (aD rfl (aD (gu (aD (aU (aD rfl aG) (qf S)) aG) `s) aG)) (MV S.n7)))));exact kJ (fW (wB (jB (aD rfl (aD (dq rfl il) aG)) e)))
theorem EQ(b:U r=.ok (.str s))(a:F s=some g)(Z:fl r=.ok ds)(Y:g ds=z):qB F U fl r=z:=by unfold qB;rw[b,bind_ok];simp only[a,Z,bind_ok,Y]
theorem vI(h:wp z (cB 5 [.str line])=.exc x r'):kL z [.str line]=.exc x:=by show bV false (wp z (cB 5 [.str line]))=_;rw[h];rfl
section
variable{z:DW}{first line:Str}{ws:List Str}{x:D}{f:List D->Res D}
theorem wU(Z:iU [.str line]=.ok (cW (U::ws))):seqF (aP eO 2 (cG (aI (gv 1) aE) [] iU)) (seqF (aP eO 3 (f2 (gv 2) (ci 0) cD)) Y) (cB 5 [.str line])=Y [none,some (.str line),some (cW (U::ws)),some (.str U),none]:=by refine(aM (bJ (aU (aD rfl aG) Z))).trans ?_;exact aM (bJ (aK rfl rfl (ixA_L0 _ _)))
theorem sV(Y:iU [.str line]=.ok (cW (U::ws)))(hq:(eU.lookup U).isSome=true)(Z:wK U=some f)(h:f [z.1,cW ws]=.exc x):kL z [.str line]=.exc x:=by refine vI (r':=forget eO [none,some (.str line),some (cW (U::ws)),some (.str U),none]) ?_;refine(wU Y).trans (fW ((dm (j5 rfl hq)).trans (fW (p0 ?_))));exact EQ rfl Z (aD rfl (aD (wm rfl (iA rfl) rfl vG) aG)) h
theorem C2(Y:iU [.str line]=.ok (cW (U::ws)))(hq:(eU.lookup U).isSome=false)(Z:(fX.lookup U).isSome=true)(a:wJ U=some f)(h:f [z.1,cW ws]=.exc x):kL z [.str line]=.exc x:=by refine vI (r':=forget eO [none,some (.str line),some (cW (U::ws)),some (.str U),none]) ?_;refine(wU Y).trans ((aM ((bW (j5 rfl hq)).trans (e_skip _))).trans (fW ((dm (j5 rfl Z)).trans (fW (wB ?_)))));exact EQ rfl a (aD rfl (aD (wm rfl (iA rfl) rfl vG) aG)) h
theorem sW(Y:iU [.str line]=.ok (cW (U::ws)))(hq:(eU.lookup U).isSome=false)(a:(fX.lookup U).isSome=false)(Z:eqD (cW (U::ws)) (cW ["undo"])=some (.bl false)):kL z [.str line]=.exc jr:=by refine vI (r':=forget eO [none,some (.str line),some (cW (U::ws)),some (.str U),none]) ?_;refine(wU Y).trans ((aM ((bW (j5 rfl hq)).trans (e_skip _))).trans (fW ((bW (j5 rfl a)).trans (fW (rY ?_)))));exact jB (aD (aK rfl (gu (aD rfl aG) `s) Z) aG) (zo rfl)
end
theorem OZ:kL (k,[]) [.str "undo"]=.exc (xD "NoDeed" []):=by
 refine vI (r':=forget eO [none,some (.str "undo"),some (cW ["undo"]),some (.str "undo"),none]) ?_;refine(wU (qd `k `k)).trans ((aM ((bW (j5 rfl `k)).trans (e_skip _))).trans (fW ((bW (j5 rfl `k)).trans ?_)));refine(aM (ka (jB (aD (aK rfl (gu (aD rfl aG) `s) FH) aG) (Eo rfl)))).trans (fW (rY ?_));show bV false (wq _ _)=_;have:wq (k,[]) (cB 1 [])=.exc (xD "NoDeed" []) (forget [Md.bw] (cB 1 [])):=by exact fW ((dm rfl).trans (fW (GX rfl)))
 rfl
theorem NG(h:Y r=.exc (xD nm ds) r'):kR m1 Y U r=U nm r':=by unfold kR;rw[h];rfl
theorem tw{line nm w:Str}(h:kL z [.str line]=.exc (xD nm []))(U:nm = "NoLine"/\w = "line"\/nm = "NoDeed"/\w = "deed"):qu z [.str line]=.ok (.str w):=by
 have Y:seqF (jW qR (nh z (aI (gv 1) aE) kL)) bI [none,some _,some (.str "")]=.exc _ _:=fW (rY (AY (aD rfl aG) h));show bV false (yj z (cB 3 [.str line]))=_;have:yj z (cB 3 [.str line])=.rt (.str w):=by refine(aM (bJ rfl)).trans ?_;refine(aM (r':=[none,some (.str line),some _]) ?_).trans (aX (bH rfl));refine(NG Y).trans ?_;rcases U with⟨rfl,rfl⟩|⟨rfl,rfl⟩ <;> kernel_rfl
 rw[this];rfl
theorem RY(S:Scene rows owns o n m):KA [jE rows owns o]=.ok (LN (s0 rows o).line):=by
 have U:=S.n7;refine dy (n:=1) ?_
 dsimp only[Cj]
 have Y:f2 (gv 0) (ci 2) cD (cH 1 [jE rows owns o])=.ok (oT o):=aK (a:=jE rows owns o) (b:=nD 2) rfl rfl (gs (i:=2) rfl);unfold s0;cases o with
|none=>exact aX ((dm (cJ (aK Y rfl rfl))).trans (aX (bH (bT (aD (d:=nD rows.length) (bT (aD (d:=WD rows) (aK (a:=jE rows owns none) (b:=nD 0) rfl rfl (gs (i:=0) rfl)) aG) (jp _ _)) aG) (p9 (by rw[S.rl];omega))))))
|some l=>exact(aM ((bW (cJ (aK Y rfl rfl))).trans (e_skip _))).trans (aX (bH (bT (aD (d:=TN l) Y aG) rfl)))
theorem Scene.both(S:Scene rows owns o n m):∃l:List Nat,L8 [WD rows,OD owns,LN (s0 rows o).line]=.ok (TN l)/\CC [TN l]=.ok (.str (lJ l))/\(∀x∈l,x<m)/\l.length=n/\∀b,i6 (kD rows owns o,b) [.str "deal"]=some (.str (lJ l),(kD rows owns o,b)):=by
 have t:=Rg.MC (W:=Wr rows) (O:=own owns) ((s0 rows o).line.length+1) (s0 rows o) `o;generalize Rg.deal (Wr rows) (own owns) ((s0 rows o).line.length+1) (s0 rows o)=a at t;have v:=S.n7;have y:=S.m8;have f:∀x∈(j_ n).map a,x<m:=fun x d=>by obtain⟨h,c,rfl⟩:=k_.mp d;have:=Rg.uV t S.ok h (S.mem.mpr (u_.mp c));rw[S.things]at this;exact u_.mp this
 have p:((j_ n).map a).length=n:=`s
 exact⟨(j_ n).map a,(by
    have I:(s0 rows o).line.length=n:=by rw[S.line_perm.length_eq];simp
    obtain⟨i,H,C,B,A,z,F,E,g⟩:=O5 (some (LN (s0 rows o).line)) 64 _ ((s0 rows o).line.map fun _=>none) none none none none S.snd t (by have:=S.n7;omega) (fun h c=>S.mem.mp c) `g (fun h c k=>Q_f (S.mem.mpr c) k);refine c8 ?_;have j:=S.ne;have G:=S.row0;have y:=S.m8;have v:=S.n7;have w:=S.things;have q:i=(j_ n).map fun h=>some (a h):=by
     refine ă fun h=>?_
     grind
    have Z:tupD [.lst (i.map oD)]=some (TN ((j_ n).map a)):=by rw[e_tupL,q,B_];show some _=some (D.tup _);rw[B_];rfl
    have U:∃e,cD (WD rows) (.int 0)=some (TN e)/\lenD [TN e]=some (nD m):=by cases rows with
    |nil=>exact Q_f rfl j
    |cons r rest=>exact⟨r,ixA_T0 _ _,by rw[jp];grind⟩
    obtain⟨e,u,Y⟩:=U;rw[w]at g;refine(aM (bJ (bT (aD (bT (aD (aK rfl rfl u) aG) Y) aG) (p9 `o)))).trans ?_;refine(aM (bJ (dL nD _ _ rfl `o fun h c=>⟨_,rfl,rfl,fun _=>rfl⟩))).trans ?_;rw[fu];have s:(s0 rows o).line.map (fun _=>D.non)=((s0 rows o).line.map fun _=>(none)).map oD:=by rw[B_];rfl
    rw[s];refine(aM g).trans ?_;exact aX (bH (bT (aD rfl aG) Z))),NS (fun x d=>by have:=f x d;omega) `o,f,p,fun b=>rq (qd `k `k) `k ((Q_e `k).trans ((Q_e `k).trans (Q_d rfl))) (NR ((fun t=>by have:=TV S.ord S.ne (by rw[S.rl];have:=S.n7;omega) S.snd (fun h c=>S.mem.mpr (by rw[S.rl]at c;exact c)) t;rw[S.rl]at this;exact this) t) (fun x d=>by have:=f x d;omega) `o)⟩
def jg(n:Nat):List Str:=["rings","asks",if 5<n then "rings" else "lot 0","by "++O_ " " ((j_ n).map aV)]
theorem Jb(S:Scene rows owns o n m)(U:List D):∃a,i6 (kD rows owns o,U) [.str "rings"]=some (a,(kD rows owns o,U)):=by obtain⟨l,Y,g,h⟩:=S.rds;exact⟨_,rq (qd `k `k) `k (Q_d rfl) (PV Y g h)⟩
theorem QP(S:Scene rows owns o n m)(b:List D):∀line∈jg n,∃a,i6 (kD rows owns o,b) [.str line]=some (a,(kD rows owns o,b)):=by
 have v:=S.n1;have Z:=S.n7;have Y:=S.m8;intro line c;rcases s_.mp c with rfl|c
 .exact Jb S b
 rcases s_.mp c with rfl|c
 .obtain⟨l,c,g,h⟩:=by
    have Z:=S.n7;have Y:=S.m8;have y:(s0 rows o).line.length<=7:=by rw[S.line_perm.length_eq];simp;omega
    refine RC S.ord S.ne (by rw[S.rl];omega) S.snd `o (fun h i=>by have:=S.mem.mp i;omega) fun x f=>?_;rw[S.things]at f
    grind
  exact⟨_,rq (qd `k `k) `k ((Q_e `k).trans (Q_d rfl)) (NO c g h)⟩
 rcases s_.mp c with rfl|c
 .by_cases h5:5<n
  .rw[Q_d h5];exact Jb S b
  .rw[Q_e h5];obtain⟨r,l,q,p,k,j⟩:=Nu S.rw `o (h:=0) `o;have d:=Jg (w := "lot") (h:=0) `k `k;exact⟨_,rq d `k ((Q_e `k).trans ((Q_e `k).trans ((Q_e `k).trans ((Q_e `k).trans (Q_d rfl))))) (Vl S.tx `o q p k j)⟩
 .rw[A_.mp c];have e:=List.Perm.refl (j_ n);obtain⟨u,t⟩:=PJ S.rw e;have d:=xG (w := "by") (l:=j_ n) (s:=aV) `k `k (fun _=>rfl) (fun _=>wO) `z;have U:(j_ n).map aV≠[]:=fun z=>by simp_all
  rw[A9 U,show("by"++" " : Str) = "by " by kernel_rfl]at d;exact⟨_,rq d `k ((Q_e `k).trans ((Q_e `k).trans ((Q_e `k).trans (Q_d rfl)))) (Vf S.tx e (Fb S.rw e) (fun x f=>`g) `o)⟩
theorem V5(S:Scene rows owns o n m){st c Z:D}:Ln [none,some st,some c,some Z,some (nD n),none]=.ok (.lst ((jg n).map D.str)):=by
 have U:=S.n7;have e:∀x∈j_ n,x<7:=fun x k=>by grind
 have j:(f2 (gT (aI (fun _=>Res.ok (D.str "lot 0")) (aI (fun _=>Res.ok (D.str "rings")) aE))) (fC (aI (f2 (gv 4) (ci 5) lL) aE) pN) cD) [none,some st,some c,some Z,some (nD n),none]=.ok (.str (if 5<n then "rings" else "lot 0")):=by
  have t:=n0 n 5;have d:=gu (fl:=aI (fun _=>Res.ok (D.str "lot 0")) (aI (fun _=>Res.ok (D.str "rings")) aE)) (r:=[none,some st,some c,some Z,some (nD n),none]) (aD rfl (aD rfl aG)) `s;by_cases a:5<n
  .rw[Q_d a];rw[Q_c a]at t;exact aK d (bT (aD (aK rfl rfl t) aG) rfl) (lE rfl)
  .rw[Q_e a];rw[Q_b a]at t;exact aK d (bT (aD (aK rfl rfl t) aG) rfl) (lE rfl)
 have h:((" " : Str)).length=1:=`k
 have g:lF (.str " ") [.lst (((j_ n).map aV).map D.str)]=some _:=j7 (fun y b=>by obtain⟨x,_,rfl⟩:=k_.mp b;exact l_ 1) `g;have p:("by " : Str).length=3:=`k
 have Y:=wE (l:=(j_ n).map aV) h (n:=7) `g (fun y b=>by obtain⟨x,_,rfl⟩:=k_.mp b;exact l_ 1);have i:=aK (f:=fun _=>Res.ok (D.str "by ")) (f':=fM "str" (fun _=>Res.ok _) (aI (dE 1 [] (eD fY (aI (gv 4) aE)) _ _ _) aE) lF) (r:=[none,some st,some c,some Z,some _,none]) rfl (fB rfl rfl (aD (OG `g e (kb (aD rfl aG) (kA `o))) aG) g) (j4 `o);exact gu (aD rfl (aD rfl (aD j (aD i aG)))) (by simp[jg])
structure Sc where
 rows:List (List Nat)
 owns:List (Option Nat)
 o:Option (List Nat)
 n:Nat
 m:Nat
 ok:Scene rows owns o n m
abbrev Sc.st(s:Sc):D:=jE s.rows s.owns s.o
abbrev Sc.kd(s:Sc):D:=kD s.rows s.owns s.o
theorem Ev:∀d∈(["undo"]:List Str).map D.str,db 59 d:=fun d U=>by rw[A_.mp U];unfold db;decide+kernel
theorem UM:eqD (cW ["undo",aV 0]) (cW ["undo"])=some (.bl false):=by
 have h:∀d∈(["undo",aV 0]:List Str).map D.str,db 59 d:=fun d U=>by
  rcases s_.mp U with e|e
  .rw[e];unfold db;decide+kernel
  .rw[A_.mp e];unfold db;decide+kernel
 unfold eqD;rw[AK rfl (nF.mpr h) (nF.mpr Ev)];unfold nW;simp[cU,zjl,Í,Ė]
theorem UL:eqD (cW ["rings."]) (cW ["undo"])=some (.bl false):=by
 have h:∀d∈(["rings."]:List Str).map D.str,db 59 d:=fun d Y=>by rw[A_.mp Y];unfold db;decide+kernel
 have U:("rings." : Str)≠"undo" := by decide+kernel
 unfold eqD;rw[AK rfl (nF.mpr h) (nF.mpr Ev)];unfold nW;simp[cU,zjl,Í,Ė,U]
noncomputable def m5:List Str:=["undo 0","own","by","lot x","rings."]
theorem Pu(s:Sc)(Y:List D):∀line∈m5,kL (s.kd,Y) [.str line]=.exc jr:=by
 intro line U;rcases s_.mp U with rfl|U
 .have hw:=Jg (w := "undo") (h:=0) `k `k;exact sW hw `k `k UM
 rcases s_.mp U with rfl|U
 .exact C2 (qd `k `k) `k `k (Q_d rfl) (V0 s.ok.tx)
 rcases s_.mp U with rfl|U
 .exact sV (qd `k `k) `k (Q_d rfl) (DD s.ok.tx)
 rcases s_.mp U with rfl|U
 .have hw:=xG (w := "lot") (l:=[72]) (s:=aV) `k `k (fun _=>rfl) (fun _=>wO) `s;exact sV hw `k ((Q_e `k).trans (Q_d rfl)) (U1 s.ok.tx)
 .rw[A_.mp U];have hw:=oG (ws:=["rings."]) `s (fun p Z=>by rw[A_.mp Z];decide+kernel) `k;exact sW hw `k `k UL
section
variable{fl:D->aJ->Res (List D)}{F:gN}{w w':DW}{ds:List D}
theorem qI(Y:fl w.1 r=.ok ds)(U:F w ds=some (.bl true,w')):kC fl F r w=.nx r w':=by unfold kC;rw[Y];show(match F w ds with|some (.bl true,w')=>OutD.nx r w'|some (.bl false,w')=>.rt _ w'|_=>.stuck)=_;rw[U]
theorem Vp(Y:fl w.1 r=.ok ds)(U:F w ds=some (d,w')):v6 fl F r w=.nx r w':=by unfold v6;rw[Y];show(match F w ds with|some (_,w')=>OutD.nx r w'|none=>.stuck)=_;rw[U]
theorem Er(Y:fl w.1 r=.ok ds)(U:F w ds=some (d,w')):jF fl F r w=.rt d w':=by unfold jF;rw[Y];show(match F w ds with|some (d,w')=>OutD.rt d w'|none=>.stuck)=_;rw[U]
theorem V4(a:U w r=.ok (.bl true))(Z:fl w.1 r=.ok ds)(Y:F w ds=some (d,w')):mB U fl F r w=.rt d w':=by unfold mB;rw[a];exact Er Z Y
theorem MZ(e:fl w.1 r=.ok ds)(d:F w ds=some (.bl true,w'))(c:Y w'.1 r=.ok U)(b:Z w' U=some (.bl true,a)):mM fl F Y Z r w=.nx r a:=by unfold mM;rw[e];show(match F w ds with|some (.bl true,w')=>kC Y Z r w'|some (.bl false,w')=>.rt _ w'|_=>.stuck)=_;rw[d];exact qI c b
theorem Dx(h:p w r=.ok false):yH p Y U r w=U r w:=by unfold yH;rw[h];rfl
end
theorem Kb(s:Sc)(c:Nat)(b:List D):qt (s.kd,b) [s.st,nD c]=some (.bl true,(s.kd,b)):=by
 obtain⟨l,q,p,u,r,o⟩:=s.ok.both;have Y:∀f e d,f2 (gv 1) (ci 0) cD [none,some s.st,some (nD c),f,e,d]=.ok _:=fun f e d=>aK rfl rfl (gs rfl);have Z:∀f e d,f2 (gv 1) (ci 1) cD [none,some s.st,some (nD c),f,e,d]=.ok _:=fun f e d=>aK rfl rfl (gs rfl);have i:∀f e d,f2 (gv 2) (ci 3) bS [none,some s.st,some (nD c),f,e,d]=.ok _:=fun f e d=>aK rfl rfl (kx `d);have j:∀f e d,f2 (gv 2) (ci 3) gP [none,some s.st,some (nD c),f,e,d]=.ok _:=fun f e d=>aK rfl rfl (nG `d `d);have U:∀e d,aZ (jF (fun _=>aI (fun _=>Res.ok _) (aI (gv 3) aE)) jq) gQ [none,some s.st,some (nD c),some _,e,d] _=.rt _ _:=fun e d=>pK (Er (aD rfl (aD rfl aG)) (wP (o b)));show fK (yi (cB 6 [s.st,nD c]) _)=_;have:yi (cB 6 [s.st,nD c]) (s.kd,b)=.rt (.bl true) (s.kd,b):=by
  refine(dC (jk (bJ (aU (aD (aU (aD (Y _ _ _) (aD (Z _ _ _) (aD (aU (aD rfl aG) (RY s.ok)) aG))) q) aG) p)))).trans ?_;have k:LX (s.kd,b) [none,some s.st,some (nD c),some (.str (lJ l)),none,none]=.ok false:=by
   have t:=cJ (aK (f':=fun _=>Res.ok (D.int 0)) (i (some (.str (lJ l))) none none) rfl (iR _ _));by_cases z:c%3=0
   .rw[Q_c z]at t;refine(nq t).trans (cJ ?_);have h:c/3%5<m5.length:=ZG _ `d;have g:cD (.lst (m5.map D.str)) (nD (c/3%5))=some (.str m5[c/3%5]):=lE `g;refine aK (AY (aD ?_ aG) (tw (Pu s b _ (Yl h)) (.inl ⟨rfl,rfl⟩))) rfl rfl;exact aK (gu (aD rfl (aD rfl (aD rfl (aD rfl (aD rfl aG))))) `s) (aK (j _ _ _) rfl (kx `d)) g
   .rw[Q_b z]at t;exact qL t
  refine(dC (Dx k)).trans ?_;have t:=cJ (aK (f':=fun _=>Res.ok (D.int 1)) (i (some (.str (lJ l))) none none) rfl (iR _ _));by_cases z:c%3=1
  .rw[Q_c z]at t;have h:c/3%4<(jg s.n).length:=ZG _ `d;obtain⟨a,m⟩:=QP s.ok b _ (Yl h);have g:cD (.lst ((jg s.n).map D.str)) (nD (c/3%4))=some (.str (jg s.n)[c/3%4]):=lE `g;refine(dC (r':=[none,some s.st,some _,some _,some (nD s.n),some (.lst ((jg s.n).map D.str))]) ((mX t).trans ?_)).trans (U _ _);refine(dC (jk (bJ (bT (aD (Y _ _ _) aG) (by rw[jp,s.ok.rl]))))).trans ?_;refine(dC (jk (bJ (V5 s.ok)))).trans ?_;exact dC (Vp (aD (aK rfl (aK (j _ _ _) rfl (kx `d)) g) aG) m)
  .rw[Q_b z]at t;exact(dC (lu t)).trans (U _ _)
 rw[this];rfl
abbrev ij(ns:List Int)(s:Sc)(ah:List Sc)(sd:Nat)(x5 x6 x7 x8:Option D):aJ:=[some (IN ns),none,some s.st,some (.lst (ah.map Sc.st)),some (nD sd),x5,x6,x7,x8]
theorem wk{s:Sc}(h:gH r i=.ok s.st):pH i r=.ok (.str (d4 s.rows s.owns)):=aU (aD (aK h rfl (gs rfl)) (aD (aK h rfl (gs rfl)) aG)) (Jn s.ok.tx)
theorem EN(s:Sc)(c:Nat):∃(line:Str)(a:Sc),sE [nD c,s.st]=.ok (.tup [.str line,a.st])/\∀U:List D,U.length<=900->jq (s.kd,U) [.str line,.str (d4 a.rows a.owns)]=some (.bl true,(a.kd,U++[s.kd])):=by obtain⟨line,Y,Z,b,⟨⟨d,e,h⟩,g⟩,f⟩:=RT s.ok c;exact⟨line,⟨Y,Z,b,d,e,h⟩,f,fun U i=>wP (g U `o)⟩
theorem VI(e:List Int)(k:Nat)(j:k<=1000)(i:k<e.length)(s:Sc)(Z:List Sc)(o:Z.length<=900)(f:Nat)(h x7 x8:Option D):∃(Y:Sc)(g:Option D),pW (ij e s Z f (some (nD k)) h x7 x8) (s.kd,Z.map Sc.kd)=.nx (ij e Y (Z++[s]) f (some (nD k)) g x7 x8) (Y.kd,(Z++[s]).map Sc.kd):=by obtain⟨c,l⟩:=P6 e k j i;obtain⟨U,Y,n,m⟩:=EN s c;refine⟨Y,some (.str U),?_⟩;unfold pW;refine(dC (jk (h9 (d:=.lst (Z.map Sc.st)) (ds:=[s.st]) (d':=.lst ((Z++[s]).map Sc.st)) rfl rfl (aD (d:=s.st) rfl aG) (by rw[jA `z,XT];rfl)))).trans ?_;refine(dC (jk (we (r':=ij e Y (Z++[s]) f (some (nD k)) (some (.str U)) x7 x8) (aU (aD (aU (aD (d:=IN e) rfl (aD (d:=nD k) rfl aG)) l) (aD (d:=s.st) rfl aG)) n) rfl))).trans ?_;rw[XT];exact dC (MZ (aD (d:=.str U) rfl (aD (wk (s:=Y) rfl) aG)) (m _ `z) (aD (d:=Y.st) rfl (aD (aK (a:=nD f) (b:=nD (k+1)) rfl (aK (a:=nD k) (b:=nD 1) rfl rfl (l6 _ _)) (zX `o `o)) aG)) (Kb Y _ _))
theorem Fk(b:List Int)(c:Nat):∀(ks:List Nat)(s:Sc)(Z:List Sc)(z:Sc)(f a x7 x8:Option D),(∀k∈ks,k<=1000/\k<b.length)->Z.length+ks.length<=900->(Z++[s]).head? = some z ->∃(d:Sc)(U:List Sc)(i g:Option D),U.length=Z.length+ks.length/\(U++[d]).head? = some z/\iM 5 pW (ks.map nD) (ij b s Z c f a x7 x8) (s.kd,Z.map Sc.kd)=.nx (ij b d U c i g x7 x8) (d.kd,U.map Sc.kd)
|[],s,Z,z,f,a,x7,x8,_,_,e=>⟨s,Z,f,a,rfl,e,rfl⟩
|k::ks,s,Z,z,f,a,x7,x8,h,n,e=>by rw[XJ]at n;obtain⟨q,p⟩:=h k g_;obtain⟨l,g,v⟩:=VI b k q p s Z `o c a x7 x8;obtain⟨d,U,i,Y,u,t,r⟩:=Fk b c ks l (Z++[s]) z (some (nD k)) g x7 x8 (fun z e=>h z (h_ _ e)) `z (by rw[List.head?_append,e];rfl);refine⟨d,U,i,Y,by rw[u];simp;omega,t,?_⟩;rw[<-r];show(match pW (ij b s Z c (some (nD k)) a x7 x8) (s.kd,Z.map Sc.kd)with|.nx m j=>iM 5 pW (ks.map nD) m j|o=>o)=_;rw[v]
theorem JQ(s:Sc)(k:D)(U:List D):jq (k,U++[s.kd]) [.str "undo",.str (d4 s.rows s.owns)]=some (.bl true,(s.kd,U)):=wP (Ry s.ok.tx)
theorem VJ(e:List Int)(t:Nat)(m:t<=1000)(s Z:Sc)(a:List Sc)(n:a.length<=900)(c:Nat)(d Y x8:Option D):∃(k j:Option D),pX (ij e s (a++[Z]) c d Y (some (nD t)) x8) (s.kd,(a++[Z]).map Sc.kd)=.nx (ij e Z a c d k (some (nD t)) j) (Z.kd,a.map Sc.kd):=by
 have l:pD 3 2 (ij e s (a++[Z]) c d Y (some (nD t)) x8)=.nx (ij e Z a c d Y (some (nD t)) x8):=by unfold pD;simp only[XT,R_,Yo,Į,List.getElem?_cons_zero,List.getLast?_concat,List.dropLast_concat];rfl
 have i:∀Y x8,bY (f2 (gv 7) (ci 1) eqD) (ij e Z a c d Y (some (nD t)) x8)=.ok _:=fun Y x8=>cJ (aK rfl rfl (iR _ _));have h:∀Y x8,bY (f2 (f2 (gv 4) (ci 2) bS) (ci 1) eqD) (ij e Z a c d Y (some (nD t)) x8)=.ok _:=fun Y x8=>cJ (aK (aK rfl rfl (kx `d)) rfl (iR _ _));have U:∀f,aZ (cO fun _=>pD 3 2) (aZ (kC (fun _=>aI (fun _=>Res.ok _) (aI (pH 2) aE)) jq) (aZ (kC (fun _=>aI (gv 2) (aI (f2 (gv 4) (f2 (gv 7) (ci 2) addA) gP) aE)) qt) f)) _ (s.kd,(a++[Z]).map Sc.kd)=f _ _:=fun f=>by refine(dC (jk l)).trans ?_;rw[XT];refine(dC (qI (aD rfl (aD (wk rfl) aG)) (JQ Z _ _))).trans ?_;exact dC (qI (aD rfl (aD (aK rfl (aK (b:=nD 2) rfl rfl (l6 _ _)) (zX `o `o)) aG)) (Kb Z _ _))
 unfold pX;rw[U];by_cases q:t=1/\c%2=1
 .obtain⟨line,s2,h1,h2⟩:=EN Z _;refine⟨some (.str line),some s2.st,(dC ((mX ?_).trans ?_)).trans rfl⟩
  .have e1:=i Y x8;have g:=h Y x8;rw[Q_c q.1]at e1;rw[Q_c q.2]at g;exact(nq e1).trans g
  .refine(dC (jk (we (aU (aD (aK rfl rfl (nG `d `d)) (aD rfl aG)) h1) rfl))).trans ?_;refine(dC (qI (aD rfl (aD (wk rfl) aG)) (h2 _ `z))).trans ?_;exact dC (qI (aD rfl (aD (wk rfl) aG)) (JQ Z _ _))
 .refine⟨Y,x8,(dC (lu ?_)).trans rfl⟩;have e1:=i Y x8;have g:=h Y x8;by_cases z:t=1
  .rw[Q_c z]at e1;rw[Q_b (fun y=>q ⟨z,y⟩)]at g;exact(nq e1).trans g
  .rw[Q_b z]at e1;exact qL e1
theorem Fl(j:List Int)(g:Nat):∀(c:List Nat)(s:Sc)(a:List Sc)(z:Sc)(b d x7 x8:Option D),(∀t∈c,t<=1000)->a.length=c.length->c.length<=900->(a++[s]).head? = some z ->∃r,iM 7 pX (c.map nD) (ij j s a g b d x7 x8) (s.kd,a.map Sc.kd)=.nx r (z.kd,[])
|[],s,a,z,b,d,x7,x8,_,f,_,k=>by have e:=List.eq_nil_of_length_eq_zero f;subst e;cases k;exact⟨_,rfl⟩
|t::c,s,a,z,b,d,x7,x8,h,f,l,k=>by
  have Y:a≠[]:=fun z=>by grind
  obtain⟨U,i,rfl⟩:∃(U:List Sc)(i:Sc),a=U++[i]:=⟨a.dropLast,_,(List.dropLast_concat_getLast Y).symm⟩
  rw[XJ]at f l;have Z:=by simp at f;exact f
  obtain⟨n,m,v⟩:=VJ j t (h t g_) s i U `o g b d x8;obtain⟨r,u⟩:=Fl j g c i U z b n _ m (fun z k=>h z (h_ _ k)) Z `o `g;refine⟨r,?_⟩;rw[<-u];show(match pX (ij j s _ g b d _ x8) _ with|.nx q p=>iM 7 pX _ q p|o=>o)=_;rw[v]
theorem Nw(a b:Nat):minD [nD a,nD b]=some (nD (min a b)):=by
 show some _=some _
 grind
theorem O4(i j:Int):jb [.int i,.int j]=if-(2^62)<=i/\i<2^62/\-(2^62)<=j/\j<2^62 then some (d9 i (j-i).toNat)else none:=rfl
theorem NQ(Y:a<=1000)(U:b<=1000):jb [nD a,nD b]=some (((j_ (b-a)).map fun i=>a+i).map nD):=by
 have e:((b:Int)-(a:Int)).toNat=b-a:=`o
 rw[O4,Q_d ⟨`o,`o,`o,`o⟩,e,B_];unfold d9;refine Q_g some (YV fun i _=>?_);show D.int ((a:Int)+(i:Int))=D.int ((a+i:Nat):Int);rw[Int.natCast_add]
theorem sc1:Scene [[0]] [some 0] none 1 1:=⟨`d,`d,`d,`d,rfl,fun U h=>by grind,⟨fun x h=>by simp at h;omega,fun h k x Z Y=>by have:=(rT Z).2;have:=(rT Y).2;simp at *;omega⟩,rfl,fun l h=>nomatch h⟩
noncomputable def S1:Sc:=⟨_,_,_,_,_,sc1⟩
theorem UY:yk [.str "A*"]=.ok S1.kd:=by have:=HE sc1.tx;exact this
def CW:List D->Res D:=EI S1.kd
theorem main(a:List Int)(A:a.length<=63):CW [.lst (a.map .int)]=.ok (.bl true):=by
 obtain⟨b,Z⟩:=HC a 1 `d;obtain⟨c,U,j,g,m,p,o⟩:=Fk a b ((j_ (min a.length 33-2)).map fun i=>2+i) S1 [] S1 none none none none (fun k v=>`g) `z rfl;obtain⟨r,n⟩:=Fl a b (j_ U.length) c U S1 j g none none (fun t u=>`g) `s (by simp at m ⊢;omega) p;refine c8 ?_;have e:∀f:de,f _ _=.rt _ (S1.kd,[])->(match f ((cH 9 [.lst (a.map .int)]).set 1 none) (S1.kd,[])with|.rt d _=>Out.rt d|_=>.stuck)=.rt (.bl true):=fun f h=>by rw[h]
 refine e _ ?_;refine(dC (jk (bJ (fR (aD (d:=WD [[0]]) (fR (aD (fR (aD rfl aG) `s) aG) `s) (aD (d:=OD [some 0]) (fR (aD rfl aG) `s) (aD rfl aG))) `s)))).trans ?_;refine(dC (jk (bJ (gu aG `s)))).trans ?_;refine(dC (jk (bJ (aU (aD rfl (aD rfl aG)) Z)))).trans ?_;refine(dC (r':=ij a c U b j g none none) (w':=(c.kd,U.map Sc.kd)) ?_).trans ?_
 .have Y:eD jb (aI (ci 2) (aI (fC (aI (fC (aI (gv 0) aE) lenD) (aI (ci 33) aE)) minD) aE)) (ij a S1 [] b none none none none)=.ok _:=kb (aD rfl (aD (bT (aD (bT (aD rfl aG) (ii _ _)) (aD rfl aG)) (Nw _ _)) aG)) (NQ `d `o);show km (eD jb _ (ij a S1 [] b none none none none)) _=_;rw[Y];exact o
 refine(dC (r':=r) (w':=(S1.kd,[])) ?_).trans ?_
 .unfold vJ;have Y:eD fY (aI (fC (aI (gv 3) aE) lenD) aE) (ij a c U b j g none none)=.ok _:=kb (aD (bT (aD rfl aG) (ii _ _)) aG) (kA (by simp at m;omega));rw[Y];exact n
 exact pK (V4 (aK (AY (aD rfl aG) (tw OZ (.inr ⟨rfl,rfl⟩))) rfl rfl) (aD rfl (aD rfl aG)) (by
    obtain⟨l,z,y,w,s,q⟩:=sc1.both;obtain⟨x,rfl⟩:=qO l s;have e:x=0:=`a
    subst e;have h:=wP (q []);exact h))
end Law
namespace Law
open PySem PySem.Spec PyProof.Rows L2 DL
theorem Vd{K:W.Frag}(T:Txt K b)(A:Fun K "law" "law" vS e d)(Z:MethAt K "Desk" "undo" "Desk.undo" lW)(k:MethAt K "Desk" "tell" "Desk.tell" lV)(l:MakeAt K b "Desk" "Desk" "Desk.__init__" nw)(U:QAt P w K b "QUESTIONS" eU)(Y:QAt P w K b "CHANGES" fX):FnOk P w K b base fA 13 e d Ah (nQ K false [Md.sh] CW):=by
 obtain⟨C,f,o,n,a,r⟩:=l.ex;have m:∀c,XN K "Desk" c->c=C:=fun c h=>by obtain⟨p,_,_,u,_⟩:=Z.ex;rw[u c h,u C a]
 have g:=Om (base:=base) T a k U Y (On T a Z);have j:=Ua T g;have i:=Uu T (Rb (base:=base) T a k U Y (Rc T a Z));exact Ol T A j i (Ut T g j i) (Q9 T a m l UY)
end Law
end
open PySem PySem.W PyProof.Rows
namespace Law
open PySem PySem.Spec PyProof.Rows L2 DL
theorem U7{K:W.Frag}(m:K.In h)(G:h.Ns K_ j){R T WL WZ l W9:a_}{WX W5:Option Addr}{WW:Array (Option a_)}{Z:Addr}{Wx Ws Ty Wu n Wq:a_}{WB Wp:Option Addr}{Tm:Array (Option a_)}{i:Addr}{Wv WG Wm Wy o WA:a_}{Wt WC:Option Addr}{Wn:Array (Option a_)}(F:W.nsIn K K_ "Kept" = some (some (.ref U)))(v:W.nsIn K K_ "Desk" = some (some (.ref Y)))(p:DL.mv K U (YO "Kept")=true)(J:DL.jC K "Kept" U=true)(u:W.plainGet K U Zj=true)(I:W.hasDictIn K U=true)(X:W.plainOver K U=true)(y:W.findIn K (.ref U) "__setattr__" = some (some (.builtin "object.__setattr__")))(N:DL.mv K Y (YO "Desk")=true)(t:DL.jC K "Desk" Y=true)(C:W.plainGet K Y Zj=true)(E:W.hasDictIn K Y=true)(M:W.plainOver K Y=true)(A:W.findIn K (.ref Y) "__setattr__" = some (some (.builtin "object.__setattr__")))(WR:W.findIn K (.ref Y) "kept" = some none)(WK:W.findIn K (.ref U) "order" = some none)(WQ:W.findIn K (.ref U) "owns" = some none)(WT:W.findIn K (.ref Y) "past" = some none)(WJ:W.findIn K (.ref U) "wishes" = some none)(s:W.makesIn K U=true)(r:W.findIn K (.ref U) "__init__" = some (some (.ref f)))(w:W.isFn K (.ref f)=true)(L:W.keepIn K (.ref U)=true)(O:K.lookup f=some ⟨W2,Q,.func (W.fnOf "__init__" "Kept.__init__" (L2.aW Law.oj) (L2.aO Law.oj) (L2.aA Law.oj) .none W6 WN W8 WY k W3),WV⟩)(W7:W.codeIn K k "Kept.__init__" = true)(W4:W.keepIn K (.ref f)=true)(z:W.makesIn K Y=true)(x:W.findIn K (.ref Y) "__init__" = some (some (.ref g)))(B:W.isFn K (.ref g)=true)(H:W.keepIn K (.ref Y)=true)(P:K.lookup g=some ⟨R,WX,.func (W.fnOf "__init__" "Desk.__init__" (L2.aW Law.nw) (L2.aO Law.nw) (L2.aA Law.nw) .none T WL WZ W5 l W9),WW⟩)(W1:W.codeIn K l "Desk.__init__" = true)(W0:W.keepIn K (.ref g)=true)(WU:W.findIn K (.ref Y) "undo" = some (some (.ref Z)))(WM:W.isFn K (.ref Z)=true)(WH:K.lookup Z=some ⟨Wx,WB,.func (W.fnOf "undo" "Desk.undo" (L2.aW Law.lW) (L2.aO Law.lW) (L2.aA Law.lW) .none Ws Ty Wu Wp n Wq),Tm⟩)(WE:W.codeIn K n "Desk.undo" = true)(Wo:W.keepIn K (.ref Z)=true)(WO:W.findIn K (.ref Y) "tell" = some (some (.ref i)))(WP:W.isFn K (.ref i)=true)(WI:K.lookup i=some ⟨Wv,Wt,.func (W.fnOf "tell" "Desk.tell" (L2.aW Law.lV) (L2.aO Law.lV) (L2.aA Law.lV) .none WG Wm Wy WC o WA),Wn⟩)(Ww:W.codeIn K o "Desk.tell" = true)(WF:W.keepIn K (.ref i)=true):(DL.io K "kept" Law.ze)/\(DL.io K "order" Law.wb)/\(DL.io K "owns" Law.pR)/\(DL.io K "past" Law.zf)/\(DL.io K "wishes" Law.mn)/\(DL.MakeAt K j "Kept" "Kept" "Kept.__init__" Law.oj)/\(DL.MakeAt K j "Desk" "Desk" "Desk.__init__" Law.nw)/\(DL.MethAt K "Desk" "undo" "Desk.undo" Law.lW)/\(DL.MethAt K "Desk" "tell" "Desk.tell" Law.lV):=by
 have e:=DL.Mq p J u I X y;have b:=DL.Mq N t C E M A;exact⟨DL.sU [((YO "Desk"),Y)] (by intro q a;simp  at a;rcases a with rfl <;> first|exact⟨b,WR⟩) (fun c h=>by
   have d:=X8.mp h
   grind),DL.sU [((YO "Kept"),U)] (by intro q a;simp  at a;rcases a with rfl <;> first|exact⟨e,WK⟩) (fun c h=>by
   have d:=X8.mp h
   grind),DL.sU [((YO "Kept"),U)] (by intro q a;simp  at a;rcases a with rfl <;> first|exact⟨e,WQ⟩) (fun c h=>by
   have d:=X8.mp h
   grind),DL.sU [((YO "Desk"),Y)] (by intro q a;simp  at a;rcases a with rfl <;> first|exact⟨b,WT⟩) (fun c h=>by
   have d:=X8.mp h
   grind),DL.sU [((YO "Kept"),U)] (by intro q a;simp  at a;rcases a with rfl <;> first|exact⟨e,WJ⟩) (fun c h=>by
   have d:=X8.mp h
   grind),DL.Mo e (W.mg_of m G F) s r w L (L2.gj O W7 W4),DL.Mo b (W.mg_of m G v) z x B H (L2.gj P W1 W0),DL.Mp b WU WM (L2.gj WH WE Wo),DL.Mp b WO WP (L2.gj WI Ww WF)⟩
theorem U8{K:W.Frag}(a:K.In h)(G:h.Ns K_ Y)(p:W.nsIn K K_ "NoLine" = some (some (.ref c)))(i:DL.kO K c=some (U,.ofString "NoLine"))(n:U.contains (Value.type "BaseException")=true)(f:DL.jC K "NoLine" c=true)(k:W.excIn K c DL.kP "ValueError.__new__" = true)(o:W.nsIn K K_ "NoDeed" = some (some (.ref d)))(g:DL.kO K d=some (Z,.ofString "NoDeed"))(l:Z.contains (Value.type "BaseException")=true)(e:DL.jC K "NoDeed" d=true)(j:W.excIn K d DL.kP "ValueError.__new__" = true)(m:(Value.ref c::U).contains (.ref d)=false):∃C D b c,DL.Xcl K Y "NoLine" C b/\DL.Xcl K Y "NoDeed" D c/\(Value.ref C::b).contains (.ref D)=false:=⟨c,d,U,Z,DL.Mt a G p i n f k,DL.Mt a G o g l e j,m⟩
end Law
namespace PySem.W.Fast
local macro_rules|`(command|#check $s:str)=>do
 let rec go(l:List Char)(k n:Nat)(a:Array Lean.Syntax):=match l with
  |c::l=>do
   let n:=n*91+(if c.toNat>92 then c.toNat-36 else c.toNat-35)
   if k=9 then go l 0 0 (a.push (<-`(command|theorem $(Lean.mkIdent (.mkSimple s!"tw{n}")):ident:True:=⟨⟩))) else go l (k+1) n a
  |_=>return Lean.mkNullNode a
 go s.getString.toList 0 0 #[]
#check "7)THsu;{pR198KR6AE4$%f7C^oGPE}DeL+GW&[.R$XRIFY^D=:KdbYXMI?{f?$VAx'Zpp&<l],6%Gh0h2z;F6}dIcB;:)Z,D;Wd=)O5Q_%oE~n5}7F)C'OT]:'iW,B(d'{GI}d$2MJMhCN_^FX3^II8@KuATEMcU4~cF?SmVLdI0%0]iVb-cB{4siv|F[v5IhbQTQ0-zC@yA*S;5??2>E|_kcz<uJg#3#O?S,MHgLc94-W-N>=R}CjC+;L1uNna'mh/ZD#%:-s_P+K9JF//8otJH%A#MA7b76I?:}5y^K~s5?'qG#Hn[}^.FV&i9P'gp=AH7;c`/IM,rI,|(936O%.o4Dw'O]B3_YBP{1.*0Bw'G_svfoX1i.zpAXU=S3i^urD[sCZ,'8f~VJLQV8wdu(fW$-&?<n{CYmmTj-3yWaaO8b?BlEB17igjP&5$fZx^i[yH;*L;$a`IsBI(;isel`n:Q-2PwK*;o<`[e%YiL@:C]j$;T/wDU@Z0qmL*Xc?Bv0];$&KOSI/&37.9ASy%=#xy0X0~m;8>PP`{l}6/9H=_tVM)n.#q[-1?epo,Q,c9L'2q=$Zp4?-]6pO<K97;yZtv/Mjet>$IP1fG-8rh:0o_w/Z)zGQ6Cf:?,Q$laCQPe6W?Aj7;1h6;>Mp3gs5PT88wq50@wX3:Y6aASc6(|'CJA7}Ha*]0JaD7/F)sc=~s/yN:Gwj:`qcSH::Jy76y9k1eId{$Gu8=`[|gy4b)_&75sDvIUv7&/^hez<E>[-M$_oD2ruHYd<=eB&Mo67o.y(J=,%izS}p@D-5[I*AngPJE1Dmq{^7Lo('zz+qb6#B6f`(Y`Vn|LHWupKmq.>R,g5fo'1wfb;gR%_gKBBY=Z@/%a}afb<z7LtMGtv-73M;MKe@hJGRNdt`b.Ug7L.7B`/zGaH,33-ld(m#2Pska9GdRH(a'U<l2#^9CfahYRMYd@>'<i4T1k9?$zH/Z#,DAM</ZWmx0,`{(E+qMXgXdE,RoVTK)j~47ZyBETy>{x9SN@YPESZ*:?m0-S&<No6883kLT1RSD;jI'Zh@mr;{YuZOv/8[Jl-Noa[{/b/FYb1>}(%KBORaP67$|BMZHZAJ3j[&*41@XPL'8T5kMkwG$|W{A,'w0I.oP%<Z{sH$^~O;$|O9xQ.M|U4.]&RE>T+8?{KS;isFY@BwZ$dDw%[C/_}Qv8<^+X<K){72Bp=UEv:I^e/'@}IC8zSA%B1^8)`v|=0Jf:%*@8U>SIz<:-j{':m#e2D=R8Gte9^}Aj8?S.6QN6A.dV6U9Y:JMa5Xs:,GST=RERunHasE)`ro@%-PQ`<S<H1#IN$R%#|bN@c,5v8e]nVI%Rgb;ki}NkLUSF1#kf%iq0YM@|&A/>ufJc@t9i+vo.NC3]6+xlrX5$/%G$14;Esk+*-br[WBdoCvSKfmwU~~4u`>nACtuG$sLvnn9)a]9zT]GU2GNf@%g540dG2J#{^c_U<_'nH`}6,)Dbe^.tEV/-h`an?a]Fsw(E>(HuepZLWn~t16.CK%J<3*E,{G,b/>2N2_rZxOhrJU;.gvc`@wSWMq-5T]?+]z;j/;hSn$rX%wE>~9{:5T'$$('cGXML%F6`)<uiQKI:`RrQDBpU<`hQ/#K)f08$q'cD`($4:OE#xb&F]f>jyfET|%DD.]shbbU^*BCtSrK8,En4=S%3]$4r<X'Y**);=RxgDDf6pJE}W'C?.sig~J)w=WL(#e=D86/rcS{@%^_'C/.^,q)til4e[4jHUS%bF|#s4(a&1g<~XnhupeBZ+A@L2k#0iP3p~u(0TDQt5T{'xE{^1T(){K@H|p&G5BTA*Qz=.+*|xT[[3*gu?zhCB(uj^I8~i1+yS+Aj0TlB'}wYJE@co/nk]BRb<OtS.+?sCtITl}8+@&8[4}BeKS?oB9%RS(X'GP?H8|}(^oTVKg/1mApkpb=d$n<IqrPUI^>flko_VoCN%G1cb^vDE)JV'yW]/obs<{O4jXy2mc4YkW:?vg{A%gG8>_o%&{$Eb$b~zw7w6;[,q-z;>_DrX[4F$lRML*(EXy#-,2?]C$dGF|vH'9I|Ol)HM,'wOsiIn*Hk9ZG&a7qg2o#$f-MxE@7+L#R66;QDB&?uiGuo)Fjc6YTY.^kvc|D.M^zWu4U:@rH$+6HE(~<XukO`1)]3Cw<LHO-hrRD]]codA+)^::;WhSdz<76uo2egAo#~#vv#/X~CO3KlEQj=w,n-GL,(pTp-jM2}[Lv#Y{-#.(rB9^O1t*,eB9{KOlKxBgovAy2r^M)L^nirW^i#MU4E_4Hs_=.b@Mm]GTs{/43RE;q)1oJcM6j{0J.v8]~z:fL,*tAStr}k7<H(3YjQk^(?OM4p<u~<B[XGBGK6Z-Q>eU&0+j]-0-rGB0I0qe~w13*t)N+?'&N%47V4X#=&E1@%@Yz9A9kW4)p~y*3-ip={~zdp/AR2>QLc`c7'ByBiB~8ayB7z#r.V%u07Uv<I0oRre(~H=#x_:vUhf^$X-5=0&i4&<:wSh8ao2O.^?S'}B]X*$gvg0d]FKP6.M%r|P?EA%t85f17}_^@^845Sp'r,1`G[q}shyk%1oy@U9g,23DkcB}fnF(HKvY8Ux.|yJHZ{fdLEsO<T<@h'|9R7?L_ar/RhI@9k7}tk%K~{,}_$EsW9R}1,o:IO^i].&m2]khexEg6YQw`&JhyQJy=k5y+&.N;H6~P,$g|d5<&O,'5&`=*4/n.$%s3e0e=tM%/`h0)pF{kr5R>V+/d[[P(tUn>0U$+SKaOX4brN-P4<PJ@()dK,6i7,D`HL.d'Aw::RSC2T)]H1Jep5,qdFH72b)Bo?:9tzA5<K;#$-s~=A$xtujCU^FV_'kVRz`32Owmv{'Q|H?@(nsbd$awGiGIwA0egy@210y'|O#M9iuzn/N[?cChJ*$NO8]~CqM6}CZX{~+ClT9m<x>g=mh|-'7clU:$.m04sa|71uN?SlIZWAH;$uzCK/[rJ5}S+2:lX-1_nVFehI6)@9b1,Wgk#r=McT&8)%.H:J6(|SquZr$p7H)P8RN3$SVrZGYJL=CqVRpwf2Y[24+%Aq0c4'&~O[,8tm9SLOvXE6.prS3B|%ar;k`#+?1guEP(1W/Md-Y4p%9WK;r3h1b<Qv:5j4;KFa%,#$leTuNp}A5Ln5rGJ8?S,8HIyG[+V=&Ay.?=r%^gMUkUMQ-cqM-}Rw=58U,S=5,][VqPL>1pX2e-Vcn<76o]ZnqKV>IcfQr`)E-H'E;b4p[11D@-3>4KDSE,IVbq%BANt|9q9Peo7mQ'K;:zGbNwKi,rHwq/,0%ZG=uXQaz8=lD8rO#FQ[cX90`mE<-NqT)i'14-U'lr)&%d<6-~O]9;d1X0N$/u+iCjCH#54J809([KNAEM3WxM/3InMMA,$]Q65DlHG+=;}774c@J*`p5<|nV2&2=eY`F1ec*8OF)k2i.hDqwakz9)i55f`WYz_iCU1vK#2zWg*w'yt}IY3A0QJVrR8siLxmIqk0R%HYbwMYwf}f+cUnA8N.M?u@G{%8xv7YA.TwFKL`^fYWTJ5vpRQc~C]l,8@/>Qlc(4D/o8>{lW?I)~M8nhZ%UlKZIO{)P@vMMsV?Vz17N&9kcV-%~Ywy/,I.YVqX>fGYWS|MW4CW63;zgVGhP8.{?;i6-Kh0-AS%DqOz]h*@q+9R*?AxGKV}'[(%ad8LfkZoErxZ7e9>8rj%nA6`=wF|N)%*2fvIDM1*d[.$sL9tg@dGJW;5FT'XwYDTkYuo)YJ~;$WR.zrwx.EU#Qx41k$#-'0-hLPb_x,|#qJ>UJ8,,]wT='dJO+(az(WE895/'$w%rU@xa<J>-4Z#zp9zI#}5t0s2P6E,>{1#/*9[;dUzVS#x.)9]fhx66;PP4%>zJxtG=w1n07#qbzB=,>];*=#WEc*3}uE+1i9TGl=]0a041mDrx5<~&0|:BvHLb^2<yU:f[(-?bJOl9QLD3XOor%,vhVt_<k%d7C>oPU/vq81Iy4RPuq4M#$7<S|)C|>/`Q}(VLM=w*](__Kryf4KL%L/D_>B$Gr_D%8pay#8c%oJSK9_['I}ulYh|slEXgPX'84>b<[`|_Z^8rUJ/5'hH#kc+8g:}(R`'&d+j.$=$ncOY(4-)^nXG~1M9sr%aNLa&LO4WYS#Q.NH@`F[/[sLpD+[.CdR^{A1SOk2$J+S790R0slM*bj56X*)pm7?L3EEWM2Ty6n$8aWJ8=r8,&(sj7O'19FG0gp+FW{2d9[~[jO`qOy8O@A&bA6yE7Mg'JfJZ{4LtdX1fv>><JkdIqM3{dF&7Lcs,Y[-7<3*:5$+B^+:Do63+PXKc$`A<MOuziCI->r7l&EuN:qv.j2s}*P$KWpgq@()+LgjeY6LdbII{s`'L)U+1<^U?JAL;/Z;(~)g7ow``1Tp#64}E=c#yEq&:yBpC'SK,}M{v-^L.^O.K=.Nv9fZ=)59n)p2j*h@ceGc1/L)E/4CI7GDYTh_*JvF7J,%Xq+8h359RL}1;bb0W30Owzp)y:)*tF_'i<l#b8^$~nWQyX0Ft.<`R}oTa<N]jnr9Me6&GzTB%]8aSEK=6o5;dq|%L,M9&dJLL35LUYiiMjgF5UVagFh+0>{oodw'VBZ&PWX3-vf#U%]pS6]R.#(6RB0q|ak4>8nw_*=j<2F.L^]7N;>Wj&pst`&iUX*)e)-dw_CGe%r5C&DEoV`:Zl1F*%9y(3Rkh_7K/Za0]4B*TwL,G@i-_DJ/LaUDfYsCf2,R26?*~n]m[S-=D*eF#Mluy#fY%zin_|u>{3'lw^vYcL[zx`Ct=yF'Y<ceX.ki($P2O[,D(#A&J95>g{AFwD'wTcSd19?5.'D4>*63'7[rbSdtk5T,Qv[aYgru4MDn&/_a9<CIdSSUOs'O,.9j9eu?W<N-76R@U;@HSLU$vTb//rh3=#loI|j,p<bCG@j)K-E,wj:|ztz9c/erJ?r?zYh*18>I_-ned>Vt%zk~B[aMji%Znv71P0FU}nyCiRTAP4Kk;UYX0>9Ahfe0Bpu3SgTdbrmq#+SdIh%GLgb5*b>b'1g>?:BNk7zx_%Z(1{*L6S2Z9/q/Eh$V5~+If-y55{wai-P/zy9A35n-K7-CyQ^`j-4Cu'y*d@`-1+KI}B:PtM|lPEXyRv3Cwdq7lr=h(Cg^ep<:ZCnC?Lj]]ti4WC)Y60dTCxU=TH$O:7,,v4jt*m?(BbdE:d,6B>;M0)dX)?Y-SXgA6Od)O>0M%@jtYy1Iy/z;6-E,HKAai&*,wGxfJ1x8eypqxY=Pv3LlL3tRYFf2NY,l$7F:w.0T;H(LB8{+Z+fz[24mS(>C)Ga$4Dc&c}WKqb>'F&X<lq5hKt9Cd0B:PfOO+36y`(k?@=0/iVr%e{LA_F=0bu<@A=CDZ%{Q,@mAm@<RQQz;jfr=^A|j6=_*&+EzcCpo+mL>.lW'Udat2<l3uShb05</1~TAFjADnK{4)Wn)EK@@K$ESfl$OM.ILi%B5tX_EaMO1sI7@H5VYESmt%W.HL2=?%dy=mE[MO)&7UOS-kubg>AQ/j<MJ])(P?jL.|q;,m*h}BE,>g=AN6Y;-$(f-wh(w%*[g.OzXNHe(UtdqS0kBTLo[jp}I7<}1tz&R:lYG.+)'YP,LLE(M:eB:(wVZ]J'E/Z3acdIInxWA~Zs@$HB>XD?3pCD@kL$P7l<w&./D?D~;>k(KE.x_~yQ2:B%A}.8}mQT9ysMCVR5<K6?;~$KaJFX$D5>YEbDKz)8jQm?2%qgJu:zw`3gtlF-HX|C^u)/EcT}:_9a?TENMt{5.>vbCir'_Wuh=.*U90Rn1>*w7nJ}DRST6=01W&f>/p,bKcC{MBoMVn9_L%U2/FdK$~|=W5Q2x:6dcv`1s:]C4$A]z,SZB+2I~5Ph;vmRBnB]*6nwgbB18KO@=}8=Af7*3iEtOk?l?gM&ne;{?+%w8.YT`P>zO|i.&[X&>r=pyZQ7#rI&cdCeeyeyF/bZkDm:CO7lJ{j,H#u~7TX5>M9#kC77qEY(-#.B1`C5Q,o'`D13t`NvqyxW'{gLRnDt?aKJ?X_7):U,HVF',koN&$F$tA4ra0z[C(c;SX~dnC=_[c$sP72M<Z|D){hP*30w-q]=i9n-7Wl)4GfndZ41A{c*FVMn3[*H:3aEUkIceYifR:nqE3Ro{t&v{x&@_|OC@.qJCbAi>DcfvCC4iBc_V.uC@*=HaH_@OP8_%D[1q<=f5x@e6#eYFl.2)hxVOxW3-E+{~HR%MO#h6w'cR67v(::,G9{nz^M,`>='.ya;KjS[R?j}9H&Y-76(mG[WBuj2<Nr~uy&26Ax%-%9&;O38j=4IZ8#E^}HDadl(G#`ot^,4~]CiQ5?g83pb>f6`(8[1bp:[}-slx:/T:CK9}O.}_J:+8OFY$,zB9o:>A+ys7I99@^itkENC%73EGY9V@*%6bFr=}Fqc8pz8x8k9Kk8h9y_Ife]t8X^$RPYpV)8EowAU-l%=8DezvfL>1o7|0_l=p[g[7r7OBG1V?d7i0Kp}O0q}7g`C]/yYlG6h)7,D5@+o6JpUyQpB^I6:rLd8RYAe6(PPc.$ye~5dPV{QA7XS5[}6Z;|pvB5Y)5-SJ'[Y5LS.jqzJ*l5%8@55&F9?4w+E2drNRy4tm6ZtTd]=4r5T_9_Zgv4h~dD;itDn4<qF/gWt7&4'H*nI`:J2$bXse13-h'2u{)cOjF{X2sI,+E+/~G2`v630w?Kd2[Zt_Ax9t}2RwxFlx';o1rp8=|L8y^1idDZ}]-%Z1[~e~p~$3z1J93fhMwzf1:]77B$f0Z1++*dWvNm=$H0T.~{)#o0{)[&8Uuhi0xa-eVvF<r0g;|?9Iqr`0dd_aYD@M?$D)`UH@.}>0T}1xifFkM0B$c1zeil(05hE[@A5Y301|(,DjZm_/|a~.<akQY/j;.F3/#po/iDAF=)|;3/dSS=~0ZS*/]D&k,+A*#/Z8DqkW2(;/W&cvBeoq^/EnT*:JwD'.y=ZT(6+Sq.n/[fc5^ps$2eoClNhyO.cVQMO?1]W.[4:JO.`gU.PfY@j|oiP./FP*gTxRf.)5=hWxk+s-pA5j/E~to-aj/T~Y3D[-P_C1f0{wl-6&b,(3z`L,}ugK[txot,ys%bb5<.K,bFc5>OJ<F,>OwE>@`9i,))**S$zY:+};uv#rGPi#r:8D[;*]w+Ah><9e1,[#n6)u<D7,#*pb,Le|ZiZ*g'.I)x/Ha)|(jg|1A{O)er$O^{tqT)_#5%=3f>z)2nGCy%%=))2-3y?c2rI)1bMsI0~.B)1SnV:B?u~)++WxgEd=@)%SpV8[|f{)#dZc6b{g$(|D~?y7Y);(lR[24&n/:(hMap1HJ|0'cYy~8`i8T'RrH#(T@?:'R:l)V'R1^Myfpal$L`uMuN:3}:$nm'=$E:%9#anMX'YNU%gm?MLh/`=EY[NMI]]aS:D]MM9]_dQvfPBM$`M{JstiLLksT^ed=<|Le7hhp6R%qLcNCr'e8*'LauYJD[VD[LWT<g(HI,=LOj:Mv4[xKL#4:*U=2aSKvlO{en}*QKV8]/aEzg)''J?_9_UX=K/IuFQ:%I}K&'<?TvS8*&~qnS?`-IgJMB&AL=l@bJKs+^x#.'/Itb8Dj#l](&t)Fegr@mmIE>{vveD-JI6}CWIt^FMI43qX7Pk04I+G7%DaA}rI*#SwCNa$SH{Y}2WRC.vHy++,/MefRHarLLpdOHNHQ-P/:~c0&HKQFB[=V`<&fw?CQH|1F&dZWv794X1H'CknS^$RTH%4jn:XmO-H%1:WX)H2VG_Z16K32e9G_91bfRCnIGOi0o<Lt-iGA>A<jGQKz&Y?paR8RMaFx+2_/&VzjFiiRIxj=mQFO/=M+3P/;FNxI?DkRDcFN7|x.TKW9FFVzsOo~H{F:m)qorRXJE}9zka99=QEvDU#Y,zHGEGy=4ulU&BEAjVFj,q{tE4lOnW?TWqDn1dq{t3_rDmCk,:2xPRDV0T/V~.+NDLi*G*.C`IDB~<}(.5NPCr[M/_yKM~&9.lOD/uH=C+?z'dk<k5C*IUH0VRuSBx>>seyK`=BbRMzKgbcbBPzH.uD`-]BLgfQ=xexEBI+_HJ9IMaB,[:2ToHepB+X3*[)$BYB+>9^f392~Axv6U^$r;hA^OvK2x#7-APmA~fChf0ACJ%Y6'}o}A7sXQZ4PuBA72GSIs0pOA0z<;'b}h)@{[d]UODDD@e2{Q@Qz([@TJb5`Rl(G@S7iR*$Rle@Qg76-TpdW@C<Gm=lc#v@=,5WEki}g@;-idNY:$6@%O^^xU%oH?iT1b0op1&?Z~Uxp^Z@C?T6}T76v1_?Lv%/wxR9P?BV3ioT@LB?;Y@S~tBx.>m]tY5Vo#G>CSqH[sMk5>,'U%$abxE>*?cN,c7h%>#IAr9ACZ>=_y%9]G&#7=^m2L{J)pJ=3K{x&iz1J%ZRxW^+_fP<kOS-3>y^0<ipjk0Q7^8<Ru$)8xONK<4N#{8cJ/O<)n,VJ9v]B;xi;esWtJm:p)ak{6mww:nK,kiQj7W:nAd#YkxZ*:Y0q0fRIL{%CEeoSU</a:U+sVvH1Y,:MTnZ;,7bB:F~6t7zddl"
end PySem.W.Fast
set_option maxRecDepth 100000 in
set_option maxHeartbeats 0 in
theorem PySem.Challenge.cw_ringtrade_k47_undone_in_order_holds : PySem.Challenge.rw_ringtrade_k47_undone_in_order.Holds := by
 w_on; o_law; k_head; (case hw=>w_witness2)
 k_fill
 refine DL.U9 (l:=PySem.Challenge.rw_ringtrade_k47_undone_in_order) (k:=13) (x := "_law_script") (F:=Law.CW) rfl rfl ⟨rfl,by decide,by decide,rfl⟩ (fun w h Y=>PySem.W.kIn_of Y) Law.main ?C
 intro w mg fa h KX G hmg
 obtain ⟨ua,ub,ue,uf,ug,uh,ui,uj,uk⟩:(DL.io (L2.gM KX) "kept" Law.ze)∧(DL.io (L2.gM KX) "order" Law.wb)∧(DL.io (L2.gM KX) "owns" Law.pR)∧(DL.io (L2.gM KX) "past" Law.zf)∧(DL.io (L2.gM KX) "wishes" Law.mn)∧(DL.MakeAt (L2.gM KX) mg "Kept" "Kept" "Kept.__init__" Law.oj)∧(DL.MakeAt (L2.gM KX) mg "Desk" "Desk" "Desk.__init__" Law.nw)∧(DL.MethAt (L2.gM KX) "Desk" "undo" "Desk.undo" Law.lW)∧(DL.MethAt (L2.gM KX) "Desk" "tell" "Desk.tell" Law.lV):=by
  dsimp only [L2.gM]
  refine' Law.U7 KX G ?ul ?um ?un ?uo ?up ?uq ?ur ?ut ?uu ?uv ?uw ?ux ?uy ?uz ?u0 ?u1 ?u2 ?u3 ?u4 ?u5 ?u6 ?u7 ?u8 ?u9 ?va ?vb ?vc ?vd ?ve ?vf ?vg ?vh ?vi ?vj ?vk ?vl ?vm ?vn ?vo ?vp ?vq ?vr ?vs
  case ul|um=>k_is
  case un|uo|up|uq|ur=>kernel_rfl
  case ut=>k_is
  case uu|uv|uw|ux|uy=>kernel_rfl
  case uz|u0|u1|u2|u3|u4=>k_is
  case u5=>kernel_rfl
  case u6=>k_is
  case u7=>kernel_rfl
  case u8|u9|va|vb=>k_is
  case vc=>kernel_rfl
  case vd=>k_is
  case ve=>kernel_rfl
  case vf|vg|vh|vi|vj=>k_is
  case vk=>kernel_rfl
  case vl|vm|vn|vo=>k_is
  case vp=>kernel_rfl
  case vq|vr|vs=>k_is
 have vt:∃ C D b c,DL.Xcl (L2.gM KX) mg "NoLine" C b∧DL.Xcl (L2.gM KX) mg "NoDeed" D c∧(Value.ref C::b).contains (.ref D) = false:=by
  dsimp only [L2.gM]
  refine' Law.U8 KX G ?ac ?oc ?ec ?uc ?nc ?ad ?od ?ed ?ud ?nd ?m
  case ac=>k_is
  case oc=>exact rfl
  case ec=>decide +kernel
  case uc|nc=>kernel_rfl
  case ad=>k_is
  case od=>exact rfl
  case ed=>decide +kernel
  case ud|nd=>kernel_rfl
  case m=>decide +kernel
 have T:Law.Txt (L2.gM KX) mg:=by
  dsimp only [L2.gM]
  constructor
  all_goals first | (refine' PySem.W.mg_none_of KX G ?_; k_is) | (refine' DL.Ms KX G ?azz ?lzz ?czz ?kzz; (case azz|lzz|czz|kzz=>k_is)) | (refine' DL.UK KX G ?azz ?lzz ?tzz ?czz ?kzz; (case azz|lzz|tzz|czz|kzz=>k_is)) | (refine' DL.Va KX G ?zzz; (case zzz=>k_is)) | (refine' DL.Vb KX G ?zzz; (case zzz=>k_is)) | (refine' DL.UX KX G ?zzz ?lzz; (case zzz|lzz=>k_is)) | exact ub | exact ue | exact ug | exact uh | exact ua | exact uf | exact vt
 have vu:DL.DefAt (L2.gM KX) mg "law" Law.vS:=by
  dsimp only [L2.gM]
  refine' DL.Ms KX G ?azz ?lzz ?czz ?kzz; (case azz|lzz|czz|kzz=>k_is)
 have vv:DL.QAt PySem.Challenge.rw_ringtrade_k47_undone_in_order.prog w (L2.gM KX) mg "QUESTIONS" Law.eU:=by
  dsimp only [L2.gM]
  refine' DL.Mr [("rings",?tQ0,"answer_rings",?bQ0),("asks",?tQ1,"answer_asks",?bQ1),("deal",?tQ2,"answer_deal",?bQ2),("by",?tQ3,"answer_by",?bQ3),("of",?tQ4,"answer_of",?bQ4),("lot",?tQ5,"answer_lot",?bQ5),("eat",?tQ6,"answer_eat",?bQ6)] KX G ?zzz ?lzz ?ezz ?szz ?nzz
  case zzz|lzz=>k_is
  case ezz|szz=>exact rfl
  (case nzz=>refine ⟨?_,?_,?_,?_,?_,?_,?_,trivial⟩ <;> (dsimp only; k_is))
 have vw:DL.QAt PySem.Challenge.rw_ringtrade_k47_undone_in_order.prog w (L2.gM KX) mg "CHANGES" Law.fX:=by
  dsimp only [L2.gM]
  refine' DL.Mr [("rows",?tC0,"after_rows",?bC0),("own",?tC1,"after_own",?bC1),("none",?tC2,"after_none",?bC2),("order",?tC3,"after_order",?bC3)] KX G ?zzz ?lzz ?ezz ?szz ?nzz
  case zzz|lzz=>k_is
  case ezz|szz=>exact rfl
  (case nzz=>refine ⟨?_,?_,?_,?_,trivial⟩ <;> (dsimp only; k_is))
 refine DL.Vc hmg vu (fun _ _ _ _ _ _ us hl=>match us,hl with | [_],_=>rfl) fun f fd Fn base=>?_
 exact Law.Vd T Fn uj uk ui vv vw
end
