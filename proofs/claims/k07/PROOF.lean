import PyProof.Rows.All
import Wide.All
import OpenK.AllK
import Wide.FinOn
import Lean
import PyProof.EqAt
import PyProof.EqKinds
import PyProof.TupleCall
import PyProof.Rows.SetFrom
import KE.KSortTup
import PyProof.Draws
import PyProof.EnumMake
import PyProof.ListRange
import PyProof.Rows.EnumRows
import PyProof.SetRoads
import PyProof.Rows.MinMaxN
import PyProof.Rows.MaxTwoN
import PyProof.CollectIter
import PyProof.Rows.SortShell
import PySem.Challenge.RW_ringtrade_k07_rounds_walked
noncomputable section
open PySem renaming Value->a_,wpAny_bind->e_,Shared->g_,starEach->l_,wpAny_pure->o_,Program->z_,wpAny->C_,model->F_,World->Ht,Around->HA,sizeLine_eq->HF,compareOp->HI,mainGlobals->Il,wpAny_holding->Ip,assignEach->Iq,mem_of_lookup->Ix,FuncData->Iy,wpAny_call_entry->IB,attributeBase->ID,wpAny_newObj_type->II,wpAny_mono->IK,wpAny_loadPart'->IL,wpAny_passesOwn->Jb,wpAny_truthy_bool->Jc,foldedSetIterable->Jd,behindInMarks->Ji,cLine->Jl,wpAny_callSpecial?_slot->Jq,sysModules->Jr,wpAny_Call_Name_kw->Js,codeAny_builtin->Ju,rawInt->Jy,Keyword->Jz,Scope->JC,binaryOp->JD,NameKind->JE,bootBuiltins->JH,Builtin->JJ,wpAny_askSetting->JL,tupleKind_room_in1->JR,wpAny_pyIter_tuple->JS,keywordEach->JT,wpAny_setField->J0,wpAny_pyIter_enum->J2,wpAny_setState_of->J4,swapsWith->J7,wpAny_execs_nil->Kh,assign->Ki,letOwnedTupleGo->Kj,codeAny_mono->Km,PassesOwn->Ks,firstArgMember->Ky,wpAny_letOwnedTupleGo_enum->Kz,holding->KJ,codeAny->KL,wpAny_standAt->KS,wpAny_comprehension_free->KY,plainId_quiet->K2,bindArgs->K9,backToKw->La,wpAny_pyNext_enum_itemD->Lb,intKind->Ld,call_meets->Ll,callerA->Ln,notedBy->Lo,wpAny_pyNext_enum_endD->Lr,builtinLookup_eq_fast->LA,pyNext->LC,compEnvC->LF,wpAny_field->LG,isSubtype_type->LL,tupleKind->LO,BindsTo->LP,valueAt->LQ,swapsWithSole->LV,swappedStores->LW,wpAny_newList->LY,intKind_is->L9,wpAny_assign_Name->Mc,concat_meets->Mh,wpAny_pyIter_list->Mi,relabel->Mj,wpAny_storeSet_of->Mo,wpAny_pyIter_slot->Mq,wpAny_execs_cons->Mt,noFill_tuple_add->Mu,seqItems?->My,wpAny_isInstance->MC,seqIndex_of->ME,atKey->MF,wpAny_of_eq->MG,codeAny_of_tree->MN,typeLookup_type->MP,wpAny_updateSeq->MQ,builtinsNs->MW,GenState->MX,wpAny_Name->MY,pyIter->MZ,bindL->M0,bindC->M3,PlainAttrs->M4,call->M5,closureFor->M_,wpAny_rule->Nb,setsByText->Ni,CmpOp->NQ,cellsFrom->NR,pickOrder->NT,hashInt->NU,setItem->NW,standAt->NX,Result->NZ,getItem->N0,cellOf->N4,setNext->N7
open List renaming getElem?_set_ne->b_,mem_cons_self->c_,mem_cons_of_mem->f_,getElem?_eq_some_iff->i_,getElem?_eq_getElem->j_,getElem?_set_self->k_,length_map->m_,size_toArray->n_,range->r_,getD_eq_getElem?_getD->s_,getElem?_map->t_,mem_map->w_,mem_cons->x_,map_cons->y_,mem_range->D_,all_eq_true->E_,nodup_cons->Hu,mem_append_right->Hx,find?_cons->Hz,mem_singleton->HB,mem_filter->HC,map_append->HD,getElem?_append_left->HG,length_append->HJ,getElem?_eq_none->HL,replicate->HM,mem_filterMap->HP,map_map->HR,append_nil->HU,pairwise_cons->HV,filter_cons->HW,mem_append_left->H_,ne_nil_of_mem->Ib,nodup_append->Ig,getElem?_replicate->Im,mem_flatten->Io,filterMap_cons->Iw,length_cons->IA,mem_of_getElem?->IF,mem_append->IJ,length_set->IM,foldl_cons->IP,Nodup->IQ,getElem?_range->IT,getElem?_append_right->IY,nodup_iff_pairwise_ne->IZ,length_replicate->I0,drop_eq_getElem_cons->I_,append_assoc->Je,pairwise_map->Jh,all_cons->Jj,map_congr_left->Jm,lookup_cons->Jp,length_pos_of_mem->Jt,any_cons->Jv,ext_getElem?->JA,flatten_cons->JB,mem_erase_of_ne->JG,length_take->JI,getElem_mem->JK,pairwise_iff_getElem->JM,exists_mem_of_ne_nil->JO,reverse_cons->JX,getElem?_set->J3,length_filter_le->J6,drop_length->J9,not_mem_nil->J_,any_eq_true->Kb,nodup_range->Kc,range_eq_range'->Kf,eq_nil_of_length_eq_zero->Kg,length_nil->Kk,map_nil->Kn,any_map->Kp,find?_eq_none->KF,getElem?_eq_none_iff->KH,length->KM,length_filterMap_le->K6,take_of_length_le->Lp,of_mem_zip->Lv,range_succ->Ly,length_singleton->Lz,getElem?_toArray->LB,range'->LK,erase_cons_tail->LM,filter_eq_self->LU,map_take->LZ,map_drop->L0,zip_cons_cons->L7,filterMap_map->L_,getElem?_take->Ma,take_sublist->Mg,length_range->Ml,foldl_append->Mr,length_drop->Mw,ext_getElem->MA,range'_succ->MB,map_const'->MJ,forIn_cons->MK,find?_some->MR,idxOf_cons->MT,nil_perm->NJ,map_id->Oe
open Bool renaming false_ne_true->d_,and_eq_true->Hs,eq_iff_iff->HE,false_eq_true->HK,false_or->KW,false_and->LD,and_false->LI,or_eq_true->ML,not_false->Ng,and_self->NK
open PySem.Heap renaming get?_push_of_some->h_,lt_size->p_,get?_push_size->u_,get?_update_self->Ih,get?_update_other->Iu,size_push->IE,SameBut->JU,get?_none_of_le->Ke,FunFrames->M9,ExtBut->Ob
open Nat renaming le_refl->q_,lt_of_lt_of_le->A_,ne_of_lt->B_,zero_le->Hy,le_trans->HZ,lt_irrefl->Ii,ne_of_gt->Ir,lt_succ_self->Iz,le_of_eq->JV,lt_succ_of_lt->JZ,mod_lt->Ka,le_succ->KO,le_of_lt->Lf,lt_trans->Lm,lt_of_succ_lt_succ->Ls,zero_add->Lu,succ_le_succ->Mx,div_add_mod->MS,add_comm->N8,add_mul->Od
open Option.some renaming inj->G_,injEq->Mb
open PySem.PassesOwn renaming never->Hv
open PySem.F renaming plainAttrs_list->Hw,slot_list_append->HX,type_list_append->HY,slot_list_remove->JQ,args_tuple_add_2->KU,slot_list_insert->KZ,slot_dict_values->K0,type_list_remove->K5,entry_tuple_add->K_,slot_tuple_add->Lh
open Int renaming toNat_natCast->HN,ofNat_inj->Jx,natCast_nonneg->KG,toNat_of_nonneg->LS,ofNat_lt->N9
open Array renaming getElem?_toList->HQ,length_toList->IR,getD_eq_getD_getElem?->Kq,perm_iff_toList_perm->Kw,toArray_toList->LH,toList_extract->LJ,append_assoc->L4,toList_push->Mn,getD->M6,ext'->M8,toList->NV
open PySem.PyData renaming canLay0->Ia,depth->Iv,eqvAll->Jk,eqv->JF,canLayAll0->KP,depthAll->Lx
open PySem.Obj renaming mapSeq->Ic,data_mapFields->Ik,isFreed_of_fields->J5,cls_mapFields->KQ,putSet->Nf,mapFields->NM
open PySem.Heap.SameBut renaming update->Ie
open Option renaming map_some->Ij,isSome_map->KN,bind_some->Lc,map_none->Lw,isSome->NP
open Ne renaming symm->IG
open PySem.Builtin.Str renaming occurrences->IH
open PySem.W renaming kas_desc->IS,kas_asc->IW,kas_place->Jw,kas_rev->JY,kas_descPart->Ko,kas_sort->Kx,kas_count->Mv,kas_tail3->NS,hideAll->N1
open PyProof.Rows renaming callWith_type1->IU,IntsAre->IV,seqObj->Jo,envOfC->JW,callWith_builtin1->J8,AllBare->Kd,get?_update_seq->Kl,boot_sorted->K1,subscriptTail_builtinR->Li,listUpdate_at->LX,entry_list_sort->MI,boot_isinstance->MM,IsTup->MV,assign_Tuple->Nv
open False renaming elim->IX
open PySem.Builtin.SmallTypes renaming nextOf->Ja
open PySem.SetTable renaming insertAt->Jf,below->KA,grown->Nd
open PySem.Around renaming under_plainId->Jg,under->Lg
open Function renaming comp_apply->Jn,comp_def->KR
open Classical renaming byContradiction->JN
open PySem.Builtin.List renaming listTooLong->JP,listExtendWith->Kr,listSameRef->K3,listLengthHint->MU,listFitsIndex->Na
open LawfulBEq renaming eq_of_beq->Kt
open PySem.Calls renaming Name_function_global->Ku,call_function_entry->KI,callWith_builtin->Lj,spliced_cons->L5,spliced_nil->Mf
open PySem.SeqAt.EqAt renaming int_int->Kv,int_str->L1,str_int->L3,same->MH
open List.Perm renaming refl->KB,cons_inv->L8
open PySem.Challenge renaming pw_ringtrade_k07_rounds_walked->K4,rw_ringtrade_k07_rounds_walked->K7
open PySem.Builtin.Range renaming rangeSize->K8
open PySem.Str renaming ofString->Lq
open PySem.BindsTo renaming of_defaults->LR
open PySem.SeqAt renaming EqAt->L6,shaped->N5
open PySem.Code renaming isFrame->Me,isGuard->NY,frames->Oa
open Prod renaming fst->Mm
open PySem.pickOrder renaming go->Mp
open PySem.Builtin.Tuple renaming tupleCompareSizes->Ms
open PySem.MeetsSeq renaming EqGives->Mz
open Sum.inl renaming inj->MD
open PySem.Builtin.Frozenset renaming updateFrom->MO,newClass->Nh,sizeOf->NN
open PyProof.Rows.SortSt renaming mk'->M7
open PyProof.Rows.IntsAre renaming int_at->Nc,nums->N6
open PySem.EqNone renaming eq_none_none->Nj,eq_none_bool->Nk,eq_bool_none->Nl,ne_none_none->Np,ne_none_bool->Nq,ne_bool_none->Nr,eq_none_int->Nx,eq_none_str->Ny,eq_int_none->Nz,eq_str_none->NB,ne_none_int->ND,ne_none_str->NE,ne_int_none->NF,ne_str_none->NH
open PySem.EqMixed renaming eq_bool_str->Nn,eq_str_bool->No,ne_bool_str->Nt,ne_str_bool->Nu,eq_int_str->NA,eq_str_int->NC,ne_int_str->NG,ne_str_int->NI
open PySem.Value renaming isStrOf->Nw,isInt->N_
open PySem.Shared renaming TypeIs->NL
open List.Pairwise renaming imp_of_mem->NO
open Eq renaming trans->Oc
open PySem.W.WShape renaming has->Of
open PySem.Draws renaming list->Og
open PySem.Walks renaming list->Oh
open PyProof.Rows.IsTup renaming new->Oi
set_option Elab.async false
set_option linter.all false
set_option maxRecDepth 100000
set_option maxHeartbeats 4000000
section
namespace L2
open PySem PySem.Spec PyProof.Rows
abbrev au:=Sum Int Str
def jU:au->a_->Bool
|.inl k,v=>N_ k v
|.inr x,v=>Nw x v
def sv(w:Ht):au->Int
|.inl k=>NU k
|.inr x=>hashStr w x
theorem keyIs_shape:∀{k:au}{v:a_},jU k v=true->(∃i t,k=Sum.inl i/\v=Value.int i t)\/(∃x t,k=Sum.inr x/\v=Value.str x t)
|.inl i,v,h=>by obtain⟨t,e⟩:=Value.isInt_shape (k:=i) (v:=v) h;exact .inl ⟨i,t,rfl,e⟩
|.inr x,v,h=>by obtain⟨t,e⟩:=Value.isStrOf_shape (x:=x) (v:=v) h;exact .inr ⟨x,t,rfl,e⟩
theorem ET(i:Int)(t:Tok):jU (.inl i) (.int i t)=true:=by simp[jU,N_]
theorem EU(x:Str)(t:Tok):jU (.inr x) (.str x t)=true:=by simp[jU,Nw]
theorem Bp(a b:Int):decide ((Sum.inl a:au)=Sum.inl b)=(a==b):=by
 by_cases e:a=b
 .subst e;simp
 .have h:¬ (Sum.inl a:au)=Sum.inl b:=fun q=>e (MD q);rw[decide_eq_false h];exact(beq_eq_false_iff_ne.mpr e).symm
theorem Bs(a b:Str):decide ((Sum.inr a:au)=Sum.inr b)=decide (a=b):=by
 by_cases e:a=b
 .subst e;simp
 .have h:¬ (Sum.inr a:au)=Sum.inr b:=fun q=>e (Sum.inr.inj q);rw[decide_eq_false h,decide_eq_false e]
theorem Bq(a:Int)(b:Str):decide ((Sum.inl a:au)=Sum.inr b)=false:=decide_eq_false (fun q=>nomatch q)
theorem Br(a:Str)(b:Int):decide ((Sum.inr a:au)=Sum.inl b)=false:=decide_eq_false (fun q=>nomatch q)
def d5(prog:z_)(w:Ht):PySem.KeyKind prog w au where
 is:=jU
 hash:=sv w
 inj:=fun v a b ha hb=>by
  rcases keyIs_shape ha with⟨i,t,rfl,rfl⟩|⟨x,t,rfl,rfl⟩
  .rcases keyIs_shape hb with⟨j,u,rfl,e⟩|⟨y,u,rfl,e⟩
   .injection e with e1 _;rw[e1]
   .exact nomatch e
  .rcases keyIs_shape hb with⟨j,u,rfl,e⟩|⟨y,u,rfl,e⟩
   .exact nomatch e
   .injection e with e1 _;rw[e1]
 byValue:=fun k v h=>by rcases keyIs_shape h with⟨i,t,rfl,rfl⟩|⟨x,t,rfl,rfl⟩ <;> rfl
 pyHash:=fun hv h=>by
  rcases keyIs_shape hv with⟨i,t,rfl,rfl⟩|⟨x,t,rfl,rfl⟩
  .exact wpAny_pyHash_int h
  .exact wpAny_pyHash_str h
 eqBool:=fun hu hv h=>by
  rcases keyIs_shape hu with⟨i,t,rfl,rfl⟩|⟨x,t,rfl,rfl⟩
  .rcases keyIs_shape hv with⟨j,u,rfl,rfl⟩|⟨y,u,rfl,rfl⟩
   .rw[Bp]at h;exact wpAny_eqBool_int h
   .rw[Bq]at h;exact L1 i t y u _ _ _ _ h
  .rcases keyIs_shape hv with⟨j,u,rfl,rfl⟩|⟨y,u,rfl,rfl⟩
   .rw[Br]at h;exact L3 x t j u _ _ _ _ h
   .rw[Bs]at h;exact wpAny_eqBool_str h
 «strs»:=fun k x t v h=>by
  rcases keyIs_shape h with⟨i,u,rfl,e⟩|⟨y,u,rfl,e⟩
  .exact nomatch e
  .injection e with e1 _
   subst e1;cases v <;> rfl
theorem Ga(prog:z_)(w:Ht)(i:Int)(t:Tok):(d5 prog w).is (.inl i) (.int i t)=true:=ET i t
theorem Gb(prog:z_)(w:Ht)(x:Str)(t:Tok):(d5 prog w).is (.inr x) (.str x t)=true:=EU x t
inductive V where
 |non|bl (b:Bool)|int (i:Int)|str (x:Str)|byt (b:Array UInt8)|flt (b:UInt64)|ref (a:Addr)|ty (n:String)
 deriving DecidableEq
def ao:V->a_->Prop
|.non,u=>u=Value.none
|.bl b,u=>u=Value.bool b
|.int i,u=>∃t,u=Value.int i t
|.str x,u=>∃t,u=Value.str x t
|.byt b,u=>∃t,u=Value.bytes b t
|.flt b,u=>∃t,u=Value.float b t
|.ref a,u=>u=Value.ref a
|.ty n,u=>u=Value.type n
abbrev ai:List V->List a_->Prop:=Paired ao
theorem ai.length{xs:List V}{us:List a_}(r:ai xs us):xs.length=us.length:=Paired.length r
theorem ai.get:∀{xs:List V}{us:List a_}{i:Nat}{x:V},ai xs us->xs[i]? = some x->∃u,us[i]? = some u/\ao x u
|_,_,_,_,.nil,e=>by simp at e
|_,_,0,_,.cons r _,e=>by simp at e;subst e;exact⟨_,rfl,r⟩
|_,_,i+1,x,.cons _ t,e=>by obtain⟨u,h1,h2⟩:=ai.get (i:=i) (x:=x) t (by simpa using e);exact⟨u,by simpa using h1,h2⟩
theorem ai.set{x:V}{u:a_}(r:ao x u):∀{xs:List V}{us:List a_}(i:Nat),ai xs us->ai (xs.set i x) (us.set i u)
|_,_,_,.nil=>.nil
|_,_,0,.cons _ t=>.cons r t
|_,_,i+1,.cons q t=>.cons q (ai.set r i t)
theorem ai.append{xs ys:List V}{us ws:List a_}(h:ai xs us)(h':ai ys ws):ai (xs++ys) (us++ws):=by induction h with
|nil=>exact h'
|cons r _ ih=>exact .cons r ih
theorem ai.take:∀{xs:List V}{us:List a_}(n:Nat),ai xs us->ai (xs.take n) (us.take n)
|_,_,0,_=>.nil
|_,_,_+1,.nil=>.nil
|_,_,n+1,.cons r t=>.cons r (ai.take n t)
theorem ai.drop:∀{xs:List V}{us:List a_}(n:Nat),ai xs us->ai (xs.drop n) (us.drop n)
|_,_,0,r=>r
|_,_,_+1,.nil=>.nil
|_,_,n+1,.cons _ t=>ai.drop n t
theorem ai.none_of:∀{xs:List V}{us:List a_}{i:Nat},ai xs us->xs[i]? = none->us[i]? = none:=fun{xs us i} r e=>by have h1:=r.length;have h2:xs.length<=i:=KH.mp e;exact KH.mpr (by omega)
def cb:Option V->Option a_->Prop
|some v,some u=>ao v u
|none,none=>True
|_,_=>False
def KV{κ:Type}:List (κ×V)->List (κ×a_)->Prop:=Paired fun(p:κ×V)(q:κ×a_)=>p.1=q.1/\ao p.2 q.2
def kV:au->V
|.inl i=>.int i
|.inr x=>.str x
inductive HO where
 |lst (xs:List V)
 |tup (xs:List V)
 |dK (kvs:List (au×V))|dT (kvs:List (List au×V))
 |set (S:Int->Bool) (n:Nat)
 |ins (C dx:Addr) (fs:List (Str×V))
 |own (x:Addr)
 |xd (fs:List (Str×V))
 |met (f x:Addr)
 |rng (lo hi:Int)
 |frz (o:Obj) (u:HO)
 |tbl (ps:Array a_)
 |ext (φ:Heap->Prop)
abbrev Hp:=Addr->Option HO
def upd(H:Hp)(a:Addr)(o:HO):Hp:=fun b=>if b=a then some o else H b
theorem bM{H:Hp}{a:Addr}{o:HO}:upd H a o a=some o:=by unfold upd;rw[if_pos rfl]
theorem aW{H:Hp}{a b:Addr}{o:HO}(h:b≠a):upd H a o b=H b:=by unfold upd;rw[if_neg h]
theorem AK{H:Hp}{a b:Addr}{o u:HO}(h:H a=some o)(h':H b=some u)(d:o≠u):a≠b:=by intro e;subst e;rw[h]at h';exact d (G_ h')
theorem iN{H:Hp}{a b:Addr}{o:HO}(h:H a=some o)(h':H b=none):a≠b:=by intro e;subst e;rw[h]at h';cases h'
section
variable(P:z_)(w:Ht)
def bq(H:Hp)(h:Heap)(a:Addr):HO->Prop
|.lst xs=>xs.length<=sizeLine/\∃(its:List a_)(n:Nat),ai xs its/\h.get? a=some { cls:=.type "list",data:=.seq its.toArray n }
|.tup xs=>xs.length<=sizeLine/\∃its:List a_,ai xs its/\MV h a its.toArray/\∃o,h.get? a=some o/\o.dict=none
|.dK kvs=>kvs.length<=sizeLine/\(a==Jr)=false/\∃vs,KV kvs vs/\h.DictOf (d5 P w) a vs
| .dT kvs=>kvs.length<=sizeLine/\(a == Jr)=false/\∃xs:List (List au × Addr × a_),
   Paired (fun(p:List au×V)(q:List au×Addr×a_)=>p.1=q.1/\H q.2.1=some (.tup (p.1.map kV))/\ao p.2 q.2.2) kvs xs /\∃o es ep,h.get? a=some o/\o.ExactDict/\o.data=.dict es ep/\es.toList=xs.map (entryOfKey (LO (d5 P w)))/\(xs.map (·.1)).Nodup
|.set S n=>h.SetOf (Ld P w) a S n
| .ins C dx fs=>H dx=some (.own a)/\fs.length<=1000/\dx≠a/\h.get? a=some (W.instObj C dx) /\
   ∃mA,h.Ns1 dx mA/\(∀f,cb (fs.lookup f) (mA f))/\PySem.Within mA (fs.map (·.1))
|.own _=>∃o,h.get? a=some o
|.xd fs=>∃mA,h.Ns1 a mA/\∀f,cb (fs.lookup f) (mA f)
|.rng lo hi=>∃t u v,h.get? a=some { cls:=.type "range",data:=.fields #[.int lo t,.int hi u,.int 1 v] }
|.frz o u=>h.get? a=some o/\bq H h a u
|.tbl ps=>h.get? a=some { cls:=.none,data:=.fields ps }
|.met f x=>h.get? a=some (W.methodObj (.ref f) (.ref x))
|.ext φ=>φ h/\(∃o,h.get? a=some o)/\∀h1 h2:Heap,φ h1->(∀o,h1.get? a=some o->h2.get? a=some o)->φ h2
def bU(H:Hp)(h:Heap):Prop:=∀a o,H a=some o->bq P w H h a o
end
section
variable{P:z_}{w:Ht}{H H':Hp}{h h':Heap}{a:Addr}{o:HO}
theorem bq.lt(x:bq P w H h a o):a<h.objs.size:=by cases o with
|lst xs=>obtain⟨_,_,_,_,e⟩:=x;exact p_ e
|tup xs=>obtain⟨_,_,_,p,_⟩:=x;exact p.lt
|dK kvs=>obtain⟨_,_,_,_,o,_,_,e,_⟩:=x;exact p_ e
|dT kvs=>obtain⟨_,_,_,_,o,_,_,e,_⟩:=x;exact p_ e
|set S n=>obtain⟨o,_,_,_,e,_⟩:=x;exact p_ e
|ins C dx fs=>obtain⟨_,_,_,e,_⟩:=x;exact p_ e
|own y=>obtain⟨_,e⟩:=x;exact p_ e
|xd fs=>obtain⟨_,⟨_,_,_,e,_⟩,_⟩:=x;exact p_ e
|rng lo hi=>obtain⟨_,_,_,e⟩:=x;exact p_ e
|frz ob u=>obtain⟨e,_⟩:=x;exact p_ e
|tbl ps=>exact p_ (show h.get? a=some _ from x)
|met f y=>exact p_ (show h.get? a=some _ from x)
|ext φ=>obtain⟨_,⟨_,e⟩,_⟩:=x;exact p_ e
theorem Paired.mapP{α β:Type}{F G:α->β->Prop}{l₁:List α}{l₂:List β}(h:Paired F l₁ l₂)(f:∀a b,F a b->G a b):Paired G l₁ l₂:=by induction h with
|nil=>exact .nil
|cons r _ ih=>exact .cons (f _ _ r) ih
theorem bq.stay(x:bq P w H h a o)(k:∀b u,(b=a\/H b=some (.own a))->h.get? b=some u->h'.get? b=some u)(ho:∀b,H b=some (.own a)->H' b=some (.own a))(ht:∀b xs,H b=some (.tup xs)->H' b=some (.tup xs)):bq P w H' h' a o:=by induction o with
|lst xs=>obtain⟨z,its,n,r,e⟩:=x;exact⟨z,its,n,r,k _ _ (.inl rfl) e⟩
|tup xs=>obtain⟨z,its,r,⟨ob,e,c⟩,ob2,e2,c2⟩:=x;exact⟨z,its,r,⟨ob,k _ _ (.inl rfl) e,c⟩,ob2,k _ _ (.inl rfl) e2,c2⟩
|dK kvs=>obtain⟨z,y,vs,r,ob,es,ep,e,c⟩:=x;exact⟨z,y,vs,r,ob,es,ep,k _ _ (.inl rfl) e,c⟩
|dT kvs=>obtain⟨z,y,xs,r,ob,es,ep,e,c⟩:=x;exact⟨z,y,xs,Paired.mapP r fun p q z=>⟨z.1,ht _ _ z.2.1,z.2.2⟩,ob,es,ep,k _ _ (.inl rfl) e,c⟩
|set S n=>obtain⟨ob,es,ep,t,e,c⟩:=x;exact⟨ob,es,ep,t,k _ _ (.inl rfl) e,c⟩
|ins C dx fs=>obtain⟨d,z,ne,e,mA,⟨od,es,ep,e2,c⟩,r⟩:=x;exact⟨ho _ d,z,ne,k _ _ (.inl rfl) e,mA,⟨od,es,ep,k _ _ (.inr d) e2,c⟩,r⟩
|own y=>obtain⟨ob,e⟩:=x;exact⟨ob,k _ _ (.inl rfl) e⟩
|xd fs=>obtain⟨mA,⟨od,es,ep,e,c⟩,r⟩:=x;exact⟨mA,⟨od,es,ep,k _ _ (.inl rfl) e,c⟩,r⟩
|rng lo hi=>obtain⟨t,u,v,e⟩:=x;exact⟨t,u,v,k _ _ (.inl rfl) e⟩
|frz ob u ih=>obtain⟨e,q⟩:=x;exact⟨k _ _ (.inl rfl) e,ih q⟩
|tbl ps=>have e:h.get? a=some { cls:=.none,data:=.fields ps }:=x;show h'.get? a=some { cls:=.none,data:=.fields ps };exact k a _ (.inl rfl) e
|met f y=>have e:h.get? a=some (W.methodObj (.ref f) (.ref y)):=x;show h'.get? a=some (W.methodObj (.ref f) (.ref y));exact k a _ (.inl rfl) e
|ext φ=>obtain⟨p,⟨o,e⟩,st⟩:=x;exact⟨st _ _ p fun o q=>k _ _ (.inl rfl) q,⟨o,k _ _ (.inl rfl) e⟩,st⟩
theorem bU.lt(x:bU P w H h)(e:H a=some o):a<h.objs.size:=(x a o e).lt
theorem bU.fresh(x:bU P w H h)(e:h.objs.size<=a):H a=none:=by cases q:H a with
|none=>rfl
|some u=>exact absurd (A_ (x.lt q) e) (Ii _)
theorem bU.kept(x:bU P w H h)(k:∀b u,h.get? b=some u->h'.get? b=some u):bU P w H h':=fun a o e=>(x a o e).stay (fun b u _ q=>k b u q) (fun _ q=>q) fun _ _ q=>q
theorem bU.laid(x:bU P w H h)(k:∀b u,h.get? b=some u->h'.get? b=some u)(hp:h.objs.size<=a)(new:bq P w (upd H a o) h' a o):bU P w (upd H a o) h':=fun b u e=>by
 have hn:=x.fresh hp;by_cases hb:b=a
 .subst hb;rw[bM]at e;cases e;exact new
 .rw[aW hb]at e;exact(x b u e).stay (fun c v _ q=>k c v q) (fun c q=>by rw[aW (iN q hn)];exact q) fun c xs q=>by rw[aW (iN q hn)];exact q
end
def Rd(H:Hp)(a:Addr)(u:HO):Prop:=H a=some u\/∃o,H a=some (.frz o u)
theorem Rd.of{H:Hp}{a:Addr}{u:HO}(h:H a=some u):Rd H a u:=.inl h
theorem Rd.ok{P:z_}{w:Ht}{H:Hp}{h:Heap}{a:Addr}{u:HO}(r:Rd H a u)(x:bU P w H h):bq P w H h a u:=by
 rcases r with r|⟨o,r⟩
 .exact x a u r
 .obtain⟨_,q⟩:=x a _ r;exact q
def mz:Option HO->Prop
|some (.lst _)=>True
|some (.dK _)=>True
|some (.dT _)=>True
|some (.set _ _)=>True
|some (.ins _ _ _)=>True
|some (.ext _)=>True
|_=>False
section
variable{P:z_}{w:Ht}{H:Hp}{h h':Heap}{x e:Addr}{o':HO}
theorem bU.write(ok:bU P w H h)(mu:mz (H x))(he:e=x\/H e=some (.own x))(k:∀b u,b≠e->h.get? b=some u->h'.get? b=some u)(heo:∃u,h'.get? e=some u)(new:bq P w (upd H x o') h' x o'):bU P w (upd H x o') h':=fun b u q=>by
 have nown:∀c y,H c=some (.own y)->c≠x:=fun c y r z=>by subst z;rw[r]at mu;exact mu
 have ntup:∀c xs,H c=some (.tup xs)->c≠x:=fun c xs r z=>by subst z;rw[r]at mu;exact mu
 by_cases hb:b=x
 .subst hb;rw[bM]at q;cases q;exact new
 .rw[aW hb]at q;by_cases hbe:b=e
  .have q':H b=some (.own x):=by
    rcases he with z|z
    .exact absurd (hbe.trans z) hb
    .rw[hbe];exact z
   rw[q]at q';cases q';obtain⟨v,hv⟩:=heo;exact⟨v,by rw[hbe];exact hv⟩
  .refine(ok b u q).stay (fun c v hc r=>k c v ?_ r) (fun c r=>by rw[aW (nown c b r)];exact r) fun c xs r=>by rw[aW (ntup c xs r)];exact r
   rcases hc with rfl|hc
   .exact hbe
   .rintro rfl
    rcases he with z|z
    .exact nown c b hc z
    .rw[hc]at z;cases z;exact hb rfl
end
structure Un(fs ex:List Addr)(H H':Hp)(h h':Heap):Prop where
 keep:∀b o,h.get? b=some o->H b=none->b∉fs->b∉ex->h'.get? b=some o
 slot:∀b o,h.get? b=some o->H b=none->b∈fs->b∉ex->∃sl,h'.get? b=some { o with slots:=sl }
 free:∀b o,h.get? b=some o->H b=none->b∉ex->H' b=none
 there:∀b o,h.get? b=some o->b∉ex->∃o',h'.get? b=some o'
 tups:∀b xs,H b=some (.tup xs)->H' b=some (.tup xs)
 frzs:∀b o u,H b=some (.frz o u)->H' b=some (.frz o u)
 tbls:∀b ps,H b=some (.tbl ps)->∃more,H' b=some (.tbl (ps++more))
section
variable{fs fs' ex ex':List Addr}{H H1 H2:Hp}{h h1 h2 h':Heap}{a x e:Addr}{o:HO}
theorem Un.any(u:Un fs ex H H1 h h1){b:Addr}{ob:Obj}(q:h.get? b=some ob)(n:H b=none)(hx:b∉ex):∃sl,h1.get? b=some { ob with slots:=sl }:=by
 by_cases hb:b∈fs
 .exact u.slot b ob q n hb hx
 .exact⟨ob.slots,u.keep b ob q n hb hx⟩
theorem Un.trans(a:Un fs ex H H1 h h1)(b:Un fs ex H1 H2 h1 h2):Un fs ex H H2 h h2 where
 keep:=fun c ob q n hc hx=>b.keep c ob (a.keep c ob q n hc hx) (a.free c ob q n hx) hc hx
 slot:=fun c ob q n hc hx=>by obtain⟨sl,e1⟩:=a.slot c ob q n hc hx;obtain⟨sl',e2⟩:=b.slot c _ e1 (a.free c ob q n hx) hc hx;exact⟨sl',e2⟩
 free:=fun c ob q n hx=>by obtain⟨o',e1⟩:=a.there c ob q hx;exact b.free c o' e1 (a.free c ob q n hx) hx
 there:=fun c ob q hx=>by obtain⟨o',e1⟩:=a.there c ob q hx;exact b.there c o' e1 hx
 tups:=fun c xs q=>b.tups c xs (a.tups c xs q)
 frzs:=fun c ob xs q=>b.frzs c ob xs (a.frzs c ob xs q)
 tbls:=fun c ps q=>by obtain⟨m1,e1⟩:=a.tbls c ps q;obtain⟨m2,e2⟩:=b.tbls c _ e1;exact⟨m1++m2,by rw[e2,L4]⟩
theorem Un.kept(k:∀b u,h.get? b=some u->h'.get? b=some u):Un fs ex H H h h':=⟨fun b ob q _ _ _=>k b ob q,fun b ob q _ _ _=>⟨ob.slots,k b ob q⟩,fun _ _ _ n _=>n,fun b ob q _=>⟨ob,k b ob q⟩,fun _ _ q=>q,fun _ _ _ q=>q,fun _ ps q=>⟨#[],by rw[q];simp⟩⟩
theorem Un.refl:Un fs ex H H h h:=Un.kept fun _ _ q=>q
theorem Un.laid(k:∀b u,h.get? b=some u->h'.get? b=some u)(hp:h.objs.size<=a)(hn:H a=none):Un fs ex H (upd H a o) h h' where
 keep:=fun b u q _ _ _=>k b u q
 slot:=fun b u q _ _ _=>⟨u.slots,k b u q⟩
 free:=fun b u q n _=>by rw[aW (B_ (A_ (p_ q) hp))];exact n
 there:=fun b u q _=>⟨u,k b u q⟩
 tups:=fun b xs q=>by rw[aW (iN q hn)];exact q
 frzs:=fun b u xs q=>by rw[aW (iN q hn)];exact q
 tbls:=fun b ps q=>⟨#[],by rw[aW (iN q hn),q];simp⟩
theorem Un.write(mu:mz (H x))(he:e=x\/H e=some (.own x))(k:∀b u,b≠e->h.get? b=some u->h'.get? b=some u)(heo:∃u,h'.get? e=some u):Un fs ex H (upd H x o) h h':=by
 have hx:∀b,H b=none->b≠x:=fun b n z=>by subst z;rw[n]at mu;exact mu
 have hb:∀b,H b=none->b≠e:=fun b n z=>by
  subst z;rcases he with r|r
  .exact hx b n r
  .rw[n]at r;cases r
 have hm:∀b u,H b=some u->¬ mz (some u)->b≠x:=fun b u q nm z=>by subst z;rw[q]at mu;exact nm mu
 refine⟨fun b u q n _ _=>k b u (hb b n) q,fun b u q n _ _=>⟨u.slots,k b u (hb b n) q⟩,fun b u q n _=>by rw[aW (hx b n)];exact n,fun b u q _=>?_,fun b xs q=>by rw[aW (hm b _ q fun z=>z)];exact q,fun b u xs q=>by rw[aW (hm b _ q fun z=>z)];exact q,fun b ps q=>⟨#[],by rw[aW (hm b _ q fun z=>z),q];simp⟩⟩;by_cases hbe:b=e
 .subst hbe;exact heo
 .exact⟨u,k b u hbe q⟩
theorem Un.mono(u:Un fs ex H H1 h h1)(hs:∀b∈fs,b∈fs')(hx:∀b∈ex,b∈ex'):Un fs' ex' H H1 h h1:=⟨fun b ob q n hb he=>u.keep b ob q n (fun z=>hb (hs b z)) fun z=>he (hx b z),fun _ _ q n _ he=>u.any q n fun z=>he (hx _ z),fun b ob q n he=>u.free b ob q n fun z=>he (hx b z),fun b ob q he=>u.there b ob q fun z=>he (hx b z),u.tups,u.frzs,u.tbls⟩
end
def trk(h:Heap)(H:Hp):List Addr:=(r_ h.objs.size).filter fun a=>(H a).isSome
def dk(h:Heap)(H:Hp):Heap:=W.hideAll h (trk h H)
theorem EN(h:Heap)(H:Hp):(dk h H).objs.size=h.objs.size:=W.hideAll_size _ _
theorem Dw{h:Heap}{H:Hp}{b:Addr}{o:Obj}(e:h.get? b=some o)(n:H b=none):(dk h H).get? b=some o:=W.hideAll_get _ e fun hm=>by have q:(H b).isSome=true:=(HC.mp hm).2;rw[n]at q;simp at q
theorem CK{h:Heap}{H:Hp}{b:Addr}{o:Obj}(e:(dk h H).get? b=some o):h.get? b=some o/\H b=none:=by have e':h.get? b=some o:=W.of_hideAll (trk h H) e;refine⟨e',?_⟩;cases q:H b with
|none=>rfl
|some x=>have hm:b∈trk h H:=HC.mpr ⟨D_.mpr (p_ e'),by simp[q]⟩;have z:(dk h H).get? b=none:=W.hideAll_none (trk h H) hm;rw[z]at e;cases e
def k4(g h:Heap)(L:Addr):List (Addr×Obj):=(r_ h.objs.size).filterMap fun a=>if a=L\/(g.get? a).isSome=true then none else(h.get? a).map fun o=>(a,o)
theorem nW{g h:Heap}{L a:Addr}{o:Obj}(h1:a≠L)(h2:g.get? a=none)(h3:h.get? a=some o):(a,o)∈k4 g h L:=HP.mpr ⟨a,D_.mpr (p_ h3),by simp[h1,h2,h3]⟩
theorem GA{g h:Heap}{L:Addr}{p:Addr×Obj}(hp:p∈k4 g h L):p.1≠L/\g.get? p.1=none/\h.get? p.1=some p.2:=by
 obtain⟨b,_,e⟩:=HP.mp hp;split at e
 .cases e
 .rename_i hn;cases q:h.get? b with
 |none=>rw[q]at e;simp at e
 |some u=>rw[q]at e;simp only[Ij,Mb]at e;subst e;refine⟨fun z=>hn (.inl z),?_,q⟩;show g.get? b=none;cases r:g.get? b with
  |none=>rfl
  |some v=>exact(hn (.inr (by simp[r]))).elim
def rest(g h:Heap)(L d:Addr):List (Addr×Obj):=(k4 g h L).filter fun p=>decide (p.1≠d)
theorem wQ{g h:Heap}{L:Addr}:News g L h (k4 g h L):=fun p hp=>let⟨a,b,c⟩:=GA hp;⟨c,a,b⟩
structure Mod(K:W.Frag)(mg:Str->Option a_)(base:Heap):Prop where
 kin:K.In base
 glob:base.Ns Il mg
 blt:∃mb,base.Ns MW mb/\∀x:Str,x≠"__name__"->mb x=JH x
 nolimit:base.NoLimit
structure Cx where
 prog:z_
 w:Ht
 K:W.Frag
 mg:Str->Option a_
 base:Heap
 A:HA
 N:List Str
 s₀:g_
 H₀:Hp
 env:Env
 outer:List Env
 stack:List Env
 ex:List Addr
 fn:Str->Bool
 calm:Bool
 pn:List (Addr×Obj)
 xe:a_->g_->Prop
def cJ(l:List Env):List Addr:=l.filterMap (·.frame)
abbrev Cx.fs(X:Cx):List Addr:=cJ X.outer
def dG(sc:JC)(x:Str):Prop:=sc.names.lookup x=some .local\/sc.names.lookup x=some .cell\/sc.names.lookup x=some .free
def fO(sc:JC)(x:Str):Prop:=sc.names.lookup x=some .local\/sc.names.lookup x=some .cell
theorem c8{sc:JC}{x:Str}(h:(match sc.names.lookup x with|some .local=>true|some .cell=>true|some .free=>true|_=>false)=true):dG sc x:=by
 revert h;unfold dG;split<;>intro h
 .exact .inl (by assumption)
 .exact .inr (.inl (by assumption))
 .exact .inr (.inr (by assumption))
 .cases h
def sJ(env:Env)(h:Heap)(m:Str->Option a_)(x:Str)(u:a_):Prop:=(env.kindOf x=some .local/\m x=some u)\/((env.kindOf x=some .cell\/env.kindOf x=some .free)/\∃c,env.cells.lookup x=some c/\h.IsCell c (some u))
structure Cx.Ok(X:Cx):Prop where
 mod:Mod X.K X.mg X.base
 kind:X.env.scope.kind=.function
 glob:X.env.globals=Il
 blt:X.env.builtins=MW
 above:X.s₀.heap.objs.size<=X.env.locals
 inj:∀x y c,X.env.cells.lookup x=some c->X.env.cells.lookup y=some c->x=y
 has:∀x,(X.env.kindOf x=some .cell\/X.env.kindOf x=some .free)->∃c,X.env.cells.lookup x=some c
 cab:∀x c,X.fn x=true->X.env.cells.lookup x=some c->X.s₀.heap.objs.size<=c
 hd:X.calm=true->X.A.handled=none
 frames:X.A.frames=some X.stack
 stk:X.stack=X.outer\/(X.stack=X.env::X.outer/\X.env.frame=some X.env.locals)
 exf:∀b∈X.ex,b≠X.env.locals/\∀x c,X.env.cells.lookup x=some c->c≠b
 bs:∀b o,X.base.get? b=some o->X.s₀.heap.get? b=some o/\X.H₀ b=none
 bsz:X.base.objs.size<=X.s₀.heap.objs.size
 noex:∀b o,X.base.get? b=some o->b∉X.ex
 exfs:∀b∈X.ex,b∉X.fs
 funs:X.s₀.heap.FunFrames X.base X.outer
 frf:∀b∈X.fs,X.H₀ b=none
structure Inv(X:Cx)(pz:List (Addr×Obj))(σ:List (Option V))(H:Hp)(s:g_):Prop where
 ok:X.Ok
 os:s.os=X.s₀.os
 bare:Kd s.gens
 base:Un X.fs X.ex X.H₀ H X.s₀.heap s.heap
 loc:∃m,s.heap.Ns X.env.locals m/\∀(i:Nat)(x:Str)(v:V),X.N[i]? = some x->σ[i]? = some (some v)->dG X.env.scope x->∃u,ao v u/\sJ X.env s.heap m x u
 cell:∀x c,X.env.cells.lookup x=some c->∃v,s.heap.IsCell c v
 free:H X.env.locals=none
 freeC:∀x c,X.env.cells.lookup x=some c->H c=none
 pin:∀p∈X.pn++pz,s.heap.get? p.1=some p.2/\H p.1=none/\p.1≠X.env.locals/\p.1∉X.fs/\∀v,p.2.data≠.cell v
 hok:bU X.prog X.w H s.heap
 len:σ.length=X.N.length
section
variable{X:Cx}{pz:List (Addr×Obj)}{σ:List (Option V)}{H H':Hp}{s:g_}{h':Heap}
theorem Cx.Ok.nofr(ok:X.Ok){b:Addr}{o:Obj}(e:X.base.get? b=some o):b∉X.fs:=fun hb=>by have:=(ok.funs.mem hb).1;rw[e]at this;cases this
theorem Inv.bs(I:Inv X pz σ H s):∀b o,X.base.get? b=some o->s.heap.get? b=some o/\H b=none:=fun b o e=>⟨I.base.keep b o (I.ok.bs b o e).1 (I.ok.bs b o e).2 (I.ok.nofr e) (I.ok.noex b o e),I.base.free b o (I.ok.bs b o e).1 (I.ok.bs b o e).2 (I.ok.noex b o e)⟩
theorem Inv.bk(I:Inv X pz σ H s):∀b o,X.base.get? b=some o->s.heap.get? b=some o:=fun b o e=>(I.bs b o e).1
theorem Inv.mod(I:Inv X pz σ H s):Mod X.K X.mg X.base:=I.ok.mod
theorem Inv.kIn(I:Inv X pz σ H s):X.K.In s.heap:=I.ok.mod.kin.keeps I.bk
theorem Inv.nolimit(I:Inv X pz σ H s):s.heap.NoLimit:=I.ok.mod.nolimit.keeps I.bk
theorem Inv.fr(I:Inv X pz σ H s):∃m,Fr X.base X.env.locals s.heap m:=let⟨m,hn,_⟩:=I.loc
 ⟨m,hn,I.bk,HZ I.ok.bsz I.ok.above⟩
theorem Inv.lt(I:Inv X pz σ H s):X.env.locals<s.heap.objs.size:=let⟨_,hn,_⟩:=I.loc;hn.lt
theorem Inv.sz(I:Inv X pz σ H s):X.s₀.heap.objs.size<=s.heap.objs.size:=HZ I.ok.above (Lf I.lt)
theorem Inv.nofs(I:Inv X pz σ H s){a:Addr}(h:s.heap.objs.size<=a):a∉X.fs:=fun hb=>by obtain⟨_,o,ho,_⟩:=I.ok.funs.mem hb;exact absurd (A_ (p_ ho) (HZ I.sz h)) (Ii _)
theorem Inv.cne(I:Inv X pz σ H s):∀x c,X.env.cells.lookup x=some c->c≠X.env.locals:=fun x c e z=>by obtain⟨v,o,ho,hd⟩:=I.cell x c e;obtain⟨m,⟨o',es,ep,ho',hd',_⟩,_⟩:=I.loc;rw[z,ho']at ho;cases ho;rw[hd']at hd;cases hd
theorem Inv.funs(I:Inv X pz σ H s):s.heap.FunFrames X.base X.outer:=by
 have all:∀(l:List Env),(∀b∈cJ l,b∈X.fs)->X.s₀.heap.FunFrames X.base l->s.heap.FunFrames X.base l:=by
  intro l
  induction l with
 |nil=>intro _ _;trivial
 |cons env r ih=>intro hs hl;obtain⟨hk,⟨L,o,hf,hn,ho,hd⟩,hr⟩:=hl;have hL:L∈X.fs:=hs L (by unfold cJ;rw[Iw,hf];exact c_);obtain⟨sl,e⟩:=I.base.slot L o ho (I.ok.frf L hL) hL fun z=>I.ok.exfs L z hL;exact⟨hk,⟨L,_,hf,hn,e,hd⟩,ih (fun b hb=>hs b (by unfold cJ;rw[Iw,hf];exact f_ _ hb)) hr⟩
 exact all X.outer (fun _ hb=>hb) I.ok.funs
theorem Inv.stack(I:Inv X pz σ H s):s.heap.FunFrames X.base X.stack:=by
 rcases I.ok.stk with e|⟨e,hf⟩
 .rw[e];exact I.funs
 .rw[e];obtain⟨m,hn,_⟩:=I.loc;refine .cons (by rw[I.ok.kind];decide) hf hn ?_ I.funs;exact Ke (HZ I.ok.bsz I.ok.above)
theorem Inv.stkSub(I:Inv X pz σ H s):∀b∈cJ X.stack,b∈X.env.locals::X.fs:=fun b hb=>by
 rcases I.ok.stk with e|⟨e,hf⟩
 .rw[e]at hb;exact f_ _ hb
 .rw[e]at hb;unfold cJ at hb;rw[Iw,hf]at hb;exact hb
theorem Inv.stkFree(I:Inv X pz σ H s):∀b∈cJ X.stack,H b=none:=fun b hb=>by
 rcases x_.mp (I.stkSub b hb)with e|hb
 .rw[e];exact I.free
 .obtain⟨_,o,ho,_⟩:=I.ok.funs.mem hb;exact I.base.free b o ho (I.ok.frf b hb) fun z=>I.ok.exfs b z hb
theorem Inv.step{g':Array MX}{t':Nat}{d':Drawn}{ch:List Addr}(I:Inv X pz σ H s)(hch:∀b∈ch,(b∈X.ex\/X.s₀.heap.objs.size<=b)/\b≠X.env.locals/\(∀x c,X.env.cells.lookup x=some c->c≠b)/\∀p∈X.pn++pz,p.1≠b)(keep:∀b o,b≠X.env.locals->b∉X.fs->b∉ch->s.heap.get? b=some o->H b=none->h'.get? b=some o)(slot:∀b o,b≠X.env.locals->b∈X.fs->b∉ch->s.heap.get? b=some o->H b=none->∃sl,h'.get? b=some { o with slots:=sl })(free:∀b o,b∉ch->s.heap.get? b=some o->H b=none->H' b=none)(there:∀b o,b∉ch->s.heap.get? b=some o->∃o',h'.get? b=some o')(tups:∀b xs,H b=some (.tup xs)->H' b=some (.tup xs))(frzs:∀b o u,H b=some (.frz o u)->H' b=some (.frz o u))(tbls:∀b ps,H b=some (.tbl ps)->∃more,H' b=some (.tbl (ps++more)))(ns:∀m,s.heap.Ns X.env.locals m->h'.Ns X.env.locals m)(hok:bU X.prog X.w H' h')(hg:Kd g'):Inv X pz σ H' { s with heap:=h',gens:=g',drawn:=d',toks:=t' }:=by
 have neL:∀b o,X.s₀.heap.get? b=some o->b≠X.env.locals:=fun b o e=>B_ (A_ (p_ e) I.ok.above);have neC:∀b o,X.s₀.heap.get? b=some o->b∉X.ex->b∉ch:=fun b o e hx hb=>by
  rcases(hch b hb).1 with z|z
  .exact hx z
  .exact absurd (A_ (p_ e) z) (Ii _)
 have cellK:∀x c,X.env.cells.lookup x=some c->∀v,s.heap.IsCell c v->h'.IsCell c v:=fun x c e v ⟨o,ho,hd⟩=>by
  have nch:c∉ch:=fun z=>(hch c z).2.2.1 x c e rfl;by_cases hc:c∈X.fs
  .obtain⟨sl,q⟩:=slot c o (I.cne x c e) hc nch ho (I.freeC x c e);exact⟨_,q,hd⟩
  .exact⟨o,keep c o (I.cne x c e) hc nch ho (I.freeC x c e),hd⟩
 refine⟨I.ok,I.os,hg,⟨fun b o e n hb hx=>?_,fun b o e n hb hx=>?_,fun b o e n hx=>?_,fun b o e hx=>?_,fun b xs e=>tups b xs (I.base.tups b xs e),fun b o xs e=>frzs b o xs (I.base.frzs b o xs e),fun b ps e=>?_⟩,?_,fun x c e=>?_,?_,fun x c e=>?_,fun p hp=>?_,hok,I.len⟩
 .exact keep b o (neL b o e) hb (neC b o e hx) (I.base.keep b o e n hb hx) (I.base.free b o e n hx)
 .obtain⟨sl,e1⟩:=I.base.slot b o e n hb hx;obtain⟨sl',e2⟩:=slot b _ (neL b o e) hb (neC b o e hx) e1 (I.base.free b o e n hx);exact⟨sl',e2⟩
 .obtain⟨o',e1⟩:=I.base.there b o e hx;exact free b o' (neC b o e hx) e1 (I.base.free b o e n hx)
 .obtain⟨o',e1⟩:=I.base.there b o e hx;exact there b o' (neC b o e hx) e1
 .obtain⟨m1,e1⟩:=I.base.tbls b ps e;obtain⟨m2,e2⟩:=tbls b _ e1;exact⟨m1++m2,by rw[e2,L4]⟩
 .obtain⟨m,hn,hl⟩:=I.loc;refine⟨m,ns m hn,fun i x v e1 e2 e3=>?_⟩;obtain⟨u,r,l⟩:=hl i x v e1 e2 e3;refine⟨u,r,?_⟩;rcases l with l|⟨k,c,e,z⟩
  .exact .inl l
  .exact .inr ⟨k,c,e,cellK x c e _ z⟩
 .obtain⟨v,z⟩:=I.cell x c e;exact⟨v,cellK x c e v z⟩
 .obtain⟨m,⟨o,_,_,ho,_⟩,_⟩:=I.loc;exact free _ o (fun z=>(hch _ z).2.1 rfl) ho I.free
 .obtain⟨v,o,ho,hd⟩:=I.cell x c e;exact free c o (fun z=>(hch c z).2.2.1 x c e rfl) ho (I.freeC x c e)
 .obtain⟨e,n,ne,nf,d⟩:=I.pin p hp;have nch:p.1∉ch:=fun z=>(hch p.1 z).2.2.2 p hp rfl;exact⟨keep p.1 p.2 ne nf nch e n,free p.1 p.2 nch e n,ne,nf,d⟩
theorem Inv.un{t':Nat}(I:Inv X pz σ H s)(u:Un X.fs [] H H' s.heap h')(hok:bU X.prog X.w H' h'):Inv X pz σ H' { s with heap:=h',toks:=t' }:=by obtain⟨m,⟨o,es,ep,ho,r⟩,_⟩:=id I.loc;obtain⟨sl,hL⟩:=u.any ho I.free (by simp);exact I.step (g':=s.gens) (d':=s.drawn) (ch:=[]) (fun _ z=>nomatch z) (fun b o _ hb _ e n=>u.keep b o e n hb (by simp)) (fun b o _ hb _ e n=>u.slot b o e n hb (by simp)) (fun b o _ e n=>u.free b o e n (by simp)) (fun b o _ e=>u.there b o e (by simp)) u.tups u.frzs u.tbls (fun m' hm=>by obtain⟨o',es',ep',ho',r'⟩:=hm;rw[ho]at ho';cases ho';exact⟨_,es',ep',hL,r'⟩) hok I.bare
theorem Inv.call{g':Array MX}{t':Nat}{d':Drawn}{ch:List Addr}(I:Inv X pz σ H s)(u:Un (cJ X.stack) ch H H' s.heap h')(hok:bU X.prog X.w H' h')(hg:Kd g')(hch:∀b∈ch,(b∈X.ex\/X.s₀.heap.objs.size<=b)/\b≠X.env.locals/\(∀x c,X.env.cells.lookup x=some c->c≠b)/\∀p∈X.pn++pz,p.1≠b):Inv X pz σ H' { s with heap:=h',gens:=g',drawn:=d',toks:=t' }:=by obtain⟨m,⟨o,es,ep,ho,r⟩,_⟩:=id I.loc;obtain⟨sl,hL⟩:=u.any ho I.free fun z=>(hch _ z).2.1 rfl;exact I.step (ch:=ch) hch (fun b o hL hb hc e n=>u.keep b o e n (fun z=>(x_.mp (I.stkSub b z)).elim hL hb) hc) (fun b o _ _ hc e n=>u.any e n hc) (fun b o hc e n=>u.free b o e n hc) (fun b o hc e=>u.there b o e hc) u.tups u.frzs u.tbls (fun m' hm=>by obtain⟨o',es',ep',ho',r'⟩:=hm;rw[ho]at ho';cases ho';exact⟨_,es',ep',hL,r'⟩) hok hg
theorem Inv.turned{t':Nat}{it:Addr}(I:Inv X pz σ H s)(k:∀b o,b≠it->s.heap.get? b=some o->h'.get? b=some o)(hn:H it=none)(hL:it≠X.env.locals)(h1:it∈X.ex\/X.s₀.heap.objs.size<=it)(h2:∀x c,X.env.cells.lookup x=some c->c≠it)(h3:∀p∈X.pn++pz,p.1≠it):Inv X pz σ H { s with heap:=h',toks:=t' }:=by
 have nit:∀b u,H b=some u->b≠it:=fun b u e z=>by rw[z,hn]at e;cases e
 refine I.step (g':=s.gens) (d':=s.drawn) (ch:=[it]) (fun b hb=>?_) (fun b o _ _ hc e _=>k b o (fun z=>hc (by simp[z])) e) (fun b o _ _ hc e _=>⟨o.slots,k b o (fun z=>hc (by simp[z])) e⟩) (fun _ _ _ _ n=>n)
  (fun b o hc e=>⟨o,k b o (fun z=>hc (by simp[z])) e⟩) (fun _ _ e=>e) (fun _ _ _ e=>e) (fun b ps e=>⟨#[],by rw[e];simp⟩) (fun m hm=>?_) (fun b u e=>?_) I.bare
 .have e:b=it:=by simpa using hb
  subst e;exact⟨h1,hL,h2,h3⟩
 .obtain⟨o,es,ep,ho,r⟩:=hm;exact⟨o,es,ep,k _ o (IG hL) ho,r⟩
 .refine(I.hok b u e).stay (fun c v hc q=>k c v ?_ q) (fun _ q=>q) fun _ _ q=>q;rcases hc with z|z
  .rw[z];exact nit b u e
  .exact nit c _ z
theorem Inv.tok(I:Inv X pz σ H s)(t:Nat):Inv X pz σ H { s with toks:=t }:=I.un (h':=s.heap) (t':=t) Un.refl I.hok
theorem Inv.kept{t':Nat}(I:Inv X pz σ H s)(k:∀b u,s.heap.get? b=some u->h'.get? b=some u):Inv X pz σ H { s with heap:=h',toks:=t' }:=I.un (Un.kept k) (I.hok.kept k)
theorem Inv.laid{a:Addr}{o:HO}{t':Nat}(I:Inv X pz σ H s)(k:∀b u,s.heap.get? b=some u->h'.get? b=some u)(hp:s.heap.objs.size<=a)(new:bq X.prog X.w (upd H a o) h' a o):Inv X pz σ (upd H a o) { s with heap:=h',toks:=t' }:=I.un (Un.laid k hp (I.hok.fresh hp)) (I.hok.laid k hp new)
theorem Inv.write{x e:Addr}{o:HO}{t':Nat}(I:Inv X pz σ H s)(mu:mz (H x))(he:e=x\/H e=some (.own x))(k:∀b u,b≠e->s.heap.get? b=some u->h'.get? b=some u)(heo:∃u,h'.get? e=some u)(new:bq X.prog X.w (upd H x o) h' x o):Inv X pz σ (upd H x o) { s with heap:=h',toks:=t' }:=I.un (Un.write mu he k heo) (I.hok.write mu he k heo new)
theorem Inv.pins_of{pins':List (Addr×Obj)}(I:Inv X pz σ H s)(h:∀p∈pins',s.heap.get? p.1=some p.2/\H p.1=none/\p.1≠X.env.locals/\p.1∉X.fs/\∀v,p.2.data≠.cell v):Inv X pins' σ H s:=⟨I.ok,I.os,I.bare,I.base,I.loc,I.cell,I.free,I.freeC,fun p hp=>(IJ.mp hp).elim (fun z=>I.pin p (H_ _ z)) (h p),I.hok,I.len⟩
theorem wR{N:List Str}(hN:N.Nodup){i j:Nat}{x:Str}(a:N[i]? = some x)(b:N[j]? = some x):i=j:=by obtain⟨h1,e1⟩:=i_.mp a;obtain⟨h2,e2⟩:=i_.mp b;exact(List.getElem_inj hN).mp (e1.trans e2.symm)
theorem xJ{M:Model}{A:HA}{E:a_->g_->Prop}{i:Nat}{x:Str}{v:V}{u:a_}{Q:Unit->g_->Prop}(I:Inv X pz σ H s)(hN:X.N.Nodup)(hi:X.N[i]? = some x)(hx:fO X.env.scope x)(r:ao v u)(h:∀s',Inv X pz (σ.set i (some v)) H s'->(∃a,JU a s.heap s'.heap/\(a=X.env.locals\/X.env.cells.lookup x=some a))->Q () s')(hf:X.fn x=true\/X.env.scope.names.lookup x=some .local:=by first|exact .inl rfl|exact .inr rfl|assumption):C_ M A (storeName X.env x u) Q E s:=by
 obtain⟨m,hn,hl⟩:=id I.loc;have hcls:(X.env.scope.kind==.class || (X.env.scope.kind==.module&&X.env.locals != X.env.globals))=false:=by rw[I.ok.kind];rfl
 have hiσ:i<σ.length:=by rw[I.len];exact(i_.mp hi).1
 have cne:=I.cne;have tracked:∀{a:Addr}{h':Heap},(∃o,s.heap.get? a=some o/\H a=none)->JU a s.heap h'->bU X.prog X.w H h':=fun{a h'} ha hs b ob e=>by
  obtain⟨_,_,hfree⟩:=ha;refine(I.hok b ob e).stay (fun c w' hc q=>(hs.2 c ?_).trans q) (fun _ q=>q) fun _ _ q=>q
  rintro rfl
  rcases hc with rfl|hc
  .rw[hfree]at e;cases e
  .rw[hfree]at hc;cases hc
 rcases hx with hk|hk
 .refine wpAny_storeName_local hk hn (fun h' hn' hs=>?_) hcls;obtain⟨oL,_,_,hoL,_⟩:=id hn;refine h _ ⟨I.ok,I.os,I.bare,⟨fun b o e n hb hx=>?_,fun b o e n hb hx=>?_,I.base.free,fun b o e hx=>?_,I.base.tups,I.base.frzs,I.base.tbls⟩,⟨_,hn',fun j y v' e1 e2 e3=>?_⟩,fun y c e=>?_,I.free,I.freeC,fun p hp=>?_,tracked ⟨oL,hoL,I.free⟩ hs,by simpa using I.len⟩ ⟨_,hs,.inl rfl⟩
  .exact(hs.2 b (B_ (A_ (p_ e) I.ok.above))).trans (I.base.keep b o e n hb hx)
  .obtain⟨sl,e1⟩:=I.base.slot b o e n hb hx;exact⟨sl,(hs.2 b (B_ (A_ (p_ e) I.ok.above))).trans e1⟩
  .obtain⟨o',e1⟩:=I.base.there b o e hx;exact⟨o',(hs.2 b (B_ (A_ (p_ e) I.ok.above))).trans e1⟩
  .by_cases hj:j=i
   .subst hj;rw[hi]at e1;cases e1;rw[k_ hiσ]at e2;cases e2;exact⟨u,r,.inl ⟨hk,by simp⟩⟩
   .rw[b_ (IG hj)]at e2;obtain⟨u',r',q⟩:=hl j y v' e1 e2 e3;refine⟨u',r',?_⟩;rcases q with⟨k,e⟩|⟨k,c,e,z⟩
    .refine .inl ⟨k,?_⟩;have:y≠x:=fun e=>hj (wR hN e1 (e▸hi));simp[this,e]
    .exact .inr ⟨k,c,e,z.sameBut hs (cne y c e)⟩
  .obtain⟨w',z⟩:=I.cell y c e;exact⟨w',z.sameBut hs (cne y c e)⟩
  .obtain⟨e,n,ne,nf,d⟩:=I.pin p hp;exact⟨(hs.2 p.1 ne).trans e,n,ne,nf,d⟩
 .have hfn:X.fn x=true:=by
   rcases hf with z|z
   .exact z
   .rw[z]at hk;cases hk
  obtain⟨c,hc⟩:=I.ok.has x (.inl hk);obtain⟨w',z⟩:=I.cell x c hc;refine wpAny_storeName_cell I.ok.kind hk hc z (fun h' hc' hs=>?_);obtain⟨oc,hoc,hocd⟩:=id z;refine h { s with heap:=h' } ⟨I.ok,I.os,I.bare,⟨fun b o e n hb hx=>?_,fun b o e n hb hx=>?_,I.base.free,fun b o e hx=>?_,I.base.tups,I.base.frzs,I.base.tbls⟩,⟨m,hn.sameBut hs (IG (cne x c hc)),fun j y v' e1 e2 e3=>?_⟩,fun y c' e=>?_,I.free,I.freeC,fun p hp=>?_,tracked ⟨oc,hoc,I.freeC x c hc⟩ hs,by simpa using I.len⟩ ⟨c,hs,.inr hc⟩
  .exact(hs.2 b (B_ (A_ (p_ e) (I.ok.cab x c hfn hc)))).trans (I.base.keep b o e n hb hx)
  .obtain⟨sl,e1⟩:=I.base.slot b o e n hb hx;exact⟨sl,(hs.2 b (B_ (A_ (p_ e) (I.ok.cab x c hfn hc)))).trans e1⟩
  .obtain⟨o',e1⟩:=I.base.there b o e hx;exact⟨o',(hs.2 b (B_ (A_ (p_ e) (I.ok.cab x c hfn hc)))).trans e1⟩
  .by_cases hj:j=i
   .subst hj;rw[hi]at e1;cases e1;rw[k_ hiσ]at e2;cases e2;exact⟨u,r,.inr ⟨.inl hk,c,hc,hc'⟩⟩
   .rw[b_ (IG hj)]at e2;obtain⟨u',r',q⟩:=hl j y v' e1 e2 e3;refine⟨u',r',?_⟩;rcases q with q|⟨k,c',e,z'⟩
    .exact .inl q
    .refine .inr ⟨k,c',e,z'.sameBut hs ?_⟩
     rintro rfl
     exact hj (wR hN e1 (I.ok.inj _ _ _ e hc▸hi))
  .by_cases hcc:c'=c
   .subst hcc;exact⟨_,hc'⟩
   .obtain⟨w2,z2⟩:=I.cell y c' e;exact⟨w2,z2.sameBut hs hcc⟩
  .obtain⟨e,n,ne,nf,d⟩:=I.pin p hp;refine⟨(hs.2 p.1 ?_).trans e,n,ne,nf,d⟩;intro q;rw[q,hoc]at e;have q':oc=p.2:=G_ e;exact d w' (by rw[<-q'];exact hocd)
theorem xy{M:Model}{A:HA}{E:a_->g_->Prop}{i:Nat}{x:Str}{v:V}{u:a_}{Q:Unit->g_->Prop}(I:Inv X pz σ H s)(hN:X.N.Nodup)(hi:X.N[i]? = some x)(hx:fO X.env.scope x)(r:ao v u)(h:∀s',Inv X pz (σ.set i (some v)) H s'->Q () s')(hf:X.fn x=true\/X.env.scope.names.lookup x=some .local:=by first|exact .inl rfl|exact .inr rfl|assumption):C_ M A (storeName X.env x u) Q E s:=xJ I hN hi hx r (fun s' I' _=>h s' I') hf
theorem Inv.call'{s':g_}{ch:List Addr}(I:Inv X pz σ H s)(ho:s'.os=s.os)(u:Un (cJ X.stack) ch H H' s.heap s'.heap)(hok:bU X.prog X.w H' s'.heap)(hg:Kd s'.gens)(hch:∀b∈ch,(b∈X.ex\/X.s₀.heap.objs.size<=b)/\b≠X.env.locals/\(∀x c,X.env.cells.lookup x=some c->c≠b)/\∀p∈X.pn++pz,p.1≠b):Inv X pz σ H' s':=by obtain⟨h',g',d',t',o'⟩:=s';have e:o'=s.os:=ho;subst e;exact I.call (g':=g') (t':=t') (d':=d') u hok hg hch
end
abbrev XK:=a_->Option Addr->Hp->Prop
abbrev St:=List (Option V)
abbrev VK:=V->Hp->Prop
abbrev TE:=St->Hp->VK->Prop
abbrev TT:=St->Hp->(Bool->Hp->Prop)->Prop
abbrev TA:=St->Hp->(List V->Hp->Prop)->Prop
structure Ends where
 nx:St->Hp->Prop
 rt:VK
 bk:St->Hp->Prop:=fun _ _=>False
 ct:St->Hp->Prop:=fun _ _=>False
abbrev TS:=Ends->St->Hp->Prop
def EP(X:Cx)(pz:List (Addr×Obj))(σ:St)(Q:VK)(u:a_)(s':g_):Prop:=∃v H',Inv X pz σ H' s'/\ao v u/\Q v H'
def TP(X:Cx)(pz:List (Addr×Obj))(σ:St)(Q:Bool->Hp->Prop)(b:Bool)(s':g_):Prop:=∃H',Inv X pz σ H' s'/\Q b H'
def AP(X:Cx)(pz:List (Addr×Obj))(σ:St)(Q:List V->Hp->Prop)(us:List a_)(s':g_):Prop:=∃vs H',Inv X pz σ H' s'/\ai vs us/\Q vs H'
def SP(X:Cx)(pz:List (Addr×Obj))(D:Ends)(f:Flow)(s':g_):Prop:=match f with
|.next=>∃σ' H',Inv X pz σ' H' s'/\D.nx σ' H'
|.brk=>∃σ' H',Inv X pz σ' H' s'/\D.bk σ' H'
|.cont=>∃σ' H',Inv X pz σ' H' s'/\D.ct σ' H'
|.ret u=>∃v σ' H',Inv X pz σ' H' s'/\ao v u/\D.rt v H'
def PE(X:Cx)(e:Expr)(t:TE):Prop:=∀(pz:List (Addr×Obj))(s:g_)(σ:St)(H:Hp)(Q:VK),Inv X pz σ H s->t σ H Q->C_ (F_ X.prog X.w) X.A (eval e X.env) (EP X pz σ Q) X.xe s
def PT(X:Cx)(e:Expr)(t:TT):Prop:=∀(pz:List (Addr×Obj))(s:g_)(σ:St)(H:Hp)(Q:Bool->Hp->Prop),Inv X pz σ H s->t σ H Q->C_ (F_ X.prog X.w) X.A (isTrue e X.env (eval e X.env)) (TP X pz σ Q) X.xe s
def PW(X:Cx)(e:Expr)(t:TT):Prop:=∀(whole:Sem a_)(pz:List (Addr×Obj))(s:g_)(σ:St)(H:Hp)(Q:Bool->Hp->Prop),Inv X pz σ H s->t σ H Q->C_ (F_ X.prog X.w) X.A (isTrue e X.env whole) (TP X pz σ Q) X.xe s
theorem PW.pt{X:Cx}{e:Expr}{t:TT}(h:PW X e t):PT X e t:=h _
def PA(X:Cx)(es:List Expr)(t:TA):Prop:=∀(pos:Pos)(pz:List (Addr×Obj))(s:g_)(σ:St)(H:Hp)(Q:List V->Hp->Prop),Inv X pz σ H s->t σ H Q->C_ (F_ X.prog X.w) X.A (spliced (backTo pos (l_ es X.env))) (AP X pz σ Q) X.xe s
def PS(X:Cx)(st:Stmt)(t:TS):Prop:=∀(pz:List (Addr×Obj))(s:g_)(σ:St)(H:Hp)(D:Ends),Inv X pz σ H s->t D σ H->C_ (F_ X.prog X.w) X.A (exec st X.env) (SP X pz D) X.xe s
def bb(X:Cx)(st:List Stmt)(t:TS):Prop:=∀(pz:List (Addr×Obj))(s:g_)(σ:St)(H:Hp)(D:Ends),Inv X pz σ H s->t D σ H->C_ (F_ X.prog X.w) X.A (execs st X.env) (SP X pz D) X.xe s
theorem aF{α:Type}{t:Sem α}{Q Q':α->g_->Prop}{M:Model}{A:HA}{E:a_->g_->Prop}{s:g_}(h:C_ M A t Q E s)(hQ:∀a s,Q a s->Q' a s):C_ M A t Q' E s:=IK h hQ fun _ _ x=>x
section
variable{X:Cx}
def rQ(i:Nat):TE:=fun σ H Q=>∃v,σ[i]? = some (some v)/\Q v H
def tC(v:V):TE:=fun _ H Q=>Q v H
theorem gO{i:Nat}{x:Str}{pos:Pos}(hN:X.N[i]? = some x)(hv:dG X.env.scope x)(hd:(x==("__debug__" : Str))=false:=by decide)(hcd:(x==("__classdict__" : Str))=false:=by decide):PE X (.Name x pos) (rQ i):=by
 intro pz s σ H Q I h;obtain⟨v,e,h⟩:=h;obtain⟨m,hn,hl⟩:=I.loc;obtain⟨u,r,l⟩:=hl i x v hN e hv;have fin:EP X pz σ Q u s:=⟨v,H,I,r,h⟩
 rcases l with⟨hk,hm⟩|⟨hk,c,hc,hcell⟩
 .exact MY (wpAny_loadName_local I.ok.kind hk hn hm fin) hd
 .rcases hk with hk|hk
  .exact MY (wpAny_loadName_cell I.ok.kind hk hc hcell fin) hd
  .exact MY (wpAny_loadName_free I.ok.kind hk hc hcell fin hcd) hd
theorem A8{i j pos}:PE X (.Constant (.int i) j pos) (tC (.int i)):=fun _ _ _ H _ I h=>wpAny_Constant_int ⟨.int i,H,I.tok _,⟨_,rfl⟩,h⟩
theorem AS{b j pos}:PE X (.Constant (.bool b) j pos) (tC (.bl b)):=fun _ _ _ H _ I h=>Constant_bool ⟨.bl b,H,I,rfl,h⟩
theorem A9{j pos}:PE X (.Constant .none j pos) (tC .non):=fun _ _ _ H _ I h=>Constant_none ⟨.non,H,I,rfl,h⟩
def Gl(X:Cx)(x:Str):Prop:=X.env.kindOf x=some .globalImplicit
theorem Dc{E:a_->g_->Prop}{pz:List (Addr×Obj)}{s:g_}{σ:St}{H:Hp}{x:Str}{u:a_}{pos:Pos}{Q:a_->g_->Prop}(I:Inv X pz σ H s)(hg:Gl X x)(hm:X.mg x=some u)(h:Q u s)(hd:(x==("__debug__" : Str))=false:=by decide):C_ (F_ X.prog X.w) X.A (eval (.Name x pos) X.env) Q E s:=Ku I.ok.kind hg (Calls.loadGlobal_global (by rw[I.ok.glob];exact I.mod.glob.keeps I.bk) hm h) hd
theorem ja{E:a_->g_->Prop}{pz:List (Addr×Obj)}{s:g_}{σ:St}{H:Hp}{x:Str}{u:a_}{pos:Pos}{Q:a_->g_->Prop}(I:Inv X pz σ H s)(hg:Gl X x)(hm:X.mg x=none)(hv:JH x=some u)(h:Q u s)(hn:x≠"__name__" := by decide)(hd:(x==("__debug__" : Str))=false:=by decide):C_ (F_ X.prog X.w) X.A (eval (.Name x pos) X.env) Q E s:=by obtain⟨mb,h1,h2⟩:=I.mod.blt;exact Ku I.ok.kind hg (Calls.loadGlobal_builtin (by rw[I.ok.glob];exact I.mod.glob.keeps I.bk) hm (by rw[I.ok.blt];exact h1.keeps I.bk) ((h2 x hn).trans hv) h) hd
theorem CW{x:Str}{v:V}{u:a_}{pos:Pos}(hg:Gl X x)(hm:X.mg x=none)(hv:JH x=some u)(r:ao v u)(hn:x≠"__name__" := by decide)(hd:(x==("__debug__" : Str))=false:=by decide):PE X (.Name x pos) (tC v):=fun _ _ _ H _ I h=>ja I hg hm hv ⟨v,H,I,r,h⟩ hn hd
variable{a b:Expr}{ta tb:TE}{pos:Pos}
def tB(t:TE):TT:=fun σ H Q=>t σ H fun x H1=>∃c,x=.bl c/\Q c H1
variable{tA tB':TT}{rest:List Expr}
def sf(t u:TT):TT:=fun σ H Q=>t σ H fun c H1=>if c=true then u σ H1 Q else Q false H1
def GV(t u:TT):TT:=fun σ H Q=>t σ H fun c H1=>if c=true then Q true H1 else u σ H1 Q
def rV(t:TT):TT:=fun σ H Q=>t σ H fun c H1=>Q (! c) H1
theorem C6(ha:PT X a tA):PW X (.BoolOp .And [a] pos) tA:=by intro wh pz s σ H Q I h;refine isTrue_and (aF (ha pz s σ H Q I h) fun c s1 e=>?_);cases c with
|true=>exact isTrue_and_nil e
|false=>exact e
theorem Cj(ha:PT X a tA):PW X (.BoolOp .Or [a] pos) tA:=by intro wh pz s σ H Q I h;refine isTrue_or (aF (ha pz s σ H Q I h) fun c s1 e=>?_);cases c with
|false=>exact isTrue_or_nil e
|true=>exact e
theorem Ci(ha:PT X a tA)(hb:PW X (.BoolOp .And (b::rest) pos) tB'):PW X (.BoolOp .And (a::b::rest) pos) (sf tA tB'):=by intro wh pz s σ H Q I h;refine isTrue_and (aF (ha pz s σ H _ I h) fun c s1 ⟨H1,I1,q1⟩=>?_);cases c with
|true=>exact hb wh pz s1 σ H1 Q I1 q1
|false=>exact⟨H1,I1,q1⟩
theorem Al(ha:PT X a tA)(hb:PW X (.BoolOp .Or (b::rest) pos) tB'):PW X (.BoolOp .Or (a::b::rest) pos) (GV tA tB'):=by intro wh pz s σ H Q I h;refine isTrue_or (aF (ha pz s σ H _ I h) fun c s1 ⟨H1,I1,q1⟩=>?_);cases c with
|true=>exact⟨H1,I1,q1⟩
|false=>exact hb wh pz s1 σ H1 Q I1 q1
theorem Cf(ha:PT X a tA):PT X (.UnaryOp .Not a pos) (rV tA):=by intro pz s σ H Q I h;exact isTrue_not (ha pz s σ H (fun c H1=>Q (! c) H1) I h)
def Av(ta tb:TE):TE:=fun σ H Q=>ta σ H fun x H1=>∃c,x=.bl c/\if c=true then tb σ H1 Q else Q (.bl false) H1
def rU(ta tb:TE):TE:=fun σ H Q=>ta σ H fun x H1=>∃c,x=.bl c/\if c=true then Q (.bl true) H1 else tb σ H1 Q
def AA(ta:TE):TE:=fun σ H Q=>ta σ H fun x H1=>∃c,x=.bl c/\Q (.bl (! c)) H1
theorem Bb{op}{t:TE}(h:PE X a t):PE X (.BoolOp op [a] pos) t:=fun pz s σ H Q I hw=>BoolOp_one (h pz s σ H Q I hw)
theorem A7(ha:PE X a ta)(hb:PE X (.BoolOp .And (b::rest) pos) tb):PE X (.BoolOp .And (a::b::rest) pos) (Av ta tb):=by intro pz s σ H Q I h;refine BoolOp_and (aF (ha pz s σ H _ I h) fun v s1 ⟨x,H1,I1,r1,q1⟩=>?_);obtain⟨c,rfl,q1⟩:=q1;cases r1;refine Jc ?_;cases c with
|true=>exact hb pz s1 σ H1 Q I1 q1
|false=>exact⟨.bl false,H1,I1,rfl,q1⟩
theorem Aj(ha:PE X a ta)(hb:PE X (.BoolOp .Or (b::rest) pos) tb):PE X (.BoolOp .Or (a::b::rest) pos) (rU ta tb):=by intro pz s σ H Q I h;refine BoolOp_or (aF (ha pz s σ H _ I h) fun v s1 ⟨x,H1,I1,r1,q1⟩=>?_);obtain⟨c,rfl,q1⟩:=q1;cases r1;refine Jc ?_;cases c with
|false=>exact hb pz s1 σ H1 Q I1 q1
|true=>exact⟨.bl true,H1,I1,rfl,q1⟩
theorem Ba(ha:PE X a ta):PE X (.UnaryOp .Not a pos) (AA ta):=by intro pz s σ H Q I h;refine UnaryOp_ (aF (ha pz s σ H _ I h) fun v s1 ⟨x,H1,I1,r1,q1⟩=>?_);obtain⟨c,rfl,q1⟩:=q1;cases r1;exact not_of (Jc ⟨.bl (! c),H1,I1,rfl,q1⟩)
def GX(t:TT)(ta tb:TE):TE:=fun σ H Q=>t σ H fun c H1=>if c=true then ta σ H1 Q else tb σ H1 Q
theorem Ee{c:Expr}(hc:PT X c tA)(ha:PE X a ta)(hb:PE X b tb):PE X (.IfExp c a b pos) (GX tA ta tb):=by intro pz s σ H Q I h;refine wpAny_IfExp (aF (hc pz s σ H _ I h) fun d s1 ⟨H1,I1,q1⟩=>?_);cases d with
|true=>exact ha pz s1 σ H1 Q I1 q1
|false=>exact hb pz s1 σ H1 Q I1 q1
end
def aL(K:W.Frag)(H:Hp)(a:Addr)(xs:List V):Prop:=Rd H a (.lst xs) \/∃(o:Obj)(its:Array a_)(n:Nat),K.lookup a=some o/\o.cls=.type "list"/\o.dict=none/\o.data=.seq its n/\its.size<=sizeLine/\ai xs its.toList
def bL(K:W.Frag)(H:Hp)(a:Addr)(xs:List V):Prop:=Rd H a (.tup xs) \/∃(o:Obj)(its:Array a_)(n:Nat),K.lookup a=some o/\o.cls=.type "tuple"/\o.data=.seq its n/\its.size<=sizeLine/\ai xs its.toList
def sF:a_->Option V
|.none=>some .non
|.bool b=>some (.bl b)
|.int i _=>some (.int i)
|.str x _=>some (.str x)
|.bytes b _=>some (.byt b)
|.float b _=>some (.flt b)
|.ref a=>some (.ref a)
|.type n=>some (.ty n)
|_=>none
theorem ao.abs{x:V}{u:a_}(r:ao x u):sF u=some x:=by cases x with
|non=>cases r;rfl
|bl _=>cases r;rfl
|int _=>obtain⟨t,rfl⟩:=r;rfl
|str _=>obtain⟨t,rfl⟩:=r;rfl
|byt _=>obtain⟨t,rfl⟩:=r;rfl
|flt _=>obtain⟨t,rfl⟩:=r;rfl
|ref _=>cases r;rfl
|ty _=>cases r;rfl
theorem ao.inj{x y:V}{u:a_}(r:ao x u)(q:ao y u):x=y:=G_ (r.abs.symm.trans q.abs)
theorem ai.inj{xs ys:List V}{us:List a_}(h:ai xs us)(h':ai ys us):xs=ys:=by induction h generalizing ys with
|nil=>cases h';rfl
|cons r t ih=>cases h' with
 |cons r' t'=>rw[r.inj r',ih t']
section
variable{X:Cx}{pz:List (Addr×Obj)}{σ:St}{H:Hp}{s:g_}{a:Addr}{xs ys:List V}
theorem aL.of{K:W.Frag}(h:H a=some (.lst xs)):aL K H a xs:=.inl (.inl h)
theorem bL.of{K:W.Frag}(h:H a=some (.tup xs)):bL K H a xs:=.inl (.inl h)
theorem Inv.list(I:Inv X pz σ H s)(h:aL X.K H a xs):∃its:List a_,ai xs its/\PlainL s.heap a its.toArray/\xs.length<=sizeLine:=by
 rcases h with h|⟨o,its,n,hk,hc,hd,hs,hz,r⟩
 .obtain⟨z,its,n,r,e⟩:=h.ok I.hok;exact⟨its,r,⟨_,n,e,rfl,rfl,rfl⟩,z⟩
 .refine⟨its.toList,r,⟨o,n,I.kIn a o hk,hc,hd,by simpa using hs⟩,?_⟩;have e:=r.length;simp only[IR]at e;omega
theorem Inv.tuple(I:Inv X pz σ H s)(h:bL X.K H a xs):∃its:List a_,ai xs its/\MV s.heap a its.toArray/\xs.length<=sizeLine:=by
 rcases h with h|⟨o,its,n,hk,hc,hs,hz,r⟩
 .obtain⟨z,its,r,p,_⟩:=h.ok I.hok;exact⟨its,r,p,z⟩
 .refine⟨its.toList,r,⟨o,I.kIn a o hk,hc,n,by simpa using hs⟩,?_⟩;have e:=r.length;simp only[IR]at e;omega
theorem Inv.list_inj(I:Inv X pz σ H s)(h:aL X.K H a xs)(h':aL X.K H a ys):xs=ys:=by
 obtain⟨its,r,⟨o,n,e,_,_,d⟩,_⟩:=I.list h;obtain⟨its',r',⟨o',n',e',_,_,d'⟩,_⟩:=I.list h';rw[e]at e';cases e';rw[d]at d';injection d' with d1 _
 have:its=its':=by simpa using congrArg NV d1
 subst this;exact r.inj r'
theorem Inv.tuple_inj(I:Inv X pz σ H s)(h:bL X.K H a xs)(h':bL X.K H a ys):xs=ys:=by
 obtain⟨its,r,⟨o,e,_,n,d⟩,_⟩:=I.tuple h;obtain⟨its',r',⟨o',e',_,n',d'⟩,_⟩:=I.tuple h';rw[e]at e';cases e';rw[d]at d';injection d' with d1 _
 have:its=its':=by simpa using congrArg NV d1
 subst this;exact r.inj r'
end
abbrev Cx.wish(X:Cx)(E:a_->g_->Prop):Cx:={ X with xe:=E }
abbrev Cx.nox(X:Cx):Cx:=X.wish fun _ _=>False
theorem Cx.Ok.wish{X:Cx}(ok:X.Ok)(E:a_->g_->Prop):(X.wish E).Ok:=⟨ok.mod,ok.kind,ok.glob,ok.blt,ok.above,ok.inj,ok.has,ok.cab,ok.hd,ok.frames,ok.stk,ok.exf,ok.bs,ok.bsz,ok.noex,ok.exfs,ok.funs,ok.frf⟩
theorem Cx.Ok.unwish{X:Cx}{E:a_->g_->Prop}(ok:(X.wish E).Ok):X.Ok:=⟨ok.mod,ok.kind,ok.glob,ok.blt,ok.above,ok.inj,ok.has,ok.cab,ok.hd,ok.frames,ok.stk,ok.exf,ok.bs,ok.bsz,ok.noex,ok.exfs,ok.funs,ok.frf⟩
section
variable{X:Cx}{pz:List (Addr×Obj)}{σ:St}{H:Hp}{s:g_}{E:a_->g_->Prop}
theorem Inv.wish(I:Inv X pz σ H s)(E:a_->g_->Prop):Inv (X.wish E) pz σ H s:=⟨I.ok.wish E,I.os,I.bare,I.base,I.loc,I.cell,I.free,I.freeC,I.pin,I.hok,I.len⟩
theorem Inv.unwish(I:Inv (X.wish E) pz σ H s):Inv X pz σ H s:=⟨I.ok.unwish,I.os,I.bare,I.base,I.loc,I.cell,I.free,I.freeC,I.pin,I.hok,I.len⟩
theorem SP.unwish{D:Ends}{f:Flow}{s':g_}(h:SP (X.wish E) pz D f s'):SP X pz D f s':=by cases f with
|next=>obtain⟨σ',H',I,q⟩:=h;exact⟨σ',H',I.unwish,q⟩
|brk=>obtain⟨σ',H',I,q⟩:=h;exact⟨σ',H',I.unwish,q⟩
|cont=>obtain⟨σ',H',I,q⟩:=h;exact⟨σ',H',I.unwish,q⟩
|ret u=>obtain⟨v,σ',H',I,r,q⟩:=h;exact⟨v,σ',H',I.unwish,r,q⟩
theorem PE.nox{e:Expr}{t:TE}(h:PE X.nox e t):PE X e t:=fun pz s σ H Q I hw=>IK (h pz s σ H Q (I.wish _) hw) (fun _ _ ⟨v,H',I',r,q⟩=>⟨v,H',I'.unwish,r,q⟩) fun _ _ z=>IX z
theorem PT.nox{e:Expr}{t:TT}(h:PT X.nox e t):PT X e t:=fun pz s σ H Q I hw=>IK (h pz s σ H Q (I.wish _) hw) (fun _ _ ⟨H',I',q⟩=>⟨H',I'.unwish,q⟩) fun _ _ z=>IX z
theorem bb.nox{st:List Stmt}{t:TS}(h:bb X.nox st t):bb X st t:=fun pz s σ H D I hw=>IK (h pz s σ H D (I.wish _) hw) (fun _ _ q=>q.unwish) fun _ _ z=>IX z
end
section
variable{X:Cx}{st:Stmt}{rest:List Stmt}{t u:TS}{e:Expr}{te:TE}{pos:Pos}
def Az:TS:=fun D σ H=>D.nx σ H
def rS(t u:TS):TS:=fun D σ H=>t { D with nx:=u D } σ H
theorem pG:bb X [] Az:=fun _ _ σ H _ I h=>Kh ⟨σ,H,I,h⟩
theorem iM(h1:PS X st t)(h2:bb X rest u):bb X (st::rest) (rS t u):=by intro pz s σ H D I h;refine Mt (aF (h1 pz s σ H { D with nx:=u D } I h) fun f s1 q=>?_);cases f with
|next=>obtain⟨σ',H',I',q⟩:=q;exact h2 pz s1 σ' H' D I' q
|ret v=>exact q
|brk=>exact q
|cont=>exact q
theorem C3(h1:PS X st t):bb X [st] t:=by intro pz s σ H D I h;refine Mt (aF (h1 pz s σ H D I h) fun f s1 q=>?_);cases f with
|next=>exact Kh q
|ret v=>exact q
|brk=>exact q
|cont=>exact q
theorem Inv.quiet{pz:List (Addr×Obj)}{σ:St}{H:Hp}{s:g_}(I:Inv X pz σ H s):interactive X.env=false:=by simp[interactive,I.ok.kind]
def Ay(te:TE):TS:=fun D σ H=>te σ H fun _ H1=>D.nx σ H1
theorem m7(he:PE X e te)(hs:J7 e none pos.line X.env=pure false:=by rfl):PS X (.Expr e pos) (Ay te):=by intro pz s σ H D I h;exact wpAny_Expr_any (aF (he pz s σ H _ I h) fun v s1 ⟨x,H1,I1,r1,q1⟩=>⟨σ,H1,I1,q1⟩) I.quiet hs
def rT(te:TE):TS:=fun D σ H=>te σ H D.rt
theorem ph(he:PE X e te):PS X (.Return (some e) pos) (rT te):=by intro pz s σ H D I h;exact wpAny_Return_some (aF (he pz s σ H _ I h) fun v s1 ⟨x,H1,I1,r1,q1⟩=>⟨x,σ,H1,I1,r1,q1⟩)
def rZ(c:TT)(t u:TS):TS:=fun D σ H=>c σ H fun b H1=>if b=true then t D σ H1 else u D σ H1
theorem t8{c:Expr}{a b:List Stmt}{tc:TT}(hc:PT X c tc)(ha:bb X a t)(hb:bb X b u):PS X (.If c a b pos) (rZ tc t u):=by intro pz s σ H D I h;refine wpAny_If (aF (hc pz s σ H _ I h) fun d s1 ⟨H1,I1,q1⟩=>?_);cases d with
|true=>exact ha pz s1 σ H1 D I1 q1
|false=>exact hb pz s1 σ H1 D I1 q1
def Cd:TS:=fun _ _ _=>False
theorem Eg:PS X st Cd:=fun _ _ _ _ _ _ h=>h.elim
end
abbrev TG:=V->St->Hp->(St->Hp->Prop)->Prop
abbrev gU:=List V->St->Hp->(St->Hp->Prop)->Prop
def PG(X:Cx)(target:Expr)(t:TG):Prop:=∀(pz:List (Addr×Obj))(s:g_)(σ:St)(H:Hp)(v:V)(u:a_)(Q:St->Hp->Prop),Inv X pz σ H s->ao v u->t v σ H Q ->C_ (F_ X.prog X.w) X.A (Ki target X.env u) (fun _ s'=>∃σ' H',Inv X pz σ' H' s'/\Q σ' H') X.xe s
def gG(X:Cx)(ts:List Expr)(t:gU):Prop:=∀(pz:List (Addr×Obj))(s:g_)(σ:St)(H:Hp)(vs:List V)(us:List a_)(Q:St->Hp->Prop),Inv X pz σ H s->ai vs us->t vs σ H Q ->C_ (F_ X.prog X.w) X.A (assignInOrder ((Iq ts X.env).map (·.2)) us) (fun _ s'=>∃σ' H',Inv X pz σ' H' s'/\Q σ' H') X.xe s
abbrev ij:=V->V->V->Hp->(Hp->Prop)->Prop
def dW(X:Cx)(t:ij):Prop:=∀(pz:List (Addr×Obj))(s:g_)(σ:St)(H:Hp)(o i v:V)(ov iv u:a_)(Q:Hp->Prop),Inv X pz σ H s->ao o ov->ao i iv->ao v u->t o i v H Q ->C_ (F_ X.prog X.w) X.A (NW ov iv u) (fun _ s'=>∃H',Inv X pz σ H' s'/\Q H') X.xe s
section
variable{X:Cx}{pos:Pos}
def tD(i:Nat):TG:=fun v σ H Q=>Q (σ.set i (some v)) H
theorem C0{i:Nat}{x:Str}(hN:X.N.Nodup)(hi:X.N[i]? = some x)(hx:fO X.env.scope x)(hf:X.fn x=true\/X.env.scope.names.lookup x=some .local:=by first|exact .inl rfl|exact .inr rfl|assumption):PG X (.Name x pos) (tD i):=by intro pz s σ H v u Q I r h;exact Mc (xy I hN hi hx r (fun s' I'=>⟨_,H,I',h⟩) hf)
def sy:gU:=fun vs σ H Q=>vs=[]/\Q σ H
def zP(t:TG)(u:gU):gU:=fun vs σ H Q=>∃v r,vs=v::r/\t v σ H fun σ' H'=>u r σ' H' Q
theorem C1:gG X [] sy:=by intro pz s σ H vs us Q I r h;obtain⟨e,h⟩:=h;subst e;cases r;exact assignInOrder_nil ⟨σ,H,I,h⟩
theorem Ef{e:Expr}{es:List Expr}{t:TG}{u:gU}(h1:PG X e t)(h2:gG X es u)(hs:(Iq (e::es) X.env).map (·.2)=Ki e X.env::(Iq es X.env).map (·.2):=by rfl):gG X (e::es) (zP t u):=by intro pz s σ H vs us Q I r h;obtain⟨v,vr,e1,h⟩:=h;subst e1;cases r with
|cons r rr=>rw[hs];refine assignInOrder_cons (aF (h1 pz s σ H _ _ _ I r h) fun _ s1 ⟨σ1,H1,I1,q1⟩=>?_);exact h2 pz s1 σ1 H1 _ _ Q I1 rr q1
def sw(K:W.Frag)(n:Nat)(t:gU):TG:=fun v σ H Q=>∃a xs,v=.ref a/\bL K H a xs/\xs.length=n/\t xs σ H Q
theorem Be{es:List Expr}{k:Nat}{t:gU}{n:Nat}(hc:X.calm=true)(h:gG X es t)(hn:(Iq es X.env).length=n:=by rfl)(hst:(Iq es X.env).findIdx? (·.1)=none:=by rfl):PG X (.Tuple es k pos) (sw X.K n t):=by intro pz s σ H v u Q I r hw;obtain⟨a,xs,e1,hq,hl,hw⟩:=hw;subst e1;cases r;obtain⟨its,rv,ht,hz⟩:=I.tuple hq;refine assign_Tuple_tuple (I.ok.hd hc) ht (by simp[hn,<-hl,rv.length]) hst fun h' hx=>?_;have I1:Inv X pz σ H { s with heap:=h' }:=I.kept (t':=s.toks) fun b o e=>hx b o (B_ (p_ e)) e;exact h pz _ σ H xs _ Q I1 (by simpa using rv) hw
def sx(to ti:TE)(t:ij):TG:=fun v σ H Q=>to σ H fun o H1=>ti σ H1 fun i H2=>t o i v H2 fun H3=>Q σ H3
theorem Bd{o i:Expr}{to ti:TE}{t:ij}(ho:PE X o to)(hi:PE X i ti)(hs:dW X t)(ha:∀v,Ki (.Subscript o i pos) X.env v=(do
   let ov <-KJ [v] (eval o X.env);let iv <-KJ [v,ov] (eval i X.env)
   NX pos
   KJ [v,ov,iv] (NW ov iv v)
   release [v,ov,iv] []):=by intro _;rfl):PG X (.Subscript o i pos) (sx to ti t):=by intro pz s σ H v u Q I r h;rw[ha];refine e_ (Ip (aF (ho pz s σ H _ I h) fun ov s1 ⟨x,H1,I1,r1,q1⟩=>?_));refine e_ (Ip (aF (hi pz s1 σ H1 _ I1 q1) fun iv s2 ⟨y,H2,I2,r2,q2⟩=>?_));refine e_ (KS (e_ (Ip (aF (hs pz s2 σ H2 x y v ov iv u _ I2 r1 r2 r q2) fun _ s3 ⟨H3,I3,q3⟩=>?_))));exact wpAny_release ⟨σ,H3,I3,q3⟩
def lV(te:TE)(g:TG):TS:=fun D σ H=>te σ H fun x H1=>g x σ H1 D.nx
theorem uR{tg e:Expr}{te:TE}{g:TG}(he:PE X e te)(hg:PG X tg g)(hs:LV [tg] e pos.line X.env=pure false:=by rfl)(hw:LW [tg] e X.env=pure none:=by rfl)(h1:(Iq [tg] X.env).map (·.2)=[Ki tg X.env]:=by rfl):PS X (.Assign [tg] e pos) (lV te g):=by intro pz s σ H D I h;refine wpAny_Assign_stores (aF (he pz s σ H _ I h) fun v s1 ⟨x,H1,I1,r1,q1⟩=>?_) hs hw;rw[h1];exact aF (hg pz s1 σ H1 x v _ I1 r1 q1) fun _ s2 q=>q
theorem mU{i:Nat}{x:Str}{e:Expr}{te:TE}{pos':Pos}(hN:X.N.Nodup)(hi:X.N[i]? = some x)(hx:fO X.env.scope x)(he:PE X e te)(hs:J7 e (some (.Name x pos')) pos.line X.env=pure false:=by rfl)(hf:X.fn x=true\/X.env.scope.names.lookup x=some .local:=by first|exact .inl rfl|exact .inr rfl|assumption):PS X (.Assign [.Name x pos'] e pos) (lV te (tD i)):=by intro pz s σ H D I h;refine wpAny_Assign_Name (aF (he pz s σ H _ I h) fun v s1 ⟨y,H1,I1,r1,q1⟩=>?_) hs;exact xy I1 hN hi hx r1 (fun s2 I2=>⟨_,H1,I2,q1⟩) hf
end
section
variable{X:Cx}{pos:Pos}
def BG(c:TT)(tb:TS):TS:=fun D σ H=>∃W:Nat->St->Hp->Prop,(∃m,W m σ H)/\∀m σ H,W m σ H ->c σ H fun b H1=>if b=true then ∃N:St->Hp->Prop,(∀σ' H',N σ' H'->∃m',m'<m/\W m' σ' H')/\tb { D with nx:=N,ct:=N,bk:=D.nx } σ H1 else D.nx σ H1
theorem wU{c:Expr}{body:List Stmt}{tc:TT}{tb:TS}(hp:Ks (F_ X.prog X.w) X.A X.env X.xe)(hc:PT X c tc)(hb:bb X body tb):PS X (.While c body [] pos) (BG tc tb):=by
 intro pz s σ H D I h;obtain⟨W,⟨m0,w0⟩,turn⟩:=h;refine wpAny_While (codeAny_whileLoop (fun n s'=>∃σ' H',Inv X pz σ' H' s'/\W n σ' H') ?_ m0 ⟨σ,H,I,w0⟩)
 rintro n s1 ⟨σ1,H1,I1,w1⟩
 refine Jb hp (aF (hc pz s1 σ1 H1 _ I1 (turn n σ1 H1 w1)) fun b s2 ⟨H2,I2,q2⟩=>?_);cases b with
|true=>obtain⟨N,hN,q2⟩:=q2;rw[if_pos rfl];refine Jb hp (aF (hb pz s2 σ1 H2 _ I2 q2) fun f s3 q3=>?_);cases f with
 |next=>obtain⟨σ3,H3,I3,n3⟩:=q3;obtain⟨m',hm,w3⟩:=hN σ3 H3 n3;exact⟨m',hm,σ3,H3,I3,w3⟩
 |cont=>obtain⟨σ3,H3,I3,n3⟩:=q3;obtain⟨m',hm,w3⟩:=hN σ3 H3 n3;exact⟨m',hm,σ3,H3,I3,w3⟩
 |brk=>exact q3
 |ret v=>exact q3
|false=>rw[if_neg d_];exact Kh ⟨σ1,H2,I2,q2⟩
end
structure It where
 go:Nat->Hp->Prop
 yld:Nat->Hp->V->Hp->Prop
 stop:Nat->Hp->Prop
def cx(X:Cx)(pz:List (Addr×Obj))(H:Hp)(b:Addr):Prop:=H b=none/\b≠X.env.locals/\b∉X.fs/\(b∈X.ex\/X.s₀.heap.objs.size<=b)/\(∀x c,X.env.cells.lookup x=some c->c≠b)/\∀p∈X.pn++pz,p.1≠b
theorem Inv.fpOk{X:Cx}{pz:List (Addr×Obj)}{σ:St}{H H':Hp}{s:g_}{b:Addr}(I:Inv X pz σ H s)(hb:s.heap.objs.size<=b)(hn:H' b=none):cx X pz H' b:=by
 refine⟨hn,Ir (A_ I.lt hb),I.nofs hb,.inr (HZ I.sz hb),fun x c e z=>?_,fun p hp z=>?_⟩
 .obtain⟨v,q⟩:=I.cell x c e;exact absurd (A_ q.lt (by rw[z];exact hb)) (Ii _)
 .exact absurd (A_ (p_ (I.pin p hp).1) (by rw[z];exact hb)) (Ii _)
structure Turn(P:z_)(w:Ht)(K:W.Frag)(tg:Expr)(J:It)(fp:List Addr)(it:Addr)(tn:Nat->Heap->Prop):Prop where
 mem:it∈fp
 obj:∀i h,tn i h->∀b∈fp,∃o,h.get? b=some o/\∀v,o.data≠.cell v
 keep:∀i h h',tn i h->(∀b∈fp,∀o,h.get? b=some o->h'.get? b=some o)->tn i h'
 item:∀(X:Cx),X.prog=P->X.w=w->X.K=K->X.calm=true->∀(i:Nat)(pz:List (Addr×Obj))(s:g_)(σ:St)(H:Hp)(E:a_->g_->Prop),Inv X pz σ H s->(∀b∈fp,cx X pz H b)->tn i s.heap->J.go i H ->C_ (F_ P w) X.A (LC (.ref it)) (fun r s1=>∃u,r=some u /\C_ (F_ P w) X.A (Kj tg (.ref it) u) (fun _ s2=>∃x H',Inv X pz σ H' s2/\ao x u/\J.yld i H x H'/\tn (i+1) s2.heap/\∀b∈fp,H' b=none) E s1) E s
 done:∀(X:Cx),X.prog=P->X.w=w->X.K=K->X.calm=true->∀(i:Nat)(pz:List (Addr×Obj))(s:g_)(σ:St)(H:Hp)(E:a_->g_->Prop),Inv X pz σ H s->(∀b∈fp,cx X pz H b)->tn i s.heap->J.stop i H ->C_ (F_ P w) X.A (LC (.ref it)) (fun r s1=>r=none/\Inv X pz σ H s1) E s
 self:∀(A:HA)(i:Nat)(s:g_)(Q:a_->g_->Prop)(E:a_->g_->Prop),tn i s.heap->Q (.ref it) s->C_ (F_ P w) A (MZ (.ref it)) Q E s
abbrev TI:=St->Hp->(It->Hp->Prop)->Prop
def zw(X:Cx)(pz:List (Addr×Obj))(σ:St)(tg:Expr)(R:It->Hp->Prop)(itv:a_)(s2:g_):Prop:=∃(it:Addr)(fp:List Addr)(tn:Nat->Heap->Prop)(J:It)(H':Hp),itv=.ref it/\Inv X pz σ H' s2/\Turn X.prog X.w X.K tg J fp it tn/\tn 0 s2.heap/\(∀b∈fp,cx X pz H' b)/\R J H'
def PI(X:Cx)(tg iter:Expr)(wi:TI):Prop:=∀(pz:List (Addr×Obj))(s:g_)(σ:St)(H:Hp)(R:It->Hp->Prop),Inv X pz σ H s->wi σ H R ->C_ (F_ X.prog X.w) X.A (eval iter X.env) (fun v s1=>C_ (F_ X.prog X.w) X.A (MZ v) (zw X pz σ tg R) X.xe s1) X.xe s
theorem oJ{M:Model}{A:HA}{E:a_->g_->Prop}{s:g_}{tg:Expr}{it:Addr}{u:a_}{o:Obj}{n:String}{vs:Array a_}{Q:Unit->g_->Prop}(ho:s.heap.get? it=some o)(hc:o.cls=.type n)(hd:o.data=.fields vs)(hn : ["enumerate","zip","dict_itemiterator","dict_reverseitemiterator","odict_iterator","itertools.zip_longest","itertools.pairwise"].contains n=false)(hQ:Q () s):C_ M A (Kj tg (.ref it) u) Q E s:=by
  unfold Kj;cases tg <;> first
    |exact o_ hQ
    |(cases u <;> first
        |exact o_ hQ
        | (refine e_ (wpAny_load ho ?_)
           rw[hc,hd];show C_ M A (if (["enumerate","zip","dict_itemiterator","dict_reverseitemiterator","odict_iterator","itertools.zip_longest","itertools.pairwise"].contains n&&vs[0]? == some (Jy _))=true then _ else _) Q E s;rw[if_neg (by intro h;rw[hn,LD]at h;cases h)];exact o_ hQ))
def mC(K:W.Frag)(a:Addr):It:=⟨fun i H=>∃xs x,aL K H a xs/\xs[i]? = some x,fun i H x H'=>H'=H/\∀xs,aL K H a xs->xs[i]? = some x,fun i H=>∃xs,aL K H a xs/\xs.length<=i⟩
def sK(K:W.Frag)(a:Addr):It:=⟨fun i H=>∃xs x,bL K H a xs/\xs[i]? = some x,fun i H x H'=>H'=H/\∀xs,bL K H a xs->xs[i]? = some x,fun i H=>∃xs,bL K H a xs/\xs.length<=i⟩
def oB(lo:Int)(n:Nat):It:=⟨fun i _=>i<n,fun i H x H'=>H'=H/\x=.int (lo+i),fun i _=>n<=i⟩
theorem E2{P:z_}{w:Ht}{K:W.Frag}{tg:Expr}(a it:Addr):Turn P w K tg (mC K a) [it] it (fun i h=>h.IsListIter it a i) where
 mem:=by simp
 obj:=fun i h st b hb=>by
  have e:b=it:=by simpa using hb
  subst e;obtain⟨o,e,c,d⟩:=st;exact⟨o,e,fun v z=>by rw[d]at z;cases z⟩
 keep:=fun i h h' st k=>st.at fun o e=>k it (by simp) o e
 item:=by intro X hP hw hK hc i pz s σ H E I hf st hg;subst hP hw hK;obtain⟨xs,x,hq,hx⟩:=hg;obtain⟨its,rv,p,hz⟩:=I.list hq;obtain⟨u,hu,ru⟩:=rv.get hx;obtain⟨f0,f1,f2,f3,f4,f5⟩:=hf it (by simp);refine wpAny_pyNext_list_item st p.isList (x:=u) (by simpa using hu) fun h' st' sb=>?_;have I1:Inv X pz σ H { s with heap:=h' }:=I.turned (t':=s.toks) (fun b o hb e=>(sb.2 b hb).trans e) f0 f1 f3 f4 f5;obtain⟨o,e,c,d⟩:=id st';exact⟨u,rfl,oJ (s:={ s with heap:=h' }) e c d (by decide) ⟨x,H,I1,ru,⟨rfl,fun ys hy=>by rw[I.list_inj hy hq];exact hx⟩,st',fun b hb=>(hf b hb).1⟩⟩
 done:=by intro X hP hw hK hc i pz s σ H E I hf st hg;subst hP hw hK;obtain⟨xs,hq,hx⟩:=hg;obtain⟨its,rv,p,hz⟩:=I.list hq;obtain⟨f0,f1,f2,f3,f4,f5⟩:=hf it (by simp);have hl:=rv.length;exact wpAny_pyNext_list_end (I.ok.hd hc) st p.isList (by simp;omega) fun h' eb=>⟨rfl,I.turned (t':=s.toks) (fun b o hb e=>eb b o hb e) f0 f1 f3 f4 f5⟩
 self:=fun _ _ _ _ _ st h=>wpAny_pyIter_listiter st h
theorem FG{P:z_}{w:Ht}{K:W.Frag}{tg:Expr}(a it:Addr):Turn P w K tg (sK K a) [it] it (fun i h=>h.IsTupleIter it a i) where
 mem:=by simp
 obj:=fun i h st b hb=>by
  have e:b=it:=by simpa using hb
  subst e;obtain⟨o,e,c,d⟩:=st;exact⟨o,e,fun v z=>by rw[d]at z;cases z⟩
 keep:=fun i h h' st k=>st.at fun o e=>k it (by simp) o e
 item:=by intro X hP hw hK hc i pz s σ H E I hf st hg;subst hP hw hK;obtain⟨xs,x,hq,hx⟩:=hg;obtain⟨its,rv,p,hz⟩:=I.tuple hq;obtain⟨u,hu,ru⟩:=rv.get hx;obtain⟨f0,f1,f2,f3,f4,f5⟩:=hf it (by simp);refine wpAny_pyNext_tuple_item st (show s.heap.IsTuple a its.toArray from p) (x:=u) (by simpa using hu) fun h' st' sb=>?_;have I1:Inv X pz σ H { s with heap:=h' }:=I.turned (t':=s.toks) (fun b o hb e=>(sb.2 b hb).trans e) f0 f1 f3 f4 f5;obtain⟨o,e,c,d⟩:=id st';exact⟨u,rfl,oJ (s:={ s with heap:=h' }) e c d (by decide) ⟨x,H,I1,ru,⟨rfl,fun ys hy=>by rw[I.tuple_inj hy hq];exact hx⟩,st',fun b hb=>(hf b hb).1⟩⟩
 done:=by intro X hP hw hK hc i pz s σ H E I hf st hg;subst hP hw hK;obtain⟨xs,hq,hx⟩:=hg;obtain⟨its,rv,p,hz⟩:=I.tuple hq;obtain⟨f0,f1,f2,f3,f4,f5⟩:=hf it (by simp);have hl:=rv.length;exact wpAny_pyNext_tuple_end (I.ok.hd hc) st (show s.heap.IsTuple a its.toArray from p) (by simp;omega) fun h' eb=>⟨rfl,I.turned (t':=s.toks) (fun b o hb e=>eb b o hb e) f0 f1 f3 f4 f5⟩
 self:=fun _ _ _ _ _ st h=>wpAny_pyIter_tupleiter st h
theorem FF{P:z_}{w:Ht}{K:W.Frag}{tg:Expr}(it:Addr)(lo:Int)(n:Nat):Turn P w K tg (oB lo n) [it] it (fun i h=>IsRangeIter h it (lo+(i:Nat)*1) ((n:Int)-(i:Nat)) 1) where
 mem:=by simp
 obj:=fun i h st b hb=>by
  have e:b=it:=by simpa using hb
  subst e;exact⟨_,st,fun v z=>by have z':Data.fields _=Data.cell v:=z;cases z'⟩
 keep:=fun i h h' st k=>k it (by simp) _ st
 item:=by intro X hP hw hK hc i pz s σ H E I hf st hg;subst hP hw hK;obtain⟨f0,f1,f2,f3,f4,f5⟩:=hf it (by simp);have W:=Walks.range (prog:=X.prog) (w:=X.w) (I.ok.hd hc) it lo 1 n;refine W.item i s _ _ hg st fun v h' tk hv st' kk=>?_;obtain⟨t,rfl⟩:=hv;have I1:Inv X pz σ H { s with heap:=h',toks:=tk }:=I.turned (fun b o hb e=>kk b o (by simpa using hb) e) f0 f1 f3 f4 f5;refine⟨_,rfl,oJ (s:={ s with heap:=h',toks:=tk }) (n := "range_iterator") st' rfl rfl (by decide) ⟨.int (lo+i),H,I1,⟨t,?_⟩,⟨rfl,rfl⟩,st',fun b hb=>(hf b hb).1⟩⟩;rw[Int.mul_one]
 done:=by intro X hP hw hK hc i pz s σ H E I hf st hg;subst hP hw hK;obtain⟨f0,f1,f2,f3,f4,f5⟩:=hf it (by simp);exact wpAny_pyNext_range_end (I.ok.hd hc) st (by have:n<=i:=hg;omega) fun h' eb=>⟨rfl,I.turned (t':=s.toks) (fun b o hb e=>eb b o hb e) f0 f1 f3 f4 f5⟩
 self:=fun _ _ _ _ _ st h=>wpAny_pyIter_rangeiter st h
section
variable{X:Cx}{tg:Expr}
theorem Ek{pz:List (Addr×Obj)}{σ:St}{H:Hp}{s:g_}{R:It->Hp->Prop}{E:a_->g_->Prop}{lo hi:Int}{t u v:Tok}{tk:Nat}(I:Inv X pz σ H s)(h1 : -(2^62)<=lo)(h2:lo<2^62)(h3 : -(2^62)<=hi)(h4:hi<2^62)(q:R (oB lo (hi-lo).toNat) H):C_ (F_ X.prog X.w) X.A (MZ (.ref s.heap.objs.size)) (zw X pz σ tg R) E { s with heap:=s.heap.push { cls:=.type "range",data:=.fields #[.int lo t,.int hi u,.int 1 v] },toks:=tk }:=by
 refine wpAny_pyIter_range (IsRange.new ..) (small_one h1 h2 h3 h4) ?_;have I1:Inv X pz σ H { s with heap:=s.heap.push { cls:=.type "range",data:=.fields #[.int lo t,.int hi u,.int 1 v] },toks:=tk }:=I.kept fun b o e=>h_ _ e;refine⟨(s.heap.push { cls:=.type "range",data:=.fields #[.int lo t,.int hi u,.int 1 v] }).objs.size,[(s.heap.push { cls:=.type "range",data:=.fields #[.int lo t,.int hi u,.int 1 v] }).objs.size],_,_,H,rfl,I1.kept (t':=tk) fun b o e=>h_ _ e,FF _ lo (hi-lo).toNat,?_,fun b hb=>?_,q⟩
 .have e1:lo+((0:Nat):Int)*1=lo:=by simp
  have e2:(((hi-lo).toNat:Nat):Int)-((0:Nat):Int)=K8 lo hi 1:=by rw[rangeSize_one];split <;> omega
  show IsRangeIter _ _ (lo+((0:Nat):Int)*1) ((((hi-lo).toNat:Nat):Int)-((0:Nat):Int)) 1;rw[e1,e2];exact u_ _ rfl
 .have e:b=(s.heap.push { cls:=.type "range",data:=.fields #[.int lo t,.int hi u,.int 1 v] }).objs.size:=by simpa using hb
  subst e;exact I1.fpOk (q_ _) (I1.hok.fresh (q_ _))
def zQ(ta:TA):TI:=fun σ H R=>ta σ H fun vs H1=>∃j:Int,vs=[.int j]/\-(2^62)<=j/\j<2^62/\R (oB 0 j.toNat) H1
theorem Fp{a:Expr}{ta:TA}{p pos:Pos}(hg:Gl X "range")(hm:X.mg "range" = none)(ha:PA X [a] ta)(hs:l_ [a] X.env=[(false,eval a X.env)]:=by rfl):PI X tg (.Call (.Name "range" p) [a] [] pos) (zQ ta):=by intro pz s σ H R I h;refine Call_ (ja I hg hm boot_range (IU (aF (ha pos pz s σ H _ I h) fun us s1 ⟨vs,H1,I1,r1,q1⟩=>?_) hs rfl));obtain⟨j,e,q1,q2,q⟩:=q1;subst e;cases r1 with
|cons r rr=>cases rr;obtain⟨t,rfl⟩:=r;exact call_range_1 (Ek I1 (by omega) (by omega) q1 q2 (by simpa using q))
def r6(wi:TI)(g:TG)(tb:TS):TS:=fun D σ H=>wi σ H fun J H1=>∃W:Nat->Nat->St->Hp->Prop,(∃m,W 0 m σ H1)/\∀i m σ H,W i m σ H ->(J.stop i H/\D.nx σ H)\/(J.go i H/\∃N:St->Hp->Prop,(∀σ' H',N σ' H'->∃m',m'<m/\W (i+1) m' σ' H')/\∀x H',J.yld i H x H'->g x σ H' fun σ2 H2=>tb { D with nx:=N,ct:=N,bk:=D.nx } σ2 H2)
def kO(fp:List Addr)(h:Heap):List (Addr×Obj):=fp.filterMap fun b=>(h.get? b).map fun o=>(b,o)
theorem nH{fp:List Addr}{h:Heap}{b:Addr}{o:Obj}(hb:b∈fp)(e:h.get? b=some o):(b,o)∈kO fp h:=HP.mpr ⟨b,hb,by rw[e];rfl⟩
theorem EG{fp:List Addr}{h:Heap}{p:Addr×Obj}(hp:p∈kO fp h):p.1∈fp/\h.get? p.1=some p.2:=by obtain⟨b,hb,e⟩:=HP.mp hp;cases q:h.get? b with
|none=>rw[q]at e;cases e
|some o=>rw[q]at e;have e':(b,o)=p:=G_ e;subst e';exact⟨hb,q⟩
theorem Inv.pinned{pz:List (Addr×Obj)}{σ:St}{H:Hp}{s:g_}{fp:List Addr}(I:Inv X pz σ H s)(hf:∀b∈fp,cx X pz H b)(ho:∀b∈fp,∃o,s.heap.get? b=some o/\∀v,o.data≠.cell v):Inv X (pz++kO fp s.heap) σ H s:=I.pins_of fun p hp=>(IJ.mp hp).elim (fun z=>I.pin p (Hx _ z)) fun z=>by obtain⟨hb,e⟩:=EG z;obtain⟨f0,f1,f2,_⟩:=hf p.1 hb;obtain⟨o,e',d⟩:=ho p.1 hb;rw[e]at e';cases e';exact⟨e,f0,f1,f2,d⟩
theorem Inv.unpinned{pz pl:List (Addr×Obj)}{σ:St}{H:Hp}{s:g_}(I:Inv X (pz++pl) σ H s):Inv X pz σ H s:=I.pins_of fun p hp=>I.pin p (Hx _ (H_ _ hp))
theorem pf{iter:Expr}{body:List Stmt}{wi:TI}{g:TG}{tb:TS}{pos:Pos}(hp:Ks (F_ X.prog X.w) X.A X.env X.xe)(hc:X.calm=true)(hi:PI X tg iter wi)(hg:PG X tg g)(hb:bb X body tb)(hs:∀x,Jd iter X.env x=pure x:=by intro _;rfl):PS X (.For tg iter body [] pos) (r6 wi g tb):=by
 intro pz s σ H D I h;refine wpAny_For (aF (hi pz s σ H _ I h) fun v s1 h1=>aF h1 fun itv s2 h2=>?_) hs;obtain⟨it,fp,tn,J,H2,e,I2,T,st2,f2,W,⟨m0,w0⟩,turn⟩:=h2;subst e;have stat:∀{H':Hp},(∀b∈fp,H' b=none)->∀b∈fp,cx X pz H' b:=fun hn b hb=>⟨hn b hb,(f2 b hb).2⟩
 refine codeAny_forLoop_any (fun n s'=>∃i σ' H',Inv X pz σ' H' s'/\tn i s'.heap/\(∀b∈fp,H' b=none)/\W i n σ' H') ?_ m0 ⟨0,σ,H2,I2,st2,fun b hb=>(f2 b hb).1,w0⟩
 rintro n s3 ⟨i,σ3,H3,I3,st3,fr3,w3⟩
 rcases turn i n σ3 H3 w3 with⟨stop,qn⟩|⟨go,N,hN,step⟩
 .refine Jb hp (aF (T.done X rfl rfl rfl hc i pz s3 σ3 H3 X.xe I3 (stat fr3) st3 stop) fun r s4 ⟨hr,I4⟩=>?_);subst hr;exact Kh ⟨σ3,H3,I4,qn⟩
 .refine Jb hp (aF (T.item X rfl rfl rfl hc i pz s3 σ3 H3 X.xe I3 (stat fr3) st3 go) fun r s4 ⟨u,hr,h4⟩=>?_);subst hr;refine Jb hp (aF h4 fun _ s5 ⟨x,H5,I5,r5,y5,st5,fr5⟩=>?_);have I5':=I5.pinned (stat fr5) (T.obj _ _ st5);refine Jb hp (aF (hg _ s5 σ3 H5 x u _ I5' r5 (step x H5 y5)) fun _ s6 ⟨σ6,H6,I6,q6⟩=>?_);refine Jb hp (aF (hb _ s6 σ6 H6 _ I6 q6) fun f s7 q7=>?_);have again:∀{σ7:St}{H7:Hp},Inv X (pz++kO fp s5.heap) σ7 H7 s7->N σ7 H7->∃m,m<n/\∃i σ' H',Inv X pz σ' H' s7/\tn i s7.heap/\(∀b∈fp,H' b=none)/\W i m σ' H':=fun{σ7 H7} I7 n7=>by obtain⟨m',hm,w7⟩:=hN σ7 H7 n7;refine⟨m',hm,i+1,σ7,H7,I7.unpinned,T.keep _ _ _ st5 fun b hb o e=>(I7.pin (b,o) (Hx _ (Hx _ (nH hb e)))).1,fun b hb=>?_,w7⟩;obtain⟨o,e,d⟩:=T.obj _ _ st5 b hb;exact(I7.pin (b,o) (Hx _ (Hx _ (nH hb e)))).2.1
  cases f with
 |next=>obtain⟨σ7,H7,I7,n7⟩:=q7;exact again I7 n7
 |cont=>obtain⟨σ7,H7,I7,n7⟩:=q7;exact again I7 n7
 |brk=>obtain⟨σ7,H7,I7,q7⟩:=q7;exact⟨σ7,H7,I7.unpinned,q7⟩
 |ret v=>obtain⟨x7,σ7,H7,I7,r7,q7⟩:=q7;exact⟨x7,σ7,H7,I7.unpinned,r7,q7⟩
end
abbrev R2:=V->V->Hp->VK->Prop
def aQ(X:Cx)(f:a_->a_->Sem a_)(r:R2):Prop:=∀(pz:List (Addr×Obj))(s:g_)(σ:St)(H:Hp)(x y:V)(v u:a_)(Q:VK),Inv X pz σ H s->ao x v->ao y u->r x y H Q ->C_ (F_ X.prog X.w) X.A (f v u) (EP X pz σ Q) X.xe s
def dv(X:Cx)(f:a_)(r:List V->Hp->VK->Prop):Prop:=∀(pz:List (Addr×Obj))(s:g_)(σ:St)(H:Hp)(xs:List V)(us:List a_)(Q:VK),Inv X pz σ H s->ai xs us->r xs H Q ->C_ (F_ X.prog X.w) X.A (call f us) (EP X pz σ Q) X.xe s
def sG(X:Cx)(r:V->Hp->(Bool->Hp->Prop)->Prop):Prop:=∀(pz:List (Addr×Obj))(s:g_)(σ:St)(H:Hp)(x:V)(v:a_)(Q:Bool->Hp->Prop),Inv X pz σ H s->ao x v->r x H Q ->C_ (F_ X.prog X.w) X.A (truthy v) (TP X pz σ Q) X.xe s
def lT(r:R2)(ta tb:TE):TE:=fun σ H Q=>ta σ H fun x H1=>tb σ H1 fun y H2=>r x y H2 Q
def rI(C:Int->Int->Prop)(g:Int->Int->V):R2:=fun x y H Q=>∃i j,x=.int i/\y=.int j/\C i j/\Q (g i j) H
def gT(g:Int->Int->V):R2:=fun x y H Q=>∃i j,x=.int i/\y=.int j/\Q (g i j) H
section
variable{X:Cx}{a b c:Expr}{ta tb tc:TE}{pos:Pos}
theorem jC(ha:PE X a ta)(hb:PE X b tb){pz:List (Addr×Obj)}{s:g_}{σ:St}{H:Hp}{R:V->V->Hp->Prop}(I:Inv X pz σ H s)(h:ta σ H fun x H1=>tb σ H1 fun y H2=>R x y H2){Q:a_->g_->Prop}{f:a_->a_->Sem a_}(hf:∀v u s2 x y H2,Inv X pz σ H2 s2->ao x v->ao y u->R x y H2->C_ (F_ X.prog X.w) X.A (f v u) Q X.xe s2):C_ (F_ X.prog X.w) X.A (eval a X.env) (fun v s₁=>C_ (F_ X.prog X.w) X.A (eval b X.env) (fun u s₂=>C_ (F_ X.prog X.w) X.A (f v u) Q X.xe s₂) X.xe s₁) X.xe s:=by refine aF (ha pz s σ H _ I h) fun v s1 ⟨x,H1,I1,r1,q1⟩=>?_;refine aF (hb pz s1 σ H1 _ I1 q1) fun u s2 ⟨y,H2,I2,r2,q2⟩=>?_;exact hf v u s2 x y H2 I2 r1 r2 q2
theorem Ai{op:Operator}{r:R2}(ho:aQ X (JD op) r)(ha:PE X a ta)(hb:PE X b tb):PE X (.BinOp a op b pos) (lT r ta tb):=by intro pz s σ H Q I h;exact wpAny_BinOp (jC ha hb I h fun v u s2 x y H2 I2 rx ry q=>ho pz s2 σ H2 x y v u Q I2 rx ry q)
theorem ox{f:a_->a_->Sem a_}{C:Int->Int->Prop}{g:Int->Int->Int}(rule:∀(i j:Int)(t u:Tok)(s:g_)(Q:a_->g_->Prop)(E:a_->g_->Prop),C i j->Q (.int (g i j) s.toks) { s with toks:=s.toks+1 }->C_ (F_ X.prog X.w) X.A (f (.int i t) (.int j u)) Q E s):aQ X f (rI C fun i j=>.int (g i j)):=by intro pz s σ H x y v u Q I rx ry h;obtain⟨i,j,rfl,rfl,hc,q⟩:=h;obtain⟨t,rfl⟩:=rx;obtain⟨t',rfl⟩:=ry;exact rule i j t t' s _ _ hc ⟨.int (g i j),H,I.tok _,⟨_,rfl⟩,q⟩
theorem me{f:a_->a_->Sem a_}{g:Int->Int->Int}(rule:∀(i j:Int)(t u:Tok)(s:g_)(Q:a_->g_->Prop)(E:a_->g_->Prop),Q (.int (g i j) s.toks) { s with toks:=s.toks+1 }->C_ (F_ X.prog X.w) X.A (f (.int i t) (.int j u)) Q E s):aQ X f (gT fun i j=>.int (g i j)):=by intro pz s σ H x y v u Q I rx ry h;obtain⟨i,j,rfl,rfl,q⟩:=h;obtain⟨t,rfl⟩:=rx;obtain⟨t',rfl⟩:=ry;exact rule i j t t' s _ _ ⟨.int (g i j),H,I.tok _,⟨_,rfl⟩,q⟩
theorem jx{f:a_->a_->Sem a_}{g:Int->Int->Bool}(rule:∀(i j:Int)(t u:Tok)(s:g_)(Q:a_->g_->Prop)(E:a_->g_->Prop),Q (.bool (g i j)) s->C_ (F_ X.prog X.w) X.A (f (.int i t) (.int j u)) Q E s):aQ X f (gT fun i j=>.bl (g i j)):=by intro pz s σ H x y v u Q I rx ry h;obtain⟨i,j,rfl,rfl,q⟩:=h;obtain⟨t,rfl⟩:=rx;obtain⟨t',rfl⟩:=ry;exact rule i j t t' s _ _ ⟨.bl (g i j),H,I,rfl,q⟩
def fQ(i j:Int):Prop:=0<j/\j<1073741824
def fP(i j:Int):Prop:=0<=j/\j<=1000000/\i.natAbs<2^64
def eS(i j:Int):Prop:=(-(2^64)<i/\i<2^64)\/(-(2^64)<j/\j<2^64)
theorem eS.ok{i j:Int}(h:eS i j):IntMulOk i j:=by
 rcases h with⟨h1,h2⟩|⟨h1,h2⟩
 .exact .of_left (intBits_le_64 h1 h2)
 .exact .of_right (intBits_le_64 h1 h2)
theorem AZ:aQ X (JD .Add) (gT fun i j=>.int (i+j)):=me fun _ _ _ _ _ _ _ q=>add_int q
theorem A6:aQ X (JD .Sub) (gT fun i j=>.int (i-j)):=me fun _ _ _ _ _ _ _ q=>sub_int q
theorem A4:aQ X (JD .Mult) (rI eS fun i j=>.int (i*j)):=ox fun _ _ _ _ _ _ _ hc q=>mul_int q hc.ok
theorem CT:aQ X (JD .FloorDiv) (rI fQ fun i j=>.int (i/j)):=ox fun i j _ _ _ _ _ hc q=>by have h1:(0:Int)<j:=hc.1;have h2:j<1073741824:=hc.2;exact floordiv_int (by omega) (by rw[Int.fdiv_eq_ediv_of_nonneg i (by omega)];exact q) (.inl (PyProof.noPylong_small (by omega)))
theorem A3:aQ X (JD .Mod) (rI (fun _ j=>0<j) fun i j=>.int (i%j)):=ox fun i j _ _ _ _ _ hc q=>by have h1:(0:Int)<j:=hc;exact mod_int' (by omega) (by rw[Int.fmod_eq_emod_of_nonneg i (by omega)];exact q)
theorem A5:aQ X (JD .Pow) (rI fP fun i j=>.int (i^j.toNat)):=ox fun _ _ _ _ _ _ _ hc q=>pow_int_small hc.1 hc.2.1 hc.2.2 q
end
def hV:V->V->Bool
|.non,.non=>true|.non,.int _=>true|.int _,.non=>true|.non,.bl _=>true|.bl _,.non=>true|.non,.str _=>true|.str _,.non=>true
|.int _,.int _=>true|.bl _,.bl _=>true|.str _,.str _=>true|.byt _,.byt _=>true
|.int _,.str _=>true|.str _,.int _=>true|.bl _,.str _=>true|.str _,.bl _=>true
|_,_=>false
def zr:R2:=fun x y H Q=>hV x y=true/\Q (.bl (decide (x=y))) H
def zq:R2:=fun x y H Q=>hV x y=true/\Q (.bl (! decide (x=y))) H
theorem py{i j:Int}:decide (V.int i=V.int j)=(i==j):=by rw[HE];simp
theorem oZ{i j:Bool}:decide (V.bl i=V.bl j)=(i==j):=by rw[HE];simp
theorem pA{i j:Str}:decide (V.str i=V.str j)=(i==j):=by rw[HE];simp
theorem vV{i j:Array UInt8}:decide (V.byt i=V.byt j)=(i.toList==j.toList):=by rw[HE];cases i;cases j;simp
section
variable{X:Cx}{a b c:Expr}{ta tb tc:TE}{pos:Pos}
theorem bQ{pz:List (Addr×Obj)}{σ:St}{H:Hp}{s:g_}{Q:VK}{k k':Bool}(I:Inv X pz σ H s)(q:Q (.bl k) H)(e:k=k'):EP X pz σ Q (.bool k') s:=by subst e;exact⟨.bl k,H,I,rfl,q⟩
theorem sZ:aQ X (HI .Eq) zr:=by intro pz s σ H x y v u Q I rx ry h;obtain⟨hs,q⟩:=h;cases x with
|non=>cases rx;cases y with
 |non=>cases ry;exact Nj (bQ I q (by simp))
 |bl j=>cases ry;exact Nk (bQ I q (by simp))
 |int j=>obtain⟨t',rfl⟩:=ry;exact Nx (bQ I q (by simp))
 |str j=>obtain⟨t',rfl⟩:=ry;exact Ny (bQ I q (by simp))
 |_=>exact absurd (show false=true from hs) d_
|bl i=>cases rx;cases y with
 |non=>cases ry;exact Nl (bQ I q (by simp))
 |bl j=>cases ry;exact eq_bool (bQ I q oZ)
 |str j=>obtain⟨t',rfl⟩:=ry;exact Nn (bQ I q (by simp))
 |_=>exact absurd (show false=true from hs) d_
|int i=>obtain⟨t,rfl⟩:=rx;cases y with
 |non=>cases ry;exact Nz (bQ I q (by simp))
 |int j=>obtain⟨t',rfl⟩:=ry;exact eq_int (bQ I q py)
 |str j=>obtain⟨t',rfl⟩:=ry;exact NA (bQ I q (by simp))
 |_=>exact absurd (show false=true from hs) d_
|str i=>obtain⟨t,rfl⟩:=rx;cases y with
 |non=>cases ry;exact NB (bQ I q (by simp))
 |bl j=>cases ry;exact No (bQ I q (by simp))
 |int j=>obtain⟨t',rfl⟩:=ry;exact NC (bQ I q (by simp))
 |str j=>obtain⟨t',rfl⟩:=ry;exact eq_str (bQ I q pA)
 |_=>exact absurd (show false=true from hs) d_
|byt i=>obtain⟨t,rfl⟩:=rx;cases y with
 |byt j=>obtain⟨t',rfl⟩:=ry;exact W.eq_bytes (bQ I q vV)
 |_=>exact absurd (show false=true from hs) d_
|_=>cases y <;> exact absurd (show false=true from hs) d_
theorem AR:aQ X (HI .NotEq) zq:=by intro pz s σ H x y v u Q I rx ry h;obtain⟨hs,q⟩:=h;cases x with
|non=>cases rx;cases y with
 |non=>cases ry;exact Np (bQ I q (by simp))
 |bl j=>cases ry;exact Nq (bQ I q (by simp))
 |int j=>obtain⟨t',rfl⟩:=ry;exact ND (bQ I q (by simp))
 |str j=>obtain⟨t',rfl⟩:=ry;exact NE (bQ I q (by simp))
 |_=>exact absurd (show false=true from hs) d_
|bl i=>cases rx;cases y with
 |non=>cases ry;exact Nr (bQ I q (by simp))
 |bl j=>cases ry;exact ne_bool (bQ I q (congrArg not oZ))
 |str j=>obtain⟨t',rfl⟩:=ry;exact Nt (bQ I q (by simp))
 |_=>exact absurd (show false=true from hs) d_
|int i=>obtain⟨t,rfl⟩:=rx;cases y with
 |non=>cases ry;exact NF (bQ I q (by simp))
 |int j=>obtain⟨t',rfl⟩:=ry;exact ne_int (bQ I q (congrArg not py))
 |str j=>obtain⟨t',rfl⟩:=ry;exact NG (bQ I q (by simp))
 |_=>exact absurd (show false=true from hs) d_
|str i=>obtain⟨t,rfl⟩:=rx;cases y with
 |non=>cases ry;exact NH (bQ I q (by simp))
 |bl j=>cases ry;exact Nu (bQ I q (by simp))
 |int j=>obtain⟨t',rfl⟩:=ry;exact NI (bQ I q (by simp))
 |str j=>obtain⟨t',rfl⟩:=ry;exact ne_str (bQ I q (congrArg not pA))
 |_=>exact absurd (show false=true from hs) d_
|byt i=>obtain⟨t,rfl⟩:=rx;cases y with
 |byt j=>obtain⟨t',rfl⟩:=ry;exact W.ne_bytes (bQ I q (congrArg not vV))
 |_=>exact absurd (show false=true from hs) d_
|_=>cases y <;> exact absurd (show false=true from hs) d_
theorem tf:aQ X (HI .Lt) (gT fun i j=>.bl (decide (i<j))):=jx fun _ _ _ _ _ _ _ q=>lt_int q
theorem AQ:aQ X (HI .LtE) (gT fun i j=>.bl (decide (i<=j))):=jx fun _ _ _ _ _ _ _ q=>le_int q
theorem AO:aQ X (HI .Gt) (gT fun i j=>.bl (decide (j<i))):=jx fun _ _ _ _ _ _ _ q=>gt_int q
theorem EI:aQ X (HI .In) (fun x y H Q=>∃i j,x=.str i/\y=.str j/\Q (.bl (!(IH j i 0 j.length 1).isEmpty)) H):=by intro pz s σ H x y v u Q I rx ry h;obtain⟨i,j,rfl,rfl,q⟩:=h;obtain⟨t,rfl⟩:=rx;obtain⟨t',rfl⟩:=ry;exact in_str (bQ I q rfl)
theorem A2:aQ X (HI .Is) (fun x y H Q=>y=.non/\Q (.bl (decide (x=.non))) H):=by
 intro pz s σ H x y v u Q I rx ry h;obtain⟨rfl,q⟩:=h;cases ry;refine is_none_gen (bQ I q ?_);cases x <;> first
  |(cases rx;rfl)
  |(obtain⟨t,rfl⟩:=rx;rfl)
theorem vT:aQ X (HI .IsNot) (fun x y H Q=>y=.non/\Q (.bl (! decide (x=.non))) H):=by
 intro pz s σ H x y v u Q I rx ry h;obtain⟨rfl,q⟩:=h;cases ry;refine isnot_none_gen (bQ I q ?_);cases x <;> first
  |(cases rx;rfl)
  |(obtain⟨t,rfl⟩:=rx;rfl)
theorem aQ.or{f:a_->a_->Sem a_}{r r':R2}(h:aQ X f r)(h':aQ X f r'):aQ X f (fun x y H Q=>r x y H Q\/r' x y H Q):=by
 intro pz s σ H x y v u Q I rx ry q;rcases q with q|q
 .exact h pz s σ H x y v u Q I rx ry q
 .exact h' pz s σ H x y v u Q I rx ry q
theorem iG(b:Expr){op:NQ}(h:op≠.In:=by decide)(h2:op≠.NotIn:=by decide):Ji op b=false:=by
 have e1:(op==CmpOp.In)=false:=by cases op <;> first|rfl|exact absurd rfl h
 have e2:(op==CmpOp.NotIn)=false:=by cases op <;> first|rfl|exact absurd rfl h2
 cases b <;> simp[Ji,e1,e2]
theorem CY{op:NQ}{r:R2}(ho:aQ X (HI op) r)(ha:PE X a ta)(hb:PE X b tb)(hm:Ji op b=false):PE X (.Compare a [op] [b] pos) (lT r ta tb):=by intro pz s σ H Q I h;exact wpAny_Compare1 (jC ha hb I h fun v u s2 x y H2 I2 rx ry q=>ho pz s2 σ H2 x y v u Q I2 rx ry q) hm
def AB(t:TE):TT:=fun σ H Q=>t σ H fun x H'=>∃k,x=.bl k/\Q k H'
theorem C4{op:NQ}{r:R2}(ho:aQ X (HI op) r)(ha:PE X a ta)(hb:PE X b tb)(hm:Ji op b=false):PT X (.Compare a [op] [b] pos) (AB (lT r ta tb)):=by intro pz s σ H Q I h;refine wpAny_isTrue_Compare1 (aF (ha pz s σ H _ I h) fun v s1 ⟨x,H1,I1,r1,q1⟩=>aF (hb pz s1 σ H1 _ I1 q1) fun u s2 ⟨y,H2,I2,r2,q2⟩=>aF (ho pz s2 σ H2 x y v u _ I2 r1 r2 q2) fun c s3 ⟨z,H3,I3,r3,k,e,q3⟩=>?_) hm;subst e;cases r3;exact Jc ⟨H3,I3,q3⟩
def uF(r r':R2)(ta tb tc:TE):TE:=fun σ H Q=>ta σ H fun x H1=>tb σ H1 fun y H2=>r x y H2 fun z H3=>∃k,z=.bl k /\(if k=true then tc σ H3 fun w' H4=>r' y w' H4 Q else Q (.bl false) H3)
theorem Ec{op op':NQ}{r r':R2}(ho:aQ X (HI op) r)(ho':aQ X (HI op') r')(ha:PE X a ta)(hb:PE X b tb)(hc:PE X c tc)(hm:lastMarks [op,op'] [b,c]=false:=by with_unfolding_all rfl):PE X (.Compare a [op,op'] [b,c] pos) (uF r r' ta tb tc):=by intro pz s σ H Q I h;refine Compare_chain (aF (ha pz s σ H _ I h) fun v s1 ⟨x,H1,I1,r1,q1⟩=>chain_link (aF (hb pz s1 σ H1 _ I1 q1) fun u s2 ⟨y,H2,I2,r2,q2⟩=>aF (ho pz s2 σ H2 x y v u _ I2 r1 r2 q2) fun d s3 ⟨z,H3,I3,r3,k,e,q3⟩=>?_)) hm;subst e;cases r3;refine Jc ?_;cases k with
|false=>exact ite_ff ⟨.bl false,H3,I3,rfl,q3⟩
|true=>exact ite_tt (chain_last (aF (hc pz s3 σ H3 _ I3 q3) fun w' s4 ⟨z',H4,I4,r4,q4⟩=>ho' pz s4 σ H4 y z' u w' Q I4 r2 r4 q4))
def jF(K:W.Frag)(x:V)(H:Hp)(k:Bool):Prop:=match x with
|.non=>k=false
|.bl b=>k=b
|.int i=>k=(i != 0)
|.str y=>y.length<=sizeLine/\k=((y.length:Int) != 0)
|.byt y=>y.size<=sizeLine/\k=((y.size:Int) != 0)
|.ref p=>(∃xs,aL K H p xs/\k = ! xs.isEmpty)\/(∃xs,bL K H p xs/\k = ! xs.isEmpty)\/∃kvs,Rd H p (.dK kvs)/\k = ! kvs.isEmpty
|_=>False
theorem Fc{κ:Type}{kvs:List (κ×V)}{vs:List (κ×a_)}(r:KV kvs vs):(! vs.isEmpty) = ! kvs.isEmpty:=by cases r <;> rfl
theorem ye{xs:List V}{its:List a_}(r:ai xs its):(! its.toArray.isEmpty) = ! xs.isEmpty:=by cases r <;> simp
theorem jX:(sizeLine:Nat)<2^63:=by rw[HF];decide
theorem BJ:sG X (fun x H Q=>∃k,jF X.K x H k/\Q k H):=by intro pz s σ H x v Q I rx h;obtain⟨k,e,q⟩:=h;have hl:=jX;have hs:sizeLine=16777216:=HF;cases x with
|non=>cases rx;have e':k=false:=e;subst e';exact truthy_none ⟨H,I,q⟩
|bl b=>cases rx;have e':k=b:=e;subst e';exact Jc ⟨H,I,q⟩
|int i=>obtain⟨t,rfl⟩:=rx;have e':k=(i != 0):=e;subst e';exact PySem.P.truthy_int ⟨H,I,q⟩
|str y=>obtain⟨t,rfl⟩:=rx;obtain⟨hy,e'⟩:y.length<=sizeLine/\k=((y.length:Int) != 0):=e;subst e';exact PySem.P.truthy_str (by omega) ⟨H,I.tok _,q⟩
|byt y=>obtain⟨t,rfl⟩:=rx;obtain⟨hy,e'⟩:y.size<=sizeLine/\k=((y.size:Int) != 0):=e;subst e';exact W.truthy_bytes (by omega) ⟨H,I.tok _,q⟩
|ref p=>
  cases rx;have e':(∃xs,aL X.K H p xs/\k = ! xs.isEmpty)\/(∃xs,bL X.K H p xs/\k = ! xs.isEmpty)\/∃kvs,Rd H p (.dK kvs)/\k = ! kvs.isEmpty:=e;rcases e' with⟨xs,hx,e'⟩|⟨xs,hx,e'⟩|⟨kvs,hx,e'⟩
  .subst e';obtain⟨its,r,pl,hz⟩:=I.list hx;have hlen:=r.length;exact wpAny_truthy_list pl.isList (by simp only[n_];omega) ⟨H,I.tok _,by rw[ye r];exact q⟩
  .subst e';obtain⟨its,r,pl,hz⟩:=I.tuple hx;have hlen:=r.length;exact truthy_tuple pl (by simp only[n_];omega) ⟨H,I.tok _,by rw[ye r];exact q⟩
  .subst e';obtain⟨hz,hS,vs,r,m⟩:kvs.length<=sizeLine/\(p==Jr)=false/\∃vs,KV kvs vs/\s.heap.DictOf (d5 X.prog X.w) p vs:=hx.ok I.hok;have hlen:kvs.length=vs.length:=Paired.length r;exact wpAny_truthy_dict hS m (by omega) ⟨H,I.tok _,by rw[Fc r];exact q⟩
|_=>exact(show False from e).elim
theorem Eh(ha:PE X a ta)(he:∀whole,isTrue a X.env whole=(do let v <-whole;NX a.pos;KJ [v] (truthy v))):PT X a (fun σ H Q=>ta σ H fun x H'=>∃k,jF X.K x H' k/\Q k H'):=by intro pz s σ H Q I h;exact isTrue_plain (aF (ha pz s σ H _ I h) fun v s1 ⟨x,H1,I1,r1,q1⟩=>BJ pz s1 σ H1 x v Q I1 r1 q1) (he _)
theorem FR:aQ X (JD .Add) (fun x y H Q=>∃i j,x=.str i/\y=.str j/\i.length+j.length<=sizeLine/\Q (.str (i++j)) H):=by intro pz s σ H x y v u Q I rx ry h;obtain⟨i,j,rfl,rfl,hz,q⟩:=h;obtain⟨t,rfl⟩:=rx;obtain⟨t',rfl⟩:=ry;exact add_str (fun t' tk=>⟨.str (i++j),H,I.tok _,⟨_,rfl⟩,q⟩) hz
theorem bA{x:V}{us:List a_}(r:ai [x] us):∃u,us=[u]/\ao x u:=by cases r with
|cons r1 r2=>cases r2;exact⟨_,rfl,r1⟩
theorem tM{x y:V}{us:List a_}(r:ai [x,y] us):∃u w',us=[u,w']/\ao x u/\ao y w':=by cases r with
|cons r1 r2=>cases r2 with
 |cons r3 r4=>cases r4;exact⟨_,_,rfl,r1,r3⟩
def mB(K:W.Frag)(x:V)(H:Hp)(n:Nat):Prop:=match x with
|.str y=>y.length<=sizeLine/\n=y.length
|.byt y=>y.size<=sizeLine/\n=y.size
|.ref p=>(∃xs,aL K H p xs/\n=xs.length)\/∃xs,bL K H p xs/\n=xs.length
|_=>False
theorem Do:dv X (.builtin "len") (fun xs H Q=>∃x n,xs=[x]/\mB X.K x H n/\Q (.int n) H):=by intro pz s σ H xs us Q I r h;obtain⟨x,n,rfl,e,q⟩:=h;obtain⟨u,rfl,rx⟩:=bA r;have hl:=jX;have hs:sizeLine=16777216:=HF;cases x with
|str y=>obtain⟨t,rfl⟩:=rx;obtain⟨hy,e'⟩:y.length<=sizeLine/\n=y.length:=e;subst e';exact len_str (by omega) ⟨.int _,H,I.tok _,⟨_,rfl⟩,q⟩
|byt y=>obtain⟨t,rfl⟩:=rx;obtain⟨hy,e'⟩:y.size<=sizeLine/\n=y.size:=e;subst e';exact W.len_bytes (by omega) ⟨.int _,H,I.tok _,⟨_,rfl⟩,q⟩
|ref p=>
  cases rx;have e':(∃xs,aL X.K H p xs/\n=xs.length)\/∃xs,bL X.K H p xs/\n=xs.length:=e;rcases e' with⟨xs,hx,e'⟩|⟨xs,hx,e'⟩
  .subst e';obtain⟨its,r',pl,hz⟩:=I.list hx;have hlen:=r'.length;exact Calls.call_len_list pl.isList (by simp only[n_];omega) ⟨.int xs.length,H,I.tok _,⟨_,by simp only[n_];rw[hlen]⟩,q⟩
  .subst e';obtain⟨its,r',pl,hz⟩:=I.tuple hx;have hlen:=r'.length;exact len_tuple pl (by simp only[n_];omega) ⟨.int xs.length,H,I.tok _,⟨_,by simp only[n_];rw[hlen]⟩,q⟩
|_=>exact(show False from e).elim
end
structure ObjM(h:Heap)(x dx C:Addr)(mA:Str->Option a_):Prop where
 obj:h.get? x=some (W.instObj C dx)
 ns:h.Ns1 dx mA
 ne:dx≠x
def putF(f:Str)(v:V):List (Str×V)->List (Str×V)
|[]=>[(f,v)]
|(g,x)::r=>if g=f then(g,v)::r else(g,x)::putF f v r
theorem cb.some_of{v:V}{o:Option a_}(r:cb (some v) o):∃u,o=some u/\ao v u:=by cases o with
|none=>exact(show False from r).elim
|some u=>exact⟨u,rfl,r⟩
theorem cb.none_of{o:Option a_}(r:cb none o):o=none:=by cases o with
|none=>rfl
|some u=>exact(show False from r).elim
structure Cls(K:W.Frag)(C:Addr):Prop where
 pg:W.plainGet K C Str.empty=true
 hd:W.hasDictIn K C=true
 po:W.plainOver K C=true
 sa:W.findIn K (.ref C) "__setattr__" = some (some (.builtin "object.__setattr__"))
theorem Cls.get{K:W.Frag}{C:Addr}(c:Cls K C)(f:Str):W.plainGet K C f=true:=c.pg
structure Con(K:W.Frag)(C:Addr)(f:Str)(v:V)(u:a_):Prop where
 at_:W.findIn K (.ref C) f=some (some u)
 rel:ao v u
 get:W.specialIn K u "__get__" = some none
 cp:W.copiedNames.contains f=false
structure Meth(K:W.Frag)(C:Addr)(m:Str)(f:Addr):Prop where
 at_:W.findIn K (.ref C) m=some (some (.ref f))
 fn:W.isFn K (.ref f)=true
 kp:W.keepIn K (.ref f)=true
section
variable{X:Cx}{pz:List (Addr×Obj)}{σ:St}{H:Hp}{s:g_}{a C dx:Addr}{fs:List (Str×V)}{f:Str}{v:V}{A:HA}{E:a_->g_->Prop}
theorem Inv.made(I:Inv X pz σ H s):Inv X pz σ (upd (upd H s.heap.objs.size (.own (s.heap.objs.size+1))) (s.heap.objs.size+1) (.ins C s.heap.objs.size []))
  { s with heap:=(s.heap.push W.emptyDict).push (W.instObj C s.heap.objs.size) }:=by
 have e1:(s.heap.push W.emptyDict).get? s.heap.objs.size=some W.emptyDict:=u_ s.heap rfl;have e2:((s.heap.push W.emptyDict).push (W.instObj C s.heap.objs.size)).get? (s.heap.objs.size+1)=some (W.instObj C s.heap.objs.size):=by have:=u_ (s.heap.push W.emptyDict) (o:=W.instObj C s.heap.objs.size) rfl;rwa[IE]at this
 have e3:(s.heap.push W.emptyDict).Ns s.heap.objs.size (fun _=>none):=⟨W.emptyDict,#[],_,e1,rfl,(fun e he=>absurd he (by simp)),fun _=>rfl⟩
 have I1:=I.laid (a:=s.heap.objs.size) (o:=.own (s.heap.objs.size+1)) (h':=s.heap.push W.emptyDict) (t':=s.toks) (fun b u q=>h_ _ q) (q_ _) ⟨_,e1⟩;refine I1.laid (a:=s.heap.objs.size+1) (o:=.ins C s.heap.objs.size []) (t':=s.toks) (fun b u q=>h_ _ q) (JV (IE _ _)) ?_;have ne:s.heap.objs.size≠s.heap.objs.size+1:=B_ (Iz _);refine⟨by rw[aW ne,bM],Hy _,ne,e2,fun _=>none,(Heap.Ns1.of_empty e3).at fun o q=>h_ _ q,fun _=>True.intro,fun y hy=>absurd rfl hy⟩
end
section
variable{X:Cx}{pz:List (Addr×Obj)}{σ:St}{H:Hp}{s:g_}{A:HA}{E:a_->g_->Prop}{Q:a_->g_->Prop}{c:a_}{b:Bool}
inductive TyOf(K:W.Frag)(H:Hp):V->a_->Prop where
 |non:TyOf K H .non (.type "NoneType")
 |bl (x:Bool):TyOf K H (.bl x) (.type "bool")
 |int (i:Int):TyOf K H (.int i) (.type "int")
 |str (x:Str):TyOf K H (.str x) (.type "str")
 |flt (x:UInt64):TyOf K H (.flt x) (.type "float")
 |lst {a:Addr} {xs:List V} (e:H a=some (.lst xs)):TyOf K H (.ref a) (.type "list")
 |frz {a:Addr} {o:Obj} {xs:List V} (e:H a=some (.frz o (.lst xs))):TyOf K H (.ref a) (.type "list")
 |tup {a:Addr} {xs:List V} (e:H a=some (.tup xs)):TyOf K H (.ref a) (.type "tuple")
 |dK {a:Addr} {kvs:List (au×V)} (e:H a=some (.dK kvs)):TyOf K H (.ref a) (.type "dict")
 |dT {a:Addr} {kvs:List (List au×V)} (e:H a=some (.dT kvs)):TyOf K H (.ref a) (.type "dict")
 | ins {a C dx:Addr} {fs:List (Str × V)} (e:H a=some (.ins C dx fs)) (cl:Cls K C) (ha:W.findIn K (.ref C) "__class__" = some (some (.builtin "object.__class__")))
   (hn:W.specialIn K (.builtin "object.__class__") "__get__" = some (some (.builtin "getset_descriptor.__get__"))) (htk:W.takesIn K (.builtin "object.__class__")=some true)
   (hm:W.mroIn K C (.type "object")=some true):TyOf K H (.ref a) (.ref C)
end
structure Room(k:Nat)(A:HA):Prop where
 hd:A.handled=none
 dp:A.depth+3*k+5<recursionLimit
 un:A.units+16*k+200<Jl
 gd:A.guards=some []
theorem Room.mono{j k:Nat}{A:HA}(r:Room k A)(h:j<=k):Room j A:=⟨r.hd,by have:=r.dp;omega,by have:=r.un;omega,r.gd⟩
theorem Room.deeper{k:Nat}{A:HA}(r:Room (k+1) A)(env:Env):Room k (A.deeper env):=⟨r.hd,by have:=r.dp;show A.depth+1+3*k+5<_;omega,by have:=r.un;show A.units+3+16*k+200<_;omega,r.gd⟩
theorem Room.in1{k:Nat}{A:HA}(r:Room (k+1) A):Room k A.in1:=⟨r.hd,by have:=r.dp;show A.depth+3*k+5<_;omega,by have:=r.un;show A.units+1+16*k+200<_;omega,r.gd⟩
theorem FJ{A:HA}{C:Addr}{us:List a_}{kw:List (Str×a_)}:(A.under (.builtin "type.__call__" ⟨.ref C::us,kw⟩)).depth=A.depth+1:=by first|rfl|simp[Lg,Code.weight,Code.isCreation,NY,Code.isCaller,Oa,Me,guardIds]
theorem FK{A:HA}{C:Addr}{us:List a_}{kw:List (Str×a_)}:(A.under (.builtin "type.__call__" ⟨.ref C::us,kw⟩)).units=A.units+1:=by first|rfl|simp[Lg,Code.cUnits,Oa,Me]
theorem Room.make{k:Nat}{A:HA}(r:Room (k+1) A)(C:Addr)(us:List a_)(kw:List (Str×a_)):Room k (A.under (.builtin "type.__call__" ⟨.ref C::us,kw⟩)):=⟨r.hd,by have:=r.dp;rw[FJ];omega,by have:=r.un;rw[FK];omega,(by have:=r.gd;first|exact this|(simp[Lg,NY,guardIds];exact this))⟩
theorem Room.depth{k:Nat}{A:HA}(r:Room k A):A.depth<recursionLimit:=by have:=r.dp;omega
theorem Room.units{k:Nat}{A:HA}(r:Room k A):A.units+64<Jl:=by have:=r.un;omega
def rW:TA:=fun _ H Q=>Q [] H
def Ax(ta:TE)(tr:TA):TA:=fun σ H Q=>ta σ H fun x H1=>tr σ H1 fun xs H2=>Q (x::xs) H2
section
variable{X:Cx}{e:Expr}{es:List Expr}{te:TE}{t:TA}{pos:Pos}
theorem gN:PA X [] rW:=fun _ _ _ _ H Q I h=>Mf ⟨[],H,I,.nil,h⟩
theorem gp(ha:PE X e te)(hr:PA X es t)(hs:l_ (e::es) X.env=(false,eval e X.env)::l_ es X.env:=by rfl):PA X (e::es) (Ax te t):=by intro pos pz s σ H Q I h;rw[hs];show C_ _ _ (spliced ((false,eval e X.env)::backTo pos (l_ es X.env))) _ _ s;refine L5 (aF (ha pz s σ H _ I h) fun u s1 ⟨x,H1,I1,r1,q1⟩=>?_);exact aF (hr pos pz s1 σ H1 _ I1 q1) fun us s2 ⟨xs,H2,I2,r2,q2⟩=>⟨x::xs,H2,I2,.cons r1 r2,q2⟩
def rR(t:TA):TE:=fun σ H Q=>t σ H fun xs H1=>xs.length<=sizeLine/\∀p,H1 p=none->Q (.ref p) (upd H1 p (.tup xs))
def rX(t:TA):TE:=fun σ H Q=>t σ H fun xs H1=>xs.length<=sizeLine/\∀p,H1 p=none->Q (.ref p) (upd H1 p (.lst xs))
theorem Bc{x1}(h:PA X es t):PE X (.Tuple es x1 pos) (rR t):=by intro pz s σ H Q I hq;refine wpAny_Tuple_spliced (aF (h pos pz s σ H _ I hq) fun us s1 ⟨xs,H1,I1,r,z,q⟩=>⟨by rw[<-r.length];exact z,?_⟩);have hf:H1 s1.heap.objs.size=none:=I1.hok.fresh (q_ _);refine⟨.ref s1.heap.objs.size,upd H1 s1.heap.objs.size (.tup xs),I1.laid (t':=s1.toks) (fun b u e=>h_ _ e) (q_ _) ?_,rfl,q _ hf⟩;exact⟨z,us,r,⟨_,u_ _ rfl,rfl,_,rfl⟩,_,u_ _ rfl,rfl⟩
theorem uQ(h:PA X es t):PE X (.List es pos) (rX t):=by intro pz s σ H Q I hq;refine wpAny_List_spliced (aF (h pos pz s σ H _ I hq) fun us s1 ⟨xs,H1,I1,r,z,q⟩=>⟨by rw[<-r.length];exact z,?_⟩);have hf:H1 s1.heap.objs.size=none:=I1.hok.fresh (q_ _);refine⟨.ref s1.heap.objs.size,upd H1 s1.heap.objs.size (.lst xs),I1.laid (t':=s1.toks) (fun b u e=>h_ _ e) (q_ _) ?_,rfl,q _ hf⟩;exact⟨z,us,0,r,u_ _ rfl⟩
end
abbrev Sp:=List V->Hp->VK->XK->Prop
abbrev fm:=List Env->Hp->g_->XK->a_->g_->Prop
structure Env0(P:z_)(w:Ht)(K:W.Frag)(mg:Str->Option a_)(base:Heap)(A:HA)(outer:List Env)(s:g_)(H:Hp):Prop where
 frames:A.frames=some outer
 mod:Mod K mg base
 bs:∀b o,base.get? b=some o->s.heap.get? b=some o/\H b=none
 bsz:base.objs.size<=s.heap.objs.size
 funs:s.heap.FunFrames base outer
 frf:∀b∈cJ outer,H b=none
 hok:bU P w H s.heap
 bare:Kd s.gens
def CE(outer:List Env)(P:z_)(w:Ht)(H:Hp)(s:g_)(Q:VK)(u:a_)(s':g_):Prop:=∃v H',s'.os=s.os/\Kd s'.gens/\Un (cJ outer) [] H H' s.heap s'.heap/\bU P w H' s'.heap/\ao v u/\Q v H'
def CR(CX:fm)(outer:List Env)(P:z_)(w:Ht)(H:Hp)(s:g_)(Q:VK)(E:XK)(r:NZ)(s':g_):Prop:=match r with
|.ok (.ret u)=>CE outer P w H s Q u s'
|.ok _=>False
|.error e=>CX outer H s E e s'
structure FnOk(P:z_)(w:Ht)(K:W.Frag)(mg:Str->Option a_)(base:Heap)(CX:fm)(k:Nat)(f:Addr)(fd:Iy)(ps:List Str)(sp:Sp):Prop where
 len:∀vs H Q E,sp vs H Q E->vs.length=ps.length
 run:∀(A:HA)(outer:List Env)(s:g_)(H:Hp)(args:Args)(us:List a_)(vs:List V)(Q:VK)(E:XK),Room k A->Env0 P w K mg base A outer s H->LP s fd args (ps.zip us)->ai vs us->sp vs H Q E ->KL (F_ P w) A (.call (.ref f) args) (CR CX outer P w H s Q E) s
theorem FnOk.mono{P:z_}{w:Ht}{K:W.Frag}{mg:Str->Option a_}{base:Heap}{CX:fm}{j k:Nat}{f:Addr}{fd:Iy}{ps:List Str}{sp:Sp}(F:FnOk P w K mg base CX j f fd ps sp)(h:j<=k):FnOk P w K mg base CX k f fd ps sp:=⟨F.len,fun A outer s H args us vs Q E hr=>F.run A outer s H args us vs Q E (hr.mono h)⟩
theorem FnOk.imp{P:z_}{w:Ht}{K:W.Frag}{mg:Str->Option a_}{base:Heap}{CX:fm}{k:Nat}{f:Addr}{fd:Iy}{ps:List Str}{sp sp':Sp}(F:FnOk P w K mg base CX k f fd ps sp)(h:∀vs H Q E,sp' vs H Q E->sp vs H Q E):FnOk P w K mg base CX k f fd ps sp':=⟨fun vs H Q E q=>F.len vs H Q E (h _ _ _ _ q),fun A outer s H args us vs Q E hr he hb hv hs=>F.run A outer s H args us vs Q E hr he hb hv (h _ _ _ _ hs)⟩
theorem Env0.make{P:z_}{w:Ht}{K:W.Frag}{mg:Str->Option a_}{base:Heap}{A:HA}{outer:List Env}{s:g_}{H:Hp}(e:Env0 P w K mg base A outer s H)(C:Addr)(us:List a_)(kw:List (Str×a_)):Env0 P w K mg base (A.under (.builtin "type.__call__" ⟨.ref C::us,kw⟩)) outer s H:=⟨by first|exact e.frames|(simpa[Lg,Code.envs,Me,pushEnvs]using e.frames),e.mod,e.bs,e.bsz,e.funs,e.frf,e.hok,e.bare⟩
theorem Env0.in1{P:z_}{w:Ht}{K:W.Frag}{mg:Str->Option a_}{base:Heap}{A:HA}{outer:List Env}{s:g_}{H:Hp}(e:Env0 P w K mg base A outer s H):Env0 P w K mg base A.in1 outer s H:=⟨e.frames,e.mod,e.bs,e.bsz,e.funs,e.frf,e.hok,e.bare⟩
section
variable{X:Cx}{pz:List (Addr×Obj)}{σ:St}{H:Hp}{s s':g_}
theorem Inv.env0(I:Inv X pz σ H s):Env0 X.prog X.w X.K X.mg X.base X.A X.stack s H:=⟨I.ok.frames,I.ok.mod,I.bs,HZ I.ok.bsz I.sz,I.stack,I.stkFree,I.hok,I.bare⟩
theorem Inv.after{Q:VK}{u:a_}(I:Inv X pz σ H s)(h:CE X.stack X.prog X.w H s Q u s'):EP X pz σ Q u s':=by obtain⟨v,H',os,bare,un,hok,r,q⟩:=h;obtain⟨hh,g,d,t,os'⟩:=s';obtain rfl:os'=s.os:=os;exact⟨v,H',I.call (h':=hh) (g':=g) (d':=d) (t':=t) (ch:=[]) un hok bare (fun b z=>absurd z (by simp)),r,q⟩
end
def Aw(sp:Sp)(dvs:List V)(E:XK)(t:TA):TE:=fun σ H Q=>t σ H fun vs H1=>sp (vs++dvs) H1 Q E
def dY(K:W.Frag)(fd:Iy)(ps:List Str)(ds:List a_):Prop:=∀(s:g_)(us:List a_),K.In s.heap->(us++ds).length=ps.length->LP s fd ⟨us,[]⟩ (ps.zip (us++ds))
theorem dY.all{K:W.Frag}{fd:Iy}{ps:List Str}(h:∀us:List a_,us.length=ps.length->K9 fd ⟨us,[]⟩=pure (ps.zip us)):dY K fd ps []:=fun s us _ hl=>by rw[HU]at hl ⊢;exact .of_eq (h us hl)
def oU(CX:fm)(X:Cx)(E:XK):Prop:=∀(pz:List (Addr×Obj))(σ:St)(H:Hp)(s:g_)(e:a_)(s':g_),Inv X pz σ H s->CX X.stack H s E e s'->X.xe e s'
section
variable{X:Cx}{CX:fm}{k:Nat}{f C:Addr}{fd:Iy}{ps:List Str}{sp:Sp}{dvs:List V}{ds:List a_}{E:XK}{x m:Str}{p pos apos:Pos}{e o:Expr}{es:List Expr}{ta:TE}{t:TA}
theorem B4{pz:List (Addr×Obj)}{σ:St}{H:Hp}{s:g_}{Q:VK}{us:List a_}{vs:List V}(F:FnOk X.prog X.w X.K X.mg X.base CX k f fd ps sp)(hr:Room k X.A)(hb:dY X.K fd ps ds)(hd:ai dvs ds)(hx:oU CX X E)(I:Inv X pz σ H s)(r:ai vs us)(h:sp (vs++dvs) H Q E):C_ (F_ X.prog X.w) X.A (call (.ref f) us) (EP X pz σ Q) X.xe s:=by
 have r2:ai (vs++dvs) (us++ds):=r.append hd;have hl:(us++ds).length=ps.length:=by rw[<-r2.length];exact F.len _ _ _ _ h
 refine wpAny_call (Km (F.run X.A X.stack s H ⟨us,[]⟩ (us++ds) (vs++dvs) Q E hr I.env0 (hb s us I.kIn hl) r2 h) fun r s' hq=>?_);cases r with
|error e=>exact hx pz σ H s e s' I hq
|ok fl=>cases fl with
 |ret u=>exact I.after hq
 |next=>exact IX hq
 |brk=>exact IX hq
 |cont=>exact IX hq
theorem m6(F:FnOk X.prog X.w X.K X.mg X.base CX k f fd ps sp)(hr:Room k X.A)(hg:Gl X x)(hm:X.mg x=some (.ref f))(hk:W.keepIn X.K (.ref f)=true)(hb:dY X.K fd ps ds)(hd:ai dvs ds)(hx:oU CX X E)(ha:PA X (e::es) t)(hdb:(x==("__debug__" : Str))=false:=by decide)(he:l_ (e::es) X.env=(false,eval e X.env)::l_ es X.env:=by rfl)(hpl:(backTo pos (l_ es X.env)).any (·.1)=false:=by rfl):PE X (.Call (.Name x p) (e::es) [] pos) (Aw sp dvs E t):=by intro pz s σ H Q I h;refine Js (Dc I hg hm ?_ hdb);refine W.callWith_K (h₀:=X.base) I.ok.mod.kin hk (aF (ha pos pz s σ H _ I h) fun us s1 ⟨vs,H1,I1,r,q⟩=>⟨I1.kIn,?_⟩) he hpl;exact B4 F hr hb hd hx I1 r q
structure Mk(K:W.Frag)(C f:Addr):Prop where
 makes:W.makesIn K C=true
 init:W.findIn K (.ref C) "__init__" = some (some (.ref f))
 fn:W.isFn K (.ref f)=true
 kp:W.keepIn K (.ref C)=true
end
section
variable{X:Cx}{CX:fm}{k:Nat}{f C:Addr}{fd:Iy}{ps ks:List Str}{sp:Sp}{E:XK}{x m:Str}{p pos apos kpos:Pos}{e o:Expr}{es:List Expr}{kws:List Jz}{te ta:TE}{t tk:TA}{nm:Option Str}
structure KBinds(K:W.Frag)(fd:Iy)(ps ks:List Str)(g:List a_->List a_->List a_)(gV:List V->List V->List V):Prop where
 to:∀(s:g_)(us ws:List a_),K.In s.heap->(g us ws).length=ps.length->LP s fd ⟨us,ks.zip ws⟩ (ps.zip (g us ws))
 rel:∀{vs:List V}{us:List a_}{zs:List V}{ws:List a_},ai vs us->ai zs ws->ai (gV vs zs) (g us ws)
variable{g:List a_->List a_->List a_}{gV:List V->List V->List V}
end
structure FnScope(N P:List Str)(sc:JC):Prop where
 kind:sc.kind=.function
 co:sc.isCoroutine=false
 gen:sc.isGenerator=false
 nd:N.Nodup
 pre:N.take P.length=P
 par:∀x∈P,sc.names.lookup x=some .local\/sc.names.lookup x=some .cell
 nofree:∀y∈sc.names,y.2≠.free
theorem xZ{kindOf:Str->Option JE}{x:Str}:∀{binds:List (Str×a_)}{m:Str->Option a_},(∀v,(x,v)∉binds)->M0 kindOf binds m x=m x
|[],_,_=>rfl
|(n,v)::r,m,h=>by
  unfold M0;rw[xZ fun w hw=>h w (f_ _ hw)];split
  .have:x≠n:=by rintro rfl;exact h v c_
   simp[this]
  .rfl
theorem xr{kindOf:Str->Option JE}{x:Str}:∀{binds:List (Str×a_)}{m:Str->Option a_},(∀v,(x,v)∉binds)->M3 kindOf binds m x=m x
|[],_,_=>rfl
|(n,v)::r,m,h=>by
  unfold M3;rw[xr fun w hw=>h w (f_ _ hw)];split
  .rfl
  .have:x≠n:=by rintro rfl;exact h v c_
   simp[this]
theorem xt{kindOf:Str->Option JE}{x:Str}{v:a_}:∀{P:List Str}{vs:List a_}{i:Nat}{m:Str->Option a_},P.Nodup->P[i]? = some x->vs[i]? = some v->kindOf x=some .local ->M0 kindOf (P.zip vs) m x=some v
|[],_,_,_,_,h,_,_=>by simp at h
|_::_,[],_,_,_,_,h,_=>by simp at h
|p::P,w::vs,0,m,nd,h1,h2,hk=>by simp at h1 h2;subst h1;subst h2;show M0 kindOf ((p,w)::P.zip vs) m p=_;unfold M0;rw[xZ fun v hv=>(Hu.mp nd).1 (Lv hv).1,if_pos hk];simp
|p::P,w::vs,i+1,m,nd,h1,h2,hk=>by show M0 kindOf ((p,w)::P.zip vs) m x=_;unfold M0;exact xt (i:=i) (Hu.mp nd).2 (by simpa using h1) (by simpa using h2) hk
theorem xq{kindOf:Str->Option JE}{x:Str}{v:a_}:∀{P:List Str}{vs:List a_}{i:Nat}{m:Str->Option a_},P.Nodup->P[i]? = some x->vs[i]? = some v->kindOf x≠some .local ->M3 kindOf (P.zip vs) m x=some v
|[],_,_,_,_,h,_,_=>by simp at h
|_::_,[],_,_,_,_,h,_=>by simp at h
|p::P,w::vs,0,m,nd,h1,h2,hk=>by simp at h1 h2;subst h1;subst h2;show M3 kindOf ((p,w)::P.zip vs) m p=_;unfold M3;rw[xr fun v hv=>(Hu.mp nd).1 (Lv hv).1,if_neg hk];simp
|p::P,w::vs,i+1,m,nd,h1,h2,hk=>by show M3 kindOf ((p,w)::P.zip vs) m x=_;unfold M3;exact xq (i:=i) (Hu.mp nd).2 (by simpa using h1) (by simpa using h2) hk
def bi(N:List Str)(vs:List V):St:=vs.map some++HM (N.length-vs.length) none
def aR(CX:fm)(P:z_)(w:Ht)(K:W.Frag)(mg:Str->Option a_)(base:Heap)(N:List Str)(qual:Str)(scope:JC)(f:Addr)(cd:a_)(A:HA)(outer:List Env)(s:g_)(H:Hp)(E:XK):Cx where
 prog:=P
 w:=w
 K:=K
 mg:=mg
 base:=base
 A:=A.deeper (JW qual scope s.heap.objs.size f cd)
 N:=N
 s₀:=s
 H₀:=H
 env:=JW qual scope s.heap.objs.size f cd
 outer:=outer
 stack:=JW qual scope s.heap.objs.size f cd::outer
 ex:=[]
 calm:=true
 fn:=fun _=>true
 pn:=[]
 xe:=fun e s'=>C_ (F_ P w) (A.deeper (JW qual scope s.heap.objs.size f cd)) (leaving (JW qual scope s.heap.objs.size f cd) e) (fun _ s''=>CX outer H s E e s'') (fun e' s''=>CX outer H s E e' s'') s'
theorem xj{sc:JC}{n:Nat}{x:Str}(h:sc.names.lookup x=some .cell):∃c,(NR n sc.names []).lookup x=some c:=by have q:=W.cellsFrom_some sc.names n [] (.inl h);exact Option.isSome_iff_exists.mp q
theorem ER{CX:fm}{P:z_}{w:Ht}{K:W.Frag}{mg:Str->Option a_}{base:Heap}{N ps:List Str}{qual:Str}{scope:JC}{f:Addr}{cd:a_}{A:HA}{outer:List Env}{s s1:g_}{H:Hp}{E:XK}{us:List a_}{vs:List V}(S:FnScope N ps scope)(hd:A.handled=none)(e0:Env0 P w K mg base A outer s H)(hl:vs.length=ps.length)(r:ai vs us)(x:InCallC s s.heap.objs.size (M0 (JW qual scope s.heap.objs.size f cd).kindOf (ps.zip us) fun _=>none) (NR (s.heap.objs.size+1) scope.names []) (M3 (JW qual scope s.heap.objs.size f cd).kindOf (ps.zip us) fun _=>none) s1):Inv (aR CX P w K mg base N qual scope f cd A outer s H E) [] (bi N vs) H s1:=by
 have hpl:ps.length<=N.length:=by have:=congrArg KM S.pre;rw[JI]at this;omega
 obtain⟨h1,tk,rfl,hk⟩:=x.done;have noA:∀b:Addr,b∉(aR CX P w K mg base N qual scope f cd A outer s H E).ex:=fun b z=>absurd (show b∈([]:List Addr)from z) (by simp);refine⟨⟨e0.mod,S.kind,rfl,rfl,q_ _,fun y z c h1 h2=>?_,fun y hy=>?_,fun y c _ h=>?_,fun _=>hd,Around.frames_deeper e0.frames,.inr ⟨rfl,rfl⟩,fun b z=>absurd z (noA b),e0.bs,e0.bsz,fun b _ _=>noA b,fun b z=>absurd z (noA b),e0.funs,e0.frf⟩,rfl,e0.bare,Un.kept hk,⟨_,x.toInCall.ns,fun i y v h1 h2 h3=>?_⟩,fun y c h=>⟨_,x.cell y c h⟩,e0.hok.fresh (q_ _),fun y c h=>?_,fun p hp=>absurd (show p∈([]:List (Addr×Obj))from hp) (by simp),e0.hok.kept hk,?_⟩
 .exact name_of_addr x.apart (Ix h1) (Ix h2)
 .have hy:scope.names.lookup y=some .cell\/scope.names.lookup y=some .free:=hy;rcases hy with hy|hy
  .exact xj hy
  .exact absurd rfl (S.nofree _ (Ix hy))
 .exact Lf (x.above y c (Ix h))
 .have hi:i<vs.length:=by
   unfold bi at h2;by_cases hi:i<vs.length
   .exact hi
   .rw[IY (by simpa using hi)]at h2;rw[Im]at h2;split at h2 <;> cases h2
  have ha:vs[i]? = some v:=by unfold bi at h2;rw[HG (by simpa using hi),t_]at h2;cases e:vs[i]? with
  |none=>rw[e]at h2;cases h2
  |some a=>rw[e]at h2;cases h2;rfl
  obtain⟨u,hu,rv⟩:=r.get ha;have hp:ps[i]? = some y:=by rw[<-S.pre,List.getElem?_take_of_lt (by omega)];exact h1
  have ndP:ps.Nodup:=by rw[<-S.pre];exact S.nd.sublist (Mg _ _)
  refine⟨u,rv,?_⟩;rcases S.par y (IF hp)with k|k
  .exact .inl ⟨k,xt ndP hp hu k⟩
  .obtain⟨c,e⟩:=xj (n:=s.heap.objs.size+1) k;refine .inr ⟨.inl k,c,e,?_⟩;have q:=x.cell y c e;rw[xq ndP hp hu (by show scope.names.lookup y≠_;rw[k];decide)]at q;exact q
 .exact e0.hok.fresh (Lf (x.above y c (Ix h)))
 .unfold bi;show _=N.length;rw[HJ,m_,I0];omega
theorem oI{CX:fm}{P:z_}{w:Ht}{K:W.Frag}{mg:Str->Option a_}{base:Heap}{k:Nat}{f:Addr}{name qual:Str}{params:Arguments}{body:List Stmt}{scope:JC}{dV kV doc pm cdv ct oc:a_}{an od:Option Addr}{osl:Array (Option a_)}{N ps:List Str}{sp:Sp}(lk:K.lookup f=some ⟨oc,od,.func (W.fnOf name qual params body scope dV kV doc pm an cdv ct),osl⟩)(hcd:W.codeIn K cdv qual=true)(S:FnScope N ps scope)(len:∀vs H Q E,sp vs H Q E->vs.length=ps.length)(hbody:∀(A:HA)(outer:List Env)(s:g_)(H:Hp)(vs:List V)(Q:VK)(E:XK),Room k (A.deeper (JW qual scope s.heap.objs.size f cdv))->sp vs H Q E ->∃t,bb (aR CX P w K mg base N qual scope f cdv A outer s H E) body t/\t { nx:=fun _ H'=>Q .non H',rt:=Q } (bi N vs) H):FnOk P w K mg base CX (k+1) f (W.fnOf name qual params body scope dV kV doc pm an cdv ct) ps sp:=by
 refine⟨len,fun A outer s H args us vs Q E hr e0 hb r hsp=>?_⟩;have hl:=len _ _ _ _ hsp;have KX:K.In s.heap:=e0.mod.kin.keeps fun b o e=>(e0.bs b o e).1;have lim:s.heap.NoLimit:=e0.mod.nolimit.keeps fun b o e=>(e0.bs b o e).1;have hkind:∀y∈ps.zip us,scope.names.lookup y.1=some .local\/(scope.names.lookup y.1=some .cell/\((NR (s.heap.objs.size+1) scope.names []).lookup y.1).isSome=true):=fun⟨n,v⟩ hy=>by
  rcases S.par n (Lv hy).1 with q|q
  .exact .inl q
  .exact .inr ⟨q,W.cellsFrom_some _ _ _ (.inl q)⟩
 refine codeAny_call_function hr.depth (KX _ _ lk) rfl S.co S.gen rfl (W.codeRec_of KX hcd) (hb _ _ _ _ ?_);refine wpAny_newFunctionEnv_cells S.kind hkind fun env he s1 x=>?_;subst he;refine⟨lim.keeps x.toInCall.keep,codeAny_func ?_⟩;obtain⟨t,ht,hq⟩:=hbody A outer s H vs Q E (hr.deeper _) hsp;have I:Inv (aR CX P w K mg base N qual scope f cdv A outer s H E) [] (bi N vs) H s1:=ER S hr.hd e0 hl r x;refine IK (ht [] s1 (bi N vs) H _ I hq) (fun fl s' hs=>?_) fun e s' hs=>hs;have fin:∀{σ':St}{H':Hp}{v:V}{u:a_},Inv (aR CX P w K mg base N qual scope f cdv A outer s H E) [] σ' H' s'->ao v u->Q v H'->CE outer P w H s Q u s':=fun{σ' H' v u} J rv q=>⟨v,H',J.os,J.bare,J.base,J.hok,rv,q⟩
 cases fl with
|ret u=>obtain⟨v,σ',H',J,rv,q⟩:=hs;exact fin J rv q
|next=>obtain⟨σ',H',J,q⟩:=hs;exact fin (v:=V.non) (u:=Value.none) J rfl q
|brk=>obtain⟨_,_,_,q⟩:=hs;exact IX q
|cont=>obtain⟨_,_,_,q⟩:=hs;exact IX q
section
variable{X:Cx}{x:Str}{p pos:Pos}{e:Expr}{es:List Expr}{t:TA}{id T:String}{r:List V->Hp->VK->Prop}
def lU(r:List V->Hp->VK->Prop)(t:TA):TE:=fun σ H Q=>t σ H fun vs H1=>r vs H1 Q
theorem lc(hc:dv X (.builtin id) r)(hg:Gl X x)(hm:X.mg x=none)(hv:JH x=some (.builtin id))(ha:PA X (e::es) t)(hn:x≠"__name__" := by decide)(hdb:(x==("__debug__" : Str))=false:=by decide)(he:l_ (e::es) X.env=(false,eval e X.env)::l_ es X.env:=by rfl)(hpl:(backTo pos (l_ es X.env)).any (·.1)=false:=by rfl):PE X (.Call (.Name x p) (e::es) [] pos) (lU r t):=by intro pz s σ H Q I h;refine Js (ja I hg hm hv ?_ hn hdb);exact J8 (aF (ha pos pz s σ H _ I h) fun us s1 ⟨vs,H1,I1,r1,q1⟩=>hc pz s1 σ H1 vs us Q I1 r1 q1) he hpl
theorem lj(hc:dv X (.type T) r)(hg:Gl X x)(hm:X.mg x=none)(hv:JH x=some (.type T))(ha:PA X (e::es) t)(hn:x≠"__name__" := by decide)(hdb:(x==("__debug__" : Str))=false:=by decide)(he:l_ (e::es) X.env=(false,eval e X.env)::l_ es X.env:=by rfl)(hpl:(backTo pos (l_ es X.env)).any (·.1)=false:=by rfl):PE X (.Call (.Name x p) (e::es) [] pos) (lU r t):=by intro pz s σ H Q I h;refine Js (ja I hg hm hv ?_ hn hdb);exact IU (aF (ha pos pz s σ H _ I h) fun us s1 ⟨vs,H1,I1,r1,q1⟩=>hc pz s1 σ H1 vs us Q I1 r1 q1) he hpl
end
end L2
namespace HT
open PySem PyProof.Rows
def bn:List Int->List Int->Bool
|[],[]=>false
|[],_::_=>true
|_::_,[]=>false
|x::xs,y::ys=>if x=y then bn xs ys else decide (x<y)
theorem cE(x y:Int)(xs ys:List Int):bn (x::xs) (y::ys)=if x=y then bn xs ys else decide (x<y):=rfl
theorem GC:bn [] []=false:=rfl
theorem Gz(y:Int)(ys:List Int):bn [] (y::ys)=true:=rfl
theorem Gy(x:Int)(xs:List Int):bn (x::xs) []=false:=rfl
theorem Dr(A:HA)(s:g_)(a:Int)(t:Tok)(c:Int)(u:Tok):∃e,L6 A s (.int a t) (.int c u) e/\(e=true↔a=c):=⟨(a==c),Kv a t c u,by simp⟩
theorem Em(A:HA)(s:g_)(a:Int)(t:Tok)(c:Int)(u:Tok)(prog:z_)(w:Ht)(E:a_->g_->Prop)(Q:a_->g_->Prop)(h:Q (.bool (decide (a<c))) s):C_ (F_ prog w) A (richCompare .Lt (.int a t) (.int c u)) Q E s:=(PyProof.Rows.lt_int h:C_ (F_ prog w) A (HI .Lt (.int a t) (.int c u)) Q E s)
section
open PySem.SeqAt
open PySem.AutoSeq1 (wpAny_loadPart')
open PySem.MeetsSeq PySem.MeetsSeq2 PySem.MeetsSeq3
theorem GJ(l b:Addr)(items items2:Array a_)(n n2:Nat)(dd dd2:Option Addr)(sl sl2:Array (Option a_))(ns ms:List Int)(hi:IV items.toList ns)(hj:IV items2.toList ms) :
  Meets (JJ.«tuple.__lt__» ⟨[.ref l,.ref b],[]⟩)
   (fun _ R s=>s.heap.get? l=some { cls:=.type "tuple",dict:=dd,data:=.seq items n,slots:=sl }/\s.heap.get? b=some { cls:=.type "tuple",dict:=dd2,data:=.seq items2 n2,slots:=sl2 } /\R (.ok (.ret (.bool (bn ns ms)))) s):=
 .of_wp fun prog w A R s h=>by
  obtain⟨hp,g,d,tk,os⟩:=s;obtain⟨hl,hb,h⟩:=h;have f2:=AutoSeq1.sub_tuple_tuple;have z1:items.size=ns.length:=by rw[<-hi.length];simp
  have z2:items2.size=ms.length:=by rw[<-hj.length];simp
  wp_walk using IL hl,IL hb,wpAny_forIn_list _ (fun rest b s'=>b.1=none/\s'=⟨hp,g,d,tk,os⟩/\∃(vs ws:List a_)(ns' ms':List Int),rest=vs.zip ws /\IV vs ns'/\IV ws ms'/\ns'.length+items2.size=ms'.length+items.size/\R (.ok (.ret (.bool (bn ns' ms')))) ⟨hp,g,d,tk,os⟩) _
  case turn=>
   rintro⟨y,x⟩ rest b s' ⟨hb',rfl,vs,ws,ns',ms',hz,hvi,hwi,hlen,hR⟩
   cases hvi with
  |nil=>rw[List.zip_nil_left]at hz;cases hz
  |cons a t hvi'=>cases hwi with
   |nil=>rw[List.zip_nil_right]at hz;cases hz
   |cons c u hwi'=>
     rw[L7]at hz;injection hz with hyx hrest
     injection hyx with hy hx
     subst hy hx;rw[cE]at hR;simp only[IA]at hlen;obtain⟨e,he,hiff⟩:=Dr A.in1 ⟨hp,g,d,tk,os⟩ a t c u;refine e_ (he prog w _ _ ?_);cases e with
    |true=>
      rw[if_pos (hiff.mp rfl)]at hR
      wp_walk
      exact⟨rfl,rfl,_,_,_,_,hrest,hvi',hwi',by omega,hR⟩
    |false=>
      rw[if_neg (fun q=>absurd (hiff.mpr q) d_)]at hR;have hri:=Em A.in1 ⟨hp,g,d,tk,os⟩ a t c u prog w
      wp_walk using hri
      exact⟨_,rfl,by simpa using hR⟩
  case fin=>
   rintro⟨b1,b2⟩ s' ⟨hb',rfl,vs,ws,ns',ms',hz,hvi,hwi,hlen,hR⟩
   simp only at hb';subst hb';have hv:bn ns' ms'=decide (items.size<items2.size):=by cases hvi with
   |nil=>cases hwi with
    |nil=>simp only[Kk]at hlen;rw[GC];exact(decide_eq_false (by omega)).symm
    |cons c u hw=>simp only[Kk,IA]at hlen;rw[Gz];exact(decide_eq_true (by omega)).symm
   |cons a t hv=>cases hwi with
    |nil=>simp only[Kk,IA]at hlen;rw[Gy];exact(decide_eq_false (by omega)).symm
    |cons c u hw=>rw[L7]at hz;cases hz
   rw[hv]at hR
   wp_walk
   exact⟨_,rfl,by simpa[Ms]using hR⟩
  case h=>exact⟨rfl,rfl,items.toList,items2.toList,ns,ms,rfl,hi,hj,by omega,h⟩
end
section
variable{prog:z_}{w:Ht}{A:HA}{E:a_->g_->Prop}{s:g_}
theorem eM{l b:Addr}{items items2:Array a_}{ns ms:List Int}{Q:a_->g_->Prop}(hl:MV s.heap l items)(hb:MV s.heap b items2)(hi:IV items.toList ns)(hj:IV items2.toList ms)(hu:A.units<Jl)(h:Q (.bool (bn ns ms)) s):C_ (F_ prog w) A (HI .Lt (.ref l) (.ref b)) Q E s:=by
 obtain⟨⟨cls,dd,data,sl⟩,ho,hc,n,hd⟩:=id hl;obtain⟨⟨cls2,dd2,data2,sl2⟩,ho2,hc2,n2,hd2⟩:=id hb;simp only at hc hd hc2 hd2;subst hc hd hc2 hd2;exact richCompare_meets_room (op:=.Lt) ⟨_,ho,rfl⟩ ⟨_,ho2,rfl⟩ PySem.F.slot_tuple_lt PySem.F.entry_tuple_lt (PySem.F.args_tuple_lt_2 _ _) (GJ l b items items2 n n2 dd dd2 sl sl2 ns ms hi hj)
  ⟨ho,ho2,show Value.bool (bn ns ms)≠Value.notImplemented/\Q (.bool (bn ns ms)) s from⟨(fun x=>nomatch x),h⟩⟩ hu
theorem ii{t b:Addr}{vs ws:List a_}{Q:a_->g_->Prop}(ht:MV s.heap t vs.toArray)(hb:MV s.heap b ws.toArray)(hv:vs≠[])(h1:ws=[]->Q (.ref t) s)(h2:ws≠[]->Q (.ref s.heap.objs.size) { s with heap:=s.heap.push { cls:=.type "tuple",data:=.seq (vs++ws).toArray } })(hsz:vs.length+ws.length<=sizeLine):C_ (F_ prog w) A (JD .Add (.ref t) (.ref b)) Q E s:=by
 obtain⟨⟨cls,dd,data,sl⟩,ho,hc,n,hd⟩:=id ht;obtain⟨⟨cls2,dd2,data2,sl2⟩,ho2,hc2,n2,hd2⟩:=id hb;simp only at hc hd hc2 hd2;subst hc hd hc2 hd2;have e:vs.toArray++ws.toArray=(vs++ws).toArray:=by simp
 by_cases hw:ws=[]
 .exact Mh ⟨_,ho,rfl⟩ ⟨_,ho2,rfl⟩ Mu seq_tuple_add Lh K_ (KU _ _)
   (tuple_addW1 t b vs.toArray ws.toArray n n2 dd dd2 sl sl2 (by simpa using hv) (by simp[hw])) ⟨ho,ho2,h1 hw⟩
 .refine Mh ⟨_,ho,rfl⟩ ⟨_,ho2,rfl⟩ Mu seq_tuple_add Lh K_ (KU _ _)
   (tuple_addW2 t b vs.toArray ws.toArray n n2 dd dd2 sl sl2 (by simpa using hv) (by simpa using hw) (by rw[n_,n_];exact hsz)) ⟨ho,ho2,?_⟩
  rw[e];exact h2 hw
def Hi(n d:Nat):Option Int->Nat
|none=>d
|some v=>if v<0 then(v+(n:Int)).toNat else min v.toNat n
end
end HT
namespace L2
open PySem PySem.Spec PyProof.Rows
abbrev TO:=St->Hp->(Option Int->Hp->Prop)->Prop
def PO(X:Cx)(e:Option Expr)(t:TO):Prop:=∀(pz:List (Addr×Obj))(s:g_)(σ:St)(H:Hp)(Q:Option Int->Hp->Prop),Inv X pz σ H s->t σ H Q ->C_ (F_ X.prog X.w) X.A (evalPart e X.env) (fun u s'=>∃o H',Inv X pz σ H' s'/\IsPart u o/\Q o H') X.xe s
theorem yd{ns:List Int}:∀{us:List a_},ai (ns.map V.int) us->IV us ns:=by induction ns with
|nil=>intro us r;rw[Kn]at r;cases r;exact .nil
|cons n ns ih=>intro us r;rw[y_]at r;cases r with
 |cons r1 r2=>obtain⟨t,e⟩:=r1;subst e;exact .cons n t (ih r2)
section
variable{X:Cx}{e:Expr}{te:TE}{lo hi:Option Expr}{tl th:TO}{pos p2:Pos}
def oA(X:Cx)(r:V->Option Int->Option Int->Hp->VK->Prop):Prop:=∀(pz:List (Addr×Obj))(s:g_)(σ:St)(H:Hp)(x:V)(v vl vu:a_)(lo hi:Option Int)(sl:Addr)(Q:VK),Inv X pz σ H s->ao x v->s.heap.IsSliceOf sl vl vu .none->IsPart vl lo->IsPart vu hi->r x lo hi H Q ->∃T id,typeLookup (.type T) "__getitem__" = pure (some (.builtin id))/\s.TypeIs v T/\C_ (F_ X.prog X.w) X.A (N0 v (.ref sl)) (EP X pz σ Q) X.xe s
theorem oA.or{r r':V->Option Int->Option Int->Hp->VK->Prop}(h:oA X r)(h':oA X r'):oA X (fun x lo hi H Q=>r x lo hi H Q\/r' x lo hi H Q):=by
 intro pz s σ H x v vl vu lo hi sl Q I rx hs pl pu q;rcases q with q|q
 .exact h pz s σ H x v vl vu lo hi sl Q I rx hs pl pu q
 .exact h' pz s σ H x v vl vu lo hi sl Q I rx hs pl pu q
def tN(K:W.Frag):R2:=fun x y H Q=>∃a b xs ys,x=.ref a/\y=.ref b/\bL K H a xs/\bL K H b ys/\xs≠[]/\xs.length+ys.length<=sizeLine /\(ys=[]->Q (.ref a) H)/\(ys≠[]->∀p,H p=none->Q (.ref p) (upd H p (.tup (xs++ys))))
theorem ai.nil_iff{xs:List V}{us:List a_}(r:ai xs us):us=[]↔xs=[]:=by cases r with
|nil=>simp
|cons _ _=>simp
theorem CS:aQ X (JD .Add) (tN X.K):=by intro pz s σ H x y v u Q I rx ry h;obtain⟨a,b,xs,ys,rfl,rfl,ha,hb,hx,hz,q1,q2⟩:=h;cases rx;cases ry;obtain⟨its,r1,p1,_⟩:=I.tuple ha;obtain⟨its2,r2,p2,_⟩:=I.tuple hb;refine HT.ii p1 p2 (fun z=>hx (r1.nil_iff.mp z)) (fun z=>⟨.ref a,H,I,rfl,q1 (r2.nil_iff.mp z)⟩) (fun z=>?_) (by rw[<-r1.length,<-r2.length];exact hz);refine⟨.ref s.heap.objs.size,_,I.laid (t':=s.toks) (o:=.tup (xs++ys)) (fun b ob q=>h_ _ q) (q_ _) ?_,rfl,q2 (fun w=>z (r2.nil_iff.mpr w)) _ (I.hok.fresh (q_ _))⟩;exact⟨by rw[HJ];exact hz,_,r1.append r2,Oi _ _,_,u_ _ rfl,rfl⟩
end
def d8(n:Nat)(i:Int):Option Nat:=if 0<=i then(if i<n then some i.toNat else none)else if-(n:Int)<=i then some (i+n).toNat else none
def c9{α:Type}(xs:List α)(i:Int):Option α:=(d8 xs.length i).bind fun j=>xs[j]?
theorem wd{n:Nat}{i:Int}{j:Nat}(h:d8 n i=some j):seqIndex? i n=some j/\j<n/\-(n:Int)<=i/\i<n:=by
 unfold d8 at h;by_cases h0:0<=i
 .rw[if_pos h0]at h;by_cases h1:i<n
  .rw[if_pos h1]at h;have e:i.toNat=j:=G_ h;exact⟨by rw[ME h0 h1,e],by omega,by omega,h1⟩
  .rw[if_neg h1]at h;cases h
 .rw[if_neg h0]at h;by_cases h1 : -(n:Int)<=i
  .rw[if_pos h1]at h;have e:(i+n).toNat=j:=G_ h;exact⟨by rw[seqIndex_neg (by omega) h1,e],by omega,h1,by omega⟩
  .rw[if_neg h1]at h;cases h
theorem px{α:Type}{xs:List α}{i:Int}{v:α}(h:c9 xs i=some v):∃j,seqIndex? i xs.length=some j/\xs[j]? = some v/\j<xs.length/\-(xs.length:Int)<=i/\i<xs.length:=by unfold c9 at h;cases e:d8 xs.length i with
|none=>rw[e]at h;cases h
|some j=>rw[e]at h;obtain⟨h1,h2,h3,h4⟩:=wd e;exact⟨j,h1,h,h2,h3,h4⟩
def m4(b:Expr):Prop:=∀o i,subscripted b false o i=operate [o,i] (N0 o i)
def gH(X:Cx)(r:R2):Prop:=∀(value slice:Expr)(pz:List (Addr×Obj))(s:g_)(σ:St)(H:Hp)(x y:V)(v u:a_)(Q:VK),Inv X pz σ H s->ao x v->ao y u->r x y H Q ->subscripted slice false v u=operate [v,u] (N0 v u)->C_ (F_ X.prog X.w) X.A (subscriptTail value slice v u) (EP X pz σ Q) X.xe s
def gX(X:Cx)(id:String)(r:V->List V->Hp->VK->Prop):Prop:=∀(pz:List (Addr×Obj))(s:g_)(σ:St)(H:Hp)(x:V)(xs:List V)(v:a_)(us:List a_)(Q:VK),Inv X pz σ H s->ao x v->ai xs us->r x xs H Q ->C_ (F_ X.prog X.w) X.A (call (.builtin id) (v::us)) (EP X pz σ Q) X.xe s
section
variable{X:Cx}{a b:Expr}{ta tb:TE}{pos:Pos}
theorem gH.or{r r':R2}(h:gH X r)(h':gH X r'):gH X (fun x y H Q=>r x y H Q\/r' x y H Q):=by
 intro value slice pz s σ H x y v u Q I rx ry q hs;rcases q with q|q
 .exact h value slice pz s σ H x y v u Q I rx ry q hs
 .exact h' value slice pz s σ H x y v u Q I rx ry q hs
theorem gX.or{id:String}{r r':V->List V->Hp->VK->Prop}(h:gX X id r)(h':gX X id r'):gX X id (fun x xs H Q=>r x xs H Q\/r' x xs H Q):=by
 intro pz s σ H x xs v us Q I rx rs q;rcases q with q|q
 .exact h pz s σ H x xs v us Q I rx rs q
 .exact h' pz s σ H x xs v us Q I rx rs q
theorem tj{r:R2}(hr:gH X r)(ha:PE X a ta)(hb:PE X b tb)(hs:m4 b):PE X (.Subscript a b pos) (lT r ta tb):=by intro pz s σ H Q I h;exact Subscript_ (jC ha hb I h fun v u s2 x y H2 I2 rx ry q=>hr a b pz s2 σ H2 x y v u Q I2 rx ry q (hs _ _))
def lZ(K:W.Frag):R2:=fun x y H Q=>∃p xs i v,x=.ref p/\y=.int i/\aL K H p xs/\c9 xs i=some v/\Q v H
def lX(K:W.Frag):R2:=fun x y H Q=>∃p xs i v,x=.ref p/\y=.int i/\bL K H p xs/\c9 xs i=some v/\Q v H
def lY:R2:=fun x y H Q=>∃z i c,x=.str z/\y=.int i/\z.length<=sizeLine/\c9 z.cps.toList i=some c/\Q (.str ⟨#[c]⟩) H
theorem we:gH X (lZ X.K):=by
 intro value slice pz s σ H x y v u Q I rx ry h hs;obtain⟨p,xs,i,z,rfl,rfl,hq,he,q⟩:=h;cases rx;obtain⟨t,rfl⟩:=ry;obtain⟨its,r,pl,hz⟩:=I.list hq;obtain⟨j,h1,h2,h3,h4,h5⟩:=px he;obtain⟨w,ew,rw'⟩:=r.get h2;have hl:=r.length;have hn:=jX;have fin:EP X pz σ Q w s:=⟨z,H,I,rw',q⟩
 by_cases h0:0<=i
 .have hj:i.toNat=j:=by rw[ME h0 h5]at h1;exact G_ h1
  exact item_listR pl.isList h0 (by omega) (by rw[hj];simpa using ew) fin hs
 .have hj:(i+(its.toArray.size:Int)).toNat=j:=by rw[seqIndex_neg (by omega) h4]at h1;rw[n_,<-hl];exact G_ h1
  exact Li (x:=w) pl.isList.typeIs slot_list_getitem.lookup
   (wpAny_getItem_list_neg (Q:=fun r s'=>r=w/\EP X pz σ Q r s') pl.isList (by omega) (by rw[n_] <;> omega) (by omega) (by rw[hj];simpa using ew) ⟨rfl,fin⟩) hs
theorem Bo:gH X (lX X.K):=by
 intro value slice pz s σ H x y v u Q I rx ry h hs;obtain⟨p,xs,i,z,rfl,rfl,hq,he,q⟩:=h;cases rx;obtain⟨t,rfl⟩:=ry;obtain⟨its,r,pl,hz⟩:=I.tuple hq;obtain⟨j,h1,h2,h3,h4,h5⟩:=px he;obtain⟨w,ew,rw'⟩:=r.get h2;have hl:=r.length;have hn:=jX;have fin:EP X pz σ Q w s:=⟨z,H,I,rw',q⟩
 exact Li (x:=w) pl.typeIs slot_tuple_getitem.lookup
  (getItem_tuple (j:=j) (Q:=fun r s'=>r=w/\EP X pz σ Q r s') pl (by omega) (by omega) (by rw[n_,<-hl];exact h1) (by simpa using ew) ⟨rfl,fin⟩) hs
theorem Bn:gH X lY:=by
 intro value slice pz s σ H x y v u Q I rx ry h hs;obtain⟨z,i,c,rfl,rfl,hz,he,q⟩:=h;obtain⟨t,rfl⟩:=rx;obtain⟨t',rfl⟩:=ry;obtain⟨j,h1,h2,h3,h4,h5⟩:=px he;have hl:z.cps.toList.length=z.length:=by simp[Str.length]
 rw[hl]at h1 h4 h5;have hn:=jX;exact tail_any (typeIs_str s z t) slot_str_getitem.lookup (getItem_str (c:=c) (by have e1:decide (i < -(2^63:Int))=false:=decide_eq_false (by omega);have e2:decide (i>=2^63)=false:=decide_eq_false (by omega);rw[e1,e2,Bool.or_false]) (by rw[h1];simpa using h2) ⟨.str ⟨#[c]⟩,H,I.tok _,⟨_,rfl⟩,q⟩) hs
def sk(K:W.Frag):R2:=fun x y H Q=>lZ K x y H Q\/lX K x y H Q\/lY x y H Q
theorem Bm:gH X (sk X.K):=we.or (Bo.or Bn)
theorem FL(its:List a_)(n j:Nat)(u:a_):Ic (·.setIfInBounds j u) { cls:=.type "list",data:=.seq its.toArray n }={ cls:=.type "list",data:=.seq (its.set j u).toArray n }:=by simp[Ic]
theorem Inv.lst{pz:List (Addr×Obj)}{σ:St}{H:Hp}{s:g_}{p:Addr}{xs:List V}(I:Inv X pz σ H s)(h:H p=some (.lst xs)):∃(its:List a_)(n:Nat),ai xs its/\s.heap.get? p=some { cls:=.type "list",data:=.seq its.toArray n }/\xs.length<=sizeLine:=by obtain⟨z,its,n,r,e⟩:=I.hok p _ h;exact⟨its,n,r,e,z⟩
theorem Inv.lstUpd{pz:List (Addr×Obj)}{σ:St}{H:Hp}{s:g_}{p:Addr}{xs ys:List V}{its its':List a_}{n n':Nat}{f:Obj->Obj}(I:Inv X pz σ H s)(h:H p=some (.lst xs))(ho:s.heap.get? p=some { cls:=.type "list",data:=.seq its.toArray n })(hf:f { cls:=.type "list",data:=.seq its.toArray n }={ cls:=.type "list",data:=.seq its'.toArray n' })(r:ai ys its')(hz:ys.length<=sizeLine)(t:Nat):Inv X pz σ (upd H p (.lst ys)) { s with heap:=s.heap.update p f,toks:=t }:=by
 have e:(s.heap.update p f).get? p=some { cls:=.type "list",data:=.seq its'.toArray n' }:=by rw[Ih f ho (by rw[hf] <;> rfl),hf]
 refine I.write (x:=p) (e:=p) (by rw[h];trivial) (.inl rfl) (fun b u hb q=>(Iu _ _ (IG hb)).trans q) ⟨_,e⟩ ?_;exact⟨hz,its',n',r,e⟩
def tU:V->V->V->Hp->(Hp->Prop)->Prop:=fun o i v H Q=>∃p xs k j,o=.ref p/\i=.int k/\H p=some (.lst xs)/\d8 xs.length k=some j/\Q (upd H p (.lst (xs.set j v)))
theorem DO:dW X tU:=by
 intro pz s σ H o i v ov iv u Q I ro ri rv h;obtain⟨p,xs,k,j,rfl,rfl,hp,hj,q⟩:=h;cases ro;obtain⟨t,rfl⟩:=ri;obtain⟨its,n,r,ho,hz⟩:=I.lst hp;obtain⟨h1,h2,h3,h4⟩:=wd hj;have hl:=r.length;have hn:=jX;have I':Inv X pz σ (upd H p (.lst (xs.set j v))) { s with heap:=s.heap.update p (Ic (·.setIfInBounds j u)) }:=I.lstUpd hp ho (FL its n j u) (r.set rv j) (by rw[IM];exact hz) s.toks;by_cases h0:0<=k
 .have hk:k.toNat=j:=by rw[ME h0 h4]at h1;exact G_ h1
  exact W.ki_setAt ho h0 (by omega) (by rw[n_,<-hl];exact h4) (by rw[hk];exact⟨_,I',q⟩)
 .have hk:(k+(its.toArray.size:Int)).toNat=j:=by rw[seqIndex_neg (by omega) h3]at h1;rw[n_,<-hl];exact G_ h1
  exact W.ki_setBack ho (by omega) (by rw[n_,<-hl];exact h3) (by omega) (by rw[hk];exact⟨_,I',q⟩)
def fR:V->Bool
|.non=>true
|.bl _=>true
|.int _=>true
|.str _=>true
|_=>false
def fJ:V->V->Bool
|.non,.non=>true
|.bl a,.bl b=>a==b
|.bl a,.int b=>(if a then 1 else 0)==b
|.int a,.bl b=>a==(if b then 1 else 0)
|.int a,.int b=>a==b
|.str a,.str b=>a==b
|_,_=>false
theorem Ad{A:HA}{s:g_}{y x:V}{u v:a_}(ry:ao y u)(rx:ao x v)(fy:fR y=true)(fx:fR x=true):L6 A s u v (fJ y x):=by cases y with
|non=>cases ry;cases x with
 |non=>cases rx;exact MH _
 |bl b=>cases rx;exact SeqAt.EqAt.none_bool b
 |int b=>obtain⟨t,rfl⟩:=rx;exact SeqAt.EqAt.none_int b t
 |str b=>obtain⟨t,rfl⟩:=rx;exact SeqAt.EqAt.none_str b t
 |_=>exact absurd (show false=true from fx) d_
|bl a=>cases ry;cases x with
 |non=>cases rx;exact SeqAt.EqAt.bool_none a
 |bl b=>cases rx;exact SeqAt.EqAt.bool_bool a b
 |int b=>obtain⟨t,rfl⟩:=rx;exact SeqAt.EqAt.bool_int a b t
 |str b=>obtain⟨t,rfl⟩:=rx;exact SeqAt.EqAt.bool_str a b t
 |_=>exact absurd (show false=true from fx) d_
|int a=>obtain⟨t',rfl⟩:=ry;cases x with
 |non=>cases rx;exact SeqAt.EqAt.int_none a t'
 |bl b=>cases rx;exact SeqAt.EqAt.int_bool a t' b
 |int b=>obtain⟨t,rfl⟩:=rx;exact Kv a t' b t
 |str b=>obtain⟨t,rfl⟩:=rx;exact L1 a t' b t
 |_=>exact absurd (show false=true from fx) d_
|str a=>obtain⟨t',rfl⟩:=ry;cases x with
 |non=>cases rx;exact SeqAt.EqAt.str_none a t'
 |bl b=>cases rx;exact SeqAt.EqAt.str_bool a t' b
 |int b=>obtain⟨t,rfl⟩:=rx;exact L3 a t' b t
 |str b=>obtain⟨t,rfl⟩:=rx;exact SeqAt.EqAt.str_str a t' b t
 |_=>exact absurd (show false=true from fx) d_
|_=>exact absurd (show false=true from fy) d_
def cK(x:V)(u:a_):Bool:=match u with
|.none=>fJ .non x
|.bool b=>fJ (.bl b) x
|.int i _=>fJ (.int i) x
|.str z _=>fJ (.str z) x
|_=>false
theorem mX{x y:V}{u:a_}(r:ao y u)(f:fR y=true):cK x u=fJ y x:=by cases y with
|non=>cases r;rfl
|bl b=>cases r;rfl
|int i=>obtain⟨t,rfl⟩:=r;rfl
|str z=>obtain⟨t,rfl⟩:=r;rfl
|_=>exact absurd (show false=true from f) d_
theorem kS{x:V}:∀{xs:List V}{us:List a_},ai xs us->xs.all fR=true->us.any (cK x)=xs.any fun y=>fJ y x
|_,_,.nil,_=>rfl
|y::xs,u::us,.cons r t,f=>by rw[Jj,Hs]at f;rw[Jv,Jv,mX r f.1,kS t f.2]
theorem la{A:HA}{s:g_}{x:V}{v:a_}(rx:ao x v)(fx:fR x=true):∀{xs:List V}{us:List a_},ai xs us->xs.all fR=true->∀u∈us,L6 A s u v (cK x u)
|_,_,.nil,_=>fun u hu=>by cases hu
|y::xs,u::us,.cons r t,f=>fun u' hu=>by
  rw[Jj,Hs]at f;rcases x_.mp hu with rfl|hu
  .rw[mX r f.1];exact Ad r rx f.1 fx
  .exact la rx fx t f.2 u' hu
def oy(x:V)(xs:List V):Bool:=xs.any fun y=>fJ y x
def sm(K:W.Frag)(neg:Bool):R2:=fun x y H Q=>∃p xs,y=.ref p/\(aL K H p xs\/bL K H p xs)/\fR x=true/\xs.all fR=true/\Q (.bl (if neg then ! oy x xs else oy x xs)) H
theorem EH:aQ X (HI .In) (sm X.K false):=by
 intro pz s σ H x y v u Q I rx ry h;obtain⟨p,xs,rfl,hq,fx,fs,q⟩:=h;cases ry;rcases hq with hq|hq
 .obtain⟨its,r,pl,hz⟩:=I.list hq;refine SeqAt.in_listAt (cK x) pl.isList (fun w hw=>la rx fx r fs w (by simpa using hw)) ⟨.bl _,H,I,rfl,?_⟩;rw[show its.toArray.any (cK x)=its.any (cK x)by simp,kS r fs];exact q
 .obtain⟨its,r,pl,hz⟩:=I.tuple hq;refine SeqAt.in_tupleAt (cK x) pl (fun w hw=>la rx fx r fs w (by simpa using hw)) ⟨.bl _,H,I,rfl,?_⟩;rw[show its.toArray.any (cK x)=its.any (cK x)by simp,kS r fs];exact q
theorem Gr:aQ X (HI .NotIn) (sm X.K true):=by
 intro pz s σ H x y v u Q I rx ry h;obtain⟨p,xs,rfl,hq,fx,fs,q⟩:=h;cases ry;rcases hq with hq|hq
 .obtain⟨its,r,pl,hz⟩:=I.list hq;refine SeqAt.notIn_listAt (cK x) pl.isList (fun w hw=>la rx fx r fs w (by simpa using hw)) ⟨.bl _,H,I,rfl,?_⟩;rw[show its.toArray.any (cK x)=its.any (cK x)by simp,kS r fs];exact q
 .obtain⟨its,r,pl,hz⟩:=I.tuple hq;refine SeqAt.notIn_tupleAt (cK x) pl (fun w hw=>la rx fx r fs w (by simpa using hw)) ⟨.bl _,H,I,rfl,?_⟩;rw[show its.toArray.any (cK x)=its.any (cK x)by simp,kS r fs];exact q
theorem Gs:aQ X (HI .NotIn) (fun x y H Q=>∃i j,x=.str i/\y=.str j/\Q (.bl (!(!(IH j i 0 j.length 1).isEmpty))) H):=by intro pz s σ H x y v u Q I rx ry h;obtain⟨i,j,rfl,rfl,q⟩:=h;obtain⟨t,rfl⟩:=rx;obtain⟨t',rfl⟩:=ry;exact notIn_str ⟨.bl _,H,I,rfl,q⟩
theorem dv.or{f:a_}{r r':List V->Hp->VK->Prop}(h:dv X f r)(h':dv X f r'):dv X f (fun xs H Q=>r xs H Q\/r' xs H Q):=by
 intro pz s σ H xs us Q I rs q;rcases q with q|q
 .exact h pz s σ H xs us Q I rs q
 .exact h' pz s σ H xs us Q I rs q
theorem Gu:dv X (.type "list") (fun xs H Q=>∃p ys,xs=[.ref p]/\(aL X.K H p ys\/bL X.K H p ys)/\∀l,H l=none->Q (.ref l) (upd H l (.lst ys))):=by
 intro pz s σ H xs us Q I r h;obtain⟨p,ys,rfl,hq,q⟩:=h;obtain⟨u,rfl,rx⟩:=bA r;cases rx;have fin:∀(its:List a_),ai ys its->ys.length<=sizeLine->∀(h':Heap)(c':Nat),(∀b o',s.heap.get? b=some o'->h'.get? b=some o') ->h'.get? s.heap.objs.size=some { cls:=.type "list",dict:=none,data:=.seq its.toArray c',slots:=#[] }->EP X pz σ Q (.ref s.heap.objs.size) { s with heap:=h' }:=fun its r' hz h' c' kp e=>⟨.ref s.heap.objs.size,_,I.laid (t':=s.toks) kp (q_ _) (show bq X.prog X.w _ h' _ (.lst ys)from⟨hz,its,c',r',e⟩),rfl,q _ (I.hok.fresh (q_ _))⟩
 rcases hq with hq|hq
 .obtain⟨its,r',pl,hz⟩:=I.list hq;have hlen:=r'.length;obtain⟨o,ho,hc,n,hd⟩:=pl.isList;exact call_list_seq p (.inl rfl) ho hc hd (fun h' c' kp e=>fin its r' hz h' c' kp e) (by simp only[n_] <;> omega)
 .obtain⟨its,r',pl,hz⟩:=I.tuple hq;have hlen:=r'.length;obtain⟨o,ho,hc,n,hd⟩:=pl;exact call_list_seq p (.inr rfl) ho hc hd (fun h' c' kp e=>fin its r' hz h' c' kp e) (by simp only[n_] <;> omega)
theorem GK:dv X (.type "tuple") (fun xs H Q=>∃p ys,xs=[.ref p]/\((aL X.K H p ys/\∀l,H l=none->Q (.ref l) (upd H l (.tup ys)))\/(bL X.K H p ys/\Q (.ref p) H))):=by
 intro pz s σ H xs us Q I r h;obtain⟨p,ys,rfl,h⟩:=h;obtain⟨u,rfl,rx⟩:=bA r;cases rx;rcases h with⟨hq,q⟩|⟨hq,q⟩
 .obtain⟨its,r',pl,hz⟩:=I.list hq;have hlen:=r'.length;refine call_tuple_list pl.isList (fun h' kp=>?_) (by simp only[n_] <;> omega);have I1:Inv X pz σ H { s with heap:=h' }:=I.kept (t':=s.toks) kp;have I2:Inv X pz σ (upd H h'.objs.size (.tup ys)) { s with heap:=h'.push { cls:=.type "tuple",data:=.seq its.toArray } }:=I1.laid (t':=s.toks) (fun b o e=>h_ _ e) (q_ _) (show bq X.prog X.w _ _ _ (.tup ys)from⟨hz,its,r',Oi _ _,_,u_ _ rfl,rfl⟩);exact⟨.ref h'.objs.size,_,I2,rfl,q _ (I1.hok.fresh (q_ _))⟩
 .obtain⟨its,r',pl,hz⟩:=I.tuple hq;exact call_tuple_same pl ⟨.ref p,H,I,rfl,q⟩
def lR(K:W.Frag)(T:String)(x:V)(H:Hp):Prop:=match x with
|.str _=>T = "str"
|.int _=>T = "int"
| .ref p=>(T = "list"/\∃xs,aL K H p xs)\/(T = "tuple"/\((∃o,K.lookup p=some o/\o.cls=.type "tuple"/\o.dict=none)\/∃xs,Rd H p (.tup xs))) \/
   (T = "dict"/\((∃kvs,Rd H p (.dK kvs))\/∃kvs,H p=some (.dT kvs)))\/(T = "set"/\∃S n,H p=some (.set S n))
|_=>False
theorem uG{pz:List (Addr×Obj)}{σ:St}{H:Hp}{s:g_}{T:String}{x:V}{v:a_}(I:Inv X pz σ H s)(r:ao x v)(ty:lR X.K T x H):s.TypeIs v T/\∀a,v=.ref a->∃ob,s.heap.get? a=some ob/\ob.dict=none:=by cases x with
|str z=>obtain⟨t,rfl⟩:=r;cases(show T = "str" from ty);exact⟨typeIs_str s z t,fun _ e=>nomatch e⟩
|int i=>obtain⟨t,rfl⟩:=r;cases(show T = "int" from ty);exact⟨typeIs_int s i t,fun _ e=>nomatch e⟩
|ref p=>
  cases r;rcases ty with⟨rfl,xs,hq⟩|⟨rfl,⟨o,hk,hc,hd⟩|⟨xs,hq⟩⟩|⟨rfl,hk⟩|⟨rfl,S,n,hk⟩
  .obtain⟨its,_,pl,_⟩:=I.list hq;refine⟨pl.isList.typeIs,fun a e=>?_⟩;cases e;obtain⟨o,n,e,c,hd,_⟩:=pl;exact⟨o,e,hd⟩
  .refine⟨⟨o,I.kIn p o hk,hc⟩,fun a e=>?_⟩;cases e;exact⟨o,I.kIn _ o hk,hd⟩
  .obtain⟨_,its,_,⟨o,ho,hc,_⟩,o2,ho2,hd2⟩:=hq.ok I.hok;refine⟨⟨o,ho,hc⟩,fun a e=>?_⟩;cases e;exact⟨o2,ho2,hd2⟩
  .have z:∃o,s.heap.get? p=some o/\o.ExactDict:=by
    rcases hk with⟨kvs,hk⟩|⟨kvs,hk⟩
    .obtain⟨_,_,_,_,o,_,_,e,ex,_⟩:=(show bq X.prog X.w H s.heap p (.dK kvs)from hk.ok I.hok)
     exact⟨o,e,ex⟩
    .obtain⟨_,_,_,_,o,_,_,e,ex,_⟩:=I.hok p _ hk;exact⟨o,e,ex⟩
   obtain⟨o,e,ex⟩:=z;refine⟨⟨o,e,ex.1⟩,fun a e2=>?_⟩;cases e2;exact⟨o,e,ex.2.1⟩
  .obtain⟨o,_,_,_,e,ex,_⟩:=I.hok p _ hk;refine⟨⟨o,e,ex.1⟩,fun a e2=>?_⟩;cases e2;exact⟨o,e,ex.2.1⟩
|_=>exact IX ty
def se(K:W.Frag)(T:String)(r:V->List V->Hp->VK->Prop)(to:TE):TE:=fun σ H Q=>to σ H fun x H1=>lR K T x H1/\r x [] H1 Q
def Ha(K:W.Frag)(T:String)(r:V->List V->Hp->VK->Prop)(to:TE)(t:TA):TE:=fun σ H Q=>to σ H fun x H1=>lR K T x H1/\t σ H1 fun xs H2=>r x xs H2 Q
variable{o e:Expr}{es:List Expr}{to:TE}{t:TA}{name:Str}{apos cpos:Pos}{T id:String}{r:V->List V->Hp->VK->Prop}
theorem uP(pa:M4 T)(slot:Slot T name id)(hty:typeOf (.builtin id)=pure (.type "method_descriptor"))(hm:gX X id r)(ho:PE X o to)(hbase:ID o name X.env (eval o X.env)=eval o X.env:=by rfl)(hline:(apos.endLine==cpos.line)=true:=by rfl):PE X (.Call (.Attribute o name apos) [] [] cpos) (se X.K T r to):=by intro pz s σ H Q I h;refine wpAny_Call_method0_late hbase hline (aF (ho pz s σ H _ I h) fun v s1 ⟨x,H1,I1,r1,ty,q1⟩=>?_);obtain⟨h1,h2⟩:=uG I1 r1 ty;exact⟨T,id,pa,slot,hty,h1,h2,Lj rfl (PySem.evalArgs_none (hm pz s1 σ H1 x [] v [] Q I1 r1 .nil q1))⟩
theorem oO(pa:M4 T)(slot:Slot T name id)(hty:typeOf (.builtin id)=pure (.type "method_descriptor"))(hm:gX X id r)(ho:PE X o to)(ha:PA X (e::es) t)(hbase:ID o name X.env (eval o X.env)=eval o X.env:=by rfl)(hfew:((backTo cpos (l_ (e::es) X.env)).all (fun x=>! x.1)&&(La cpos (JT [] X.env)).all (fun x=>x.1.isSome)
   && decide ((e::es).length+([]:List Jz).length+(if ([]:List Jz).isEmpty then 0 else 1)<30))=true:=by rfl)(hline:(apos.endLine==cpos.line)=true:=by rfl)(hs:l_ (e::es) X.env=(false,eval e X.env)::l_ es X.env:=by rfl)(hplain:(backTo cpos (l_ es X.env)).any (·.1)=false:=by rfl):PE X (.Call (.Attribute o name apos) (e::es) [] cpos) (Ha X.K T r to t):=by intro pz s σ H Q I h;refine wpAny_Call_method_late hbase hfew hline rfl (aF (ho pz s σ H _ I h) fun v s1 ⟨x,H1,I1,r1,ty,q1⟩=>?_);obtain⟨h1,h2⟩:=uG I1 r1 ty;refine⟨T,id,pa,slot,hty,h1,h2,?_⟩;have hA:=ha cpos pz s1 σ H1 _ I1 q1;rw[hs]at hA ⊢;refine Lj (by show(false || (backTo cpos (l_ es X.env)).any (·.1))=false;rw[hplain] <;> rfl) (Calls.evalArgs_plain ?_);exact aF hA fun us s2 ⟨vs,H2,I2,r2,q2⟩=>hm pz s2 σ H2 x vs v us Q I2 r1 r2 q2
end
def sI(X:Cx)(id:String)(r:V->List V->Hp->VK->Prop):Prop:=∀(pz:List (Addr×Obj))(s:g_)(σ:St)(H:Hp)(x:V)(xs:List V)(v:a_)(us:List a_)(Q:VK),Inv X pz σ H s->ao x v->ai xs us->r x xs H Q ->C_ (F_ X.prog X.w) X.A (call (.builtin id) (v::us)) (EP X pz σ Q) X.xe s
theorem ai.one{x:V}{us:List a_}(h:ai [x] us):∃u,us=[u]/\ao x u:=by cases h with
|cons r t=>cases t;exact⟨_,rfl,r⟩
theorem ai.zero:∀{us:List a_},ai [] us->us=[]
|_,.nil=>rfl
theorem ai.eraseIdx:∀{xs:List V}{us:List a_}(i:Nat),ai xs us->ai (xs.eraseIdx i) (us.eraseIdx i)
|_,_,_,.nil=>.nil
|_,_,0,.cons _ t=>t
|_,_,i+1,.cons r t=>.cons r (ai.eraseIdx i t)
theorem ai.reverse{xs:List V}{us:List a_}(h:ai xs us):ai xs.reverse us.reverse:=by induction h with
|nil=>exact .nil
|cons r t ih=>rw[JX,JX];exact ai.append ih (.cons r .nil)
section
variable{X:Cx}{pz:List (Addr×Obj)}{σ:St}{H:Hp}{s:g_}{l b:Addr}{xs ys zs:List V}
theorem Inv.lset{its its':List a_}{n:Nat}{f:Array a_->Array a_}{t':Nat}(I:Inv X pz σ H s)(hH:H l=some (.lst xs))(e:s.heap.get? l=some { cls:=.type "list",data:=.seq its.toArray n })(hf:f its.toArray=its'.toArray)(hv:ai ys its')(hz:ys.length<=sizeLine):Inv X pz σ (upd H l (.lst ys)) { s with heap:=s.heap.update l (Ic f),toks:=t' }:=by have q:=PySem.IsL.update e f;rw[hf]at q;refine I.write (x:=l) (e:=l) (by rw[hH];exact trivial) (.inl rfl) (fun b' u hb hu=>(Iu s.heap (Ic f) (IG hb)).trans hu) ⟨_,q⟩ ?_;exact⟨hz,its',_,hv,q⟩
theorem Inv.lnew{its:List a_}{t':Nat}(I:Inv X pz σ H s)(hv:ai ys its)(hz:ys.length<=sizeLine):Inv X pz σ (upd H s.heap.objs.size (.lst ys)) { s with heap:=s.heap.push { cls:=.type "list",data:=.seq its.toArray },toks:=t' }:=I.laid (fun _ _ q=>h_ _ q) (q_ _) ⟨hz,its,0,hv,u_ _ rfl⟩
theorem Inv.fresh(I:Inv X pz σ H s):H s.heap.objs.size=none:=I.hok.fresh (q_ _)
theorem Inv.lstM(I:Inv X pz σ H s)(hH:H l=some (.lst xs)):xs.length<=sizeLine/\∃(its:List a_)(n:Nat),ai xs its/\xs.length=its.length/\s.heap.get? l=some { cls:=.type "list",data:=.seq its.toArray n }:=by obtain⟨z,its,n,r,e⟩:=I.hok l _ hH;exact⟨z,its,n,r,r.length,e⟩
theorem D6{n:Nat}(h:n<=sizeLine):JP n=false:=by unfold JP;exact decide_eq_false (by omega)
end
section
variable{X:Cx}
def wq:V->List V->Hp->VK->Prop:=fun x vs H Q=>∃l xs y,x=.ref l/\vs=[y]/\H l=some (.lst xs)/\xs.length<sizeLine/\Q .non (upd H l (.lst (xs++[y])))
theorem iO:sI X "list.append" wq:=by intro pz s σ H x vs v us Q I rx rv h;obtain⟨l,xs,y,rfl,rfl,hH,hz,q⟩:=h;cases rx;obtain⟨u,rfl,ru⟩:=rv.one;obtain⟨z,its,n,r,hl,e⟩:=I.lstM hH;refine Ll F.slot_list_append ⟨_,e,rfl⟩ F.entry_list_append (F.args_list_append_2 _ _) (PySem.list_append l its.toArray n u (by rw[n_];omega)) ⟨e,?_⟩;refine⟨.non,_,I.lset (its':=its++[u]) hH e (by simp) (r.append (.cons ru .nil)) ?_,rfl,q⟩;rw[HJ,Lz];omega
def B0:V->List V->Hp->VK->Prop:=fun x vs H Q=>∃l xs,x=.ref l/\vs=[]/\H l=some (.lst xs)/\Q .non (upd H l (.lst []))
theorem EB:sI X "list.clear" B0:=by intro pz s σ H x vs v us Q I rx rv h;obtain⟨l,xs,rfl,rfl,hH,q⟩:=h;cases rx;have hus:=rv.zero;subst hus;obtain⟨z,its,n,r,hl,e⟩:=I.lstM hH;refine Ll F.slot_list_clear ⟨_,e,rfl⟩ F.entry_list_clear (F.args_list_clear_1 _) (AutoSeq1.list_clear_list_0 l its.toArray n (by rw[n_];omega)) ⟨e,?_⟩;exact⟨.non,_,I.lset (its':=[]) (ys:=[]) hH e rfl .nil (Hy _),rfl,q⟩
end
section
variable{κ:Type}[DecidableEq κ]
def bS(kvs:List (κ×V))(k:κ):Option V:=(kvs.find? fun kv=>decide (kv.1=k)).map (·.2)
def b5(kvs:List (κ×V))(k:κ)(v:V):List (κ×V):=if (kvs.any fun kv=>decide (kv.1=k))=true then kvs.map (fun kv=>if kv.1=k then(kv.1,v)else kv)else kvs++[(k,v)]
def sR(kvs:List (κ×V))(k:κ):List (κ×V):=kvs.filter fun kv=>decide (kv.1≠k)
theorem nz{p:κ×V}{r:List (κ×V)}{k:κ}(e:p.1=k):bS (p::r) k=some p.2:=by simp[bS,Hz,e]
theorem lq{p:κ×V}{r:List (κ×V)}{k:κ}(e:¬ p.1=k):bS (p::r) k=bS r k:=by simp[bS,Hz,e]
theorem xC(k:κ):∀kvs:List (κ×V),(kvs.any fun kv=>decide (kv.1=k))=(bS kvs k).isSome
|[]=>rfl
|p::r=>by
  rw[Jv];by_cases e:p.1=k
  .simp only[nz e,decide_eq_true e,Bool.true_or,Option.isSome_some]
  .rw[lq e,decide_eq_false e,KW];exact xC k r
theorem yx(kvs:List (κ×V))(k:κ)(v:V):(b5 kvs k v).length<=kvs.length+1:=by
 unfold b5;split
 .rw[m_];omega
 .rw[HJ,IA,Kk];omega
theorem cb.isSome_eq{o:Option V}{u:Option a_}(r:cb o u):o.isSome=u.isSome:=by cases o with
|none=>cases u with
 |none=>rfl
 |some _=>exact(show False from r).elim
|some _=>cases u with
 |none=>exact(show False from r).elim
 |some _=>rfl
theorem cb.getD{o:Option V}{u:Option a_}{d:V}{d':a_}(r:cb o u)(rd:ao d d'):ao (o.getD d) (u.getD d'):=by cases o with
|none=>cases u with
 |none=>exact rd
 |some _=>exact(show False from r).elim
|some _=>cases u with
 |none=>exact(show False from r).elim
 |some _=>exact r
theorem KV.val{kvs:List (κ×V)}{vs:List (κ×a_)}(r:KV kvs vs)(k:κ):cb (bS kvs k) (LQ vs k):=by
 unfold KV at r
 induction r with
|nil=>exact True.intro
|@cons p q ps qs h t ih=>
  obtain⟨h1,h2⟩:=h;by_cases e:p.1=k
  .have e':q.1=k:=h1.symm.trans e;have b:LQ (q::qs) k=some q.2:=by simp[LQ,Hz,e']
   rw[nz e,b];exact h2
  .have e':¬ q.1=k:=fun z=>e (h1.trans z);have b:LQ (q::qs) k=LQ qs k:=by simp[LQ,Hz,e']
   rw[lq e,b];exact ih
theorem KV.any{kvs:List (κ×V)}{vs:List (κ×a_)}(r:KV kvs vs)(k:κ):(kvs.any fun kv=>decide (kv.1=k))=vs.any fun kv=>decide (kv.1=k):=by
 unfold KV at r
 induction r with
|nil=>rfl
|cons h t ih=>rw[Jv,Jv,ih,h.1]
theorem KV.repl{kvs:List (κ×V)}{vs:List (κ×a_)}(r:KV kvs vs)(k:κ){y:V}{u:a_}(ry:ao y u):KV (kvs.map fun kv=>if kv.1=k then(kv.1,y)else kv) (vs.map fun kv=>if kv.1=k then(kv.1,u)else kv):=by
 unfold KV at r ⊢
 induction r with
|nil=>exact .nil
|@cons p q ps qs h t ih=>
  rw[y_,y_];refine .cons ?_ ih;obtain⟨h1,h2⟩:=h;by_cases e:p.1=k
  .rw[if_pos e,if_pos (h1.symm.trans e)];exact⟨h1,ry⟩
  .rw[if_neg e,if_neg (fun z=>e (h1.trans z))];exact⟨h1,h2⟩
theorem KV.put{kvs:List (κ×V)}{vs:List (κ×a_)}(r:KV kvs vs)(k:κ){y:V}{u:a_}(ry:ao y u):KV (b5 kvs k y) (stored vs k u):=by
 unfold b5 stored;rw[r.any k];by_cases e:(vs.any fun kv=>decide (kv.1=k))=true
 .rw[if_pos e,if_pos e];exact r.repl k ry
 .rw[if_neg e,if_neg e];exact Paired.snoc r ⟨rfl,ry⟩
theorem KV.drop{kvs:List (κ×V)}{vs:List (κ×a_)}(r:KV kvs vs)(k:κ):KV (sR kvs k) (without vs k):=by
 unfold KV at r ⊢;unfold sR without
 induction r with
|nil=>exact .nil
|@cons p q ps qs h t ih=>
  obtain⟨h1,h2⟩:=h;rw[HW,HW];by_cases e:p.1=k
  .have a:¬ decide (p.1≠k)=true:=by simp[e]
   have b:¬ decide (q.1≠k)=true:=by simp[h1.symm.trans e]
   rw[if_neg a,if_neg b];exact ih
  .have e':¬ q.1=k:=fun z=>e (h1.trans z);have a:decide (p.1≠k)=true:=by simp[e]
   have b:decide (q.1≠k)=true:=by simp[e']
   rw[if_pos a,if_pos b];exact .cons ⟨h1,h2⟩ ih
theorem KV.keys{kvs:List (κ×V)}{vs:List (κ×a_)}(r:KV kvs vs):kvs.map (·.1)=vs.map (·.1):=by
 unfold KV at r
 induction r with
|nil=>rfl
|cons h t ih=>rw[y_,y_,ih,h.1]
theorem KV.length{kvs:List (κ×V)}{vs:List (κ×a_)}(r:KV kvs vs):kvs.length=vs.length:=Paired.length r
end
theorem ky{P:z_}{w:Ht}{k:au}{u:a_}(r:ao (kV k) u):(d5 P w).is k u=true:=by cases k with
|inl i=>obtain⟨t,e⟩:=(show ∃t,u=Value.int i t from r);subst e;exact Ga P w i t
|inr x=>obtain⟨t,e⟩:=(show ∃t,u=Value.str x t from r);subst e;exact Gb P w x t
theorem xM{P:z_}{w:Ht}:∀{ks:List au}{us:List a_},ai (ks.map kV) us->ItemsAre (d5 P w) ks us
|[],_,r=>by rw[Kn]at r;cases r;exact .nil
|k::ks,_,r=>by rw[y_]at r;cases r with
 |cons h t=>exact .cons (ky h) (xM t)
abbrev KT(H:Hp):List (List au×V)->List (List au×Addr×a_)->Prop:=Paired fun p q=>p.1=q.1/\H q.2.1=some (.tup (p.1.map kV))/\ao p.2 q.2.2
theorem KT.val{H:Hp}{kvs:List (List au×V)}{xs:List (List au×Addr×a_)}(r:KT H kvs xs)(k:List au):cb (bS kvs k) ((MF xs k).map (·.2)):=by induction r with
|nil=>exact True.intro
|@cons p q ps qs h t ih=>
  obtain⟨h1,_,h2⟩:=h;by_cases e:p.1=k
  .have e':q.1=k:=h1.symm.trans e;have b:MF (q::qs) k=some q.2:=by simp[MF,Hz,e']
   rw[nz e,b];exact h2
  .have e':¬ q.1=k:=fun z=>e (h1.trans z);have b:MF (q::qs) k=MF qs k:=by simp[MF,Hz,e']
   rw[lq e,b];exact ih
theorem KT.repl{H:Hp}{kvs:List (List au×V)}{xs:List (List au×Addr×a_)}(r:KT H kvs xs)(k:List au){y:V}{u:a_}(ry:ao y u):KT H (kvs.map fun kv=>if kv.1=k then(kv.1,y)else kv) (xs.map (putAt k u)):=by induction r with
|nil=>exact .nil
|@cons p q ps qs h t ih=>
  rw[y_,y_];refine .cons ?_ ih;obtain⟨h1,h2,h3⟩:=h;unfold putAt;by_cases e:p.1=k
  .rw[if_pos e,if_pos (h1.symm.trans e)];exact⟨h1,h2,ry⟩
  .rw[if_neg e,if_neg (fun z=>e (h1.trans z))];exact⟨h1,h2,h3⟩
theorem KT.put{H:Hp}{kvs:List (List au×V)}{xs:List (List au×Addr×a_)}(r:KT H kvs xs)(k:List au){b:Addr}{y:V}{u:a_}(hb:H b=some (.tup (k.map kV)))(ry:ao y u):KT H (b5 kvs k y) (storedH xs k b u):=by
 have e:(kvs.any fun kv=>decide (kv.1=k))=(MF xs k).isSome:=by rw[xC,(r.val k).isSome_eq,KN]
 unfold b5 storedH;rw[e];by_cases q:(MF xs k).isSome=true
 .rw[if_pos q,if_pos q];exact r.repl k ry
 .rw[if_neg q,if_neg q];exact Paired.snoc r ⟨rfl,hb,ry⟩
theorem KT.keeps{H H':Hp}{kvs:List (List au×V)}{xs:List (List au×Addr×a_)}(r:KT H kvs xs)(ht:∀b ys,H b=some (.tup ys)->H' b=some (.tup ys)):KT H' kvs xs:=Paired.mapP r fun _ _ z=>⟨z.1,ht _ _ z.2.1,z.2.2⟩
section
variable{P:z_}{w:Ht}{H:Hp}{h:Heap}{a:Addr}
theorem tV{u:HO}(ok:bU P w H h)(e:Rd H a u):bq P w H h a u:=e.ok ok
theorem jM{kvs:List (au×V)}(ok:bU P w H h)(e:Rd H a (.dK kvs)):kvs.length<=sizeLine/\(a==Jr)=false/\∃vs,KV kvs vs/\h.DictOf (d5 P w) a vs:=show bq P w H h a (.dK kvs)from tV ok e
theorem zG{kvs:List (au×V)}(ok:bU P w H h)(e:H a=some (.dK kvs)):kvs.length<=sizeLine/\(a==Jr)=false/\∃vs,KV kvs vs/\h.DictOf (d5 P w) a vs:=jM ok (.inl e)
theorem kJ{ks:List au}(ok:bU P w H h)(e:H a=some (.tup (ks.map kV))):(LO (d5 P w)).is h ks a:=by
 obtain⟨_,its,r,⟨o,h1,h2,n,h3⟩,_⟩:=(show bq P w H h a (.tup (ks.map kV))from ok a _ e)
 exact⟨o,its.toArray,n,h1,h2,h3,by simpa using xM r⟩
theorem kt{kvs:List (List au×V)}(ok:bU P w H h)(e:Rd H a (.dT kvs)):kvs.length<=sizeLine/\(a==Jr)=false /\∃xs,KT H kvs xs/\h.DictOfH (LO (d5 P w)) a xs:=by
 obtain⟨z,y,xs,r,o,es,ep,h1,h2,h3,h4,h5⟩:=(show bq P w H h a (.dT kvs)from tV ok e)
 refine⟨z,y,xs,r,o,es,ep,h1,h2,h3,h4,fun x hx=>?_,h5⟩;have all:∀{l:List (List au×V)}{m:List (List au×Addr×a_)},KT H l m->∀x∈m,(LO (d5 P w)).is h x.1 x.2.1:=by
  intro l m q
  induction q with
 |nil=>intro x hx;exact nomatch hx
 |@cons p q ps qs hq t ih=>
   intro x hx;rcases x_.mp hx with e|hx
   .subst e;exact kJ ok (by rw[<-hq.1];exact hq.2.1)
   .exact ih x hx
 exact all r x hx
theorem zH{kvs:List (List au×V)}(ok:bU P w H h)(e:H a=some (.dT kvs)):kvs.length<=sizeLine/\(a==Jr)=false /\∃xs,KT H kvs xs/\h.DictOfH (LO (d5 P w)) a xs:=kt ok (.inl e)
end
def cZ(H:Hp)(a:Addr)(y:V)(r:Option V):Prop:=(∃kvs k,Rd H a (.dK kvs)/\y=kV k/\r=bS kvs k)\/∃kvs k b,Rd H a (.dT kvs)/\y=.ref b/\H b=some (.tup (k.map kV))/\r=bS kvs k
def eR(H:Hp)(a:Addr)(y v:V)(H':Hp):Prop:=(∃kvs k,H a=some (.dK kvs)/\y=kV k/\kvs.length<sizeLine/\H'=upd H a (.dK (b5 kvs k v))) \/∃kvs k b,H a=some (.dT kvs)/\y=.ref b/\H b=some (.tup (k.map kV))/\kvs.length<sizeLine/\H'=upd H a (.dT (b5 kvs k v))
theorem cZ.k{H:Hp}{a:Addr}{kvs:List (au×V)}{k:au}(e:H a=some (.dK kvs)):cZ H a (kV k) (bS kvs k):=.inl ⟨kvs,k,.inl e,rfl,rfl⟩
theorem cZ.t{H:Hp}{a b:Addr}{kvs:List (List au×V)}{k:List au}(e:H a=some (.dT kvs))(eb:H b=some (.tup (k.map kV))):cZ H a (.ref b) (bS kvs k):=.inr ⟨kvs,k,b,.inl e,rfl,eb,rfl⟩
theorem eR.k{H:Hp}{a:Addr}{kvs:List (au×V)}{k:au}{v:V}(e:H a=some (.dK kvs))(hl:kvs.length<sizeLine):eR H a (kV k) v (upd H a (.dK (b5 kvs k v))):=.inl ⟨kvs,k,e,rfl,hl,rfl⟩
theorem eR.t{H:Hp}{a b:Addr}{kvs:List (List au×V)}{k:List au}{v:V}(e:H a=some (.dT kvs))(eb:H b=some (.tup (k.map kV)))(hl:kvs.length<sizeLine):eR H a (.ref b) v (upd H a (.dT (b5 kvs k v))):=.inr ⟨kvs,k,b,e,rfl,eb,hl,rfl⟩
section
variable{X:Cx}{pz:List (Addr×Obj)}{σ:St}{H:Hp}{s:g_}{a:Addr}{y v:V}{u r:a_}{o:Option V}{A:HA}{E:a_->g_->Prop}
theorem Inv.big(I:Inv X pz σ H s):Jr<s.heap.objs.size:=by have h:Il<s.heap.objs.size:=(I.mod.glob.keeps I.bk).lt;exact Lm (by decide) h
theorem EZ{Q:a_->g_->Prop}(hu:A.units+1<Jl)(I:Inv X pz σ H s)(g:cZ H a y (some v))(ry:ao y u)(h:∀w' s',Inv X pz σ H s'->ao v w'->Q w' s'):C_ (F_ X.prog X.w) A (N0 (.ref a) u) Q E s:=by
 rcases g with⟨kvs,k,e,ey,l⟩|⟨kvs,k,b,e,ey,eb,l⟩
 .subst ey;obtain⟨z,hd,vs,rel,dd⟩:=jM I.hok e;obtain⟨w',hw,rw'⟩:=cb.some_of (v:=v) (o:=LQ vs k) (by rw[l];exact rel.val k);exact wpAny_getItem_of (ky ry) dd.mapOf hw (h w' _ (I.tok _) rw')
 .subst ey;cases(show u=Value.ref b from ry);obtain⟨z,hd,xs,rel,dd⟩:=kt I.hok e;obtain⟨w',hw,rw'⟩:=cb.some_of (v:=v) (o:=(MF xs k).map (·.2)) (by rw[l];exact rel.val k);obtain⟨p,hp,hp2⟩:=Option.map_eq_some_iff.mp hw;refine wpAny_getItem_heap (JR hu) (kJ I.hok eb) dd hp ?_;rw[hp2];exact h w' _ (I.tok _) rw'
theorem sA{Q:a_->g_->Prop}(hu:A.units+1<Jl)(I:Inv X pz σ H s)(g:cZ H a y o)(ry:ao y u)(h:∀s',Inv X pz σ H s'->Q (.bool o.isSome) s'):C_ (F_ X.prog X.w) A (HI .In u (.ref a)) Q E s:=by
 rcases g with⟨kvs,k,e,ey,l⟩|⟨kvs,k,b,e,ey,eb,l⟩
 .subst ey;obtain⟨z,hd,vs,rel,dd⟩:=jM I.hok e;refine wpAny_in_of (ky ry) hd dd.mapOf ?_;rw[<-(rel.val k).isSome_eq,<-l];exact h _ (I.tok _)
 .subst ey;cases(show u=Value.ref b from ry);obtain⟨z,hd,xs,rel,dd⟩:=kt I.hok e;refine wpAny_in_heap (JR hu) (kJ I.hok eb) hd dd ?_;have q:=(rel.val k).isSome_eq;rw[KN]at q;rw[<-q,<-l];exact h _ (I.tok _)
theorem BZ{Q:a_->g_->Prop}(hu:A.units+1<Jl)(I:Inv X pz σ H s)(g:cZ H a y o)(ry:ao y u)(h:∀s',Inv X pz σ H s'->Q (.bool (! o.isSome)) s'):C_ (F_ X.prog X.w) A (HI .NotIn u (.ref a)) Q E s:=by
 rcases g with⟨kvs,k,e,ey,l⟩|⟨kvs,k,b,e,ey,eb,l⟩
 .subst ey;obtain⟨z,hd,vs,rel,dd⟩:=jM I.hok e;refine wpAny_notIn_of (ky ry) hd dd.mapOf ?_;rw[<-(rel.val k).isSome_eq,<-l];exact h _ (I.tok _)
 .subst ey;cases(show u=Value.ref b from ry);obtain⟨z,hd,xs,rel,dd⟩:=kt I.hok e;refine wpAny_notIn_heap (JR hu) (kJ I.hok eb) hd dd ?_;have q:=(rel.val k).isSome_eq;rw[KN]at q;rw[<-q,<-l];exact h _ (I.tok _)
theorem wl{h':Heap}{t':Nat}{ob:HO}(I:Inv X pz σ H s)(mu:mz (H a))(hs:JU a s.heap h')(he:∃q,h'.get? a=some q)(new:bq X.prog X.w (upd H a ob) h' a ob):Inv X pz σ (upd H a ob) { s with heap:=h',toks:=t' }:=I.write (x:=a) (e:=a) mu (.inl rfl) (fun b q hb z=>(hs.2 b hb).trans z) he new
theorem Ac{P:z_}{w:Ht}{H':Hp}{h':Heap}{kvs:List (au×V)}{vs:List (au×a_)}(z:kvs.length<=sizeLine)(hd:(a==Jr)=false)(rel:KV kvs vs)(dd:h'.DictOf (d5 P w) a vs):bq P w H' h' a (.dK kvs):=⟨z,hd,vs,rel,dd⟩
theorem E1{H':Hp}{Q:Unit->g_->Prop}(hu:A.units+1<Jl)(I:Inv X pz σ H s)(g:eR H a y v H')(ry:ao y u)(rv:ao v r)(h:∀s',Inv X pz σ H' s'->Q () s'):C_ (F_ X.prog X.w) A (NW (.ref a) u r) Q E s:=by
 rcases g with⟨kvs,k,e,ey,l,eH⟩|⟨kvs,k,b,e,ey,eb,l,eH⟩
 .subst ey eH;obtain⟨z,hd,vs,rel,dd⟩:=zG I.hok e;have hz:vs.length<=sizeLine:=by rw[<-rel.length];exact z
  have hl:(b5 kvs k v).length<=sizeLine:=by have:=yx kvs k v;omega
  refine wpAny_setItem_pairs (hsz:=hz) (ky ry) dd fun h' dd' hs=>h _ ?_;have he:∃q,h'.get? a=some q:=let⟨q,_,_,hq,_⟩:=dd';⟨q,hq⟩;exact wl I (by rw[e];exact True.intro) hs he (Ac hl hd (rel.put k rv) dd')
 .subst ey eH;cases(show u=Value.ref b from ry);obtain⟨z,hd,xs,rel,dd⟩:=zH I.hok e;have hz:xs.length<=sizeLine:=by rw[<-Paired.length rel];exact z
  have hl:(b5 kvs k v).length<=sizeLine:=by have:=yx kvs k v;omega
  refine wpAny_setItem_heap (hsz:=hz) (JR hu) (kJ I.hok eb) dd fun h' dd' hs=>h _ ?_;obtain⟨q,es,ep,hq,h2,h3,h4,_,h5⟩:=dd';refine wl I (by rw[e];exact True.intro) hs ⟨q,hq⟩ ⟨hl,hd,_,(rel.put k eb rv).keeps fun c ys ec=>?_,q,es,ep,hq,h2,h3,h4,h5⟩;rw[aW (AK ec e (fun z=>nomatch z))];exact ec
end
section
variable{X:Cx}{pz:List (Addr×Obj)}{σ:St}{H:Hp}{s:g_}{a:Addr}{kvs:List (au×V)}{k:au}{u:a_}{A:HA}{E:a_->g_->Prop}
theorem zF{Q:a_->g_->Prop}(I:Inv X pz σ H s)(e:Rd H a (.dK kvs))(h:∀t s',Inv X pz σ H s'->Q (.int kvs.length t) s'):C_ (F_ X.prog X.w) A (call (.builtin "len") [.ref a]) Q E s:=by obtain⟨z,hd,vs,rel,dd⟩:=jM I.hok e;refine call_len_dict hd dd (by rw[<-rel.length];rw[HF]at z;omega) ?_;rw[<-rel.length];exact h _ _ (I.tok _)
end
theorem F8{X:Cx}{pz:List (Addr×Obj)}{σ:St}{H:Hp}{s:g_}{a:Addr}{y:V}{o:Option V}(I:Inv X pz σ H s)(g:cZ H a y o):s.TypeIs (.ref a) "dict" := by
 rcases g with⟨kvs,k,e,_,_⟩|⟨kvs,k,b,e,_,_,_⟩
 .obtain⟨_,_,vs,_,dd⟩:=jM I.hok e;exact dd.typeIs
 .obtain⟨_,_,xs,_,dd⟩:=kt I.hok e;exact dd.typeIs
theorem Dq{P:z_}{w:Ht}{H:Hp}(h:Heap)(hb:Jr<h.objs.size):bq P w H (h.push { cls:=.type "dict",data:=.dict #[] }) h.objs.size (.dK []):=⟨Hy _,beq_eq_false_iff_ne.mpr (IG (B_ hb)),[],.nil,Heap.DictOf.new h⟩
def Cc:TE:=fun _ H Q=>∀p,H p=none->Q (.ref p) (upd H p (.dK []))
section
variable{X:Cx}{pos:Pos}
theorem Ed:PE X (.Dict [] [] pos) Cc:=fun pz s σ H Q I h=>wpAny_Dict_empty ⟨.ref s.heap.objs.size,_,I.laid (a:=s.heap.objs.size) (o:=.dK []) (t':=s.toks) (fun _ _ q=>h_ _ q) (q_ _) (Dq s.heap I.big),rfl,h _ (I.hok.fresh (q_ _))⟩
end
structure M1(X:Cx)(o:Expr)(m:Str)(apos:Pos)(e:Expr)(cpos:Pos):Prop where
 base:ID o m X.env (eval o X.env)=eval o X.env
 few:((backTo cpos (l_ [e] X.env)).all (fun x=>! x.1)&&(La cpos (JT [] X.env)).all (fun x=>x.1.isSome)
  && decide (([e]:List Expr).length+([]:List Jz).length+(if ([]:List Jz).isEmpty then 0 else 1)<30))=true
 line:(apos.endLine==cpos.line)=true
 trees:backTo cpos (l_ [e] X.env)=[(false,eval e X.env)]
structure M2(X:Cx)(o:Expr)(m:Str)(apos:Pos)(e f:Expr)(cpos:Pos):Prop where
 base:ID o m X.env (eval o X.env)=eval o X.env
 few:((backTo cpos (l_ [e,f] X.env)).all (fun x=>! x.1)&&(La cpos (JT [] X.env)).all (fun x=>x.1.isSome)
  && decide (([e,f]:List Expr).length+([]:List Jz).length+(if ([]:List Jz).isEmpty then 0 else 1)<30))=true
 line:(apos.endLine==cpos.line)=true
 trees:backTo cpos (l_ [e,f] X.env)=[(false,eval e X.env),(false,eval f X.env)]
end L2
namespace Att
open PySem PySem.W PySem.Calls PyProof.Rows
theorem GQ{P:Params}{h:Heap}:∀(ns:List Int)(vs:List a_),WellAll P h vs (ns.map WData.int)->IV vs ns:=by
 intro ns
 induction ns with
|nil=>intro vs w;rw[Kn]at w;cases w;exact .nil
|cons n ns ih=>intro vs w;rw[y_]at w;cases w with
 |cons a b=>cases a;exact .cons _ _ (ih _ b)
theorem Fl{l:OpenLaw}{n:Nat}(hn:l.most=some n){P:Params}{h:Heap}{args:List WData}{vals:List a_}(hpre:l.row.toRowW.claim.pre args=true)(hwl:WellAll P h vals args):∃a vs ns,vals=[Value.ref a]/\args=[WData.list (ns.map WData.int)]/\h.get? a=some { cls:=.type "list",data:=.seq vs.toArray }/\IV vs ns/\ns.length<=n:=by
 have hsh:WShape.hasAll [] args [.list .int]=true:=(pre_splitW hpre).1;have hc:l.pre.holds [] { args:=args }=true:=(pre_splitW hpre).2;obtain⟨d,r,rfl,h1,h2⟩:=hasAllW_cons hsh;obtain rfl:=hasAllW_nil h2;obtain⟨xs,rfl,h3⟩:=hasW_list h1;obtain⟨ns,rfl⟩:=items_int h3;have hlen:ns.length<=n:=by
  unfold OpenLaw.pre at hc;have h4:(WTm.not (.lt (.lit (.int (n:Int))) (.len (.arg 0)))).holds [] { args:=[.list (ns.map .int)] }=true:=by have h4:=(holds_andW hc).1;rw[hn]at h4;exact h4
  have h5:=condW_of h4 (w_not (w_lt w_lit (w_len_list (w_arg rfl))));rw[m_]at h5;refine Nat.le_of_not_lt fun q=>?_;have q':(n:Int)<((ns.length:Nat):Int):=by omega
  first
   |(rw[decide_eq_true q']at h5;exact absurd h5 (by decide))
   |(simp at h5;omega)
 cases hwl with
|cons w1 w2=>cases w2;cases w1 with
 |list ho hall=>exact⟨_,_,ns,rfl,rfl,ho,GQ ns _ hall,hlen⟩
theorem Fq(l:OpenLaw)(args:List WData):l.row.toRowW.claim.post args (.bool true) args=true:=
 postW_of (r:=l.row.toRowW) (X:=(true==true))
  (show Of [] (.bool true) .bool=true by first|rfl|decide|simp[Of,WShape.arms,WShape.armsAll])
  (show(WTm.eq .res (.lit (.bool true))).value [] { args:=args,res:=some (.bool true),after:=args }=some (.bool (true==true))from w_eq_bool (w_res rfl) w_lit) rfl
theorem attach_call{l:OpenLaw}{n:Nat}{q:z_}{loose:List Str}{XP:(Str->Option a_)->Heap->Prop}{YP:Ht->Heap->Prop}{d:DefRec}(hn:l.most=some n)(hdf:d.params.defaults=[])(call:∀(w:Ht)(s₀ s₁:g_)(mg mb:Str->Option a_)(fa:Addr)(o:Obj)(pm cd doc:a_)(a:Addr)(vs:List a_)(ns:List Int),Ground q loose [] XP w s₀ mg mb s₁.heap->YP w s₁.heap ->s₁.heap.get? fa=some o->o.data=.func (docDef d.name d.params d.body d.scope pm cd doc)->s₁.heap.CodeRec cd d.name->mg d.name=some (.ref fa) ->s₁.heap.get? a=some { cls:=.type "list",data:=.seq vs.toArray }->IV vs ns->ns.length<=n->s₁.gens = #[] ->KL (F_ l.prog w) Ln (.call (.ref fa) ⟨[.ref a],[]⟩) (fun r s'=>r=.ok (.ret (.bool true))/\OldK s₁.heap s'.heap/\s'.os=s₁.os/\Kd s'.gens) s₁):WalkO q loose XP YP l.row.toRowW d [] (fun f vs=>M5 f vs):=by intro w s₀ s₁ mg mb G Y fa o pm cd doc dV kV ho hd hcd hD hmg hg args vals as hpre hlay hrd hwl hlo;obtain rfl:dV=.none:=Dflts.none hD hdf;obtain rfl:kV=.none:=Dflts.noKw hD;obtain⟨a,vs,ns,rfl,rfl,hobj,hints,hlen⟩:=Fl hn hpre hwl;refine enter_call (Km (call w s₀ s₁ mg mb fa o pm cd doc a vs ns G Y ho (fd_plain hd) hcd hmg hobj hints hlen hg) fun r s' hq=>?_);obtain⟨rfl,h2,h3,h4⟩:=hq;exact⟨.inl ⟨.bool true,.bool true,[],rfl,fun _=>rfl,.bool true,Fq l _,fun _=>⟨List.Pairwise.nil,fun _ hm=>(nomatch hm)⟩⟩,h2,h3,h4⟩
end Att
namespace L2
open PySem PySem.Spec PyProof.Rows
theorem pY:∀{vs:List a_}{ns:List Int},IV vs ns->ai (ns.map V.int) vs
|_,_,.nil=>.nil
|_,_,.cons n t h=>.cons ⟨t,rfl⟩ (pY h)
def jH(H:Hp):Prop:=∀b,H b=none\/∃o xs,H b=some (.frz o (.lst xs))
theorem Eu{P:z_}{w:Ht}{K:W.Frag}{mg mb:Str->Option a_}{CX:fm}{k:Nat}{fa a:Addr}{fd:Iy}{x:Str}{sp:Sp}{s₁:g_}{vs:List a_}{ns:List Int}(KX:K.In s₁.heap)(hns:s₁.heap.Ns Il mg)(hb:s₁.heap.Ns MW mb)(hbb:∀x:Str,x≠"__name__"->mb x=JH x)(hlim:s₁.heap.NoLimit)(hg:s₁.gens = #[])(ha:s₁.heap.get? a=some { cls:=.type "list",data:=.seq vs.toArray })(hi:IV vs ns)(hl:ns.length<=sizeLine)(hr:Room k Ln)(F:∀base:Heap,K.In base->base.Ns Il mg->FnOk P w K mg base CX k fa fd [x] sp)(hbind:∀(s:g_)(u:a_),LP s fd ⟨[u],[]⟩ [(x,u)])(hsp:∀H:Hp,jH H->aL K H a (ns.map V.int)->sp [.ref a] H (fun v _=>v=.bl true) fun _ _ _=>False)(hCX:∀H e s',CX [] H s₁ (fun _ _ _=>False) e s'->False):KL (F_ P w) Ln (.call (.ref fa) ⟨[.ref a],[]⟩) (fun r s'=>r=.ok (.ret (.bool true))/\OldK s₁.heap s'.heap/\s'.os=s₁.os/\Kd s'.gens) s₁:=by
 have rv:=pY hi;have lenV:=hi.length;have core:∀H:Hp,jH H->aL K H a (ns.map V.int)->bU P w H s₁.heap->(∀b,H b≠none->b=a)->(H a≠none->K.lookup a=none) ->KL (F_ P w) Ln (.call (.ref fa) ⟨[.ref a],[]⟩) (fun r s'=>r=.ok (.ret (.bool true))/\OldK s₁.heap s'.heap/\s'.os=s₁.os/\Kd s'.gens) s₁:=by
  intro H hO hS hok hA hK;have base_of:∀{b:Addr}{o:Obj},s₁.heap.get? b=some o->H b=none->(dk s₁.heap H).get? b=some o:=fun e n=>Dw e n;have noA:∀{b:Addr}{o:Obj}{es:Array DictEntry}{ep:Nat},s₁.heap.get? b=some o->o.data=.dict es ep->H b=none:=fun{b o es ep} e d=>by cases q:H b with
  |none=>rfl
  |some u=>have e':b=a:=hA b (by rw[q];simp);subst e';rw[ha]at e;cases e;have d':Data.seq vs.toArray _=Data.dict es ep:=d;cases d'
  have nsK:∀{b:Addr}{m:Str->Option a_},s₁.heap.Ns b m->(dk s₁.heap H).Ns b m:=fun{b m} ⟨o,es,ep,e,d,r⟩=>⟨o,es,ep,base_of e (noA e d),d,r⟩
  have hKb:K.In (dk s₁.heap H):=fun b o e=>base_of (KX b o e) (by cases q:H b with
  |none=>rfl
  |some u=>have e':b=a:=hA b (by rw[q];simp);subst e';rw[hK (by rw[q];simp)]at e;cases e)
  have hM:Mod K mg (dk s₁.heap H):=⟨hKb,nsK hns,⟨mb,nsK hb,hbb⟩,let⟨mc,h1,h2⟩:=hlim;⟨mc,nsK h1,h2⟩⟩
  have e0:Env0 P w K mg (dk s₁.heap H) Ln [] s₁ H:=⟨rfl,hM,fun b o e=>CK e,JV (EN _ _),trivial,fun b hb=>absurd (show b∈([]:List Addr)from hb) (by simp),hok,.of_eq hg⟩
  refine Km ((F _ hKb (nsK hns)).run Ln [] s₁ H ⟨[.ref a],[]⟩ [.ref a] [.ref a] _ _ hr e0 (hbind s₁ (.ref a)) (.cons rfl .nil) (hsp H hO hS)) fun r s' h=>?_;cases r with
 |error e=>exact(hCX H e s' h).elim
 |ok fl=>cases fl with
  |next=>exact IX h
  |brk=>exact IX h
  |cont=>exact IX h
  |ret u=>obtain⟨v,H',os,bare,un,hok',r',q⟩:=h;have q':v=.bl true:=q;subst q';obtain rfl:u=Value.bool true:=r';refine⟨rfl,OldK.of_keep fun b o e=>?_,os,bare⟩;cases q:H b with
   |none=>exact un.keep b o e q (by intro z;exact absurd (show b∈([]:List Addr)from z) (by simp)) (by simp)
   |some u=>
     rcases hO b with z|⟨ob,xs,z⟩
     .rw[q]at z;cases z
     .have z2:=un.frzs b ob _ z;obtain⟨e1,_⟩:=hok b _ z;obtain⟨e2,_⟩:=hok' b _ z2;rw[e]at e1;cases e1;exact e2
 cases hk:K.lookup a with
|some o=>have e:=KX a o hk;rw[ha]at e;cases e;refine core (fun _=>none) (fun _=>.inl rfl) (.inr ⟨_,vs.toArray,_,hk,rfl,rfl,rfl,by rw[n_,lenV];exact hl,by simpa using rv⟩) (fun b u z=>by have z':(none:Option HO)=some u:=z;cases z') (fun b z=>absurd rfl z) fun z=>absurd rfl z
|none=>
  refine core (fun b=>if b=a then some (.frz { cls:=.type "list",data:=.seq vs.toArray } (.lst (ns.map V.int)))else none) (fun b=>?_) (.inl (.inr ⟨{ cls:=.type "list",data:=.seq vs.toArray },if_pos rfl⟩)) (fun b u z=>?_) (fun b z=>?_) fun _=>hk
  .by_cases hb:b=a
   .exact .inr ⟨_,_,if_pos hb⟩
   .exact .inl (if_neg hb)
  .by_cases hb:b=a
   .have z':=(if_pos hb).symm.trans z;cases z';subst hb;exact⟨ha,by rw[m_];exact hl,vs,_,rv,ha⟩
   .have z':=(if_neg hb).symm.trans z;cases z'
  .by_cases hb:b=a
   .exact hb
   .exact absurd (if_neg hb) z
abbrev aM{K:W.Frag}{h:Heap}(_:K.In h):W.Frag:=K
theorem hG{l:W.OpenLaw}{n k:Nat}{q:z_}{loose:List Str}{XP:(Str->Option a_)->Heap->Prop}{YP:Ht->Heap->Prop}{d:DefRec}{K:Params->W.Frag}{CX:Ht->fm}{sp:Ht->Sp}{x:Str}(hn:l.most=some n)(hn2:n<=sizeLine)(hdf:d.params.defaults=[])(hr:Room k Ln)(hY:∀(w:Ht)(h:Heap),YP w h->(K w.params).In h)(F:∀(w:Ht)(mg:Str->Option a_)(fa:Addr)(h:Heap),(K w.params).In h->h.Ns Il mg->mg d.name=some (.ref fa) ->∃fd:Iy,(∀(s:g_)(u:a_),LP s fd ⟨[u],[]⟩ [(x,u)]) /\∀base:Heap,(K w.params).In base->base.Ns Il mg->FnOk l.prog w (K w.params) mg base (CX w) k fa fd [x] (sp w))(hsp:∀(w:Ht)(H:Hp)(a:Addr)(ns:List Int),ns.length<=n->jH H->aL (K w.params) H a (ns.map V.int)->sp w [.ref a] H (fun v _=>v=.bl true) fun _ _ _=>False)(hCX:∀(w:Ht)(H:Hp)(s:g_)(e:a_)(s':g_),CX w [] H s (fun _ _ _=>False) e s'->False):W.WalkO q loose XP YP l.row.toRowW d [] (fun f vs=>M5 f vs):=by refine Att.attach_call hn hdf fun w s₀ s₁ mg mb fa o pm cd doc a vs ns G Y ho hd hcd hmg hobj hints hlen hg=>?_;have KX:=hY w _ Y;obtain⟨fd,hb,hF⟩:=F w mg fa _ KX G.T.g hmg;exact Eu KX G.T.g G.T.b G.T.builtins G.T.nolimit hg hobj hints (HZ hlen hn2) hr hF hb (fun H hO hS=>hsp w H a ns hlen hO hS) fun H e s'=>hCX w H s₁ e s'
def eZ(s:Stmt):Arguments:=match s with
|.FunctionDef _ a _ _ _ _ _ _ _ _=>a
|_=>{ posonlyargs:=[],args:=[],vararg:=none,kwonlyargs:=[],kw_defaults:=[],kwarg:=none,defaults:=[] }
def c6(s:Stmt):List Stmt:=match s with
|.FunctionDef _ _ b _ _ _ _ _ _ _=>b
|_=>[]
def az(s:Stmt):JC:=match s with
|.FunctionDef _ _ _ _ _ _ sc _ _ _=>sc
|_=>{ kind:=.function,names:=[],isGenerator:=false,isCoroutine:=false }
abbrev bB:fm:=fun _ _ _ _ _ _=>False
abbrev E0:XK:=fun _ _ _=>False
theorem mP{X:Cx}:oU bB X E0:=fun _ _ _ _ _ _ _ h=>h.elim
structure Fun(K:W.Frag)(x qual:Str)(st:Stmt)(f:Addr)(fd:Iy):Prop where
 ex:∃(oc:a_)(od:Option Addr)(kV doc pm:a_)(an:Option Addr)(cdv ct:a_)(osl:Array (Option a_)),fd=W.fnOf x qual (eZ st) (c6 st) (az st) .none kV doc pm an cdv ct/\K.lookup f=some ⟨oc,od,.func fd,osl⟩/\W.codeIn K cdv qual=true
 kp:W.keepIn K (.ref f)=true
section
variable{P:z_}{w:Ht}{K:W.Frag}{mg:Str->Option a_}{base:Heap}
theorem Fun.ok{x qual:Str}{st:Stmt}{f:Addr}{fd:Iy}{N ps:List Str}{k:Nat}{sp:Sp}(F:Fun K x qual st f fd)(S:FnScope N ps (az st))(len:∀vs H Q E,sp vs H Q E->vs.length=ps.length)(hbody:∀(cdv:a_)(A:HA)(outer:List Env)(s:g_)(H:Hp)(vs:List V)(Q:VK)(E:XK),Room k (A.deeper (JW qual (az st) s.heap.objs.size f cdv))->sp vs H Q E ->∃t,bb (aR bB P w K mg base N qual (az st) f cdv A outer s H E).nox (c6 st) t/\t { nx:=fun _ H'=>Q .non H',rt:=Q } (bi N vs) H):FnOk P w K mg base bB (k+1) f fd ps sp:=by obtain⟨oc,od,kV,doc,pm,an,cdv,ct,osl,rfl,lk,hcd⟩:=F.ex;refine oI lk hcd S len fun A outer s H vs Q E hr hsp=>?_;obtain⟨t,h,q⟩:=hbody cdv A outer s H vs Q E hr hsp;exact⟨t,h.nox,q⟩
theorem Fun.binds{x qual:Str}{st:Stmt}{f:Addr}{fd:Iy}{ps:List Str}(F:Fun K x qual st f fd)(h:∀(kV doc pm:a_)(an:Option Addr)(cdv ct:a_)(us:List a_),us.length=ps.length->K9 (W.fnOf x qual (eZ st) (c6 st) (az st) .none kV doc pm an cdv ct) ⟨us,[]⟩=pure (ps.zip us)):dY K fd ps []:=by obtain⟨oc,od,kV,doc,pm,an,cdv,ct,osl,rfl,lk,hcd⟩:=F.ex;exact .all (h kV doc pm an cdv ct)
theorem Ah{x qual:Str}{st:Stmt}{f:Addr}{oc:a_}{od an:Option Addr}{osl:Array (Option a_)}{kV doc pm cdv ct:a_}(l:K.lookup f=some ⟨oc,od,.func (W.fnOf x qual (eZ st) (c6 st) (az st) .none kV doc pm an cdv ct),osl⟩)(c:W.codeIn K cdv qual=true)(k:W.keepIn K (.ref f)=true):Fun K x qual st f (W.fnOf x qual (eZ st) (c6 st) (az st) .none kV doc pm an cdv ct):=⟨⟨oc,od,kV,doc,pm,an,cdv,ct,osl,rfl,l,c⟩,k⟩
end
theorem jP{A:HA}{k:Nat}(hr:Room k A):A.units+1<Jl:=Nat.lt_of_le_of_lt (Nat.add_le_add_left (by decide:1<=64) _) hr.units
section
variable{X:Cx}
theorem EV:dv X (.builtin "len") (fun xs H Q=>∃a kvs,xs=[V.ref a]/\Rd H a (.dK kvs)/\Q (.int kvs.length) H):=by intro pz s σ H xs us Q I r h;obtain⟨a,kvs,rfl,ha,q⟩:=h;obtain⟨u,rfl,ru⟩:=bA r;cases ru;exact zF I ha fun t s' I'=>⟨.int kvs.length,H,I',⟨t,rfl⟩,q⟩
end
def cY(H H':Hp):Prop:=∀b o,H b=some o->H' b=some o
theorem cY.refl(H:Hp):cY H H:=fun _ _ h=>h
theorem cY.trans{H H1 H2:Hp}(a:cY H H1)(b:cY H1 H2):cY H H2:=fun c o h=>b c o (a c o h)
theorem cY.free{H H':Hp}(e:cY H H'){l:Addr}(h:H' l=Option.none):H l=Option.none:=by cases q:H l with
|none=>rfl
|some o=>rw[e l o q]at h;cases h
theorem cY.seq{K:W.Frag}{H H':Hp}{a:Addr}{xs:List V}(e:cY H H')(h:aL K H a xs):aL K H' a xs:=by
 rcases h with(h|⟨o,h⟩)|h
 .exact .inl (.inl (e _ _ h))
 .exact .inl (.inr ⟨o,e _ _ h⟩)
 .exact .inr h
end L2
end
namespace DL
open PySem
section
open PySem.SeqAt
open PySem.AutoSeq1 (wpAny_loadPart')
open PySem.MeetsSeq PySem.MeetsSeq2 PySem.MeetsSeq3
end
end DL
namespace DL
open PySem PyProof.Rows
end DL
namespace DL
open PySem PyProof.Rows PySem.W
def kasRun{α:Type}(c:Nat->Nat->Bool):KasT α->α
|.ret a=>a
|.ask i j k=>kasRun c (k (c i j))
theorem kd{α β:Type}(c:Nat->Nat->Bool)(f:α->KasT β):∀t:KasT α,kasRun c (t.bind f)=kasRun c (f (kasRun c t))
|.ret a=>rfl
|.ask i j k=>kd c f (k (c i j))
inductive Asks(n:Nat){α:Type}(P:α->Prop):KasT α->Prop where
 |ret {a:α}:P a->Asks n P (.ret a)
 |ask {i j:Nat} {k:Bool->KasT α}:i<n->j<n->(∀b,Asks n P (k b))->Asks n P (.ask i j k)
theorem Asks.bind{n:Nat}{α β:Type}{P:α->Prop}{P':β->Prop}{t:KasT α}{f:α->KasT β}(h:Asks n P t)(hf:∀a,P a->Asks n P' (f a)):Asks n P' (t.bind f):=by induction h with
|ret h=>exact hf _ h
|ask h1 h2 _ ih=>exact .ask h1 h2 ih
theorem Asks.run{n:Nat}{α:Type}{P:α->Prop}{t:KasT α}(h:Asks n P t)(c:Nat->Nat->Bool):P (kasRun c t):=by induction h with
|ret h=>exact h
|ask _ _ _ ih=>exact ih _
theorem Asks.mono{n:Nat}{α:Type}{P P':α->Prop}{t:KasT α}(h:Asks n P t)(hp:∀a,P a->P' a):Asks n P' t:=by induction h with
|ret h=>exact .ret (hp _ h)
|ask h1 h2 _ ih=>exact .ask h1 h2 ih
theorem ES{n:Nat}{α:Type}{P:α->Prop}{cmp:Nat->Nat->(Bool->g_->Prop)->g_->Prop}{c:Nat->Nat->Bool}{s:g_}(hc:∀i j C,i<n->j<n->C (c i j) s->cmp i j C s){Q:α->g_->Prop}{t:KasT α}(h:Asks n P t):Q (kasRun c t) s->t.kasWp cmp Q s:=by induction h with
|ret _=>exact fun q=>q
|ask h1 h2 _ ih=>exact fun q=>hc _ _ _ h1 h2 (ih _ q)
def cI(n:Nat)(p:Array Nat):Prop:=p.toList.Perm (r_ n)
theorem cI.bd{n:Nat}{p:Array Nat}(h:cI n p)(hn:0<n)(k:Nat):p.getD k 0<n:=by
 by_cases hk:k<p.size
 .have e:p.getD k 0=p[k]:=by simp[M6,hk]
  rw[e];exact D_.mp (h.mem_iff.mp (by simp))
 .have e:p.getD k 0=0:=by simp[M6,hk]
  rw[e];exact hn
theorem cI.rev{n:Nat}{p:Array Nat}(h:cI n p)(i j:Nat):cI n (JY p i j):=(Kw.mp (mirror_perm p i j ((j-i)/2))).trans h
theorem cI.bub{n:Nat}{p:Array Nat}(h:cI n p)(i j:Nat):cI n (bubble p i j):=(Kw.mp (bubble_perm p i j)).trans h
section
variable{n:Nat}(hn:0<n)
include hn
theorem pJ{p:Array Nat}(h:cI n p):∀f k,Asks n (fun _=>True) (IW p f k)
|0,k=>.ret trivial
|f+1,k=>.ask (h.bd hn _) (h.bd hn _) fun b=>by cases b with
 |true=>rw[if_pos rfl];exact .ret trivial
 |false=>rw[if_neg d_];exact pJ h f (k+1)
theorem nB:∀f (p:Array Nat) k q,cI n p->Asks n (fun r=>cI n r.1) (IS f p k q)
|0,p,k,q,h=>.ret h
|f+1,p,k,q,h=>.ask (h.bd hn _) (h.bd hn _) fun b=>by cases b with
 |true=>
   rw[if_pos rfl];split
   .exact nB f _ _ _ (h.rev _ _)
   .exact nB f _ _ _ h
 |false=>rw[if_neg d_];refine .ask (h.bd hn _) (h.bd hn _) fun b=>?_;cases b with
  |true=>rw[if_pos rfl];exact .ret h
  |false=>rw[if_neg d_];exact nB f _ _ _ h
theorem xp{p:Array Nat}(h:cI n p)(a b:Nat):Asks n (fun r=>cI n r.2) (NS a b p):=Asks.bind (pJ hn (h.rev 0 a) _ _) fun m _=>.ret (h.rev 0 a)
theorem yv{p:Array Nat}(h:cI n p)(a b:Nat):Asks n (fun r=>cI n r.2) (Ko a b p):=by
 refine Asks.bind (nB hn _ p _ _ h) fun r hr=>?_;split
 .exact xp hn (hr.rev _ _) _ _
 .exact xp hn hr _ _
theorem E8{p:Array Nat}(h:cI n p)(a:Nat):Asks n (fun r=>cI n r.2) (Mv a p):=by
 refine Asks.bind (pJ hn h _ _) fun k _=>?_;split
 .exact .ret h
 .split
  .refine .ask (h.bd hn _) (h.bd hn _) fun b=>?_;cases b with
  |true=>rw[if_pos rfl];exact .ret h
  |false=>rw[if_neg d_];exact yv hn (h.rev _ _) _ _
  .exact yv hn h _ _
theorem qu{p:Array Nat}(h:cI n p)(k:Nat):∀f l r,Asks n (fun _=>True) (Jw p k f l r)
|0,l,r=>.ret trivial
|f+1,l,r=>by
  unfold Jw;split
  .exact .ret trivial
  .refine .ask (h.bd hn _) (h.bd hn _) fun b=>?_;cases b with
  |true=>rw[if_pos rfl];exact qu h k f _ _
  |false=>rw[if_neg d_];exact qu h k f _ _
theorem xh:∀f (p:Array Nat) k,cI n p->Asks n (cI n) (kas_bin f p k)
|0,p,k,h=>.ret h
|f+1,p,k,h=>Asks.bind (qu hn h k _ _ _) fun l _=>xh f _ _ (h.bub _ _)
theorem xo:Asks n (cI n) (Kx n):=by
 refine Asks.bind (E8 hn (p:=List.toArray (r_ n)) (by unfold cI;simp) n) fun r hr=>?_;split
 .exact xh hn _ _ _ hr
 .exact .ret hr
end
def fT(n:Nat)(c:Nat->Nat->Bool):List Nat:=if n<2 then r_ n else(kasRun c (Kx n)).toList
theorem qf(n:Nat)(c:Nat->Nat->Bool):(fT n c).Perm (r_ n):=by
 unfold fT;split
 .exact .refl _
 .exact(xo (n:=n) (by omega)).run c
def bF:List Int->List Int->Bool
|[],[]=>false
|[],_::_=>true
|_::_,[]=>false
|x::xs,y::ys=>if x=y then bF xs ys else decide (x<y)
def eN(fin:Bool):List (List Int)->List (List Int)->Bool
|k::ks,l::ls=>if k=l then eN fin ks ls else bF k l
|_,_=>fin
def bJ(ks ls:List (List Int)):Bool:=eN (decide (ks.length<ls.length)) ks ls
end DL
namespace DL
open PySem PyProof.Rows PySem.W PySem.Calls
section
variable{prog:z_}{w:Ht}{A:HA}{E:a_->g_->Prop}{s:g_}
theorem FA{a:Addr}{vs:List a_}{n:Nat}{P:PySem.Fin->g_->Prop}(ho:s.heap.get? a=some (Jo "list" vs.toArray n))(h2:vs.length<2)(h:∀h' c,(∀b o,b≠a->s.heap.get? b=some o->h'.get? b=some o)->h'.get? a=some (Jo "list" vs.toArray c)->P (.done (.ret .none)) { s with heap:=h' }):C_ (F_ prog w) A (JJ.«list.sort» ⟨[.ref a],[]⟩) P E s:=by
 have fits:vs.length<=sizeLine:=by rw[HF];omega
 have up:=fun(h:Heap)(f:Array a_->Array a_)=>Ie h a (Ic f);obtain⟨e1,ho1⟩:∃e1,(s.heap.update a (Ic fun _=>(#[]:Array a_))).get? a=some (Jo "list" #[] e1):=⟨_,Kl ho fun _=>#[]⟩
 rw[list_sort_plain];refine e_ (listItems_at ho rfl (e_ (LX ho rfl ?_ (by rw[n_];exact fits) (Hy _))));refine e_ (seqEpoch_at ho1 rfl (e_ (wpAny_newTuple (e_ (LY (Ip ?_) (Hy _))) (by show vs.length<=_;exact fits))))
 dsimp only
 have hlt:vs.toArray.size<2:=by rw[n_];exact h2
 rw[if_pos hlt,if_pos hlt];refine e_ (o_ ?_);have hrun:(pure ():StateT SortSt Sem Unit).run (M7 general' (vs.toArray.zip vs.toArray) #[] 7 none)=pure ((),M7 general' (vs.toArray.zip vs.toArray) #[] 7 none):=rfl;rw[hrun];refine e_ (o_ ?_)
 dsimp only
 have hout:(arrOf (M7 general' (vs.toArray.zip vs.toArray) #[] 7 none)).map (·.2)=vs.toArray:=by show((vs.toArray.zip vs.toArray).map (·.2))=vs.toArray;apply M8;simp[List.map_snd_zip]
 rw[hout];have keep3:∀b o,(s.heap.update a (Ic fun _=>(#[]:Array a_))).get? b=some o->(((s.heap.update a (Ic fun _=>(#[]:Array a_))).push (Jo "tuple" vs.toArray 0)).push (Jo "list" #[] 0)).get? b=some o:=fun b o e=>h_ _ (h_ _ e);have ho3:=keep3 _ _ ho1;refine e_ (seqEpoch_at ho3 rfl (e_ (LX ho3 rfl ?_ (Hy _) (by rw[n_];exact Nat.le_succ_of_le fits))));simp only[bne_self_eq_false,HK,if_false];refine o_ (h _ _ (fun b o hb e=>?_) (Kl ho3 fun _=>vs.toArray));exact((up _ _).2 b hb).trans (keep3 b o (((up _ _).2 b hb).trans e))
theorem Gp{l:Addr}{vs:List a_}{Q:a_->g_->Prop}(hl:s.heap.IsList l vs.toArray)(h2:vs.length<2)(h:∀h' c D,(∀b o,s.heap.get? b=some o->h'.get? b=some o)->s.heap.objs.size<=D->h'.get? D=some (Jo "list" vs.toArray c)->Q (.ref D) { s with heap:=h' }):C_ (F_ prog w) A (call (.builtin "sorted") [.ref l]) Q E s:=by
 refine KI kind_sorted plain_sorted entry_sorted (args_sorted1 _) ?_;unfold JJ.«sorted»;refine e_ (m:=checkCount "sorted" 1 1 _) (o_ (e_ (collect_list hl ?_ (by rw[HF];omega))));refine e_ (LY ?_ (by rw[HF];omega));generalize hH:((s.heap.push (Jo "list" #[] 0)).update s.heap.objs.size (Ic (·++vs.toArray)))=H1;have hsz:H1.objs.size=s.heap.objs.size+1:=by rw[<-hH,Heap.size_update,size_push']
 have keep:∀b o,s.heap.get? b=some o->(H1.push (Jo "list" vs.toArray 0)).get? b=some o:=fun b o q=>by have hlt:b<s.heap.objs.size:=p_ q;refine h_ _ ?_;rw[<-hH,Heap.get?_update_ne _ _ _ _ (B_ hlt)];exact h_ _ q
 have hoL:(H1.push (Jo "list" vs.toArray 0)).get? H1.objs.size=some (Jo "list" vs.toArray 0):=u_ _ rfl;refine e_ (Ip (IB slot_list_sort ⟨_,hoL,rfl⟩ MI ?_ (args_list_sort _)));refine FA (s:={ s with heap:=H1.push (Jo "list" vs.toArray 0) }) hoL h2 fun h' c kp hD=>?_;refine⟨_,rfl,o_ ⟨_,rfl,h h' c _ (fun b o e=>kp b o ?_ (keep b o e)) (by rw[hsz];exact KO _) hD⟩⟩;rw[hsz];exact B_ (JZ (p_ e))
end
end DL
namespace DL
open PySem PySem.Spec PyProof.Rows L2 PySem.W PySem.Calls
structure Lft(fr:List Addr)(a:Addr)(oe:Obj)(vs:Array a_)(T:Option Addr)(v:a_)(h h':Heap):Prop where
 keep:∀b o,b∉fr->b≠a->T≠some b->h.get? b=some o->h'.get? b=some o
 slot:∀b o,h.get? b=some o->(∀vs:Array a_,o.data≠Data.fields vs)->∃sl,h'.get? b=some { cls:=o.cls,dict:=o.dict,data:=o.data,slots:=sl }
 obj:∃tb ot ts,(h.get? tb=none\/T=some tb)/\tb≠a/\h'.get? a=some { cls:=oe.cls,dict:=oe.dict,data:=.fields (vs.setIfInBounds 1 (.ref tb)),slots:=oe.slots }/\h'.get? tb=some ot/\ot.data=.fields ts/\ts[3]? = some v
def zC(h B:Heap)(a:Addr)(cls:a_)(od L:Option Addr):Prop:=∃oe vs,h.get? a=some oe/\oe.cls=cls/\(∀dx,od=some dx->oe.dict=some dx)/\oe.data=.fields vs /\(vs[1]? = some Value.none\/(∃T oT ts,vs[1]? = some (.ref T)/\B.get? T=none/\T≠a/\h.get? T=some oT/\oT.data=.fields ts/\ts[3]? = some Value.none) \/∃l T oT ts,L=some l/\vs[1]? = some (.ref T)/\B.get? T=none/\T≠a/\h.get? T=some oT/\oT.data=.fields ts/\ts[3]? = some (Jy ↑l))
def rP(st:List Env):Option Addr:=st.head?.bind (·.frame)
structure Fly(P:z_)(w:Ht)(st:List Env)(H:Hp)(s:g_)(H':Hp)(a:Addr)(cls:a_)(od:Option Addr)(s':g_):Prop where
 os:s'.os=s.os
 bare:Kd s'.gens
 un:Un (cJ st) [] H H' s.heap s'.heap
 hok:bU P w H' s'.heap
 ex:∃B:Heap,B.StaysIn s'.heap/\B.get? a=none/\s'.heap.FunFrames B st/\zC s'.heap B a cls od (rP st) /\(∀b o,s.heap.get? b=some o->b∉cJ st->∃o',B.get? b=some o')/\∀b u,H' b=some u->∃o',B.get? b=some o'
def Hr(P:z_)(w:Ht):fm:=fun outer H s E e s'=>∃a cls H' od,e=.ref a/\Fly P w outer H s H' a cls od s'/\E cls od H'
theorem AW{P:z_}{w:Ht}{H:Hp}{h:Heap}{a:Addr}{o:HO}(x:bq P w H h a o):∃u,h.get? a=some u:=by cases o with
|lst xs=>obtain⟨_,_,_,_,e⟩:=x;exact⟨_,e⟩
|tup xs=>obtain⟨_,_,_,_,o,e,_⟩:=x;exact⟨_,e⟩
|dK kvs=>obtain⟨_,_,_,_,o,_,_,e,_⟩:=x;exact⟨_,e⟩
|dT kvs=>obtain⟨_,_,_,_,o,_,_,e,_⟩:=x;exact⟨_,e⟩
|set S n=>obtain⟨o,_,_,_,e,_⟩:=x;exact⟨_,e⟩
|ins C dx fs=>obtain⟨_,_,_,e,_⟩:=x;exact⟨_,e⟩
|own y=>exact x
|xd fs=>obtain⟨_,⟨_,_,_,e,_⟩,_⟩:=x;exact⟨_,e⟩
|rng lo hi=>obtain⟨_,_,_,e⟩:=x;exact⟨_,e⟩
|frz ob u=>obtain⟨e,_⟩:=x;exact⟨_,e⟩
|tbl ps=>exact⟨_,(show h.get? a=some _ from x)⟩
|met f y=>exact⟨_,(show h.get? a=some _ from x)⟩
|ext φ=>exact x.2.1
abbrev rN:List a_:=[Value.type "ValueError",Value.type "Exception",Value.type "BaseException",Value.type "object"]
structure XC(K:W.Frag)(mg:Str->Option a_)(x:Str)(C:Addr):Prop where
 bound:mg x=some (.ref C)
 exc:excIn K C rN "ValueError.__new__" = true
section
variable{X:Cx}{pz:List (Addr×Obj)}{σ:L2.St}{H:Hp}{s:g_}{x:Str}{C:Addr}{np cpos pos:Pos}{e₀:Expr}{rest:List Expr}{t:TA}
theorem Fly.made{h':Heap}{e:Addr}{cls:a_}{vs:List a_}(I:Inv X pz σ H s)(m:s.heap.MadeExcOf h' e cls vs):Fly X.prog X.w X.stack H s H e cls none { heap:=h',gens:=s.gens,drawn:=s.drawn,toks:=s.toks,os:=s.os }:=by
 obtain⟨t,m1,m2,m3⟩:=m.there;have hst:∀b o,(N1 s.heap (cJ X.stack)).get? b=some o->h'.get? b=some o:=fun b o e=>m.keeps b o (of_hideAll _ e);refine⟨rfl,I.bare,Un.kept m.keeps,I.hok.kept m.keeps,N1 s.heap (cJ X.stack),hst,?_,?_,⟨_,_,m1,rfl,(fun _ e=>nomatch e),rfl,.inl rfl⟩,fun b o e n=>⟨o,hideAll_get _ e n⟩,fun b u e=>?_⟩
 .cases q:(N1 s.heap (cJ X.stack)).get? e with
 |none=>rfl
 |some o=>have:=of_hideAll _ q;rw[m.new]at this;cases this
 .have ff:=I.stack;have key:∀l:List Env,(∀b∈cJ l,b∈cJ X.stack)->s.heap.FunFrames X.base l->h'.FunFrames (N1 s.heap (cJ X.stack)) l:=by
   intro l
   induction l with
  |nil=>intro _ _;unfold M9;trivial
  |cons env l ih=>
    intro hs hf;unfold M9 at hf ⊢;obtain⟨f1,⟨L,o,f2,f3,f4,f5⟩,f6⟩:=hf;refine⟨f1,⟨L,o,f2,hideAll_none _ (hs L ?_),m.keeps _ _ f4,f5⟩,ih (fun b hb=>hs b ?_) f6⟩
    .unfold cJ;rw[Iw,f2];exact c_
    .unfold cJ;rw[Iw,f2];exact f_ _ hb
  exact key X.stack (fun _ hb=>hb) ff
 .obtain⟨o,eo⟩:=AW (I.hok b u e);exact⟨o,hideAll_get _ eo fun z=>by rw[I.stkFree b z]at e;cases e⟩
end
end DL
namespace DL
open PySem PySem.Spec PyProof.Rows L2
inductive D where
 |non|bl (b:Bool)|int (i:Int)|str (x:Str)
 |tup (ds:List D)|lst (ds:List D)
 |dic (kvs:List (au×D))
 |obj (c:Nat) (fs:List (Str×D))
instance:Inhabited D:=⟨.non⟩
inductive Res(α:Type) where
 |ok (a:α)|exc (x:D)|stuck
def Res.bind{α β:Type}(r:Res α)(f:α->Res β):Res β:=match r with
|.ok a=>f a
|.exc x=>.exc x
|.stuck=>.stuck
@[simp] theorem bind_ok{α β:Type}(a:α)(f:α->Res β):(Res.ok a).bind f=f a:=rfl
@[simp] theorem bind_exc{α β:Type}(x:D)(f:α->Res β):(Res.exc x:Res α).bind f=.exc x:=rfl
@[simp] theorem bind_stuck{α β:Type}(f:α->Res β):(Res.stuck:Res α).bind f=.stuck:=rfl
def fin{α:Type}(r:Res α)(q:α->Prop)(x:D->Prop):Prop:=match r with
|.ok a=>q a
|.exc e=>x e
|.stuck=>False
theorem aT{α:Type}{r:Res α}{q q':α->Prop}{x:D->Prop}(h:fin r q x)(hq:∀a,q a->q' a):fin r q' x:=by cases r with
|ok a=>exact hq a h
|exc e=>exact h
|stuck=>exact h
theorem a8{α β:Type}{r:Res α}{f:α->Res β}{q:β->Prop}{x:D->Prop}(h:fin (r.bind f) q x):fin r (fun a=>fin (f a) q x) x:=by cases r with
|ok a=>exact h
|exc e=>exact h
|stuck=>exact h
abbrev GH:=Addr->Option D
inductive Scl:V->D->Prop where
 |non:Scl .non .non
 |bl (b:Bool):Scl (.bl b) (.bl b)
 |int (i:Int):Scl (.int i) (.int i)
 |str (x:Str):Scl (.str x) (.str x)
inductive KC(K:W.Frag)(a:Addr):D->Prop where
|lst {xs:List V} {ds:List D}:aL K (fun _=>none) a xs->Paired Scl xs ds->KC K a (.lst ds)
|tup {xs:List V} {ds:List D}:bL K (fun _=>none) a xs->Paired Scl xs ds->(∃o,K.lookup a=some o/\o.cls=.type "tuple"/\o.dict=none)->KC K a (.tup ds)
inductive RG(K:W.Frag)(G:GH):V->D->Prop where
 |scl {v:V} {d:D}:Scl v d->RG K G v d
 |ref {a:Addr} {d:D}:G a=some d->RG K G (.ref a) d
 |kc {a:Addr} {d:D}:KC K a d->RG K G (.ref a) d
abbrev aV(K:W.Frag)(G:GH):List V->List D->Prop:=Paired (RG K G)
abbrev eQ(K:W.Frag)(G:GH):List (au×V)->List (au×D)->Prop:=Paired fun p q=>p.1=q.1/\RG K G p.2 q.2
abbrev xD(nm:Str)(ds:List (Str×D)):D:=.obj 0 (("__class__",.str nm)::ds)
def XN(K:W.Frag)(nm:Str)(C:Addr):Prop:=∃o cd,K.lookup C=some o/\o.data=Data.cls cd/\cd.name=nm
def zu(a C:Addr)(od:Option Addr):Heap->Prop:=fun h=>∃oe vs,h.get? a=some oe/\oe.cls=.ref C/\(∀dx,od=some dx->oe.dict=some dx)/\oe.data=.fields vs
def XF(G:GH)(od:Option Addr)(ds:List (Str×D)):Prop:=match od with
|none=>ds=[]
|some dx=>G dx=some (.obj 1 ds)
theorem XF.mono{G G':GH}{od:Option Addr}{ds:List (Str×D)}(h:XF G od ds)(ge:∀a d,G a=some d->G' a=some d):XF G' od ds:=by cases od with
|none=>exact h
|some dx=>exact ge _ _ h
abbrev Hq(K:W.Frag)(G:GH):List (Str×V)->List (Str×D)->Prop:=Paired fun p q=>p.1=q.1/\RG K G p.2 q.2
inductive OB(K:W.Frag)(G:GH)(H:Hp)(a:Addr):D->Prop where
 |lst {xs:List V} {ds:List D}:Rd H a (.lst xs)->aV K G xs ds->OB K G H a (.lst ds)
 |tup {xs:List V} {ds:List D}:Rd H a (.tup xs)->aV K G xs ds->OB K G H a (.tup ds)
 |dic {ob:Obj} {ps:List (au×V)} {kvs:List (au×D)}:H a=some (.frz ob (.dK ps))->eQ K G ps kvs->OB K G H a (.dic kvs)
 |exc {nm:Str} {C:Addr} {od:Option Addr} {ds:List (Str×D)}:H a=some (.ext (zu a C od))->XN K nm C->XF G od ds->OB K G H a (xD nm ds)
 |fld {fs:List (Str×V)} {ds:List (Str×D)}:H a=some (.xd fs)->Hq K G fs ds->OB K G H a (.obj 1 ds)
def aC(K:W.Frag)(G:GH)(H:Hp):Prop:=∀a d,G a=some d->OB K G H a d
inductive OwnO(K:W.Frag)(G:GH)(H:Hp)(a:Addr):D->Prop where
 |lst {xs:List V} {ds:List D}:H a=some (.lst xs)->aV K G xs ds->OwnO K G H a (.lst ds)
 |dic {ps:List (au×V)} {kvs:List (au×D)}:H a=some (.dK ps)->eQ K G ps kvs->OwnO K G H a (.dic kvs)
structure Own(K:W.Frag)(G:GH)(H:Hp)(a:Addr)(d:D):Prop where
 un:G a=none
 ob:OwnO K G H a d
structure Grow(K:W.Frag)(G:GH)(H:Hp)(G':GH)(H':Hp):Prop where
 ok:aC K G' H'
 he:∀a o,H a=some o->H' a=some o
 ge:∀a d,G a=some d->G' a=some d
 gf:∀a,H a≠none->G' a=G a
section
variable{K:W.Frag}{G G' G1 G2:GH}{H H' H1 H2:Hp}{a p:Addr}{d:D}{v:V}
theorem Rd.mono{u:HO}(h:Rd H a u)(he:∀a o,H a=some o->H' a=some o):Rd H' a u:=by
 rcases h with h|⟨o,h⟩
 .exact .inl (he _ _ h)
 .exact .inr ⟨o,he _ _ h⟩
theorem Rd.isS{u:HO}(h:Rd H a u):H a≠none:=by rcases h with h|⟨o,h⟩ <;> rw[h] <;> simp
theorem RG.mono(h:RG K G v d)(ge:∀a d,G a=some d->G' a=some d):RG K G' v d:=by cases h with
|scl s=>exact .scl s
|ref e=>exact .ref (ge _ _ e)
|kc k=>exact .kc k
theorem aV.mono{xs:List V}{ds:List D}(h:aV K G xs ds)(ge:∀a d,G a=some d->G' a=some d):aV K G' xs ds:=Paired.mono (fun _ _ r=>r.mono ge) h
theorem eQ.mono{xs:List (au×V)}{ds:List (au×D)}(h:eQ K G xs ds)(ge:∀a d,G a=some d->G' a=some d):eQ K G' xs ds:=Paired.mono (fun _ _ r=>⟨r.1,r.2.mono ge⟩) h
theorem OB.mono(h:OB K G H a d)(ge:∀a d,G a=some d->G' a=some d)(he:∀o,H a=some o->H' a=some o):OB K G' H' a d:=by
 have rd:∀{u:HO},Rd H a u->Rd H' a u:=fun r=>by
  rcases r with r|⟨o,r⟩
  .exact .inl (he _ r)
  .exact .inr ⟨o,he _ r⟩
 cases h with
|lst r s=>exact .lst (rd r) (s.mono ge)
|tup r s=>exact .tup (rd r) (s.mono ge)
|dic r s=>exact .dic (he _ r) (eQ.mono s ge)
|exc r n f=>exact .exc (he _ r) n (f.mono ge)
|fld r s=>exact .fld (he _ r) (Paired.mono (fun _ _ r=>⟨r.1,r.2.mono ge⟩) s)
theorem OB.isS(h:OB K G H a d):H a≠none:=by cases h with
|lst r s=>exact Rd.isS r
|tup r s=>exact Rd.isS r
|dic r s=>rw[r];simp
|exc r n f=>rw[r];simp
|fld r s=>rw[r];simp
theorem aC.isN(g:aC K G H)(h:H p=none):G p=none:=by cases e:G p with
|none=>rfl
|some d=>exact absurd h (g p d e).isS
theorem OwnO.isS(h:OwnO K G H a d):H a≠none:=by cases h with
|lst r s=>rw[r];simp
|dic r s=>rw[r];simp
theorem OwnO.mono(h:OwnO K G H a d)(ge:∀a d,G a=some d->G' a=some d)(he:∀o,H a=some o->H' a=some o):OwnO K G' H' a d:=by cases h with
|lst r s=>exact .lst (he _ r) (s.mono ge)
|dic r s=>exact .dic (he _ r) (eQ.mono s ge)
theorem Own.mono(h:Own K G H a d)(w:Grow K G H G' H'):Own K G' H' a d:=⟨by rw[w.gf a h.ob.isS];exact h.un,h.ob.mono w.ge fun o e=>w.he _ _ e⟩
def fz(H:Hp)(a:Addr)(ob:Obj):Hp:=match H a with
|some (.dK ps)=>upd H a (.frz ob (.dK ps))
|_=>H
theorem ku{b:Addr}{ob:Obj}(h:b≠a):fz H a ob b=H b:=by unfold fz;cases e:H a with
|none=>rfl
|some u=>cases u <;> first|rfl|exact aW h
theorem BB{xs:List V}{ob:Obj}(h:H a=some (.lst xs)):fz H a ob=H:=by unfold fz;rw[h]
theorem BA{ps:List (au×V)}{ob:Obj}(h:H a=some (.dK ps)):fz H a ob a=some (.frz ob (.dK ps)):=by unfold fz;rw[h];exact bM
theorem OwnO.fast(h:OwnO K G H a d)(ob:Obj):OB K G (fz H a ob) a d:=by cases h with
|lst r s=>rw[BB r];exact .lst (.inl r) s
|dic r s=>exact .dic (BA r) s
theorem aC.fast(g:aC K G H)(hn:G a=none)(ob:Obj):aC K G (fz H a ob):=fun b d e=>by
 have hb:b≠a:=by rintro rfl;rw[hn]at e;cases e
 exact(g b d e).mono (fun _ _ z=>z) fun o z=>by rw[ku hb];exact z
theorem Grow.refl(g:aC K G H):Grow K G H G H:=⟨g,fun _ _ e=>e,fun _ _ e=>e,fun _ _=>rfl⟩
theorem Grow.trans(x:Grow K G H G1 H1)(y:Grow K G1 H1 G2 H2):Grow K G H G2 H2:=
 ⟨y.ok,fun a o e=>y.he _ _ (x.he _ _ e),fun a d e=>y.ge _ _ (x.ge _ _ e),fun a h=>by
  have h1:H1 a≠Option.none:=by cases e:H a with
  |none=>exact absurd e h
  |some o=>rw[x.he _ _ e];simp
  rw[y.gf a h1,x.gf a h]⟩
def gset(G:GH)(a:Addr)(d:D):GH:=fun b=>if b=a then some d else G b
theorem dA:gset G a d a=some d:=if_pos rfl
theorem dC{b:Addr}(h:b≠a):gset G a d b=G b:=if_neg h
theorem c7(hn:G a=none):∀b e,G b=some e->gset G a d b=some e:=fun b e h=>by
 have:b≠a:=by rintro rfl;rw[hn]at h;cases h
 rw[dC this];exact h
theorem aC.gset(g:aC K G H)(hn:G a=none)(o:OB K G H a d):aC K (gset G a d) H:=fun b e h=>by
 by_cases hb:b=a
 .subst hb;rw[dA]at h;cases h;exact o.mono (c7 hn) fun _ q=>q
 .rw[dC hb]at h;exact(g b e h).mono (c7 hn) fun _ q=>q
theorem o6(hn:H p=none){o:HO}:∀a u,H a=some u->upd H p o a=some u:=fun a u e=>by rw[aW (iN e hn)];exact e
theorem Grow.new(g:aC K G H)(hn:H p=none)(o:HO):Grow K G H G (upd H p o):=⟨fun a d e=>(g a d e).mono (fun _ _ q=>q) fun u q=>o6 hn _ _ q,fun a u e=>o6 hn _ _ e,fun _ _ e=>e,fun _ _=>rfl⟩
theorem Grow.newF(g:aC K G H)(hn:H p=none){o:HO}(ob:OB K G (upd H p o) p d):Grow K G H (gset G p d) (upd H p o):=by have w:=Grow.new g hn o;have gn:=g.isN hn;exact⟨w.ok.gset gn ob,w.he,fun a e h=>c7 gn a e h,fun a h=>dC (by rintro rfl;exact h hn)⟩
theorem Grow.frz(w:Grow K G H G' H')(hn:H a=none)(o:Own K G' H' a d)(ob:Obj):Grow K G H (gset G' a d) (fz H' a ob):=⟨(w.ok.fast o.un ob).gset o.un (o.ob.fast ob),fun b u e=>by rw[ku (by rintro rfl;rw[hn]at e;cases e)];exact w.he b u e,fun b e h=>c7 o.un b e (w.ge b e h),fun b h=>by rw[dC (by rintro rfl;exact h hn)];exact w.gf b h⟩
theorem RG.lst{ds:List D}(g:aC K G H)(h:RG K G v (.lst ds)):∃a xs,v=.ref a/\aL K H a xs/\aV K G xs ds:=by cases h with
|scl s=>cases s
|ref e=>cases g _ _ e with
 |lst r s=>exact⟨_,_,rfl,.inl r,s⟩
|kc k=>cases k with
 |lst r s=>
   refine⟨_,_,rfl,?_,Paired.mono (fun _ _ z=>.scl z) s⟩;rcases r with(r|⟨o,r⟩)|r
   .cases r
   .cases r
   .exact .inr r
theorem RG.tup{ds:List D}(g:aC K G H)(h:RG K G v (.tup ds)):∃a xs,v=.ref a/\bL K H a xs/\aV K G xs ds:=by cases h with
|scl s=>cases s
|ref e=>cases g _ _ e with
 |tup r s=>exact⟨_,_,rfl,.inl r,s⟩
|kc k=>cases k with
 |tup r s _=>
   refine⟨_,_,rfl,?_,Paired.mono (fun _ _ z=>.scl z) s⟩;rcases r with(r|⟨o,r⟩)|r
   .cases r
   .cases r
   .exact .inr r
theorem RG.dic{kvs:List (au×D)}(g:aC K G H)(h:RG K G v (.dic kvs)):∃a ps,v=.ref a/\Rd H a (.dK ps)/\eQ K G ps kvs:=by cases h with
|scl s=>cases s
|ref e=>cases g _ _ e with
 |dic r s=>exact⟨_,_,rfl,.inr ⟨_,r⟩,s⟩
|kc k=>cases k
theorem RG.int{i:Int}(g:aC K G H)(h:RG K G v (.int i)):v=.int i:=by cases h with
|scl s=>cases s;rfl
|ref e=>cases g _ _ e
|kc k=>cases k
theorem RG.str{x:Str}(g:aC K G H)(h:RG K G v (.str x)):v=.str x:=by cases h with
|scl s=>cases s;rfl
|ref e=>cases g _ _ e
|kc k=>cases k
theorem RG.bl{b:Bool}(g:aC K G H)(h:RG K G v (.bl b)):v=.bl b:=by cases h with
|scl s=>cases s;rfl
|ref e=>cases g _ _ e
|kc k=>cases k
theorem RG.non(g:aC K G H)(h:RG K G v .non):v=.non:=by cases h with
|scl s=>cases s;rfl
|ref e=>cases g _ _ e
|kc k=>cases k
def RB(K:W.Frag)(G:GH)(H:Hp)(v:V)(d:D):Prop:=RG K G v d\/∃a,v=.ref a/\Own K G H a d
theorem RG.rb(h:RG K G v d):RB K G H v d:=.inl h
theorem RB.mono(h:RB K G H v d)(w:Grow K G H G' H'):RB K G' H' v d:=by
 rcases h with h|⟨a,e,h⟩
 .exact .inl (h.mono w.ge)
 .exact .inr ⟨a,e,h.mono w⟩
theorem RB.lst{ds:List D}(g:aC K G H)(h:RB K G H v (.lst ds)):∃a xs,v=.ref a/\aL K H a xs/\aV K G xs ds:=by
 rcases h with h|⟨a,e,h⟩
 .exact h.lst g
 .cases h.ob with
 |lst r s=>exact⟨a,_,e,aL.of r,s⟩
theorem RB.tup{ds:List D}(g:aC K G H)(h:RB K G H v (.tup ds)):∃a xs,v=.ref a/\bL K H a xs/\aV K G xs ds:=by
 rcases h with h|⟨a,e,h⟩
 .exact h.tup g
 .cases h.ob
theorem RB.dic{kvs:List (au×D)}(g:aC K G H)(h:RB K G H v (.dic kvs)):∃a ps,v=.ref a/\Rd H a (.dK ps)/\eQ K G ps kvs:=by
 rcases h with h|⟨a,e,h⟩
 .exact h.dic g
 .cases h.ob with
 |dic r s=>exact⟨a,_,e,.inl r,s⟩
theorem RB.int{i:Int}(g:aC K G H)(h:RB K G H v (.int i)):v=.int i:=by
 rcases h with h|⟨a,e,h⟩
 .exact h.int g
 .cases h.ob
theorem RB.str{x:Str}(g:aC K G H)(h:RB K G H v (.str x)):v=.str x:=by
 rcases h with h|⟨a,e,h⟩
 .exact h.str g
 .cases h.ob
theorem RB.bl{b:Bool}(g:aC K G H)(h:RB K G H v (.bl b)):v=.bl b:=by
 rcases h with h|⟨a,e,h⟩
 .exact h.bl g
 .cases h.ob
theorem RB.non(g:aC K G H)(h:RB K G H v .non):v=.non:=by
 rcases h with h|⟨a,e,h⟩
 .exact h.non g
 .cases h.ob
theorem Paired.get{α β:Type}{F:α->β->Prop}:∀{l:List α}{r:List β}{i:Nat}{b:β},Paired F l r->r[i]? = some b->∃a,l[i]? = some a/\F a b
|_,_,_,_,.nil,e=>by simp at e
|_,_,0,_,.cons h _,e=>by simp at e;subst e;exact⟨_,rfl,h⟩
|_,_,i+1,b,.cons _ t,e=>by obtain⟨a,h1,h2⟩:=Paired.get (i:=i) t (by simpa using e);exact⟨a,by simpa using h1,h2⟩
theorem Paired.app{α β:Type}{F:α->β->Prop}{l l':List α}{r r':List β}(h:Paired F l r)(q:Paired F l' r'):Paired F (l++l') (r++r'):=by induction h with
|nil=>exact q
|cons h _ ih=>exact .cons h ih
theorem Paired.tk{α β:Type}{F:α->β->Prop}{l:List α}{r:List β}(n:Nat)(h:Paired F l r):Paired F (l.take n) (r.take n):=by induction h generalizing n with
|nil=>cases n <;> exact .nil
|cons h _ ih=>cases n with
 |zero=>exact .nil
 |succ n=>exact .cons h (ih n)
theorem Paired.dr{α β:Type}{F:α->β->Prop}{l:List α}{r:List β}(n:Nat)(h:Paired F l r):Paired F (l.drop n) (r.drop n):=by induction h generalizing n with
|nil=>cases n <;> exact .nil
|cons h t ih=>cases n with
 |zero=>exact .cons h t
 |succ n=>exact ih n
theorem Paired.st{α β:Type}{F:α->β->Prop}{a:α}{b:β}(h:F a b){l:List α}{r:List β}(n:Nat)(p:Paired F l r):Paired F (l.set n a) (r.set n b):=by induction p generalizing n with
|nil=>exact .nil
|cons q t ih=>cases n with
 |zero=>exact .cons h t
 |succ n=>exact .cons q (ih n)
theorem Paired.er{α β:Type}{F:α->β->Prop}{l:List α}{r:List β}(n:Nat)(p:Paired F l r):Paired F (l.eraseIdx n) (r.eraseIdx n):=by induction p generalizing n with
|nil=>exact .nil
|cons q t ih=>cases n with
 |zero=>exact t
 |succ n=>exact .cons q (ih n)
end
inductive Md where
 |sh|ow|bw
 deriving DecidableEq
abbrev ag:=List (Option D)
structure GE where
 gh:GH
 h0:Hp
 hd:Nat->Option (Option V×Option D)
def Bw(K:W.Frag)(h0:Hp)(G:GH)(H:Hp)(v:V)(d:D):Prop:=RG K G v d\/∃a,v=V.ref a/\Own K G H a d/\h0 a≠none
theorem Bw.grow{K:W.Frag}{h0:Hp}{G G':GH}{H H':Hp}{v:V}{d:D}(h:Bw K h0 G H v d)(w:Grow K G H G' H'):Bw K h0 G' H' v d:=by
 rcases h with h|⟨a,e,h1,h2⟩
 .exact .inl (h.mono w.ge)
 .exact .inr ⟨a,e,h1.mono w,h2⟩
theorem Bw.rb{K:W.Frag}{h0:Hp}{G:GH}{H:Hp}{v:V}{d:D}(h:Bw K h0 G H v d):RB K G H v d:=by
 rcases h with h|⟨a,e,h1,h2⟩
 .exact .inl h
 .exact .inr ⟨a,e,h1⟩
def Lk(r:ag)(st:L2.St)(i:Nat)(o:Option V×Option D):Prop:=st[i]? = some o.1/\∀d,r[i]? = some (some d)->o.2=some d
structure SI(X:Cx)(g:GE)(m:List Md)(r:ag)(G:GH)(st:L2.St)(H:Hp):Prop where
 gok:aC X.K G H
 old:∀a o,g.h0 a=some o->H a=some o
 ge:∀a d,g.gh a=some d->G a=some d
 gf:∀a,g.h0 a≠none->G a=g.gh a
 lm:m.length=st.length
 lr:r.length=st.length
 sh:∀(i:Nat) d,r[i]? = some (some d)->m[i]? = some .sh->∃v,st[i]? = some (some v)/\RG X.K G v d
 ow:∀(i:Nat) d,r[i]? = some (some d)->m[i]? = some .ow->∃a,st[i]? = some (some (V.ref a))/\Own X.K G H a d/\g.h0 a=none
 bw:∀(i:Nat) d,r[i]? = some (some d)->m[i]? = some .bw->∃v,st[i]? = some (some v)/\Bw X.K g.h0 G H v d
 dis:∀(i j:Nat) a d e,i≠j->r[i]? = some (some d)->r[j]? = some (some e)->m[i]? = some .ow->m[j]? = some .ow->st[i]? = some (some (V.ref a))->st[j]? = some (some (V.ref a))->False
 lk:∀(i:Nat) o,g.hd i=some o->m[i]? = some .bw->Lk r st i o
section
variable{X:Cx}{g:GE}{m:List Md}{r:ag}{G G':GH}{st:L2.St}{H H':Hp}
theorem SI.grow(s:SI X g m r G st H)(w:Grow X.K G H G' H'):SI X g m r G' st H' where
 gok:=w.ok
 old:=fun a o e=>w.he _ _ (s.old a o e)
 ge:=fun a d e=>w.ge _ _ (s.ge a d e)
 gf:=fun a h=>by
  have h1:H a≠none:=by cases e:g.h0 a with
  |none=>exact absurd e h
  |some o=>rw[s.old _ _ e];simp
  rw[w.gf a h1,s.gf a h]
 lm:=s.lm
 lr:=s.lr
 sh:=fun i d h1 h2=>by obtain⟨v,h3,h4⟩:=s.sh i d h1 h2;exact⟨v,h3,h4.mono w.ge⟩
 ow:=fun i d h1 h2=>by obtain⟨a,h3,h4,h5⟩:=s.ow i d h1 h2;exact⟨a,h3,h4.mono w,h5⟩
 bw:=fun i d h1 h2=>by obtain⟨v,h3,h4⟩:=s.bw i d h1 h2;exact⟨v,h3,h4.grow w⟩
 dis:=s.dis
 lk:=s.lk
theorem SI.grown(s:SI X g m r G st H):Grow X.K g.gh g.h0 G H:=⟨s.gok,s.old,s.ge,s.gf⟩
theorem SI.frz(s:SI X g m r G st H)(i:Nat)(hi:m[i]? = some .ow):(∃G',(∀a d,G a=some d->G' a=some d)/\SI X g (m.set i .sh) r G' st H)\/∃a,∀ob,∃G',(∀a d,G a=some d->G' a=some d)/\SI X g (m.set i .sh) r G' st (fz H a ob):=by
 have hlt:i<m.length:=(i_.mp hi).1;by_cases hb:∃d,r[i]? = some (some d)
 .obtain⟨d,hd⟩:=hb;obtain⟨a,h1,h2,h3⟩:=s.ow i d hd hi;refine .inr ⟨a,fun ob=>⟨gset G a d,c7 h2.un,(s.gok.fast h2.un ob).gset h2.un (h2.ob.fast ob),fun b o e=>by rw[ku (by rintro rfl;rw[h3]at e;cases e)];exact s.old b o e,fun b e h=>c7 h2.un b e (s.ge b e h),fun b h=>?_,by simpa using s.lm,s.lr,?_,?_,?_,?_,fun j o hj hm=>?_⟩⟩
  .rw[dC (by rintro rfl;exact h h3)];exact s.gf b h
  .intro j e hj hm;by_cases hij:i=j
   .subst hij;rw[hd]at hj;cases hj;exact⟨_,h1,.ref dA⟩
   .rw[b_ hij]at hm;obtain⟨v,q1,q2⟩:=s.sh j e hj hm;exact⟨v,q1,q2.mono (c7 h2.un)⟩
  .intro j e hj hm;by_cases hij:i=j
   .subst hij;rw[k_ hlt]at hm;cases hm
   .rw[b_ hij]at hm;obtain⟨b,q1,q2,q3⟩:=s.ow j e hj hm;have hba:b≠a:=by
     rintro rfl
     exact s.dis i j b d e hij hd hj hi hm h1 q1
    exact⟨b,q1,⟨by rw[dC hba];exact q2.un,q2.ob.mono (c7 h2.un) fun _ z=>by rw[ku hba];exact z⟩,q3⟩
  .intro j e hj hm;by_cases hij:i=j
   .subst hij;rw[k_ hlt]at hm;cases hm
   .rw[b_ hij]at hm;obtain⟨v,q1,q2⟩:=s.bw j e hj hm;refine⟨v,q1,?_⟩;rcases q2 with q2|⟨b,rfl,q2,q3⟩
    .exact .inl (q2.mono (c7 h2.un))
    .have hba:b≠a:=by rintro rfl;exact q3 h3
     exact .inr ⟨b,rfl,⟨by rw[dC hba];exact q2.un,q2.ob.mono (c7 h2.un) fun _ z=>by rw[ku hba];exact z⟩,q3⟩
  .intro j k b e e' hjk hj hk hm hm' q1 q2;have hij:i≠j:=by
    rintro rfl
    rw[k_ hlt]at hm;cases hm
   have hik:i≠k:=by
    rintro rfl
    rw[k_ hlt]at hm';cases hm'
   rw[b_ hij]at hm;rw[b_ hik]at hm';exact s.dis j k b e e' hjk hj hk hm hm' q1 q2
  .refine s.lk j o hj ?_;by_cases hij:i=j
   .subst hij;rw[k_ hlt]at hm;cases hm
   .rw[b_ hij]at hm;exact hm
 .refine .inl ⟨G,fun _ _ z=>z,s.gok,s.old,s.ge,s.gf,by simpa using s.lm,s.lr,?_,?_,?_,?_,fun j o hj hm=>?_⟩
  .intro j e hj hm;have hij:i≠j:=by rintro rfl;exact hb ⟨e,hj⟩
   rw[b_ hij]at hm;exact s.sh j e hj hm
  .intro j e hj hm;have hij:i≠j:=by rintro rfl;exact hb ⟨e,hj⟩
   rw[b_ hij]at hm;exact s.ow j e hj hm
  .intro j e hj hm;have hij:i≠j:=by rintro rfl;exact hb ⟨e,hj⟩
   rw[b_ hij]at hm;exact s.bw j e hj hm
  .intro j k b e e' hjk hj hk hm hm' q1 q2;have hij:i≠j:=by rintro rfl;exact hb ⟨e,hj⟩
   have hik:i≠k:=by rintro rfl;exact hb ⟨e',hk⟩
   rw[b_ hij]at hm;rw[b_ hik]at hm';exact s.dis j k b e e' hjk hj hk hm hm' q1 q2
  .refine s.lk j o hj ?_;by_cases hij:i=j
   .subst hij;rw[k_ hlt]at hm;cases hm
   .rw[b_ hij]at hm;exact hm
end
theorem PE.imp{X:Cx}{e:Expr}{t t':TE}(h:PE X e t)(i:∀σ H Q,t' σ H Q->t σ H Q):PE X e t':=fun pz s σ H Q I q=>h pz s σ H Q I (i σ H Q q)
theorem PT.imp{X:Cx}{e:Expr}{t t':TT}(h:PT X e t)(i:∀σ H Q,t' σ H Q->t σ H Q):PT X e t':=fun pz s σ H Q I q=>h pz s σ H Q I (i σ H Q q)
theorem PW.imp{X:Cx}{e:Expr}{t t':TT}(h:PW X e t)(i:∀σ H Q,t' σ H Q->t σ H Q):PW X e t':=fun whole pz s σ H Q I q=>h whole pz s σ H Q I (i σ H Q q)
theorem PA.imp{X:Cx}{e:List Expr}{t t':TA}(h:PA X e t)(i:∀σ H Q,t' σ H Q->t σ H Q):PA X e t':=fun pos pz s σ H Q I q=>h pos pz s σ H Q I (i σ H Q q)
theorem PS.imp{X:Cx}{e:Stmt}{t t':TS}(h:PS X e t)(i:∀D σ H,t' D σ H->t D σ H):PS X e t':=fun pz s σ H D I q=>h pz s σ H D I (i D σ H q)
theorem bb.imp{X:Cx}{e:List Stmt}{t t':TS}(h:bb X e t)(i:∀D σ H,t' D σ H->t D σ H):bb X e t':=fun pz s σ H D I q=>h pz s σ H D I (i D σ H q)
def zx(X:Cx)(σ:L2.St)(G:GH)(H':Hp)(e:a_)(x:D)(s':g_):Prop:=∃pz s H1 a C od nm ds,e=.ref a/\x=xD nm ds/\XN X.K nm C/\XF G od ds/\Inv X pz σ H1 s/\Fly X.prog X.w X.stack H1 s H' a (.ref C) od s'
def XW(X:Cx)(σ:L2.St)(G:GH)(H:Hp)(x:D):Prop:=∀pz e s' G' H',Grow X.K G H G' H'->Inv X pz σ H' s'->zx X σ G' H' e x s'->X.xe e s'
theorem XW.grow{X:Cx}{σ:L2.St}{G G1:GH}{H H1:Hp}{x:D}(h:XW X σ G H x)(w:Grow X.K G H G1 H1):XW X σ G1 H1 x:=fun pz e s' G' H' w' I q=>h pz e s' G' H' (w.trans w') I q
abbrev FE:=ag->Res D
def tE(X:Cx)(g:GE)(m:List Md)(f:FE):TE:=fun σ H Q=>∃r G,SI X g m r G σ H/\fin (f r) (fun d=>∀v G' H',Grow X.K G H G' H'->RG X.K G' v d->Q v H') (XW X σ G H)
def tB(X:Cx)(g:GE)(m:List Md)(f:FE):TE:=fun σ H Q=>∃r G,SI X g m r G σ H/\fin (f r) (fun d=>∀v G' H',Grow X.K G H G' H'->RB X.K G' H' v d->Q v H') (XW X σ G H)
def tO(X:Cx)(g:GE)(m:List Md)(f:FE):TE:=fun σ H Q=>∃r G,SI X g m r G σ H/\fin (f r) (fun d=>∀a G' H',Grow X.K G H G' H'->H a=none->Own X.K G' H' a d->Q (.ref a) H') (XW X σ G H)
def tQ(X:Cx)(g:GE)(m:List Md)(f:ag->Res Bool):TT:=fun σ H Q=>∃r G,SI X g m r G σ H/\fin (f r) (fun b=>∀G' H',Grow X.K G H G' H'->Q b H') (XW X σ G H)
def tL(X:Cx)(g:GE)(m:List Md)(f:ag->Res (List D)):TA:=fun σ H Q=>∃r G,SI X g m r G σ H/\fin (f r) (fun ds=>∀vs G' H',Grow X.K G H G' H'->aV X.K G' vs ds->Q vs H') (XW X σ G H)
def rY(X:Cx)(g:GE)(m:List Md)(f:ag->Res (List D)):TA:=fun σ H Q=>∃r G,SI X g m r G σ H/\fin (f r) (fun ds=>∀vs G' H',Grow X.K G H G' H'->Paired (RB X.K G' H') vs ds->Q vs H') (XW X σ G H)
def SE(X:Cx)(g:GE)(m:List Md)(e:Expr)(f:FE):Prop:=PE X e (tE X g m f)
def SB(X:Cx)(g:GE)(m:List Md)(e:Expr)(f:FE):Prop:=PE X e (tB X g m f)
def SO(X:Cx)(g:GE)(m:List Md)(e:Expr)(f:FE):Prop:=PE X e (tO X g m f)
def SQ(X:Cx)(g:GE)(m:List Md)(e:Expr)(f:ag->Res Bool):Prop:=PT X e (tQ X g m f)
def SW(X:Cx)(g:GE)(m:List Md)(e:Expr)(f:ag->Res Bool):Prop:=PW X e (tQ X g m f)
def SA(X:Cx)(g:GE)(m:List Md)(es:List Expr)(f:ag->Res (List D)):Prop:=PA X es (tL X g m f)
def fY(X:Cx)(g:GE)(m:List Md)(es:List Expr)(f:ag->Res (List D)):Prop:=PA X es (rY X g m f)
section
variable{X:Cx}{g:GE}{m:List Md}{e a b c:Expr}{f fa fb fc:FE}{pos:Pos}
theorem SE.toB(h:SE X g m e f):SB X g m e f:=PE.imp h fun σ H Q ⟨r,G,si,q⟩=>⟨r,G,si,aT q fun d k v G' H' w z=>k v G' H' w z.rb⟩
theorem Inv.fast{pz:List (Addr×Obj)}{σ:L2.St}{H:Hp}{s:g_}(I:Inv X pz σ H s)(a:Addr):∃ob,Inv X pz σ (fz H a ob) s:=by cases e:H a with
|none=>exact⟨{ cls:=.none,data:=.fields #[] },by unfold fz;rw[e];exact I⟩
|some u=>cases u with
 |dK ps=>
   obtain⟨z1,z2,vs,z3,o,es,ep,z4,z5⟩:=(show bq X.prog X.w H s.heap a (.dK ps)from I.hok a _ e)
   have ef:fz H a o=upd H a (.frz o (.dK ps)):=by unfold fz;rw[e]
   refine⟨o,?_⟩;rw[ef];exact I.write (t':=s.toks) (h':=s.heap) (x:=a) (e:=a) (by rw[e];exact trivial) (.inl rfl) (fun b u _ q=>q) ⟨o,z4⟩ (show bq X.prog X.w _ s.heap a (.frz o (.dK ps))from⟨z4,z1,z2,vs,z3,o,es,ep,z4,z5⟩)
 |_=>exact⟨{ cls:=.none,data:=.fields #[] },by unfold fz;rw[e];exact I⟩
theorem SO.toE(h:SO X g m e f):SE X g m e f:=by intro pz s σ H Q I ⟨r,G,si,q⟩;refine aF (h pz s σ H (fun v H'=>∃a,v=.ref a/\∀ob,Q v (fz H' a ob)) I ⟨r,G,si,aT q fun d k a G' H' w hn o=>⟨a,rfl,fun ob=>k _ _ _ (w.frz hn o ob) (.ref dA)⟩⟩) fun u s' ⟨v,H',I',rv,a,_,z⟩=>?_;obtain⟨ob,I2⟩:=Inv.fast I' a;exact⟨v,_,I2,rv,z ob⟩
theorem SO.toB(h:SO X g m e f):SB X g m e f:=h.toE.toB
theorem SE.eq{f':FE}(h:SE X g m e f)(q:∀r,f' r=f r):SE X g m e f':=by have:f'=f:=funext q;rw[this];exact h
theorem pi{v:V}{d:D}(h:PE X e (tC v))(s:Scl v d):SE X g m e fun _=>.ok d:=PE.imp h fun σ H Q ⟨r,G,si,q⟩=>q v G H (Grow.refl si.gok) (.scl s)
theorem tZ{i:Int}{j}:SE X g m (.Constant (.int i) j pos) fun _=>.ok (.int i):=pi A8 (.int i)
theorem de{i:Bool}{j}:SE X g m (.Constant (.bool i) j pos) fun _=>.ok (.bl i):=pi AS (.bl i)
theorem fq{j}:SE X g m (.Constant .none j pos) fun _=>.ok .non:=pi A9 .non
def dm(r:ag)(i:Nat):Res D:=match r[i]? with
|some (some d)=>.ok d
|_=>.stuck
theorem pQ{r:ag}{i:Nat}{q:D->Prop}{x:D->Prop}(h:fin (dm r i) q x):∃d,r[i]? = some (some d)/\q d:=by
 unfold dm at h;split at h
 .rename_i d e;exact⟨d,e,h⟩
 .exact h.elim
theorem At(i:Nat){x:Str}(hm:m[i]? = some .sh)(hN:X.N[i]? = some x)(hv:dG X.env.scope x)(hd:(x==("__debug__" : Str))=false:=by decide)(hcd:(x==("__classdict__" : Str))=false:=by decide):SE X g m (.Name x pos) fun r=>dm r i:=by refine PE.imp (gO hN hv hd hcd) fun σ H Q ⟨r,G,si,q⟩=>?_;obtain⟨d,e,k⟩:=pQ q;obtain⟨v,e1,e2⟩:=si.sh i d e hm;exact⟨v,e1,k v G H (Grow.refl si.gok) e2⟩
theorem B7(i:Nat){x:Str}(hm:i<m.length)(hN:X.N[i]? = some x)(hv:dG X.env.scope x)(hd:(x==("__debug__" : Str))=false:=by decide)(hcd:(x==("__classdict__" : Str))=false:=by decide):SB X g m (.Name x pos) fun r=>dm r i:=by refine PE.imp (gO hN hv hd hcd) fun σ H Q ⟨r,G,si,q⟩=>?_;obtain⟨d,e,k⟩:=pQ q;have hm':m[i]? = some m[i]:=j_ hm;cases h:m[i]with
|sh=>obtain⟨v,e1,e2⟩:=si.sh i d e (hm'.trans (by rw[h]));exact⟨v,e1,k v G H (Grow.refl si.gok) e2.rb⟩
|ow=>obtain⟨v,e1,e2,_⟩:=si.ow i d e (hm'.trans (by rw[h]));exact⟨_,e1,k _ G H (Grow.refl si.gok) (.inr ⟨v,rfl,e2⟩)⟩
|bw=>obtain⟨v,e1,e2⟩:=si.bw i d e (hm'.trans (by rw[h]));exact⟨_,e1,k _ G H (Grow.refl si.gok) e2.rb⟩
theorem seq2{β:Type}{k:D->D->Res β}{q:β->Prop}{R:V->V->Hp->Prop}{r:ag}{G:GH}{σ:L2.St}{H:Hp}(si:SI X g m r G σ H)(h:fin ((fa r).bind fun d1=>(fb r).bind fun d2=>k d1 d2) q (XW X σ G H))(hk:∀d1 d2 v1 v2 G2 H2,Grow X.K G H G2 H2->RB X.K G2 H2 v1 d1->RB X.K G2 H2 v2 d2->fin (k d1 d2) q (XW X σ G H)->R v1 v2 H2):tB X g m fa σ H fun v1 H1=>tB X g m fb σ H1 fun v2 H2=>R v1 v2 H2:=by refine⟨r,G,si,aT (a8 h) fun d1 h1 v1 G1 H1 w1 r1=>⟨r,G1,si.grow w1,?_⟩⟩;cases e:fb r with
|ok d2=>rw[e]at h1;exact fun v2 G2 H2 w2 r2=>hk d1 d2 v1 v2 G2 H2 (w1.trans w2) (r1.mono w2) r2 h1
|exc x=>rw[e]at h1;exact(show XW X σ G H x from h1).grow w1
|stuck=>rw[e]at h1;exact h1
def bO{α:Type}:Option α->Res α
|some a=>.ok a
|none=>.stuck
@[simp] theorem opt_some{α:Type}(a:α):bO (some a)=.ok a:=rfl
@[simp] theorem opt_none{α:Type}:bO (none:Option α)=.stuck:=rfl
theorem cB{α:Type}{o:Option α}{q:α->Prop}{x:D->Prop}(h:fin (bO o) q x):∃a,o=some a/\q a:=by cases o with
|none=>exact h.elim
|some a=>exact⟨a,rfl,h⟩
def cn(K:W.Frag)(r:R2)(k:D->D->Option D):Prop:=∀(G:GH)(H:Hp)(v1 v2:V)(d1 d2 d:D)(Q:VK),aC K G H->RB K G H v1 d1->RB K G H v2 d2->k d1 d2=some d ->(∀v G' H',Grow K G H G' H'->RG K G' v d->Q v H')->r v1 v2 H Q
def f2(fa fb:FE)(k:D->D->Option D):FE:=fun r=>(fa r).bind fun d1=>(fb r).bind fun d2=>bO (k d1 d2)
theorem oK{R:R2}{k:D->D->Option D}(ho:cn X.K R k)(h:PE X e (lT R (tB X g m fa) (tB X g m fb))):SE X g m e (f2 fa fb k):=by refine PE.imp h fun σ H Q ⟨r,G,si,q⟩=>?_;refine seq2 si q fun d1 d2 v1 v2 G2 H2 w r1 r2 q2=>?_;obtain⟨d,e,q2⟩:=cB q2;exact ho G2 H2 v1 v2 d1 d2 d Q w.ok r1 r2 e fun v G' H' w' z=>q2 v G' H' (w.trans w') z
theorem jR{op:Operator}{R:R2}{k:D->D->Option D}(hr:aQ X (JD op) R)(ho:cn X.K R k)(ha:SB X g m a fa)(hb:SB X g m b fb):SE X g m (.BinOp a op b pos) (f2 fa fb k):=oK ho (Ai hr ha hb)
theorem tX{op:NQ}{R:R2}{k:D->D->Option D}(hr:aQ X (HI op) R)(ho:cn X.K R k)(ha:SB X g m a fa)(hb:SB X g m b fb)(hm:Ji op b=false):SE X g m (.Compare a [op] [b] pos) (f2 fa fb k):=oK ho (CY hr ha hb hm)
def gC:D->Option Bool
|.bl b=>some b
|_=>none
def aO(f:FE):ag->Res Bool:=fun r=>(f r).bind fun d=>bO (gC d)
theorem iz{op:NQ}{R:R2}{k:D->D->Option D}(hr:aQ X (HI op) R)(ho:cn X.K R k)(ha:SB X g m a fa)(hb:SB X g m b fb)(hm:Ji op b=false):SQ X g m (.Compare a [op] [b] pos) (aO (f2 fa fb k)):=by
 refine PT.imp (C4 hr ha hb hm) fun σ H Q ⟨r,G,si,q⟩=>?_;have e:aO (f2 fa fb k) r=(fa r).bind fun d1=>(fb r).bind fun d2=>(bO (k d1 d2)).bind fun d=>bO (gC d):=by unfold aO f2;cases fa r with
 |ok d1=>cases fb r <;> rfl
 |exc _=>rfl
 |stuck=>rfl
 rw[e]at q;refine seq2 (R:=fun x y H2=>R x y H2 fun x H'=>∃k,x=V.bl k/\Q k H') si q fun d1 d2 v1 v2 G2 H2 w r1 r2 q3=>?_;obtain⟨d,e,q3⟩:=cB (a8 q3);obtain⟨b,eb,q3⟩:=cB q3;cases d with
|bl b'=>cases eb;exact ho G2 H2 v1 v2 d1 d2 _ _ w.ok r1 r2 e fun v G' H' w' z=>⟨_,z.bl w'.ok,q3 G' H' (w.trans w')⟩
|_=>cases eb
end
instance decMul(i j:Int):Decidable (eS i j):=by unfold eS;infer_instance
instance decDiv(i j:Int):Decidable (fQ i j):=by unfold fQ;infer_instance
instance decPow(i j:Int):Decidable (fP i j):=by unfold fP;infer_instance
def iZ(k:Int->Int->D):D->D->Option D
|.int a,.int b=>some (k a b)
|_,_=>none
def iw(C:Int->Int->Prop)[∀a b,Decidable (C a b)](k:Int->Int->D):D->D->Option D
|.int a,.int b=>if C a b then some (k a b)else none
|_,_=>none
@[simp] theorem ints2_int(k:Int->Int->D)(a b:Int):iZ k (.int a) (.int b)=some (k a b):=rfl
@[simp] theorem intsC_int(C:Int->Int->Prop)[∀a b,Decidable (C a b)](k:Int->Int->D)(a b:Int):iw C k (.int a) (.int b)=if C a b then some (k a b)else none:=rfl
section
variable{K:W.Frag}
theorem kZ{gv:Int->Int->V}{gd:Int->Int->D}(hs:∀i j,Scl (gv i j) (gd i j)):cn K (gT gv) (iZ gd):=by
 intro G H v1 v2 d1 d2 d Q g r1 r2 e q;unfold iZ at e;split at e
 .cases e;exact⟨_,_,r1.int g,r2.int g,q _ G H (Grow.refl g) (.scl (hs _ _))⟩
 .cases e
theorem nq{C:Int->Int->Prop}[∀a b,Decidable (C a b)]{gv:Int->Int->V}{gd:Int->Int->D}(hs:∀i j,Scl (gv i j) (gd i j)):cn K (rI C gv) (iw C gd):=by
 intro G H v1 v2 d1 d2 d Q g r1 r2 e q;unfold iw at e;split at e
 .split at e
  .rename_i hc;cases e;exact⟨_,_,r1.int g,r2.int g,hc,q _ G H (Grow.refl g) (.scl (hs _ _))⟩
  .cases e
 .cases e
theorem cn.or{r r':R2}{k k':D->D->Option D}(h:cn K r k)(h':cn K r' k'):cn K (fun x y H Q=>r x y H Q\/r' x y H Q) (fun a b=>match k a b with|some d=>some d|none=>k' a b):=by intro G H v1 v2 d1 d2 d Q g r1 r2 e q;cases e1:k d1 d2 with
|some d'=>simp only[e1]at e;cases e;exact .inl (h G H v1 v2 d1 d2 d Q g r1 r2 e1 q)
|none=>simp only[e1]at e;exact .inr (h' G H v1 v2 d1 d2 d Q g r1 r2 e q)
end
abbrev gs:D->D->Option D:=iZ fun a b=>.int (a-b)
abbrev cj:D->D->Option D:=iw eS fun a b=>.int (a*b)
abbrev g3:D->D->Option D:=iw fQ fun a b=>.int (a/b)
abbrev bc:D->D->Option D:=iw (fun _ b=>0<b) fun a b=>.int (a%b)
abbrev gy:D->D->Option D:=iw fP fun a b=>.int (a^b.toNat)
abbrev ic:D->D->Option D:=iZ fun a b=>.bl (decide (a<b))
abbrev su:D->D->Option D:=iZ fun a b=>.bl (decide (a<=b))
abbrev kl:D->D->Option D:=iZ fun a b=>.bl (decide (b<a))
section
variable{X:Cx}{g:GE}{m:List Md}{e a b c:Expr}{f fa fb fc:FE}{pos:Pos}
theorem t5(ha:SB X g m a fa)(hb:SB X g m b fb):SE X g m (.BinOp a .Sub b pos) (f2 fa fb gs):=jR A6 (kZ fun _ _=>.int _) ha hb
theorem iW(ha:SB X g m a fa)(hb:SB X g m b fb):SE X g m (.BinOp a .Mult b pos) (f2 fa fb cj):=jR A4 (nq fun _ _=>.int _) ha hb
theorem mV(ha:SB X g m a fa)(hb:SB X g m b fb):SE X g m (.BinOp a .FloorDiv b pos) (f2 fa fb g3):=jR CT (nq fun _ _=>.int _) ha hb
theorem f8(ha:SB X g m a fa)(hb:SB X g m b fb):SE X g m (.BinOp a .Mod b pos) (f2 fa fb bc):=jR A3 (nq fun _ _=>.int _) ha hb
theorem Ar(ha:SB X g m a fa)(hb:SB X g m b fb):SE X g m (.BinOp a .Pow b pos) (f2 fa fb gy):=jR A5 (nq fun _ _=>.int _) ha hb
theorem js(ha:SB X g m a fa)(hb:SB X g m b fb):SQ X g m (.Compare a [.Lt] [b] pos) (aO (f2 fa fb ic)):=iz tf (kZ fun _ _=>.bl _) ha hb (iG _)
theorem l8(ha:SB X g m a fa)(hb:SB X g m b fb):SQ X g m (.Compare a [.Gt] [b] pos) (aO (f2 fa fb kl)):=iz AO (kZ fun _ _=>.bl _) ha hb (iG _)
def f1(fa:FE)(k:D->Option D):FE:=fun r=>(fa r).bind fun d=>bO (k d)
def ss:D->Option D
|.int a=>some (.int (-a))
|_=>none
@[simp] theorem negI_int(a:Int):ss (.int a)=some (.int (-a)):=rfl
def fD:D->Option Bool
|.non=>some false
|.bl b=>some b
|.int i=>some (i != 0)
|.str y=>if y.length<=sizeLine then some ((y.length:Int) != 0)else none
|.lst ds=>some (! ds.isEmpty)
|.tup ds=>some (! ds.isEmpty)
|.dic kvs=>some (! kvs.isEmpty)
|.obj _ _=>none
theorem qd{α β:Type}{F:α->β->Prop}{l:List α}{r:List β}(h:Paired F l r):l.isEmpty=r.isEmpty:=by cases h <;> rfl
theorem CG{K:W.Frag}{G:GH}{H:Hp}{v:V}{d:D}{b:Bool}(gk:aC K G H)(h:RB K G H v d)(e:fD d=some b):jF K v H b:=by cases d with
|non=>cases e;rw[h.non gk];rfl
|bl b'=>cases e;rw[h.bl gk];rfl
|int i=>cases e;rw[h.int gk];rfl
|str y=>
  rw[h.str gk];have e':(if y.length<=sizeLine then some ((y.length:Int) != 0)else none)=some b:=e;by_cases hy:y.length<=sizeLine
  .rw[if_pos hy]at e';cases e';exact⟨hy,rfl⟩
  .rw[if_neg hy]at e';cases e'
|lst ds=>cases e;obtain⟨a,xs,rfl,s,r⟩:=h.lst gk;exact .inl ⟨xs,s,by rw[qd r]⟩
|tup ds=>cases e;obtain⟨a,xs,rfl,s,r⟩:=h.tup gk;exact .inr (.inl ⟨xs,s,by rw[qd r]⟩)
|dic kvs=>cases e;obtain⟨a,xs,rfl,s,r⟩:=h.dic gk;exact .inr (.inr ⟨xs,s,by rw[qd r]⟩)
|obj _ _=>cases e
def bH(f:FE):ag->Res Bool:=fun r=>(f r).bind fun d=>bO (fD d)
theorem eU(ha:SB X g m a fa)(he:∀whole,isTrue a X.env whole=(do let v <-whole;NX a.pos;KJ [v] (truthy v)):=by intro _;rfl):SQ X g m a (bH fa):=by
 refine PT.imp (Eh ha he) fun σ H Q ⟨r,G,si,q⟩=>⟨r,G,si,aT (a8 q) fun d q1 v G1 H1 w1 r1=>?_⟩
 obtain⟨b,e,q2⟩:=cB q1;exact⟨b,CG w1.ok r1 e,q2 G1 H1 w1⟩
abbrev FQ:=ag->Res Bool
def dq(p q:FQ):FQ:=fun r=>(p r).bind fun c=>if c=true then q r else .ok false
def dP(p q:FQ):FQ:=fun r=>(p r).bind fun c=>if c=true then .ok true else q r
def bT(p:FQ):FQ:=fun r=>(p r).bind fun c=>.ok (! c)
variable{p q:FQ}{rest:List Expr}
theorem zM{α:Type}{r:Res α}{q:α->Prop}{x x':D->Prop}(h:fin r q x)(hx:∀e,x e->x' e):fin r q x':=by cases r with
|ok a=>exact h
|exc e=>exact hx e h
|stuck=>exact h
theorem gq{α:Type}{r:Res α}{σ:L2.St}{G G1:GH}{H H1:Hp}{P P':α->Prop}(h:fin r P (XW X σ G H))(w:Grow X.K G H G1 H1)(hp:∀a,P a->P' a):fin r P' (XW X σ G1 H1):=zM (aT h hp) fun _ x=>x.grow w
theorem uU(ha:SQ X g m a p):SW X g m (.BoolOp .And [a] pos) p:=C6 ha
theorem i6(ha:SQ X g m a p):SW X g m (.BoolOp .Or [a] pos) p:=Cj ha
theorem uB(ha:SQ X g m a p)(hb:SW X g m (.BoolOp .And (b::rest) pos) q):SW X g m (.BoolOp .And (a::b::rest) pos) (dq p q):=by
 refine PW.imp (Ci ha hb) fun σ H Q ⟨r,G,si,k⟩=>⟨r,G,si,aT (a8 k) fun c k1 G1 H1 w1=>?_⟩
 cases c with
|true=>rw[if_pos rfl]at k1 ⊢;exact⟨r,G1,si.grow w1,gq k1 w1 fun b z G' H' w'=>z G' H' (w1.trans w')⟩
|false=>rw[if_neg d_]at k1 ⊢;exact k1 G1 H1 w1
theorem df(ha:SQ X g m a p)(hb:SW X g m (.BoolOp .Or (b::rest) pos) q):SW X g m (.BoolOp .Or (a::b::rest) pos) (dP p q):=by
 refine PW.imp (Al ha hb) fun σ H Q ⟨r,G,si,k⟩=>⟨r,G,si,aT (a8 k) fun c k1 G1 H1 w1=>?_⟩
 cases c with
|true=>rw[if_pos rfl]at k1 ⊢;exact k1 G1 H1 w1
|false=>rw[if_neg d_]at k1 ⊢;exact⟨r,G1,si.grow w1,gq k1 w1 fun b z G' H' w'=>z G' H' (w1.trans w')⟩
theorem SW.toQ(h:SW X g m e p):SQ X g m e p:=PW.pt h
theorem gb(ha:SQ X g m a p):SQ X g m (.UnaryOp .Not a pos) (bT p):=PT.imp (Cf ha) fun σ H Q ⟨r,G,si,k⟩=>⟨r,G,si,aT (a8 k) fun c k1 G1 H1 w1=>k1 G1 H1 w1⟩
def dc(fa fb:FE):FE:=fun r=>(fa r).bind fun d=>(bO (gC d)).bind fun c=>if c=true then fb r else .ok (.bl false)
def jn(fa fb:FE):FE:=fun r=>(fa r).bind fun d=>(bO (gC d)).bind fun c=>if c=true then .ok (.bl true)else fb r
def hJ(fa:FE):FE:=fun r=>(fa r).bind fun d=>(bO (gC d)).bind fun c=>.ok (.bl (! c))
theorem jS{op}(h:SE X g m a fa):SE X g m (.BoolOp op [a] pos) fa:=Bb h
theorem kB(ha:SE X g m a fa)(hb:SE X g m (.BoolOp .And (b::rest) pos) fb):SE X g m (.BoolOp .And (a::b::rest) pos) (dc fa fb):=by
 refine PE.imp (A7 ha hb) fun σ H Q ⟨r,G,si,k⟩=>⟨r,G,si,aT (a8 k) fun d k1 v G1 H1 w1 r1=>?_⟩
 obtain⟨c,e,k2⟩:=cB (a8 k1);cases d with
|bl c'=>cases e;refine⟨_,r1.bl w1.ok,?_⟩;cases c with
 |true=>rw[if_pos rfl]at k2 ⊢;exact⟨r,G1,si.grow w1,gq k2 w1 fun b z v G' H' w'=>z v G' H' (w1.trans w')⟩
 |false=>rw[if_neg d_]at k2 ⊢;exact k2 _ G1 H1 w1 (.scl (.bl _))
|_=>cases e
theorem sg(ha:SE X g m a fa)(hb:SE X g m (.BoolOp .Or (b::rest) pos) fb):SE X g m (.BoolOp .Or (a::b::rest) pos) (jn fa fb):=by
 refine PE.imp (Aj ha hb) fun σ H Q ⟨r,G,si,k⟩=>⟨r,G,si,aT (a8 k) fun d k1 v G1 H1 w1 r1=>?_⟩
 obtain⟨c,e,k2⟩:=cB (a8 k1);cases d with
|bl c'=>cases e;refine⟨_,r1.bl w1.ok,?_⟩;cases c with
 |false=>rw[if_neg d_]at k2 ⊢;exact⟨r,G1,si.grow w1,gq k2 w1 fun b z v G' H' w'=>z v G' H' (w1.trans w')⟩
 |true=>rw[if_pos rfl]at k2 ⊢;exact k2 _ G1 H1 w1 (.scl (.bl _))
|_=>cases e
theorem t4(ha:SE X g m a fa):SE X g m (.UnaryOp .Not a pos) (hJ fa):=by
 refine PE.imp (Ba ha) fun σ H Q ⟨r,G,si,k⟩=>⟨r,G,si,aT (a8 k) fun d k1 v G1 H1 w1 r1=>?_⟩
 obtain⟨c,e,k2⟩:=cB (a8 k1);cases d with
|bl c'=>cases e;exact⟨_,r1.bl w1.ok,k2 _ G1 H1 w1 (.scl (.bl _))⟩
|_=>cases e
def iU(p:FQ)(fa fb:FE):FE:=fun r=>(p r).bind fun c=>if c=true then fa r else fb r
theorem tY(hc:SQ X g m c p)(ha:SE X g m a fa)(hb:SE X g m b fb):SE X g m (.IfExp c a b pos) (iU p fa fb):=by
 refine PE.imp (Ee hc ha hb) fun σ H Q ⟨r,G,si,k⟩=>⟨r,G,si,aT (a8 k) fun c k1 G1 H1 w1=>?_⟩
 cases c with
|true=>rw[if_pos rfl]at k1 ⊢;exact⟨r,G1,si.grow w1,gq k1 w1 fun b z v G' H' w'=>z v G' H' (w1.trans w')⟩
|false=>rw[if_neg d_]at k1 ⊢;exact⟨r,G1,si.grow w1,gq k1 w1 fun b z v G' H' w'=>z v G' H' (w1.trans w')⟩
variable{es:List Expr}{fl fr:ag->Res (List D)}
def af:ag->Res (List D):=fun _=>.ok []
def aj(fa:FE)(fl:ag->Res (List D)):ag->Res (List D):=fun r=>(fa r).bind fun d=>(fl r).bind fun ds=>.ok (d::ds)
theorem da:SA X g m [] af:=PA.imp gN fun σ H Q ⟨r,G,si,k⟩=>k [] G H (Grow.refl si.gok) .nil
theorem dy(ha:SE X g m e fa)(hr:SA X g m es fl)(hs:l_ (e::es) X.env=(false,eval e X.env)::l_ es X.env:=by rfl):SA X g m (e::es) (aj fa fl):=by
 refine PA.imp (gp ha hr hs) fun σ H Q ⟨r,G,si,k⟩=>⟨r,G,si,aT (a8 k) fun d k1 v G1 H1 w1 r1=>⟨r,G1,si.grow w1,?_⟩⟩
 exact gq (a8 k1) w1 fun ds z vs G2 H2 w2 r2=>z (v::vs) G2 H2 (w1.trans w2) (.cons (r1.mono w2.ge) r2)
theorem a9:fY X g m [] af:=PA.imp gN fun σ H Q ⟨r,G,si,k⟩=>k [] G H (Grow.refl si.gok) .nil
theorem aZ(ha:SB X g m e fa)(hr:fY X g m es fl)(hs:l_ (e::es) X.env=(false,eval e X.env)::l_ es X.env:=by rfl):fY X g m (e::es) (aj fa fl):=by
 refine PA.imp (gp ha hr hs) fun σ H Q ⟨r,G,si,k⟩=>⟨r,G,si,aT (a8 k) fun d k1 v G1 H1 w1 r1=>⟨r,G1,si.grow w1,?_⟩⟩
 exact gq (a8 k1) w1 fun ds z vs G2 H2 w2 r2=>z (v::vs) G2 H2 (w1.trans w2) (.cons (r1.mono w2) r2)
def sz(ds:List D):Option (List D):=if ds.length<=sizeLine then some ds else none
theorem oN{ds ds':List D}(h:sz ds=some ds'):ds'=ds/\ds.length<=sizeLine:=by
 unfold sz at h;split at h
 .rename_i hl;cases h;exact⟨rfl,hl⟩
 .cases h
theorem Au{ds:List D}(h:ds.length<=sizeLine):sz ds=some ds:=if_pos h
def jz(fl:ag->Res (List D)):FE:=fun r=>(fl r).bind fun ds=>(bO (sz ds)).bind fun ds=>.ok (.tup ds)
def fW(fl:ag->Res (List D)):FE:=fun r=>(fl r).bind fun ds=>(bO (sz ds)).bind fun ds=>.ok (.lst ds)
theorem oM{x1}(h:SA X g m es fl):SE X g m (.Tuple es x1 pos) (jz fl):=by
 refine PE.imp (Bc h) fun σ H Q ⟨r,G,si,k⟩=>⟨r,G,si,aT (a8 k) fun ds k1 vs G1 H1 w1 r1=>?_⟩
 obtain⟨ds',e,k2⟩:=cB (a8 k1);obtain⟨rfl,hl⟩:=oN e;have hlen:=Paired.length r1;refine⟨by omega,fun p hp=>?_⟩;exact k2 _ _ _ (w1.trans (Grow.newF (d:=.tup ds') w1.ok hp (.tup (.inl bM) r1))) (.ref dA)
theorem i4(h:SA X g m es fl):SO X g m (.List es pos) (fW fl):=by
 refine PE.imp (uQ h) fun σ H Q ⟨r,G,si,k⟩=>⟨r,G,si,aT (a8 k) fun ds k1 vs G1 H1 w1 r1=>?_⟩
 obtain⟨ds',e,k2⟩:=cB (a8 k1);obtain⟨rfl,hl⟩:=oN e;have hlen:=Paired.length r1;refine⟨by omega,fun p hp=>?_⟩;have hn:H p=none:=by cases q:H p with
 |none=>rfl
 |some o=>rw[w1.he _ _ q]at hp;cases hp
 exact k2 p G1 _ (w1.trans (Grow.new w1.ok hp _)) hn ⟨w1.ok.isN hp,.lst bM r1⟩
end
def mG(K:W.Frag)(r:List V->Hp->VK->Prop)(k:List D->Option D):Prop:=∀(G:GH)(H:Hp)(vs:List V)(ds:List D)(d:D)(Q:VK),aC K G H->Paired (RB K G H) vs ds->k ds=some d ->(∀v G' H',Grow K G H G' H'->RG K G' v d->Q v H')->r vs H Q
def sL(K:W.Frag)(r:List V->Hp->VK->Prop)(k:List D->Option D):Prop:=∀(G:GH)(H:Hp)(vs:List V)(ds:List D)(d:D)(Q:VK),aC K G H->Paired (RB K G H) vs ds->k ds=some d ->(∀a G' H',Grow K G H G' H'->H a=none->Own K G' H' a d->Q (.ref a) H')->r vs H Q
def fC(fl:ag->Res (List D))(k:List D->Option D):FE:=fun r=>(fl r).bind fun ds=>bO (k ds)
theorem Grow.back{K:W.Frag}{G G1:GH}{H H1:Hp}(w:Grow K G H G1 H1){a:Addr}(hn:H1 a=none):H a=none:=by cases q:H a with
|none=>rfl
|some o=>rw[w.he _ _ q]at hn;cases hn
section
variable{X:Cx}{g:GE}{m:List Md}{e a b c:Expr}{f fa fb fc:FE}{pos p p2:Pos}{es:List Expr}{fl:ag->Res (List D)}{x:Str}{id T:String}{R:List V->Hp->VK->Prop}{k:List D->Option D}
theorem jo(hk:mG X.K R k)(h:PE X e (lU R (rY X g m fl))):SE X g m e (fC fl k):=by
 refine PE.imp h fun σ H Q ⟨r,G,si,q⟩=>⟨r,G,si,aT (a8 q) fun ds q1 vs G1 H1 w1 r1=>?_⟩
 obtain⟨d,e,q2⟩:=cB q1;exact hk G1 H1 vs ds d Q w1.ok r1 e fun v G' H' w' z=>q2 v G' H' (w1.trans w') z
theorem mK(hk:sL X.K R k)(h:PE X e (lU R (rY X g m fl))):SO X g m e (fC fl k):=by
 refine PE.imp h fun σ H Q ⟨r,G,si,q⟩=>⟨r,G,si,aT (a8 q) fun ds q1 vs G1 H1 w1 r1=>?_⟩
 obtain⟨d,e,q2⟩:=cB q1;exact hk G1 H1 vs ds d Q w1.ok r1 e fun v G' H' w' hn z=>q2 v G' H' (w1.trans w') (w1.back hn) z
def lenD:List D->Option D
|[.str y]=>if y.length<=sizeLine then some (.int y.length)else none
|[.lst ds]=>some (.int ds.length)
|[.tup ds]=>some (.int ds.length)
|[.dic kvs]=>some (.int kvs.length)
|_=>none
theorem Bt{K:W.Frag}:mG K (fun xs H Q=>(∃x n,xs=[x]/\mB K x H n/\Q (.int n) H)\/∃a kvs,xs=[V.ref a]/\Rd H a (.dK kvs)/\Q (.int kvs.length) H) lenD:=by
 intro G H vs ds d Q gk rs e q;unfold lenD at e;split at e
 .split at e
  .cases e;cases rs with
  |cons r t=>cases t;exact .inl ⟨_,_,rfl,by rw[r.str gk];exact⟨by assumption,rfl⟩,q _ G H (Grow.refl gk) (.scl (.int _))⟩
  .cases e
 .cases e;cases rs with
 |cons r t=>cases t;obtain⟨a,xs,rfl,s,r⟩:=r.lst gk;have:=Paired.length r;exact .inl ⟨_,_,rfl,.inl ⟨xs,s,rfl⟩,q _ G H (Grow.refl gk) (.scl (by rw[this];exact .int _))⟩
 .cases e;cases rs with
 |cons r t=>cases t;obtain⟨a,xs,rfl,s,r⟩:=r.tup gk;have:=Paired.length r;exact .inl ⟨_,_,rfl,.inr ⟨xs,s,rfl⟩,q _ G H (Grow.refl gk) (.scl (by rw[this];exact .int _))⟩
 .cases e;cases rs with
 |cons r t=>cases t;obtain⟨a,xs,rfl,s,r⟩:=r.dic gk;have:=Paired.length r;exact .inr ⟨_,_,rfl,s,q _ G H (Grow.refl gk) (.scl (by rw[this];exact .int _))⟩
 .cases e
theorem dw(hg:Gl X "len")(hm:X.mg "len" = none)(ha:fY X g m (e::es) fl)(he:l_ (e::es) X.env=(false,eval e X.env)::l_ es X.env:=by rfl)(hpl:(backTo pos (l_ es X.env)).any (·.1)=false:=by rfl):SE X g m (.Call (.Name "len" p) (e::es) [] pos) (fC fl lenD):=jo Bt (lc (dv.or Do EV) hg hm PySem.boot_len ha (by decide) (by decide) he hpl)
def gI:List D->Option D
|[.lst ds]=>some (.lst ds)
|[.tup ds]=>some (.lst ds)
|_=>none
theorem Dd{K:W.Frag}:sL K (fun xs H Q=>∃p ys,xs=[.ref p]/\(aL K H p ys\/bL K H p ys)/\∀l,H l=none->Q (.ref l) (upd H l (.lst ys))) gI:=by
 intro G H vs ds d Q gk rs e q;have fin:∀{ys:List V}{zs:List D},aV K G ys zs->(∀(a:Addr)(G':GH)(H':Hp),Grow K G H G' H'->H a=none->Own K G' H' a (.lst zs)->Q (.ref a) H')->∀l,H l=none->Q (.ref l) (upd H l (.lst ys)):=fun r q l hl=>q l G _ (Grow.new gk hl _) hl ⟨gk.isN hl,.lst bM r⟩;unfold gI at e;split at e
 .cases e;cases rs with
 |cons r t=>cases t;obtain⟨a,xs,rfl,s,r⟩:=r.lst gk;exact⟨a,xs,rfl,.inl s,fin r q⟩
 .cases e;cases rs with
 |cons r t=>cases t;obtain⟨a,xs,rfl,s,r⟩:=r.tup gk;exact⟨a,xs,rfl,.inr s,fin r q⟩
 .cases e
theorem kN(hg:Gl X "list")(hm:X.mg "list" = none)(ha:fY X g m (e::es) fl)(he:l_ (e::es) X.env=(false,eval e X.env)::l_ es X.env:=by rfl)(hpl:(backTo pos (l_ es X.env)).any (·.1)=false:=by rfl):SO X g m (.Call (.Name "list" p) (e::es) [] pos) (fC fl gI):=mK Dd (lj Gu hg hm rfl ha (by decide) (by decide) he hpl)
def tupD:List D->Option D
|[.lst ds]=>some (.tup ds)
|[.tup ds]=>some (.tup ds)
|_=>none
theorem BK{K:W.Frag}:mG K (fun xs H Q=>∃p ys,xs=[.ref p]/\((aL K H p ys/\∀l,H l=none->Q (.ref l) (upd H l (.tup ys)))\/(bL K H p ys/\Q (.ref p) H))) tupD:=by
 intro G H vs ds d Q gk rs e q;unfold tupD at e;split at e
 .cases e;cases rs with
 |cons r t=>cases t;obtain⟨a,xs,rfl,s,r⟩:=r.lst gk;exact⟨a,xs,rfl,.inl ⟨s,fun l hl=>q _ _ _ (Grow.newF gk hl (.tup (.inl bM) r)) (.ref dA)⟩⟩
 .cases e;cases rs with
 |cons r t=>
   cases t;rcases r with r|⟨a,_,o⟩
   .obtain⟨a,xs,rfl,s,r'⟩:=r.tup gk;exact⟨a,xs,rfl,.inr ⟨s,q _ G H (Grow.refl gk) r⟩⟩
   .cases o.ob
 .cases e
theorem nb(hg:Gl X "tuple")(hm:X.mg "tuple" = none)(ha:fY X g m (e::es) fl)(he:l_ (e::es) X.env=(false,eval e X.env)::l_ es X.env:=by rfl)(hpl:(backTo pos (l_ es X.env)).any (·.1)=false:=by rfl):SE X g m (.Call (.Name "tuple" p) (e::es) [] pos) (fC fl tupD):=jo BK (lj GK hg hm rfl ha (by decide) (by decide) he hpl)
def ixD:D->D->Option D
|.lst ds,.int i=>c9 ds i
|.tup ds,.int i=>c9 ds i
|.str z,.int i=>if z.length<=sizeLine then(c9 z.cps.toList i).map fun c=>.str ⟨#[c]⟩else none
|_,_=>none
theorem sP{K:W.Frag}{G:GH}{xs:List V}{ds:List D}{i:Int}{d:D}(r:aV K G xs ds)(h:c9 ds i=some d):∃v,c9 xs i=some v/\RG K G v d:=by unfold c9 at h ⊢;rw[Paired.length r];cases e:d8 ds.length i with
|none=>rw[e]at h;cases h
|some j=>rw[e]at h;exact Paired.get r h
theorem oR{K:W.Frag}:cn K (sk K) ixD:=by
 intro G H v1 v2 d1 d2 d Q gk r1 r2 e q;unfold ixD at e;split at e
 .obtain⟨a,xs,rfl,s,r⟩:=r1.lst gk;obtain⟨v,ev,rv⟩:=sP r e;exact .inl ⟨a,xs,_,v,rfl,r2.int gk,s,ev,q v G H (Grow.refl gk) rv⟩
 .obtain⟨a,xs,rfl,s,r⟩:=r1.tup gk;obtain⟨v,ev,rv⟩:=sP r e;exact .inr (.inl ⟨a,xs,_,v,rfl,r2.int gk,s,ev,q v G H (Grow.refl gk) rv⟩)
 .split at e
  .rename_i z i hz;cases ec:c9 z.cps.toList i with
  |none=>rw[ec]at e;cases e
  |some c=>rw[ec]at e;cases e;exact .inr (.inr ⟨z,i,c,r1.str gk,r2.int gk,hz,ec,q _ G H (Grow.refl gk) (.scl (.str _))⟩)
  .cases e
 .cases e
theorem PO.imp{X:Cx}{e:Option Expr}{t t':TO}(h:PO X e t)(i:∀σ H Q,t' σ H Q->t σ H Q):PO X e t':=fun pz s σ H Q I q=>h pz s σ H Q I (i σ H Q q)
end
inductive Out where
 |nx (r:ag)|rt (d:D)|bk (r:ag)|ct (r:ag)|exc (x:D) (r:ag)|stuck
abbrev FS:=ag->Out
def aB(G G':GH):Prop:=∀a d,G a=some d->G' a=some d
theorem aB.refl(G:GH):aB G G:=fun _ _ e=>e
theorem aB.trans{G G1 G2:GH}(a:aB G G1)(b:aB G1 G2):aB G G2:=fun x d e=>b x d (a x d e)
def forget(m:List Md)(r:ag):ag:=List.zipWith (fun md o=>if md=Md.sh then o else none) m r
def dZ(m:List Md):List Md:=m.map fun _=>Md.sh
theorem lA{m:List Md}{r:ag}{i:Nat}{d:D}(h:(forget m r)[i]? = some (some d)):r[i]? = some (some d)/\m[i]? = some .sh:=by unfold forget at h;rw[List.getElem?_zipWith]at h;cases e1:m[i]? with
|none=>rw[e1]at h;cases h
|some md=>cases e2:r[i]? with
 |none=>rw[e1,e2]at h;cases h
 |some o=>
   rw[e1,e2]at h;have h':(if md=Md.sh then o else none)=some d:=G_ h;split at h'
   .rename_i hm;subst hm;rw[h'];exact⟨rfl,rfl⟩
   .cases h'
section
variable{X:Cx}{g:GE}{m:List Md}{r:ag}{G:GH}{st:L2.St}{H:Hp}
theorem SI.forget(s:SI X g m r G st H):SI X g (dZ m) (forget m r) G st H where
 gok:=s.gok
 old:=s.old
 ge:=s.ge
 gf:=s.gf
 lm:=by rw[dZ,m_];exact s.lm
 lr:=by rw[DL.forget,List.length_zipWith,s.lm,s.lr,Nat.min_self]
 sh:=fun i d h _=>s.sh i d (lA h).1 (lA h).2
 ow:=fun i d h hm=>by rw[dZ,t_,(lA h).2]at hm;cases hm
 bw:=fun i d h hm=>by rw[dZ,t_,(lA h).2]at hm;cases hm
 dis:=fun i j a d e _ h _ hm=>by rw[dZ,t_,(lA h).2]at hm;cases hm
 lk:=fun i o _ hm=>by rw[dZ,t_]at hm;cases q:m[i]? <;> rw[q]at hm <;> cases hm
theorem SI.set(s:SI X g m r G st H)(i:Nat){v:V}{d:D}(hv:RG X.K G v d):SI X g (m.set i .sh) (r.set i (some d)) G (st.set i (some v)) H where
 gok:=s.gok
 old:=s.old
 ge:=s.ge
 gf:=s.gf
 lm:=by simp[s.lm]
 lr:=by simp[s.lr]
 sh:=fun j e h hm=>by
  by_cases hij:i=j
  .subst hij;have hl:i<r.length:=by have:=(i_.mp h).1;simpa using this
   rw[k_ hl]at h;cases h;exact⟨v,by rw[k_ (by rw[<-s.lr];exact hl)],hv⟩
  .rw[b_ hij]at h hm;rw[b_ hij];exact s.sh j e h hm
 ow:=fun j e h hm=>by
  by_cases hij:i=j
  .subst hij;have hl:i<m.length:=by have:=(i_.mp hm).1;simpa using this
   rw[k_ hl]at hm;cases hm
  .rw[b_ hij]at h hm;rw[b_ hij];exact s.ow j e h hm
 bw:=fun j e h hm=>by
  by_cases hij:i=j
  .subst hij;have hl:i<m.length:=by have:=(i_.mp hm).1;simpa using this
   rw[k_ hl]at hm;cases hm
  .rw[b_ hij]at h hm;rw[b_ hij];exact s.bw j e h hm
 dis:=fun j k a d1 d2 hjk h1 h2 hm hm' q1 q2=>by
  have hij:i≠j:=by
   rintro rfl
   have hl:i<m.length:=by have:=(i_.mp hm).1;simpa using this
   rw[k_ hl]at hm;cases hm
  have hik:i≠k:=by
   rintro rfl
   have hl:i<m.length:=by have:=(i_.mp h2).1;rw[IM,s.lr,<-s.lm]at this;exact this
   rw[k_ hl]at hm';cases hm'
  rw[b_ hij]at h1 hm q1;rw[b_ hik]at h2 hm' q2;exact s.dis j k a d1 d2 hjk h1 h2 hm hm' q1 q2
 lk:=fun j o hj hm=>by
  have hij:i≠j:=by
   rintro rfl
   have hl:i<m.length:=by have:=(i_.mp hm).1;simpa using this
   rw[k_ hl]at hm;cases hm
  rw[b_ hij]at hm;have:=s.lk j o hj hm;exact⟨by rw[b_ hij];exact this.1,fun d h=>this.2 d (by rw[b_ hij]at h;exact h)⟩
theorem SI.setO(s:SI X g m r G st H)(i:Nat){a:Addr}{d:D}(ho:Own X.K G H a d)(h0:g.h0 a=none)(hx:∀(j:Nat)(b:Addr)(e:D),r[j]? = some (some e)->m[j]? = some Md.ow->st[j]? = some (some (V.ref b))->b≠a):SI X g (m.set i .ow) (r.set i (some d)) G (st.set i (some (V.ref a))) H where
 gok:=s.gok
 old:=s.old
 ge:=s.ge
 gf:=s.gf
 lm:=by simp[s.lm]
 lr:=by simp[s.lr]
 sh:=fun j e h hm=>by
  by_cases hij:i=j
  .subst hij;have hl:i<m.length:=by have:=(i_.mp hm).1;simpa using this
   rw[k_ hl]at hm;cases hm
  .rw[b_ hij]at h hm;rw[b_ hij];exact s.sh j e h hm
 ow:=fun j e h hm=>by
  by_cases hij:i=j
  .subst hij;have hl:i<r.length:=by have:=(i_.mp h).1;simpa using this
   rw[k_ hl]at h;cases h;exact⟨a,by rw[k_ (by rw[<-s.lr];exact hl)],ho,h0⟩
  .rw[b_ hij]at h hm;rw[b_ hij];exact s.ow j e h hm
 bw:=fun j e h hm=>by
  by_cases hij:i=j
  .subst hij;have hl:i<m.length:=by have:=(i_.mp hm).1;simpa using this
   rw[k_ hl]at hm;cases hm
  .rw[b_ hij]at h hm;rw[b_ hij];exact s.bw j e h hm
 dis:=fun j k b d1 d2 hjk h1 h2 hm hm' q1 q2=>by
  by_cases hij:i=j
  .subst hij;rw[b_ hjk]at h2 hm' q2;have hl:i<st.length:=by have:=(i_.mp q1).1;simpa using this
   rw[k_ hl]at q1;have e:a=b:=by injection q1 with q1;injection q1 with q1;injection q1
   exact hx k b d2 h2 hm' q2 e.symm
  .by_cases hik:i=k
   .subst hik;rw[b_ hij]at h1 hm q1;have hl:i<st.length:=by have:=(i_.mp q2).1;simpa using this
    rw[k_ hl]at q2;have e:a=b:=by injection q2 with q2;injection q2 with q2;injection q2
    exact hx j b d1 h1 hm q1 e.symm
   .rw[b_ hij]at h1 hm q1;rw[b_ hik]at h2 hm' q2;exact s.dis j k b d1 d2 hjk h1 h2 hm hm' q1 q2
 lk:=fun j o hj hm=>by
  have hij:i≠j:=by
   rintro rfl
   have hl:i<m.length:=by have:=(i_.mp hm).1;simpa using this
   rw[k_ hl]at hm;cases hm
  rw[b_ hij]at hm;have:=s.lk j o hj hm;exact⟨by rw[b_ hij];exact this.1,fun d h=>this.2 d (by rw[b_ hij]at h;exact h)⟩
theorem SI.other(s:SI X g m r G st H){p:Addr}(hp:G p=none)(h0:g.h0 p=none)(hm:∀(i:Nat),m[i]?≠some Md.ow)(o:HO):SI X g m r G st (upd H p o) where
 gok:=fun b e h=>(s.gok b e h).mono (fun _ _ z=>z) fun o' q=>by rw[aW (by rintro rfl;rw[hp]at h;cases h)];exact q
 old:=fun b o' h=>by rw[aW (by rintro rfl;rw[h0]at h;cases h)];exact s.old b o' h
 ge:=s.ge
 gf:=s.gf
 lm:=s.lm
 lr:=s.lr
 sh:=s.sh
 ow:=fun i d _ h=>absurd h (hm i)
 bw:=fun i d h1 h2=>by
  obtain⟨v,h3,h4⟩:=s.bw i d h1 h2;refine⟨v,h3,?_⟩;rcases h4 with h4|⟨a,rfl,h4,h5⟩
  .exact .inl h4
  .have ha:a≠p:=by rintro rfl;exact h5 h0
   exact .inr ⟨a,rfl,⟨h4.un,h4.ob.mono (fun _ _ z=>z) fun o' z=>by rw[aW ha];exact z⟩,h5⟩
 dis:=fun i j a d e _ _ _ h=>absurd h (hm i)
 lk:=s.lk
theorem SI.less(s:SI X g m r G st H){r':ag}(hl:r'.length=r.length)(h:∀(i:Nat) d,r'[i]? = some (some d)->r[i]? = some (some d)):SI X g m r' G st H:=⟨s.gok,s.old,s.ge,s.gf,s.lm,hl.trans s.lr,fun i d a b=>s.sh i d (h i d a) b,fun i d a b=>s.ow i d (h i d a) b,fun i d a b=>s.bw i d (h i d a) b,fun i j a d e n p q x y=>s.dis i j a d e n (h i d p) (h j e q) x y,fun i o hi hm=>by have:=s.lk i o hi hm;exact⟨this.1,fun d hd=>this.2 d (h i d hd)⟩⟩
theorem SI.held(s:SI X g m r G st H){j:Nat}{b:Addr}{e:D}(h:r[j]? = some (some e))(hm:m[j]? = some .ow)(hs:st[j]? = some (some (V.ref b))):H b≠none:=by
 obtain⟨a,h1,h2,_⟩:=s.ow j e h hm;rw[hs]at h1;injection h1 with h1;injection h1 with h1;injection h1 with h1
 rw[h1];exact h2.ob.isS
theorem SI.new(s:SI X g m r G st H){a:Addr}(hn:H a=none):g.h0 a=none:=by cases q:g.h0 a with
|none=>rfl
|some o=>rw[s.old _ _ q]at hn;cases hn
theorem SI.setN(s:SI X g m r G st H){G':GH}{H':Hp}(w:Grow X.K G H G' H')(i:Nat){a:Addr}{d:D}(hn:H a=none)(ho:Own X.K G' H' a d):SI X g (m.set i .ow) (r.set i (some d)) G' (st.set i (some (V.ref a))) H':=by
 refine(s.grow w).setO i ho ?_ fun j b e h1 h2 h3=>?_
 .cases q:g.h0 a with
 |none=>rfl
 |some o=>rw[s.old _ _ q]at hn;cases hn
 .rintro rfl
  exact s.held h1 h2 h3 hn
theorem SI.mut(s:SI X g m r G st H){i:Nat}{d:D}(hm:m[i]? = some .ow)(hd:r[i]? = some (some d)):∃a,st[i]? = some (some (V.ref a))/\Own X.K G H a d/\∀(o':HO)(d':D),OwnO X.K G (upd H a o') a d'->SI X g m (r.set i (some d')) G st (upd H a o'):=by
 obtain⟨a,h1,h2,h3⟩:=s.ow i d hd hm;have hl:i<r.length:=(i_.mp hd).1;refine⟨a,h1,h2,fun o' d' ob=>?_⟩;have oth:∀(j:Nat)(b:Addr)(e:D),j≠i->r[j]? = some (some e)->m[j]? = some .ow->st[j]? = some (some (V.ref b))->b≠a:=fun j b e hj q1 q2 q3 z=>by subst z;exact s.dis i j b d e (IG hj) hd q1 hm q2 h1 q3
 refine⟨fun b e h=>?_,fun b o h=>?_,s.ge,s.gf,s.lm,by simp[s.lr],?_,?_,?_,?_,fun j o hj hm'=>?_⟩
 .have hb:b≠a:=by rintro rfl;rw[h2.un]at h;cases h
  exact(s.gok b e h).mono (fun _ _ z=>z) fun o q=>by rw[aW hb];exact q
 .have hb:b≠a:=by rintro rfl;rw[h3]at h;cases h
  rw[aW hb];exact s.old b o h
 .intro j e h hm';have hij:i≠j:=by rintro rfl;rw[hm]at hm';cases hm'
  rw[b_ hij]at h;exact s.sh j e h hm'
 .intro j e h hm';by_cases hij:i=j
  .subst hij;rw[k_ hl]at h;cases h;exact⟨a,h1,⟨h2.un,ob⟩,h3⟩
  .rw[b_ hij]at h;obtain⟨b,q1,q2,q3⟩:=s.ow j e h hm';have hb:=oth j b e (IG hij) h hm' q1;exact⟨b,q1,⟨q2.un,q2.ob.mono (fun _ _ z=>z) fun o z=>by rw[aW hb];exact z⟩,q3⟩
 .intro j e h hm';have hij:i≠j:=by rintro rfl;rw[hm]at hm';cases hm'
  rw[b_ hij]at h;obtain⟨v,q1,q2⟩:=s.bw j e h hm';refine⟨v,q1,?_⟩;rcases q2 with q2|⟨b,rfl,q2,q3⟩
  .exact .inl q2
  .have hb:b≠a:=by rintro rfl;exact q3 h3
   exact .inr ⟨b,rfl,⟨q2.un,q2.ob.mono (fun _ _ z=>z) fun o z=>by rw[aW hb];exact z⟩,q3⟩
 .have bound:∀(j:Nat) e,(r.set i (some d'))[j]? = some (some e)->∃e',r[j]? = some (some e'):=fun j e h=>by
   by_cases hij:i=j
   .subst hij;exact⟨d,hd⟩
   .rw[b_ hij]at h;exact⟨e,h⟩
  intro j k b d1 d2 hjk q1 q2 p1 p2 z1 z2;obtain⟨e1,q1⟩:=bound j d1 q1;obtain⟨e2,q2⟩:=bound k d2 q2;exact s.dis j k b e1 e2 hjk q1 q2 p1 p2 z1 z2
 .have hij:i≠j:=by rintro rfl;rw[hm]at hm';cases hm'
  have:=s.lk j o hj hm';exact⟨this.1,fun d'' h=>this.2 d'' (by rw[b_ hij]at h;exact h)⟩
end
def RV(ro:Bool)(K:W.Frag)(H0:Hp)(G:GH)(H:Hp)(v:V)(d:D):Prop:=match ro with
|false=>RG K G v d
|true=>(∃a,v=.ref a/\H0 a=none/\Own K G H a d)\/(d=.non/\v=.non)
theorem RV.toF{K:W.Frag}{H0:Hp}{G0 G:GH}{H:Hp}{v:V}{d:D}(w:Grow K G0 H0 G H)(h:RV true K H0 G H v d):(∃G',Grow K G0 H0 G' H/\RG K G' v d)\/∃a,∀ob,∃G',Grow K G0 H0 G' (fz H a ob)/\RG K G' v d:=by
 rcases h with⟨a,rfl,hn,ho⟩|⟨rfl,rfl⟩
 .exact .inr ⟨a,fun ob=>⟨_,w.frz hn ho ob,.ref dA⟩⟩
 .exact .inl ⟨G,w,.scl .non⟩
def br(X:Cx)(g:GE)(ro:Bool)(m' mb:List Md)(G:GH)(D:Ends):Out->Prop
|.nx r'=>∀σ' G' H',aB G G'->SI X g m' r' G' σ' H'->D.nx σ' H'
|.rt d=>∀v G' H',Grow X.K g.gh g.h0 G' H'->RV ro X.K g.h0 G' H' v d->D.rt v H'
|.bk r'=>∀σ' G' H',aB G G'->SI X g mb r' G' σ' H'->D.bk σ' H'
|.ct r'=>∀σ' G' H',aB G G'->SI X g mb r' G' σ' H'->D.ct σ' H'
|.exc x r'=>∀pz e s' σ' G' H',aB G G'->SI X g (dZ m') r' G' σ' H'->Inv X pz σ' H' s'->zx X σ' G' H' e x s'->X.xe e s'
|.stuck=>False
def tS(X:Cx)(g:GE)(ro:Bool)(m m' mb:List Md)(f:FS):TS:=fun D σ H=>∃r G,SI X g m r G σ H/\br X g ro m' mb G D (f r)
def SS(X:Cx)(g:GE)(ro:Bool)(mb m:List Md)(st:Stmt)(f:FS)(m':List Md):Prop:=m'.length=m.length/\PS X st (tS X g ro m m' mb f)
def dU(X:Cx)(g:GE)(ro:Bool)(mb m:List Md)(st:List Stmt)(f:FS)(m':List Md):Prop:=m'.length=m.length/\bb X st (tS X g ro m m' mb f)
theorem lh{m m':List Md}(h:m'.length=m.length):dZ m'=dZ m:=by unfold dZ;rw[MJ,MJ,h]
theorem br.x{X:Cx}{g:GE}{ro:Bool}{m m' mb:List Md}{r:ag}{G:GH}{D:Ends}{σ:L2.St}{H:Hp}{x:DL.D}(h:br X g ro m' mb G D (.exc x (forget m r)))(si:SI X g m r G σ H)(hl:m'.length=m.length):XW X σ G H x:=fun pz e s' G' H' w I ex=>h pz e s' σ G' H' w.ge (by rw[lh hl];exact(si.grow w).forget) I ex
section
variable{X:Cx}{g:GE}{ro:Bool}{m m' m1 mb:List Md}{e a b c tg:Expr}{f fa fb fc:FE}{p:FQ}{pos pos':Pos}{st:Stmt}{sts sts':List Stmt}{s1 s2:FS}
theorem br.gle{G G1:GH}{D:Ends}{o:Out}(h:br X g ro m' mb G D o)(w:aB G G1):br X g ro m' mb G1 D o:=by cases o with
|nx r'=>exact fun σ' G' H' q si=>h σ' G' H' (w.trans q) si
|rt d=>exact h
|bk r'=>exact fun σ' G' H' q si=>h σ' G' H' (w.trans q) si
|ct r'=>exact fun σ' G' H' q si=>h σ' G' H' (w.trans q) si
|exc x r'=>exact fun pz e s' σ' G' H' q=>h pz e s' σ' G' H' (w.trans q)
|stuck=>exact h
def aa(s1 s2:FS):FS:=fun r=>match s1 r with
|.nx r'=>s2 r'
|o=>o
def ax:FS:=fun r=>.nx r
theorem ay:dU X g ro mb m [] ax m:=⟨rfl,bb.imp pG fun D σ H ⟨r,G,si,q⟩=>q σ G H (aB.refl G) si⟩
theorem al(h1:SS X g ro mb m st s1 m1)(h2:dU X g ro mb m1 sts s2 m'):dU X g ro mb m (st::sts) (aa s1 s2) m':=by refine⟨h2.1.trans h1.1,bb.imp (iM h1.2 h2.2) fun D σ H ⟨r,G,si,q⟩=>⟨r,G,si,?_⟩⟩;unfold aa at q;cases e:s1 r with
|nx r'=>rw[e]at q;exact fun σ' G' H' w si'=>⟨r',G',si',br.gle q w⟩
|rt d=>rw[e]at q;exact q
|bk r'=>rw[e]at q;exact q
|ct r'=>rw[e]at q;exact q
|exc x r'=>rw[e]at q;exact fun pz e s' σ' G' H' w si'=>q pz e s' σ' G' H' w (by rw[lh h2.1];exact si')
|stuck=>rw[e]at q;exact q
theorem Cr:SS X g ro mb m st (fun _=>.stuck) m:=⟨rfl,PS.imp Eg fun D σ H ⟨r,G,si,q⟩=>q⟩
theorem mL(i:Nat)(hi:m[i]? = some .ow)(h:SS X g ro mb (m.set i .sh) st s1 m'):SS X g ro mb m st s1 m':=by
 refine⟨h.1.trans (by simp),fun pz s σ H D I ⟨r,G,si,q⟩=>?_⟩;rcases si.frz i hi with⟨G',le,si'⟩|⟨a,z⟩
 .exact h.2 pz s σ H D I ⟨r,G',si',br.gle q le⟩
 .obtain⟨ob,I2⟩:=Inv.fast I a;obtain⟨G',le,si'⟩:=z ob;exact h.2 pz s σ _ D I2 ⟨r,G',si',br.gle q le⟩
def eJ{α:Type}(m:List Md)(r:ag)(x:Res α)(k:α->Out):Out:=match x with
|.ok a=>k a
|.exc e=>.exc e (forget m r)
|.stuck=>.stuck
@[simp] theorem onE_ok{α:Type}(m:List Md)(r:ag)(a:α)(k:α->Out):eJ m r (.ok a) k=k a:=rfl
theorem e8{α:Type}{x:Res α}{k:α->Out}{r:ag}{G:GH}{D:Ends}{σ:L2.St}{H:Hp}(si:SI X g m r G σ H)(hl:m'.length=m.length)(h:br X g ro m' mb G D (eJ m r x k)):fin x (fun a=>br X g ro m' mb G D (k a)) (XW X σ G H):=by cases x with
|ok a=>exact h
|exc e=>exact br.x h si hl
|stuck=>exact h
def am(m:List Md)(i:Nat)(f:FE):FS:=fun r=>eJ m r (f r) fun d=>.nx (r.set i (some d))
theorem As(i:Nat){x:Str}(hN:X.N.Nodup)(hi:X.N[i]? = some x)(hx:fO X.env.scope x)(he:SE X g m e f)(hs:J7 e (some (.Name x pos')) pos.line X.env=pure false:=by rfl)(hf:X.fn x=true\/X.env.scope.names.lookup x=some .local:=by first|exact .inl rfl|exact .inr rfl|assumption):SS X g ro mb m (.Assign [.Name x pos'] e pos) (am m i f) (m.set i .sh):=by
 have hl:(m.set i .sh).length=m.length:=by simp
 refine⟨hl,PS.imp (mU hN hi hx he hs hf) fun D σ H ⟨r,G,si,q⟩=>⟨r,G,si,?_⟩⟩;exact aT (e8 si hl q) fun d q v G' H' w rv=>q _ G' H' w.ge ((si.grow w).set i rv)
theorem eY(i:Nat){x:Str}(hN:X.N.Nodup)(hi:X.N[i]? = some x)(hx:fO X.env.scope x)(he:SO X g m e f)(hs:J7 e (some (.Name x pos')) pos.line X.env=pure false:=by rfl)(hf:X.fn x=true\/X.env.scope.names.lookup x=some .local:=by first|exact .inl rfl|exact .inr rfl|assumption):SS X g ro mb m (.Assign [.Name x pos'] e pos) (am m i f) (m.set i .ow):=by
 have hl:(m.set i .ow).length=m.length:=by simp
 refine⟨hl,PS.imp (mU hN hi hx he hs hf) fun D σ H ⟨r,G,si,q⟩=>⟨r,G,si,?_⟩⟩;exact aT (e8 si hl q) fun d q a G' H' w hn ho=>q _ G' H' w.ge (si.setN w i hn ho)
def ar(m:List Md)(f:FE):FS:=fun r=>eJ m r (f r) fun d=>.rt d
theorem bf(he:SE X g m e f):SS X g false mb m (.Return (some e) pos) (ar m f) m:=⟨rfl,PS.imp (ph he) fun D σ H ⟨r,G,si,q⟩=>⟨r,G,si,aT (e8 si rfl q) fun d q v G' H' w rv=>q v G' H' (si.grow w).grown rv⟩⟩
theorem pc(he:SO X g m e f):SS X g true mb m (.Return (some e) pos) (ar m f) m:=⟨rfl,PS.imp (ph he) fun D σ H ⟨r,G,si,q⟩=>⟨r,G,si,aT (e8 si rfl q) fun d q a G' H' w hn ho=>q (.ref a) G' H' (si.grow w).grown (.inl ⟨a,rfl,si.new hn,ho⟩)⟩⟩
def ck(m:List Md)(p:FQ)(s1 s2:FS):FS:=fun r=>eJ m r (p r) fun c=>if c=true then s1 r else s2 r
theorem bj(hc:SQ X g m c p)(h1:dU X g ro mb m sts s1 m')(h2:dU X g ro mb m sts' s2 m'):SS X g ro mb m (.If c sts sts' pos) (ck m p s1 s2) m':=by refine⟨h1.1,PS.imp (t8 hc h1.2 h2.2) fun D σ H ⟨r,G,si,q⟩=>⟨r,G,si,aT (e8 si h1.1 q) fun c q G' H' w=>?_⟩⟩;cases c with
|true=>rw[if_pos rfl]at q ⊢;exact⟨r,G',si.grow w,br.gle q w.ge⟩
|false=>rw[if_neg d_]at q ⊢;exact⟨r,G',si.grow w,br.gle q w.ge⟩
theorem j9(i:Nat)(h:dU X g ro mb m sts s1 m')(hi:m'[i]? = some .ow):dU X g ro mb m sts s1 (m'.set i .sh):=by
 refine⟨by simp[h.1],fun pz s σ H D I ⟨r,G,si,q⟩=>?_⟩;refine aF (h.2 pz s σ H ⟨fun σ' H'=>D.nx σ' H'\/∃a,∀ob,D.nx σ' (fz H' a ob),D.rt,D.bk,D.ct⟩ I ⟨r,G,si,?_⟩) fun f s' p=>?_
 .cases e:s1 r with
 |nx r'=>
   rw[e]at q;intro σ' G' H' w si';rcases si'.frz i hi with⟨G2,le,si2⟩|⟨a,z⟩
   .exact .inl (q σ' G2 H' (w.trans le) si2)
   .refine .inr ⟨a,fun ob=>?_⟩;obtain⟨G2,le,si2⟩:=z ob;exact q σ' G2 _ (w.trans le) si2
 |rt d=>rw[e]at q;exact q
 |bk r'=>rw[e]at q;exact q
 |ct r'=>rw[e]at q;exact q
 |exc x r'=>rw[e]at q;exact fun pz e s' σ' G' H' w si'=>q pz e s' σ' G' H' w (by rw[lh (m:=m') (by simp)];exact si')
 |stuck=>rw[e]at q;exact q
 .cases f with
 |next=>
   obtain⟨σ',H',I',z|⟨a,z⟩⟩:=p
   .exact⟨σ',H',I',z⟩
   .obtain⟨ob,I2⟩:=Inv.fast I' a;exact⟨σ',_,I2,z ob⟩
 |brk=>exact p
 |cont=>exact p
 |ret u=>exact p
end
abbrev FT:=D->ag->Option ag
abbrev jK:=List D->ag->Option ag
def tG(X:Cx)(g:GE)(m m':List Md)(ft:FT):TG:=fun v σ H Q=>∃r G d,SI X g m r G σ H/\RG X.K G v d/\∃r',ft d r=some r'/\∀σ',SI X g m' r' G σ' H->Q σ' H
def G6(X:Cx)(g:GE)(m m':List Md)(ft:jK):gU:=fun vs σ H Q=>∃r G ds,SI X g m r G σ H/\aV X.K G vs ds/\∃r',ft ds r=some r'/\∀σ',SI X g m' r' G σ' H->Q σ' H
theorem PG.imp{X:Cx}{e:Expr}{t t':TG}(h:PG X e t)(i:∀v σ H Q,t' v σ H Q->t v σ H Q):PG X e t':=fun pz s σ H v u Q I r q=>h pz s σ H v u Q I r (i v σ H Q q)
theorem gG.imp{X:Cx}{e:List Expr}{t t':gU}(h:gG X e t)(i:∀v σ H Q,t' v σ H Q->t v σ H Q):gG X e t':=fun pz s σ H v u Q I r q=>h pz s σ H v u Q I r (i v σ H Q q)
def SG(X:Cx)(g:GE)(m:List Md)(tg:Expr)(ft:FT)(m':List Md):Prop:=m'.length=m.length/\PG X tg (tG X g m m' ft)
structure SGs(X:Cx)(g:GE)(m:List Md)(ts:List Expr)(n:Nat)(ft:jK)(m':List Md):Prop where
 ml:m'.length=m.length
 ln:∀ds r r',ft ds r=some r'->ds.length=n
 pg:gG X ts (G6 X g m m' ft)
def aG(i:Nat):FT:=fun d r=>some (r.set i (some d))
def iT(ft:jK):FT:=fun d r=>match d with
|.tup ds=>ft ds r
|.lst ds=>ft ds r
|_=>none
def iD:jK:=fun ds r=>match ds with
|[]=>some r
|_=>none
def d6(ft:FT)(fts:jK):jK:=fun ds r=>match ds with
|[]=>none
|d::ds=>(ft d r).bind fun r'=>fts ds r'
section
variable{X:Cx}{g:GE}{m m' m1:List Md}{tg:Expr}{ts:List Expr}{ft:FT}{fts:jK}{pos:Pos}{n:Nat}
theorem BC(i:Nat){x:Str}(hN:X.N.Nodup)(hi:X.N[i]? = some x)(hx:fO X.env.scope x)(hf:X.fn x=true\/X.env.scope.names.lookup x=some .local:=by first|exact .inl rfl|exact .inr rfl|assumption):SG X g m (.Name x pos) (aG i) (m.set i .sh):=⟨by simp,PG.imp (C0 hN hi hx hf) fun v σ H Q ⟨r,G,d,si,rv,r',e,k⟩=>by cases e;exact k _ (si.set i rv)⟩
theorem mI:SGs X g m [] 0 iD m:=by
 refine⟨rfl,fun ds r r' e=>?_,gG.imp C1 fun v σ H Q ⟨r,G,ds,si,rv,r',e,k⟩=>?_⟩
 .cases ds with
 |nil=>rfl
 |cons _ _=>cases e
 .cases rv with
 |nil=>cases e;exact⟨rfl,k σ si⟩
 |cons _ _=>cases e
theorem g4(h1:SG X g m tg ft m1)(h2:SGs X g m1 ts n fts m')(hs:(Iq (tg::ts) X.env).map (·.2)=Ki tg X.env::(Iq ts X.env).map (·.2):=by rfl):SGs X g m (tg::ts) (n+1) (d6 ft fts) m':=by
 refine⟨h2.ml.trans h1.1,fun ds r r' e=>?_,gG.imp (Ef h1.2 h2.pg hs) fun v σ H Q ⟨r,G,ds,si,rv,r',e,k⟩=>?_⟩
 .cases ds with
 |nil=>cases e
 |cons d ds=>have e':((ft d r).bind fun r'=>fts ds r')=some r':=e;cases q:ft d r with
  |none=>rw[q]at e';cases e'
  |some r1=>rw[q]at e';have:=h2.ln ds r1 r' e';simp[this]
 .cases rv with
 |nil=>cases e
 |@cons v0 d vs ds rv rs=>have e':((ft d r).bind fun r'=>fts ds r')=some r':=e;cases q:ft d r with
  |none=>rw[q]at e';cases e'
  |some r1=>rw[q]at e';exact⟨_,_,rfl,r,G,d,si,rv,r1,q,fun σ' si'=>⟨r1,G,ds,si',rs,r',e',k⟩⟩
theorem Bf{k:Nat}{t:gU}(hc:X.calm=true)(h:gG X ts t)(hn:(Iq ts X.env).length=n)(hst:(Iq ts X.env).findIdx? (·.1)=none):PG X (.Tuple ts k pos) (fun v σ H Q=>∃a xs,v=.ref a/\aL X.K H a xs/\xs.length=n/\t xs σ H Q):=by intro pz s σ H v u Q I r hw;obtain⟨a,xs,e1,hq,hl,hw⟩:=hw;subst e1;cases r;obtain⟨its,rv,⟨o,nn,l1,l2,l3,l4⟩,hz⟩:=I.list hq;rw[Nv];refine e_ (KS ?_);unfold unpack;rw[hst,show(Iq ts X.env).length=its.toArray.size by simp[hn,<-hl,rv.length]];refine e_ (Ip (W.kun_itemsOf (I.ok.hd hc) ⟨o,l1,l2,nn,l4⟩ fun h' hx=>?_));have I1:Inv X pz σ H { s with heap:=h' }:=I.kept (t':=s.toks) fun b o e=>hx b o (B_ (p_ e)) e;exact h pz _ σ H xs _ Q I1 (by simpa using rv) hw
theorem PG.or{e:Expr}{t t':TG}(h:PG X e t)(h':PG X e t'):PG X e (fun v σ H Q=>t v σ H Q\/t' v σ H Q):=fun pz s σ H v u Q I r q=>q.elim (h pz s σ H v u Q I r) (h' pz s σ H v u Q I r)
theorem mJ{k:Nat}(hc:X.calm=true)(h:SGs X g m ts n fts m')(hn:(Iq ts X.env).length=n:=by rfl)(hst:(Iq ts X.env).findIdx? (·.1)=none:=by rfl):SG X g m (.Tuple ts k pos) (iT fts) m':=by refine⟨h.ml,PG.imp (PG.or (Be hc h.pg hn hst) (Bf hc h.pg hn hst)) fun v σ H Q ⟨r,G,d,si,rv,r',e,k⟩=>?_⟩;cases d with
|tup ds=>obtain⟨a,xs,rfl,s,rs⟩:=rv.tup si.gok;exact .inl ⟨a,xs,rfl,s,(Paired.length rs).trans (h.ln ds r r' e),r,G,ds,si,rs,r',e,k⟩
|lst ds=>obtain⟨a,xs,rfl,s,rs⟩:=rv.lst si.gok;exact .inr ⟨a,xs,rfl,s,(Paired.length rs).trans (h.ln ds r r' e),r,G,ds,si,rs,r',e,k⟩
|_=>cases e
end
structure Yields(K:W.Frag)(J:It)(ds:List D)(G0:GH):Prop where
 go:∀G H (i:Nat),aB G0 G->aC K G H->i<ds.length->J.go i H
 yld:∀G H (i:Nat) x H' d,aB G0 G->aC K G H->J.yld i H x H'->ds[i]? = some d->∃G',Grow K G H G' H'/\RG K G' x d
 stop:∀G H,aB G0 G->aC K G H->J.stop ds.length H
abbrev FI:=ag->Res (List D)
def tI(X:Cx)(g:GE)(m:List Md)(f:FI):TI:=fun σ H R=>∃r G,SI X g m r G σ H/\fin (f r) (fun ds=>∀J G' H',Grow X.K G H G' H'->Yields X.K J ds G'->R J H') (XW X σ G H)
def im(X:Cx)(g:GE)(m:List Md)(tg iter:Expr)(f:FI):Prop:=PI X tg iter (tI X g m f)
theorem PI.imp{X:Cx}{tg e:Expr}{t t':TI}(h:PI X tg e t)(i:∀σ H Q,t' σ H Q->t σ H Q):PI X tg e t':=fun pz s σ H R I q=>h pz s σ H R I (i σ H R q)
theorem pw{K:W.Frag}{a:Addr}{ds:List D}{G0:GH}(h0:RG K G0 (.ref a) (.lst ds)):Yields K (mC K a) ds G0:=by
 have at_:∀G H,aB G0 G->aC K G H->∃xs,aL K H a xs/\aV K G xs ds:=fun G H w gk=>by obtain⟨b,xs,e,s,r⟩:=(h0.mono w).lst gk;cases e;exact⟨xs,s,r⟩
 refine⟨fun G H i w gk hi=>?_,fun G H i x H' d w gk y e=>?_,fun G H w gk=>?_⟩
 .obtain⟨xs,s,r⟩:=at_ G H w gk;have hl:=Paired.length r;exact⟨xs,xs[i],s,j_ (by omega)⟩
 .obtain⟨xs,s,r⟩:=at_ G H w gk;obtain⟨rfl,y⟩:=y;obtain⟨v,e1,rv⟩:=Paired.get r e;have:=y xs s;rw[e1]at this;cases this;exact⟨G,Grow.refl gk,rv⟩
 .obtain⟨xs,s,r⟩:=at_ G H w gk;exact⟨xs,s,JV (Paired.length r)⟩
theorem o8{K:W.Frag}{a:Addr}{ds:List D}{G0:GH}(h0:RG K G0 (.ref a) (.tup ds)):Yields K (sK K a) ds G0:=by
 have at_:∀G H,aB G0 G->aC K G H->∃xs,bL K H a xs/\aV K G xs ds:=fun G H w gk=>by obtain⟨b,xs,e,s,r⟩:=(h0.mono w).tup gk;cases e;exact⟨xs,s,r⟩
 refine⟨fun G H i w gk hi=>?_,fun G H i x H' d w gk y e=>?_,fun G H w gk=>?_⟩
 .obtain⟨xs,s,r⟩:=at_ G H w gk;have hl:=Paired.length r;exact⟨xs,xs[i],s,j_ (by omega)⟩
 .obtain⟨xs,s,r⟩:=at_ G H w gk;obtain⟨rfl,y⟩:=y;obtain⟨v,e1,rv⟩:=Paired.get r e;have:=y xs s;rw[e1]at this;cases this;exact⟨G,Grow.refl gk,rv⟩
 .obtain⟨xs,s,r⟩:=at_ G H w gk;exact⟨xs,s,JV (Paired.length r)⟩
def cr(lo:Int)(n:Nat):List D:=(r_ n).map fun(i:Nat)=>D.int (lo+(i:Int))
theorem BQ{K:W.Frag}{lo:Int}{n:Nat}{G0:GH}:Yields K (oB lo n) (cr lo n) G0:=by
 have hl:(cr lo n).length=n:=by simp[cr]
 refine⟨fun G H i w gk hi=>(by rw[hl]at hi;exact hi),fun G H i x H' d w gk y e=>?_,fun G H w gk=>(by rw[hl];exact q_ _)⟩;obtain⟨rfl,rfl⟩:=y;have hi:i<n:=by have:=(i_.mp e).1;rw[hl]at this;exact this
 unfold cr at e;rw[t_,IT hi]at e;cases e;exact⟨G,Grow.refl gk,.scl (.int _)⟩
def bN:D->Option (List D)
|.lst ds=>some ds
|.tup ds=>some ds
|_=>none
section
variable{X:Cx}{g:GE}{m m' m1 mb:List Md}{tg e a b c iter:Expr}{f fa fb:FE}{p:FQ}{pos pos':Pos}{ro:Bool}{fl:ag->Res (List D)}{sts:List Stmt}{s1:FS}
def aI(k:D->Option (List D))(f:FE):FI:=fun r=>(f r).bind fun d=>bO (k d)
theorem pd{l:Expr}{tl:TE}(hl:PE X l tl):PI X tg l (fun σ H R=>tl σ H fun x H1=>(∃a,x=.ref a/\(∃xs,aL X.K H1 a xs)/\R (mC X.K a) H1)\/∃a,x=.ref a/\(∃xs,bL X.K H1 a xs)/\R (sK X.K a) H1):=by
 intro pz s σ H R I h;refine aF (hl pz s σ H _ I h) fun v s1 ⟨x,H1,I1,r1,q1⟩=>?_;rcases q1 with⟨a,e,⟨xs,hq⟩,q⟩|⟨a,e,⟨xs,hq⟩,q⟩
 .subst e;cases r1;obtain⟨its,rv,p,hz⟩:=I1.list hq;refine Mi p.isList ?_;refine⟨s1.heap.objs.size,[s1.heap.objs.size],_,_,H1,rfl,I1.kept (t':=s1.toks) fun b o e=>h_ _ e,E2 a _,⟨_,u_ _ rfl,rfl,rfl⟩,fun b hb=>?_,q⟩;have e:b=s1.heap.objs.size:=by simpa using hb
  subst e;exact I1.fpOk (q_ _) (I1.hok.fresh (q_ _))
 .subst e;cases r1;obtain⟨its,rv,p,hz⟩:=I1.tuple hq;refine JS (show s1.heap.IsTuple a its.toArray from p) ?_;refine⟨s1.heap.objs.size,[s1.heap.objs.size],_,_,H1,rfl,I1.kept (t':=s1.toks) fun b o e=>h_ _ e,FG a _,⟨_,u_ _ rfl,rfl,rfl⟩,fun b hb=>?_,q⟩;have e:b=s1.heap.objs.size:=by simpa using hb
  subst e;exact I1.fpOk (q_ _) (I1.hok.fresh (q_ _))
theorem oP(h:SE X g m e f):im X g m tg e (aI bN f):=by
 refine PI.imp (pd h) fun σ H R ⟨r,G,si,q⟩=>⟨r,G,si,aT (a8 q) fun d q v G' H' w rv=>?_⟩
 obtain⟨ds,e,q⟩:=cB q;cases d with
|lst ds'=>cases e;obtain⟨a,xs,rfl,s,rs⟩:=rv.lst w.ok;exact .inl ⟨a,rfl,⟨xs,s⟩,q _ G' H' w (pw rv)⟩
|tup ds'=>cases e;obtain⟨a,xs,rfl,s,rs⟩:=rv.tup w.ok;exact .inr ⟨a,rfl,⟨xs,s⟩,q _ G' H' w (o8 rv)⟩
|_=>cases e
structure YieldsC(K:W.Frag)(J:It)(ds:List D)(G0:GH)(H0:Hp):Prop where
 go:∀G H (i:Nat),Grow K G0 H0 G H->i<ds.length->J.go i H
 yld:∀G H (i:Nat) x H' d,Grow K G0 H0 G H->J.yld i H x H'->ds[i]? = some d->∃G',Grow K G H G' H'/\RG K G' x d
 stop:∀G H,Grow K G0 H0 G H->J.stop ds.length H
theorem Yields.toC{K:W.Frag}{J:It}{ds:List D}{G0:GH}{H0:Hp}(y:Yields K J ds G0):YieldsC K J ds G0 H0:=⟨fun G H i w hi=>y.go G H i w.ge w.ok hi,fun G H i x H' d w q e=>y.yld G H i x H' d w.ge w.ok q e,fun G H w=>y.stop G H w.ge w.ok⟩
def GY(X:Cx)(g:GE)(m:List Md)(f:FI):TI:=fun σ H R=>∃r G,SI X g m r G σ H/\fin (f r) (fun ds=>∀J G' H',Grow X.K G H G' H'->YieldsC X.K J ds G' H'->R J H') (XW X σ G H)
def gE(X:Cx)(g:GE)(m:List Md)(tg iter:Expr)(f:FI):Prop:=PI X tg iter (GY X g m f)
theorem im.toC{fi:FI}(h:im X g m tg iter fi):gE X g m tg iter fi:=PI.imp h fun σ H R ⟨r,G,si,q⟩=>⟨r,G,si,aT q fun ds k J G' H' w y=>k J G' H' w y.toC⟩
theorem BP{K:W.Frag}{a:Addr}{ds:List D}{G0:GH}{H0:Hp}(o:Own K G0 H0 a (.lst ds)):YieldsC K (mC K a) ds G0 H0:=by
 have at_:∀G H,Grow K G0 H0 G H->∃xs,aL K H a xs/\aV K G xs ds:=fun G H w=>by cases(o.mono w).ob with
 |lst r s=>exact⟨_,aL.of r,s⟩
 refine⟨fun G H i w hi=>?_,fun G H i x H' d w y e=>?_,fun G H w=>?_⟩
 .obtain⟨xs,s,r⟩:=at_ G H w;have hl:=Paired.length r;exact⟨xs,xs[i],s,j_ (by omega)⟩
 .obtain⟨xs,s,r⟩:=at_ G H w;obtain⟨rfl,y⟩:=y;obtain⟨v,e1,rv⟩:=Paired.get r e;have:=y xs s;rw[e1]at this;cases this;exact⟨G,Grow.refl w.ok,rv⟩
 .obtain⟨xs,s,r⟩:=at_ G H w;exact⟨xs,s,JV (Paired.length r)⟩
theorem eV(h:SB X g m e f):gE X g m tg e (aI bN f):=by
 refine PI.imp (pd h) fun σ H R ⟨r,G,si,q⟩=>⟨r,G,si,aT (a8 q) fun d q v G' H' w rv=>?_⟩
 obtain⟨ds,e,q⟩:=cB q;cases d with
|lst ds'=>
  cases e;rcases rv with rv|⟨a,rfl,o⟩
  .obtain⟨a,xs,rfl,s,rs⟩:=rv.lst w.ok;exact .inl ⟨a,rfl,⟨xs,s⟩,q _ G' H' w (pw rv).toC⟩
  .cases o.ob with
  |lst r s=>exact .inl ⟨a,rfl,⟨_,aL.of r⟩,q _ G' H' w (BP o)⟩
|tup ds'=>
  cases e;rcases rv with rv|⟨a,rfl,o⟩
  .obtain⟨a,xs,rfl,s,rs⟩:=rv.tup w.ok;exact .inr ⟨a,rfl,⟨xs,s⟩,q _ G' H' w (o8 rv).toC⟩
  .cases o.ob
|_=>cases e
def cu:List D->Option (List D)
|[.int j]=>if-(2^62)<=j/\j<2^62 then some (cr 0 j.toNat)else none
|_=>none
def cF(k:List D->Option (List D))(fl:ag->Res (List D)):FI:=fun r=>(fl r).bind fun ds=>bO (k ds)
theorem j6{pn:Pos}(hg:Gl X "range")(hm:X.mg "range" = none)(ha:fY X g m [a] fl)(hs:l_ [a] X.env=[(false,eval a X.env)]:=by rfl):im X g m tg (.Call (.Name "range" pn) [a] [] pos) (cF cu fl):=by
 refine PI.imp (Fp hg hm ha hs) fun σ H R ⟨r,G,si,q⟩=>⟨r,G,si,aT (a8 q) fun ds q vs G' H' w rs=>?_⟩
 obtain⟨zs,e,q⟩:=cB q;unfold cu at e;split at e
 .split at e
  .rename_i j hj;cases e;cases rs with
  |cons r1 t=>cases t;exact⟨j,by rw[r1.int w.ok],hj.1,hj.2,q _ G' H' w BQ⟩
  .cases e
 .cases e
def aA(ft:FT)(body:FS):List D->FS
|[],r=>.nx r
|d::ds,r=>match ft d r with
 |none=>.stuck
 |some r1=>match body r1 with
  |.nx r'=>aA ft body ds r'
  |.ct r'=>aA ft body ds r'
  |.bk r'=>.nx r'
  |o=>o
def cA(m:List Md)(fi:FI)(ft:FT)(body:FS):FS:=fun r=>eJ m r (fi r) fun ds=>aA ft body ds r
theorem iV(hp:Ks (F_ X.prog X.w) X.A X.env X.xe)(hc:X.calm=true){ft:FT}{fi:FI}(hi:im X g m tg iter fi)(hg:SG X g m tg ft m)(hb:dU X g ro m m sts s1 m)(hs:∀x,Jd iter X.env x=pure x:=by intro _;rfl):SS X g ro mb m (.For tg iter sts [] pos) (cA m fi ft s1) m:=by
 refine⟨rfl,PS.imp (pf hp hc hi hg.2 hb.2 hs) fun D σ H ⟨r,G,si,q⟩=>⟨r,G,si,aT (e8 si rfl q) fun ds q J G0 H0 w0 Y=>?_⟩⟩;refine⟨fun i n σ H=>∃r G,SI X g m r G σ H/\aB G0 G/\i<=ds.length/\n=ds.length-i/\br X g ro m mb G D (aA ft s1 (ds.drop i) r),⟨ds.length,r,G0,si.grow w0,aB.refl G0,Hy _,rfl,br.gle q w0.ge⟩,?_⟩
 rintro i n σ1 H1 ⟨r1,G1,si1,le1,hi,rfl,q1⟩
 by_cases hlt:i<ds.length
 .have hd:ds.drop i=ds[i]::ds.drop (i+1):=I_ hlt;rw[hd]at q1;unfold aA at q1;refine .inr ⟨Y.go G1 H1 i le1 si1.gok hlt,fun σ' H'=>∃r G,SI X g m r G σ' H'/\aB G0 G/\br X g ro m mb G D (aA ft s1 (ds.drop (i+1)) r),fun σ' H' ⟨r',G',si',le',q'⟩=>⟨ds.length-(i+1),by omega,r',G',si',le',hlt,rfl,q'⟩,fun x H' y=>?_⟩;obtain⟨G',w',rv⟩:=Y.yld G1 H1 i x H' ds[i] le1 si1.gok y (j_ hlt);have le':aB G0 G':=le1.trans w'.ge;cases eft:ft ds[i] r1 with
 |none=>simp only[eft]at q1;exact q1.elim
 |some r2=>simp only[eft]at q1;refine⟨r1,G',ds[i],si1.grow w',rv,r2,eft,fun σ2 si2=>⟨r2,G',si2,?_⟩⟩;cases eb:s1 r2 with
  |nx r'=>simp only[eb]at q1;exact fun σ3 G3 H3 le3 si3=>⟨r',G3,si3,le'.trans le3,br.gle q1 (aB.trans w'.ge le3)⟩
  |ct r'=>simp only[eb]at q1;exact fun σ3 G3 H3 le3 si3=>⟨r',G3,si3,le'.trans le3,br.gle q1 (aB.trans w'.ge le3)⟩
  |bk r'=>simp only[eb]at q1;exact fun σ3 G3 H3 le3 si3=>q1 σ3 G3 H3 (aB.trans w'.ge le3) si3
  |rt d=>simp only[eb]at q1;exact q1
  |exc x r'=>simp only[eb]at q1;exact fun pz e s' σ3 G3 H3 le3=>q1 pz e s' σ3 G3 H3 (aB.trans w'.ge le3)
  |stuck=>simp only[eb]at q1;exact q1
 .have e:i=ds.length:=by omega
  subst e;rw[J9]at q1;exact .inl ⟨Y.stop G1 H1 le1 si1.gok,q1 σ1 G1 H1 (aB.refl _) si1⟩
def b3(m:List Md):List Md:=m.map fun x=>if x=Md.sh then Md.sh else Md.bw
def i3(m:List Md)(r:ag)(st:L2.St)(G:GH)(H:Hp):GE:=⟨G,H,fun i=>if m[i]? = some Md.ow\/m[i]? = some Md.bw then some ((st[i]?).join,(r[i]?).join)else none⟩
theorem li{m:List Md}{i:Nat}{x:Md}(h:m[i]? = some x):(b3 m)[i]? = some (if x=Md.sh then Md.sh else Md.bw):=by unfold b3;rw[t_,h];rfl
theorem Ey{m:List Md}{i:Nat}(h:(b3 m)[i]? = some Md.sh):m[i]? = some Md.sh:=by cases q:m[i]? with
|none=>unfold b3 at h;rw[t_,q]at h;cases h
|some x=>rw[li q]at h;cases x <;> first|rfl|(simp at h)
theorem wO{m:List Md}{i:Nat}(h:(b3 m)[i]? = some Md.ow):False:=by cases q:m[i]? with
|none=>unfold b3 at h;rw[t_,q]at h;cases h
|some x=>rw[li q]at h;cases x <;> simp at h
theorem lockM_bw{m:List Md}{i:Nat}(h:(b3 m)[i]? = some Md.bw):m[i]? = some Md.ow\/m[i]? = some Md.bw:=by cases q:m[i]? with
|none=>unfold b3 at h;rw[t_,q]at h;cases h
|some x=>rw[li q]at h;cases x with
 |sh=>simp at h
 |ow=>exact .inl rfl
 |bw=>exact .inr rfl
theorem SI.lock{r:ag}{G:GH}{st:L2.St}{H:Hp}(s:SI X g m r G st H):SI X (i3 m r st G H) (b3 m) r G st H where
 gok:=s.gok
 old:=fun _ _ e=>e
 ge:=fun _ _ e=>e
 gf:=fun _ _=>rfl
 lm:=by unfold b3;rw[m_];exact s.lm
 lr:=s.lr
 sh:=fun i d h hm=>s.sh i d h (Ey hm)
 ow:=fun i d h hm=>(wO hm).elim
 bw:=fun i d h hm=>by
  rcases lockM_bw hm with z|z
  .obtain⟨a,h1,h2,_⟩:=s.ow i d h z;exact⟨_,h1,.inr ⟨a,rfl,h2,h2.ob.isS⟩⟩
  .obtain⟨v,h1,h2⟩:=s.bw i d h z;refine⟨v,h1,?_⟩;rcases h2 with h2|⟨a,e,h2,_⟩
   .exact .inl h2
   .exact .inr ⟨a,e,h2,h2.ob.isS⟩
 dis:=fun i j a d e _ _ _ hm=>(wO hm).elim
 lk:=fun i o h hm=>by
  have h':(if m[i]? = some Md.ow\/m[i]? = some Md.bw then some ((st[i]?).join,(r[i]?).join)else none)=some o:=h;rw[if_pos (lockM_bw hm)]at h';cases h';have hi:i<st.length:=by have:=(i_.mp hm).1;unfold b3 at this;rw[m_,s.lm]at this;exact this
  refine⟨?_,fun d hd=>by rw[hd];rfl⟩;rw[j_ hi];rfl
theorem SI.unlock{r r':ag}{G G':GH}{st st':L2.St}{H H':Hp}(s:SI X g m r G st H)(s':SI X (i3 m r st G H) (b3 m) r' G' st' H'):SI X g m r' G' st' H':=by
 have w:Grow X.K G H G' H':=s'.grown;have hlk:∀(i:Nat),(m[i]? = some Md.ow\/m[i]? = some Md.bw)->st'[i]? = some (st[i]?).join/\∀d,r'[i]? = some (some d)->r[i]? = some (some d):=fun i hi=>by
  have hm:(b3 m)[i]? = some Md.bw:=by rcases hi with z|z <;> rw[li z] <;> simp
  obtain⟨h1,h2⟩:=s'.lk i ((st[i]?).join,(r[i]?).join) (if_pos hi) hm;refine⟨h1,fun d hd=>?_⟩;have:=h2 d hd;cases q:r[i]? with
 |none=>rw[q]at this;cases this
 |some o=>rw[q]at this;rw[show o=some d from this]
 have hst:∀(i:Nat) v,(m[i]? = some Md.ow\/m[i]? = some Md.bw)->st[i]? = some (some v)->st'[i]? = some (some v):=fun i v hi h=>by rw[(hlk i hi).1,h];rfl
 refine⟨s'.gok,fun a o e=>s'.old a o (s.old a o e),fun a d e=>s'.ge a d (s.ge a d e),fun a h=>?_,?_,s'.lr,fun i d h hm=>?_,fun i d h hm=>?_,fun i d h hm=>?_,fun i j a d e hij h1 h2 m1 m2 q1 q2=>?_,fun i o hi hm=>?_⟩
 .have h1:H a≠none:=by cases e:g.h0 a with
  |none=>exact absurd e h
  |some o=>rw[s.old _ _ e];simp
  rw[w.gf a h1,s.gf a h]
 .have:=s'.lm;unfold b3 at this;rw[m_]at this;exact this
 .exact s'.sh i d h (by rw[li hm];simp)
 .obtain⟨a,h1,h2,h3⟩:=s.ow i d ((hlk i (.inl hm)).2 d h) hm;exact⟨a,hst i _ (.inl hm) h1,h2.mono w,h3⟩
 .obtain⟨v,h1,h2⟩:=s.bw i d ((hlk i (.inr hm)).2 d h) hm;exact⟨v,hst i _ (.inr hm) h1,h2.grow w⟩
 .have e1:=(hlk i (.inl m1)).2 d h1;have e2:=(hlk j (.inl m2)).2 e h2;obtain⟨b,z1,_,_⟩:=s.ow i d e1 m1;obtain⟨c,z2,_,_⟩:=s.ow j e e2 m2;have y1:=hst i _ (.inl m1) z1;have y2:=hst j _ (.inl m2) z2;rw[q1]at y1;rw[q2]at y2;cases y1;cases y2;exact s.dis i j a d e hij e1 e2 m1 m2 z1 z2
 .obtain⟨h1,h2⟩:=s.lk i o hi hm;refine⟨?_,fun d hd=>h2 d ((hlk i (.inr hm)).2 d hd)⟩;rw[(hlk i (.inr hm)).1,h1];rfl
theorem SI.unlockX{r r':ag}{G G':GH}{st st':L2.St}{H H':Hp}(s:SI X g m r G st H)(s':SI X (i3 m r st G H) (dZ (b3 m)) r' G' st' H'):SI X g (dZ m) r' G' st' H':=by
 have w:Grow X.K G H G' H':=s'.grown;have el:dZ (b3 m)=dZ m:=lh (by unfold b3;rw[m_]);rw[el]at s';have no:∀{i:Nat}{x:Md},(dZ m)[i]? = some x->x=Md.sh:=fun{i x} h=>by unfold dZ at h;rw[t_]at h;cases q:m[i]? with
 |none=>rw[q]at h;cases h
 |some y=>rw[q]at h;cases h;rfl
 refine⟨s'.gok,fun a o e=>s'.old a o (s.old a o e),fun a d e=>s'.ge a d (s.ge a d e),fun a h=>?_,s'.lm,s'.lr,s'.sh,fun i d h hm=>(nomatch (no hm)),fun i d h hm=>(nomatch (no hm)),fun i j a d e hij h1 h2 m1 m2=>(nomatch (no m1)),fun i o hi hm=>(nomatch (no hm))⟩;have h1:H a≠none:=by cases e:g.h0 a with
 |none=>exact absurd e h
 |some o=>rw[s.old _ _ e];simp
 rw[w.gf a h1,s.gf a h]
theorem pb(hp:Ks (F_ X.prog X.w) X.A X.env X.xe)(hc:X.calm=true){ft:FT}{fi:FI}(hi:gE X g m tg iter fi)(hg:∀g',SG X g' (b3 m) tg ft (b3 m))(hb:∀g',dU X g' ro (b3 m) (b3 m) sts s1 (b3 m))(hs:∀x,Jd iter X.env x=pure x:=by intro _;rfl):SS X g ro mb m (.For tg iter sts [] pos) (cA m fi ft s1) m:=by
 have hgA:PG X tg (fun v σ H Q=>∃g',tG X g' (b3 m) (b3 m) ft v σ H Q):=fun pz s σ H v u Q I r ⟨g',q⟩=>(hg g').2 pz s σ H v u Q I r q;have hbA:bb X sts (fun D σ H=>∃g',tS X g' ro (b3 m) (b3 m) (b3 m) s1 D σ H):=fun pz s σ H D I ⟨g',q⟩=>(hb g').2 pz s σ H D I q;refine⟨rfl,PS.imp (pf hp hc hi hgA hbA hs) fun D σ H ⟨r,G,si,q⟩=>⟨r,G,si,aT (e8 si rfl q) fun ds q J G0 H0 w0 Y=>?_⟩⟩;have si0:=si.grow w0;refine⟨fun i n σ1 H1=>∃r1 G1,SI X (i3 m r σ G0 H0) (b3 m) r1 G1 σ1 H1/\i<=ds.length/\n=ds.length-i/\br X g ro m mb G1 D (aA ft s1 (ds.drop i) r1),⟨ds.length,r,G0,si0.lock,Hy _,rfl,br.gle q w0.ge⟩,?_⟩
 rintro i n σ1 H1 ⟨r1,G1,si1,hi,rfl,q1⟩
 have wg:Grow X.K G0 H0 G1 H1:=si1.grown;by_cases hlt:i<ds.length
 .have hd:ds.drop i=ds[i]::ds.drop (i+1):=I_ hlt;rw[hd]at q1;unfold aA at q1;refine .inr ⟨Y.go G1 H1 i wg hlt,fun σ' H'=>∃r' G',SI X (i3 m r σ G0 H0) (b3 m) r' G' σ' H'/\br X g ro m mb G' D (aA ft s1 (ds.drop (i+1)) r'),fun σ' H' ⟨r',G',si',q'⟩=>⟨ds.length-(i+1),by omega,r',G',si',hlt,rfl,q'⟩,fun x H' y=>?_⟩;obtain⟨G',w',rv⟩:=Y.yld G1 H1 i x H' ds[i] wg y (j_ hlt);cases eft:ft ds[i] r1 with
 |none=>simp only[eft]at q1;exact q1.elim
 |some r2=>simp only[eft]at q1;refine⟨i3 m r σ G0 H0,r1,G',ds[i],si1.grow w',rv,r2,eft,fun σ2 si2=>⟨i3 m r σ G0 H0,r2,G',si2,?_⟩⟩;cases eb:s1 r2 with
  |nx r'=>simp only[eb]at q1;exact fun σ3 G3 H3 le3 si3=>⟨r',G3,si3,br.gle q1 (aB.trans w'.ge le3)⟩
  |ct r'=>simp only[eb]at q1;exact fun σ3 G3 H3 le3 si3=>⟨r',G3,si3,br.gle q1 (aB.trans w'.ge le3)⟩
  |bk r'=>simp only[eb]at q1;exact fun σ3 G3 H3 le3 si3=>q1 σ3 G3 H3 (aB.trans w'.ge le3) (si0.unlock si3)
  |rt d=>simp only[eb]at q1;intro v G2 H2 wr rv2;refine q1 v G2 H2 (si0.grown.trans wr) ?_;cases ro with
   |false=>exact rv2
   |true=>
     rcases rv2 with⟨a,e1,e2,e3⟩|z
     .exact .inl ⟨a,e1,si0.grown.back e2,e3⟩
     .exact .inr z
  |exc x r'=>simp only[eb]at q1;exact fun pz e s' σ3 G3 H3 le3 si3=>q1 pz e s' σ3 G3 H3 (aB.trans w'.ge le3) (si0.unlockX si3)
  |stuck=>simp only[eb]at q1;exact q1
 .have e:i=ds.length:=by omega
  subst e;rw[J9]at q1;exact .inl ⟨Y.stop G1 H1 wg,q1 σ1 G1 H1 (aB.refl _) (si0.unlock si1)⟩
def en(m:List Md)(p:FQ)(body:FS):Nat->FS
|0,_=>.stuck
|n+1,r=>eJ m r (p r) fun c=>if c=true then(match body r with
  |.nx r'=>en m p body n r'
  |.ct r'=>en m p body n r'
  |.bk r'=>.nx r'
  |o=>o)else .nx r
theorem pj(n:Nat)(hp:Ks (F_ X.prog X.w) X.A X.env X.xe)(hc:SQ X g m c p)(hb:dU X g ro m m sts s1 m):SS X g ro mb m (.While c sts [] pos) (en m p s1 n) m:=by
 refine⟨rfl,PS.imp (wU hp hc hb.2) fun D σ H ⟨r,G,si,q⟩=>?_⟩;refine⟨fun n σ H=>∃r G,SI X g m r G σ H/\br X g ro m mb G D (en m p s1 n r),⟨n,r,G,si,q⟩,?_⟩
 rintro n σ1 H1 ⟨r1,G1,si1,q1⟩
 cases n with
|zero=>exact q1.elim
|succ n=>unfold en at q1;refine⟨r1,G1,si1,aT (e8 si1 rfl q1) fun c q2 G2 H2 w2=>?_⟩;cases c with
 |false=>rw[if_neg d_]at q2 ⊢;exact q2 σ1 G2 H2 w2.ge (si1.grow w2)
 |true=>rw[if_pos rfl]at q2 ⊢;refine⟨fun σ' H'=>∃r G,SI X g m r G σ' H'/\br X g ro m mb G D (en m p s1 n r),fun σ' H' h=>⟨n,Iz _,h⟩,r1,G2,si1.grow w2,?_⟩;cases eb:s1 r1 with
  |nx r'=>simp only[eb]at q2;exact fun σ3 G3 H3 le3 si3=>⟨r',G3,si3,br.gle q2 (aB.trans w2.ge le3)⟩
  |ct r'=>simp only[eb]at q2;exact fun σ3 G3 H3 le3 si3=>⟨r',G3,si3,br.gle q2 (aB.trans w2.ge le3)⟩
  |bk r'=>simp only[eb]at q2;exact fun σ3 G3 H3 le3 si3=>q2 σ3 G3 H3 (aB.trans w2.ge le3) si3
  |rt d=>simp only[eb]at q2;exact q2
  |exc x r'=>simp only[eb]at q2;exact fun pz e s' σ3 G3 H3 le3=>q2 pz e s' σ3 G3 H3 (aB.trans w2.ge le3)
  |stuck=>simp only[eb]at q2;exact q2
def jD(m:List Md)(f:FE)(ft:FT):FS:=fun r=>eJ m r (f r) fun d=>match ft d r with
|some r'=>.nx r'
|none=>.stuck
theorem Ap{ft:FT}(he:SE X g m e f)(hg:SG X g m tg ft m')(hs:LV [tg] e pos.line X.env=pure false:=by rfl)(hw:LW [tg] e X.env=pure none:=by rfl)(h1:(Iq [tg] X.env).map (·.2)=[Ki tg X.env]:=by rfl):SS X g ro mb m (.Assign [tg] e pos) (jD m f ft) m':=by refine⟨hg.1,PS.imp (uR he hg.2 hs hw h1) fun D σ H ⟨r,G,si,q⟩=>⟨r,G,si,aT (e8 si hg.1 q) fun d q v G' H' w rv=>?_⟩⟩;cases e1:ft d r with
|none=>simp only[e1]at q;exact q.elim
|some r'=>simp only[e1]at q;exact⟨r,G',d,si.grow w,rv,r',e1,fun σ' si'=>q σ' G' H' w.ge si'⟩
end
def kj:Res D->Res D
|.ok d=>.ok d
|_=>.stuck
@[simp] theorem noX_ok(d:D):kj (.ok d)=.ok d:=rfl
inductive ArgsOk(K:W.Frag)(G:GH)(H:Hp):List Md->List V->List D->Prop where
 |nil:ArgsOk K G H [] [] []
 |sh {v:V} {d:D} {ms:List Md} {vs:List V} {ds:List D}:RG K G v d->ArgsOk K G H ms vs ds->ArgsOk K G H (.sh::ms) (v::vs) (d::ds)
 |bw {v:V} {d:D} {ms:List Md} {vs:List V} {ds:List D}:RB K G H v d->ArgsOk K G H ms vs ds->ArgsOk K G H (.bw::ms) (v::vs) (d::ds)
section
variable{K:W.Frag}{G G':GH}{H H':Hp}
theorem ArgsOk.mono:∀{ms:List Md}{vs:List V}{ds:List D},ArgsOk K G H ms vs ds->Grow K G H G' H'->ArgsOk K G' H' ms vs ds
|_,_,_,.nil,_=>.nil
|_,_,_,.sh h t,w=>.sh (h.mono w.ge) (t.mono w)
|_,_,_,.bw h t,w=>.bw (h.mono w) (t.mono w)
theorem ArgsOk.len{ms:List Md}{vs:List V}{ds:List D}(h:ArgsOk K G H ms vs ds):vs.length=ms.length/\ds.length=ms.length:=by induction h with
|nil=>exact⟨rfl,rfl⟩
|sh h t ih=>exact⟨congrArg (· + 1) ih.1,congrArg (· + 1) ih.2⟩
|bw h t ih=>exact⟨congrArg (· + 1) ih.1,congrArg (· + 1) ih.2⟩
theorem ArgsOk.app{dvs:List V}{dds:List D}(hs:Paired Scl dvs dds):∀{ms:List Md}{vs:List V}{ds:List D},ArgsOk K G H ms vs ds->ArgsOk K G H (ms++HM dds.length .sh) (vs++dvs) (ds++dds)
|_,_,_,.nil=>by induction hs with
 |nil=>exact .nil
 |cons h t ih=>exact .sh (.scl h) ih
|_,_,_,.sh h t=>.sh h (t.app hs)
|_,_,_,.bw h t=>.bw h (t.app hs)
theorem ArgsOk.get:∀{ms:List Md}{vs:List V}{ds:List D}{i:Nat}{d:D},ArgsOk K G H ms vs ds->ds[i]? = some d->∃v,vs[i]? = some v/\((ms[i]? = some .sh/\RG K G v d)\/(ms[i]? = some .bw/\RB K G H v d))
|_,_,_,_,_,.nil,e=>by simp at e
|_,_,_,0,_,.sh h t,e=>by simp at e;subst e;exact⟨_,rfl,.inl ⟨rfl,h⟩⟩
|_,_,_,0,_,.bw h t,e=>by simp at e;subst e;exact⟨_,rfl,.inr ⟨rfl,h⟩⟩
|_,_,_,i+1,d,.sh h t,e=>by obtain⟨v,h1,h2⟩:=t.get (i:=i) (d:=d) (by simpa using e);exact⟨v,by simpa using h1,by simpa using h2⟩
|_,_,_,i+1,d,.bw h t,e=>by obtain⟨v,h1,h2⟩:=t.get (i:=i) (d:=d) (by simpa using e);exact⟨v,by simpa using h1,by simpa using h2⟩
end
def fV(K:W.Frag)(ro:Bool)(ms:List Md)(F:List D->Res D):Sp:=fun vs H Q _=>∃G ds,aC K G H/\ArgsOk K G H ms vs ds/\fin (F ds) (fun d=>∀v G' H',Grow K G H G' H'->RV ro K H G' H' v d->Q v H') fun _=>False
def aD(ro:Bool):Out->Res D
|.nx _=>if ro=true then .stuck else .ok .non
|.rt d=>.ok d
|.exc x _=>.exc x
|_=>.stuck
def aS(n:Nat)(ds:List D):ag:=ds.map some++HM (n-ds.length) none
def gP(n:Nat)(ms:List Md):List Md:=ms++HM (n-ms.length) .sh
section
variable{P:z_}{w:Ht}{K:W.Frag}{mg:Str->Option a_}{base:Heap}
theorem pM{X:Cx}{N:List Str}{ms:List Md}{vs:List V}{ds:List D}{G:GH}{H:Hp}(gk:aC X.K G H)(rs:ArgsOk X.K G H ms vs ds)(hn:ms.length<=N.length):SI X ⟨G,H,fun _=>none⟩ (gP N.length ms) (aS N.length ds) G (L2.bi N vs) H:=by
 obtain⟨l1,l2⟩:=rs.len;have e1:(L2.bi N vs).length=N.length:=by unfold L2.bi;rw[HJ,m_,I0];omega
 have e2:(aS N.length ds).length=N.length:=by unfold aS;rw[HJ,m_,I0];omega
 have e3:(gP N.length ms).length=N.length:=by unfold gP;rw[HJ,I0];omega
 have at_:∀(i:Nat) d,(aS N.length ds)[i]? = some (some d)->i<ms.length/\(gP N.length ms)[i]? = ms[i]?/\∃v,(L2.bi N vs)[i]? = some (some v)/\((ms[i]? = some .sh/\RG X.K G v d)\/(ms[i]? = some .bw/\RB X.K G H v d)):=fun i d h=>by
  unfold aS at h;by_cases hi:i<ds.length
  .rw[HG (by simpa using hi),t_]at h;have hd:ds[i]? = some d:=by cases z:ds[i]? with
   |none=>rw[z]at h;cases h
   |some d'=>rw[z]at h;cases h;rfl
   obtain⟨v,hv,rv⟩:=rs.get hd;refine⟨by omega,?_,v,?_,rv⟩
   .unfold gP;rw[HG (by omega)]
   .unfold L2.bi;rw[HG (by rw[m_];omega),t_,hv];rfl
  .rw[IY (by simpa using hi),Im]at h;split at h <;> cases h
 refine⟨gk,fun _ _ e=>e,fun _ _ e=>e,fun _ _=>rfl,by rw[e3,e1],by rw[e1,e2],fun i d h hm=>?_,fun i d h hm=>?_,fun i d h hm=>?_,fun i j a d e _ h _ hm=>?_,fun i o h=>nomatch h⟩
 .obtain⟨_,hq,v,h1,h2⟩:=at_ i d h;rw[hq]at hm;rcases h2 with⟨_,h2⟩|⟨h3,h2⟩
  .exact⟨v,h1,h2⟩
  .rw[hm]at h3;cases h3
 .obtain⟨_,hq,v,h1,h2⟩:=at_ i d h;rw[hq]at hm;rcases h2 with⟨h3,h2⟩|⟨h3,h2⟩ <;> rw[hm]at h3 <;> cases h3
 .obtain⟨_,hq,v,h1,h2⟩:=at_ i d h;rw[hq]at hm;rcases h2 with⟨h3,h2⟩|⟨h3,h2⟩
  .rw[hm]at h3;cases h3
  .refine⟨v,h1,?_⟩;rcases h2 with h2|⟨a,rfl,h2⟩
   .exact .inl h2
   .exact .inr ⟨a,rfl,h2,h2.ob.isS⟩
 .obtain⟨_,hq,v,h1,h2⟩:=at_ i d h;rw[hq]at hm;rcases h2 with⟨h3,h2⟩|⟨h3,h2⟩ <;> rw[hm]at h3 <;> cases h3
theorem xi{X:Cx}{ro:Bool}{fs:FS}{m':List Md}{G:GH}{H:Hp}{r:ag}{Q:VK}(q:fin (aD ro (fs r)) (fun d=>∀v G' H',Grow X.K G H G' H'->RV ro X.K H G' H' v d->Q v H') fun _=>False):br X ⟨G,H,fun _=>none⟩ ro m' [] G { nx:=fun _ H'=>Q .non H',rt:=Q } (fs r):=by cases e:fs r with
|nx r'=>rw[e]at q;cases ro with
 |false=>exact fun σ' G' H' _ si=>q .non G' H' si.grown (.scl .non)
 |true=>exact q.elim
|rt d=>rw[e]at q;exact fun v G' H' wg rv=>q v G' H' wg rv
|bk r'=>rw[e]at q;exact q.elim
|ct r'=>rw[e]at q;exact q.elim
|exc x r'=>rw[e]at q;exact q.elim
|stuck=>rw[e]at q;exact q
theorem vE{x qual:Str}{st:Stmt}{f:Addr}{fd:Iy}{N ps:List Str}{k:Nat}{ro:Bool}{ms:List Md}{fs:FS}{m':List Md}(F:Fun K x qual st f fd)(S:FnScope N ps (az st))(hms:ms.length=ps.length)(hbody:∀(cdv:a_)(A:HA)(outer:List Env)(s:g_)(H:Hp)(g:GE)(E:XK),Room k (A.deeper (JW qual (az st) s.heap.objs.size f cdv)) ->dU (aR bB P w K mg base N qual (az st) f cdv A outer s H E).nox g ro [] (gP N.length ms) (c6 st) fs m'):FnOk P w K mg base bB (k+1) f fd ps (fV K ro ms fun ds=>aD ro (fs (aS N.length ds))):=by
 refine F.ok S (fun vs H Q E ⟨G,ds,gk,rs,q⟩=>rs.len.1.trans hms) fun cdv A outer s H vs Q E hr h=>?_;obtain⟨G,ds,gk,rs,q⟩:=h;have hpl:ps.length<=N.length:=by have:=congrArg KM S.pre;rw[JI]at this;omega
 exact⟨_,(hbody cdv A outer s H ⟨G,H,fun _=>none⟩ E hr).2,aS N.length ds,G,pM gk rs (by omega),xi q⟩
end
section
variable{X:Cx}{g:GE}{m:List Md}{e:Expr}{f:FE}{es:List Expr}{fl:ag->Res (List D)}{k:Nat}{fa:Addr}{fd:Iy}{ps:List Str}{F:List D->Res D}{dvs:List V}{ds:List a_}{dds:List D}{x:Str}{p pos:Pos}{ms:List Md}
def GW(X:Cx)(g:GE)(m:List Md)(ms:List Md)(f:ag->Res (List D)):TA:=fun σ H Q=>∃r G,SI X g m r G σ H/\fin (f r) (fun ds=>∀vs G' H',Grow X.K G H G' H'->ArgsOk X.K G' H' ms vs ds->Q vs H') (XW X σ G H)
def fL(X:Cx)(g:GE)(m:List Md)(es:List Expr)(ms:List Md)(f:ag->Res (List D)):Prop:=PA X es (GW X g m ms f)
theorem ba:fL X g m [] [] af:=PA.imp gN fun σ H Q ⟨r,G,si,k⟩=>k [] G H (Grow.refl si.gok) .nil
theorem eL(ha:SE X g m e f)(hr:fL X g m es ms fl)(hs:l_ (e::es) X.env=(false,eval e X.env)::l_ es X.env:=by rfl):fL X g m (e::es) (.sh::ms) (aj f fl):=by
 refine PA.imp (gp ha hr hs) fun σ H Q ⟨r,G,si,k⟩=>⟨r,G,si,aT (a8 k) fun d k1 v G1 H1 w1 r1=>⟨r,G1,si.grow w1,?_⟩⟩
 exact gq (a8 k1) w1 fun ds z vs G2 H2 w2 r2=>z (v::vs) G2 H2 (w1.trans w2) (.sh (r1.mono w2.ge) r2)
theorem ah(ha:SB X g m e f)(hr:fL X g m es ms fl)(hs:l_ (e::es) X.env=(false,eval e X.env)::l_ es X.env:=by rfl):fL X g m (e::es) (.bw::ms) (aj f fl):=by
 refine PA.imp (gp ha hr hs) fun σ H Q ⟨r,G,si,k⟩=>⟨r,G,si,aT (a8 k) fun d k1 v G1 H1 w1 r1=>⟨r,G1,si.grow w1,?_⟩⟩
 exact gq (a8 k1) w1 fun ds z vs G2 H2 w2 r2=>z (v::vs) G2 H2 (w1.trans w2) (.bw (r1.mono w2) r2)
def aJ(fl:ag->Res (List D))(dds:List D)(F:List D->Res D):FE:=fun r=>(fl r).bind fun ds=>kj (F (ds++dds))
theorem pZ{ro:Bool}{vs:List V}{zs:List D}{G:GH}{H:Hp}{Q:VK}(gk:aC X.K G H)(rs:ArgsOk X.K G H ms vs zs)(hsc:Paired Scl dvs dds)(q:fin (kj (F (zs++dds))) (fun d=>∀v G' H',Grow X.K G H G' H'->RV ro X.K H G' H' v d->Q v H') fun _=>False):fV X.K ro (ms++HM dds.length .sh) F (vs++dvs) H Q E0:=by refine⟨G,zs++dds,gk,rs.app hsc,?_⟩;cases e:F (zs++dds)with
|ok d=>rw[e]at q;exact q
|exc x=>rw[e]at q;exact q.elim
|stuck=>rw[e]at q;exact q.elim
theorem qa{α:Type}{r:Res α}{q:α->Prop}{x:D->Prop}(h:fin r q x)(hr:∀e,r≠.exc e):fin r q fun _=>False:=by cases r with
|ok a=>exact h
|exc e=>exact absurd rfl (hr e)
|stuck=>exact h
theorem oW(r:Res D)(e:D):kj r≠.exc e:=by cases r <;> simp[kj]
theorem B6(G1:FnOk X.prog X.w X.K X.mg X.base bB k fa fd ps (fV X.K false (ms++HM dds.length .sh) F))(hr:Room k X.A)(hg:Gl X x)(hm:X.mg x=some (.ref fa))(hk:W.keepIn X.K (.ref fa)=true)(hb:dY X.K fd ps ds)(hd:ai dvs ds)(hsc:Paired Scl dvs dds)(ha:fL X g m (e::es) ms fl)(hdb:(x==("__debug__" : Str))=false:=by decide)(he:l_ (e::es) X.env=(false,eval e X.env)::l_ es X.env:=by rfl)(hpl:(backTo pos (l_ es X.env)).any (·.1)=false:=by rfl):SE X g m (.Call (.Name x p) (e::es) [] pos) (aJ fl dds F):=by
 refine PE.imp (m6 G1 hr hg hm hk hb hd mP ha hdb he hpl) fun σ H Q ⟨r,G,si,q⟩=>⟨r,G,si,?_⟩
 cases ez:fl r with
|ok zs=>unfold aJ at q;rw[ez]at q;intro vs G' H' w' rs;exact pZ w'.ok rs hsc (aT (qa q (oW _)) fun d k v G2 H2 w2 rv=>k v G2 H2 (w'.trans w2) rv)
|exc x=>unfold aJ at q;rw[ez]at q;exact q
|stuck=>unfold aJ at q;rw[ez]at q;exact q
theorem Cq(G1:FnOk X.prog X.w X.K X.mg X.base bB k fa fd ps (fV X.K true (ms++HM dds.length .sh) F))(hr:Room k X.A)(hg:Gl X x)(hm:X.mg x=some (.ref fa))(hk:W.keepIn X.K (.ref fa)=true)(hb:dY X.K fd ps ds)(hd:ai dvs ds)(hsc:Paired Scl dvs dds)(ha:fL X g m (e::es) ms fl)(hdb:(x==("__debug__" : Str))=false:=by decide)(he:l_ (e::es) X.env=(false,eval e X.env)::l_ es X.env:=by rfl)(hpl:(backTo pos (l_ es X.env)).any (·.1)=false:=by rfl):SE X g m (.Call (.Name x p) (e::es) [] pos) (aJ fl dds F):=by
 intro pz s σ H Q I ⟨r,G,si,q⟩;refine aF (m6 G1 hr hg hm hk hb hd mP ha hdb he hpl pz s σ H (fun v H'=>Q v H'\/∃a,∀ob,Q v (fz H' a ob)) I ⟨r,G,si,?_⟩) fun u s' ⟨v,H',I',rv,z⟩=>?_
 .cases ez:fl r with
 |ok zs=>
   unfold aJ at q;rw[ez]at q;intro vs G' H' w' rs;refine pZ w'.ok rs hsc (aT (qa q (oW _)) fun d k v G2 H2 w2 rv=>?_);rcases RV.toF w2 rv with⟨G3,w3,r3⟩|⟨a,z⟩
   .exact .inl (k v G3 H2 (w'.trans w3) r3)
   .refine .inr ⟨a,fun ob=>?_⟩;obtain⟨G3,w3,r3⟩:=z ob;exact k v G3 _ (w'.trans w3) r3
 |exc x=>unfold aJ at q;rw[ez]at q;exact q
 |stuck=>unfold aJ at q;rw[ez]at q;exact q
 .rcases z with z|⟨a,z⟩
  .exact⟨v,H',I',rv,z⟩
  .obtain⟨ob,I2⟩:=Inv.fast I' a;exact⟨v,_,I2,rv,z ob⟩
def eG(f:FE):FE:=fun r=>(f r).bind fun d=>match d with
|.non=>.stuck
|d=>.ok d
theorem AV(G1:FnOk X.prog X.w X.K X.mg X.base bB k fa fd ps (fV X.K true (ms++HM dds.length .sh) F))(hr:Room k X.A)(hg:Gl X x)(hm:X.mg x=some (.ref fa))(hk:W.keepIn X.K (.ref fa)=true)(hb:dY X.K fd ps ds)(hd:ai dvs ds)(hsc:Paired Scl dvs dds)(ha:fL X g m (e::es) ms fl)(hdb:(x==("__debug__" : Str))=false:=by decide)(he:l_ (e::es) X.env=(false,eval e X.env)::l_ es X.env:=by rfl)(hpl:(backTo pos (l_ es X.env)).any (·.1)=false:=by rfl):SO X g m (.Call (.Name x p) (e::es) [] pos) (eG (aJ fl dds F)):=by
 refine PE.imp (m6 G1 hr hg hm hk hb hd mP ha hdb he hpl) fun σ H Q ⟨r,G,si,q⟩=>⟨r,G,si,?_⟩
 cases ez:fl r with
|ok zs=>
  have q:=a8 q;unfold aJ at q;rw[ez]at q;intro vs G' H' w' rs;refine pZ w'.ok rs hsc (aT (qa q (oW _)) fun d k v G2 H2 w2 rv=>?_);rcases rv with⟨a,rfl,hn,ho⟩|⟨rfl,rfl⟩
  .cases d with
  |non=>exact k.elim
  |_=>exact k a G2 H2 (w'.trans w2) (w'.back hn) ho
  .exact k.elim
|exc x=>have q:=a8 q;unfold aJ at q;rw[ez]at q;exact q
|stuck=>have q:=a8 q;unfold aJ at q;rw[ez]at q;exact q
end
theorem Dp{env:Env}:∀(l:List (Str×JE))(cs:List (Str×Addr)),(∀x∈l,x.2=.free->∃c,env.cells.lookup x.1=some c)->(∀x c,cs.lookup x=some c->env.cells.lookup x=some c) ->∃cl,(forIn l cs (fun(x:Str×JE)(cs:List (Str×Addr))=>if (x.2==NameKind.free)=true then(do let a <-N4 env x.1;pure (ForInStep.yield ((x.1,a)::cs)))else pure (ForInStep.yield cs)):Sem (List (Str×Addr)))=pure cl /\(∀x c,cl.lookup x=some c->env.cells.lookup x=some c)/\(∀x,(x,NameKind.free)∈l->∃c,cl.lookup x=some c)/\(∀x c,cs.lookup x=some c->∃c',cl.lookup x=some c'):=by
 intro l
 induction l with
|nil=>intro cs _ h;exact⟨cs,rfl,h,fun x hx=>(by cases hx),fun x c h=>⟨c,h⟩⟩
|cons y l ih=>
  intro cs hf hc;obtain⟨n,k⟩:=y;by_cases hk:k=.free
  .subst hk;obtain⟨c,ec⟩:=hf (n,.free) c_ rfl;have e1:N4 env n=pure c:=by unfold N4;rw[ec]
   have hc':∀x c',((n,c)::cs).lookup x=some c'->env.cells.lookup x=some c':=fun x c' h=>by rw[Jp]at h;cases q:x==n with
   |true=>rw[q]at h;cases h;rw[Kt q];exact ec
   |false=>rw[q]at h;exact hc x c' h
   obtain⟨cl,e2,h1,h2,h3⟩:=ih ((n,c)::cs) (fun x hx=>hf x (f_ _ hx)) hc';refine⟨cl,?_,h1,fun x hx=>?_,fun x c' h=>?_⟩
   .rw[<-e2];rw[MK];show(N4 env n >>= fun a=>pure (ForInStep.yield ((n,a)::cs))) >>= _=_;rw[e1];rfl
   .rcases x_.mp hx with z|z
    .cases z;exact h3 n c (by rw[Jp];simp)
    .exact h2 x z
   .cases q:x==n with
   |true=>exact h3 x c (by rw[Jp,q])
   |false=>exact h3 x c' (by rw[Jp,q];exact h)
  .obtain⟨cl,e2,h1,h2,h3⟩:=ih cs (fun x hx=>hf x (f_ _ hx)) hc;have hb:(k==NameKind.free)=false:=by simpa using hk
   refine⟨cl,?_,h1,fun x hx=>?_,h3⟩
   .rw[<-e2,MK];simp only[hb,HK,if_false];rfl
   .rcases x_.mp hx with z|z
    .cases z;exact absurd rfl hk
    .exact h2 x z
theorem Fa{scope:JC}{env:Env}(hf:∀x∈scope.names,x.2=.free->∃c,env.cells.lookup x.1=some c):∃cl,M_ scope env=pure cl/\(∀x c,cl.lookup x=some c->env.cells.lookup x=some c)/\(∀x,(x,NameKind.free)∈scope.names->∃c,cl.lookup x=some c):=by obtain⟨cl,e,h1,h2,_⟩:=Dp scope.names [] hf (fun x c h=>by cases h);refine⟨cl,?_,h1,h2⟩;have e0:M_ scope env=((forIn scope.names ([]:List (Str×Addr)) (fun(x:Str×JE)(cs:List (Str×Addr))=>if (x.2==NameKind.free)=true then(do let a <-N4 env x.1;pure (ForInStep.yield ((x.1,a)::cs)))else pure (ForInStep.yield cs)):Sem (List (Str×Addr))) >>= fun cs=>pure cs):=rfl;rw[e0,e];rfl
theorem zc{f:Str->JE->JE}:∀(l:List (Str×JE))(x:Str),(l.map fun y=>(y.1,f y.1 y.2)).lookup x=(l.lookup x).map (f x)
|[],x=>rfl
|(n,k)::l,x=>by rw[y_,Jp,Jp];cases q:x==n with
 |true=>simp[Kt q]
 |false=>exact zc l x
def cR(env:Env)(n:Str)(k:JE):JE:=if (k==.free&&env.scope.kind==.function&&env.kindOf n==some .cell)=true then .cell else k
theorem zf(scope:JC)(env:Env)(x:Str):(Mj scope env).names.lookup x=(scope.names.lookup x).map (cR env x):=by
 rw[<-zc];unfold Mj;congr 1;apply Jm;intro y _;obtain⟨n,k⟩:=y;show(if (k==NameKind.free&&env.scope.kind==.function&&env.kindOf n==some .cell)=true then(n,NameKind.cell)else(n,k))=(n,cR env n k)
 unfold cR;split <;> rfl
structure CompSc(X:Cx)(scope:JC)(N':List Str)(nl:Nat)(cap:List Nat):Prop where
 kind:scope.kind=.function
 nocell:∀y∈scope.names,y.2≠.cell
 names:∀y∈scope.names,y.2=.local->scope.names.lookup y.1=some .local
 freeK:∀y∈scope.names,y.2=.free->X.env.kindOf y.1=some .cell\/X.env.kindOf y.1=some .free
 len:N'.length=nl+cap.length
 capN:∀j,j<cap.length->∃x,N'[nl+j]? = some x/\X.N[cap.getD j 0]? = some x/\scope.names.lookup x=some .free
def dQ(X:Cx)(s₀:g_)(H₀:Hp)(N':List Str)(scope:JC)(cl:List (Str×Addr))(C:Addr)(fp:List Addr):Cx where
 prog:=X.prog
 w:=X.w
 K:=X.K
 mg:=X.mg
 base:=X.base
 A:=X.A
 N:=N'
 s₀:=s₀
 H₀:=H₀
 env:=LF scope cl C X.env
 outer:=X.stack
 stack:=X.stack
 ex:=fp
 fn:=fun _=>false
 calm:=X.calm
 pn:=[]
 xe:=fun _ _=>False
section
variable{X:Cx}{pz:List (Addr×Obj)}{σ:L2.St}{H:Hp}{s:g_}{scope:JC}{N':List Str}{nl:Nat}{cap:List Nat}{cl:List (Str×Addr)}{C:Addr}{fp:List Addr}
theorem Ab(I:Inv X pz σ H s)(sc:CompSc X scope N' nl cap)(h1:∀x c,cl.lookup x=some c->X.env.cells.lookup x=some c)(h2:∀x,(x,NameKind.free)∈scope.names->∃c,cl.lookup x=some c)(hf:∀b∈fp,cx X pz H b/\b<s.heap.objs.size)(hC:s.heap.objs.size<=C):(dQ X s H N' scope cl C fp).Ok where
 mod:=I.ok.mod
 kind:=sc.kind
 glob:=I.ok.glob
 blt:=I.ok.blt
 above:=hC
 inj:=fun x y c a b=>I.ok.inj x y c (h1 x c a) (h1 y c b)
 has:=fun x hk=>by
  have hk':(scope.names.lookup x).map (cR X.env x)=some .cell\/(scope.names.lookup x).map (cR X.env x)=some .free:=by rw[<-zf];exact hk
  cases e:scope.names.lookup x with
 |none=>rw[e]at hk';rcases hk' with z|z <;> cases z
 |some k=>
   have hm:=Ix e;have kf:k=.free:=by
    rw[e]at hk';have hk2:cR X.env x k=.cell\/cR X.env x k=.free:=by
     rcases hk' with z|z
     .exact .inl (G_ z)
     .exact .inr (G_ z)
    unfold cR at hk2;split at hk2
    .rename_i hc;simp only[Hs,beq_iff_eq]at hc;exact hc.1.1
    .rcases hk2 with z|z
     .exact absurd z (sc.nocell _ hm)
     .exact z
   subst kf;exact h2 x hm
 cab:=fun x c h=>by cases h
 hd:=I.ok.hd
 frames:=I.ok.frames
 stk:=.inl rfl
 exf:=fun b hb=>⟨B_ (A_ (hf b hb).2 hC),fun x c e=>(hf b hb).1.2.2.2.2.1 x c (h1 x c e)⟩
 bs:=I.bs
 bsz:=HZ I.ok.bsz I.sz
 noex:=fun b o e hb=>by
  obtain⟨_,_,_,hx,_⟩:=(hf b hb).1;rcases hx with z|z
  .exact I.ok.noex b o e z
  .exact absurd (A_ (p_ e) (HZ I.ok.bsz z)) (Ii _)
 exfs:=fun b hb hfs=>by
  obtain⟨_,q1,q2,_⟩:=(hf b hb).1;rcases x_.mp (I.stkSub b hfs)with z|z
  .exact q1 z
  .exact q2 z
 funs:=I.stack
 frf:=I.stkFree
end
def d9(ft:FT)(q:FQ)(fe:FE)(r0:ag):List D->Res (List D)
|[]=>.ok []
|d::ds=>(bO (ft d r0)).bind fun r1=>(q r1).bind fun c=>if c=true then(fe r1).bind fun v=>(d9 ft q fe r0 ds).bind fun vs=>.ok (v::vs)else d9 ft q fe r0 ds
def aU(nl:Nat)(cap:List Nat)(r:ag):ag:=HM nl none++cap.map fun i=>r.getD i none
def aE(nl:Nat)(cap:List Nat)(m:List Md):List Md:=HM nl Md.sh++cap.map fun i=>if m.getD i Md.sh=Md.sh then Md.sh else Md.bw
def cw(nl:Nat)(cap:List Nat)(st:L2.St):L2.St:=HM nl none++cap.map fun i=>st.getD i none
theorem kT{α:Type}{nl:Nat}{cap:List Nat}{u:α}{h:Nat->α}{i:Nat}(hi:nl<=i):(HM nl u++cap.map h)[i]? = (cap[i-nl]?).map h:=by rw[IY (by simpa using hi),I0,t_]
section
variable{X:Cx}{pz:List (Addr×Obj)}{σ:L2.St}{H H':Hp}{s:g_}{scope:JC}{N':List Str}{nl:Nat}{cap:List Nat}{cl:List (Str×Addr)}{C:Addr}{fp:List Addr}{g:GE}{G G':GH}{m:List Md}{r:ag}
theorem zD(si:SI X g m r G σ H)(w:Grow X.K G H G' H'):SI (dQ X s H N' scope cl C fp) ⟨G,H,fun _=>none⟩ (aE nl cap m) (aU nl cap r) G' (cw nl cap σ) H':=by
 have lens:(aE nl cap m).length=nl+cap.length:=by simp[aE]
 have lens2:(aU nl cap r).length=nl+cap.length:=by simp[aU]
 have lens3:(cw nl cap σ).length=nl+cap.length:=by simp[cw]
 have rget:∀(i:Nat) d,(aU nl cap r)[i]? = some (some d)->nl<=i/\∃j,cap[i-nl]? = some j/\r[j]? = some (some d):=fun i d h=>by
  by_cases hi:i<nl
  .unfold aU at h;rw[HG (by simpa using hi),Im]at h;split at h <;> cases h
  .refine⟨by omega,?_⟩;unfold aU at h;rw[kT (by omega)]at h;cases e:cap[i-nl]? with
  |none=>rw[e]at h;cases h
  |some j=>rw[e]at h;refine⟨j,rfl,?_⟩;have h':r.getD j none=some d:=G_ h;rw[s_]at h';cases e2:r[j]? with
   |none=>rw[e2]at h';cases h'
   |some o=>rw[e2]at h';rw[show o=some d from h']
 have mget:∀(i j:Nat) md,nl<=i->cap[i-nl]? = some j->(aE nl cap m)[i]? = some md->md=if m.getD j Md.sh=Md.sh then Md.sh else Md.bw:=fun i j md hi hj h=>by unfold aE at h;rw[kT hi,hj]at h;exact(G_ h).symm
 have sget:∀(i j:Nat) v,nl<=i->cap[i-nl]? = some j->σ[j]? = some (some v)->(cw nl cap σ)[i]? = some (some v):=fun i j v hi hj h=>by unfold cw;rw[kT hi,hj];show some (σ.getD j none)=_;rw[s_,h];rfl
 have mj:∀(j:Nat) d,r[j]? = some (some d)->m[j]? = some (m.getD j Md.sh):=fun j d h=>by
  have hl:j<m.length:=by have:=(i_.mp h).1;rw[si.lr,<-si.lm]at this;exact this
  rw[s_,j_ hl];rfl
 refine⟨w.ok,w.he,w.ge,w.gf,by rw[lens,lens3],by rw[lens2,lens3],fun i d h hm=>?_,fun i d h hm=>?_,fun i d h hm=>?_,fun i j a d e _ h _ hm=>?_,fun i o h=>nomatch h⟩
 .obtain⟨hi,j,hj,hr⟩:=rget i d h;have e:=mget i j _ hi hj hm;have hsh:m.getD j Md.sh=Md.sh:=by
   by_cases z:m.getD j Md.sh=Md.sh
   .exact z
   .rw[if_neg z]at e;cases e
  obtain⟨v,h1,h2⟩:=si.sh j d hr (by rw[mj j d hr,hsh]);exact⟨v,sget i j v hi hj h1,h2.mono w.ge⟩
 .obtain⟨hi,j,hj,hr⟩:=rget i d h;have e:=mget i j _ hi hj hm;split at e <;> cases e
 .obtain⟨hi,j,hj,hr⟩:=rget i d h;have e:=mget i j _ hi hj hm;have hsh:m.getD j Md.sh≠Md.sh:=by intro z;rw[if_pos z]at e;cases e
  have hmj:=mj j d hr;cases q:m.getD j Md.sh with
 |sh=>exact absurd q hsh
 |ow=>rw[q]at hmj;obtain⟨a,h1,h2,_⟩:=si.ow j d hr hmj;exact⟨_,sget i j _ hi hj h1,.inr ⟨a,rfl,h2.mono w,h2.ob.isS⟩⟩
 |bw=>
   rw[q]at hmj;obtain⟨v,h1,h2⟩:=si.bw j d hr hmj;refine⟨v,sget i j _ hi hj h1,?_⟩;rcases h2 with h2|⟨a,rfl,h2,_⟩
   .exact .inl (h2.mono w.ge)
   .exact .inr ⟨a,rfl,h2.mono w,h2.ob.isS⟩
 .obtain⟨hi,j',hj,hr⟩:=rget i d h;have e:=mget i j' _ hi hj hm;split at e <;> cases e
theorem Aa(I:Inv X pz σ H s)(ok:(dQ X s H N' scope cl C fp).Ok)(sc:CompSc X scope N' nl cap)(h1:∀x c,cl.lookup x=some c->X.env.cells.lookup x=some c)(h2:∀x,(x,NameKind.free)∈scope.names->∃c,cl.lookup x=some c)(hN:X.N.Nodup){s4:g_}{H4:Hp}{mc:Str->Option a_}(hos:s4.os=s.os)(hb:Kd s4.gens)(kp:∀b o,s.heap.get? b=some o->s4.heap.get? b=some o)(hns:s4.heap.Ns C mc)(hC:s.heap.objs.size<=C)(hHC:H4 C=none)(hH:∀b,H b=none->b<s.heap.objs.size->H4 b=none)(un:Un (cJ X.stack) fp H H4 s.heap s4.heap)(hok:bU X.prog X.w H4 s4.heap):Inv (dQ X s H N' scope cl C fp) [] (cw nl cap σ) H4 s4:=by
 refine⟨ok,hos,hb,un,⟨mc,hns,fun i x v e1 e2 e3=>?_⟩,fun x c e=>?_,hHC,fun x c e=>?_,fun p hp=>absurd (show p∈([]:List (Addr×Obj))from hp) (by simp),hok,?_⟩
 .have hi:nl<=i:=by
   by_cases z:i<nl
   .unfold cw at e2;rw[HG (by simpa using z),Im]at e2;split at e2 <;> cases e2
   .omega
  unfold cw at e2;rw[kT hi]at e2;cases ej:cap[i-nl]? with
 |none=>rw[ej]at e2;cases e2
 |some j=>
   rw[ej]at e2;have hj:i-nl<cap.length:=(i_.mp ej).1;obtain⟨x',q1,q2,q3⟩:=sc.capN (i-nl) hj;have ed:cap.getD (i-nl) 0=j:=by rw[s_,ej];rfl
   rw[ed]at q2;have ei:nl+(i-nl)=i:=by omega
   rw[ei]at q1;have e1':N'[i]? = some x:=e1;rw[q1]at e1';have ex:x'=x:=G_ e1';subst ex;have hv:σ[j]? = some (some v):=by have z:σ.getD j none=some v:=G_ e2;rw[s_]at z;cases q:σ[j]? with
   |none=>rw[q]at z;cases z
   |some o=>rw[q]at z;rw[show o=some v from z]
   have hfree:=Ix q3;have kX:=sc.freeK _ hfree rfl;obtain⟨mx,hnx,hl⟩:=I.loc;obtain⟨u,ru,lk⟩:=hl j x' v q2 hv (.inr kX);refine⟨u,ru,.inr ?_⟩;obtain⟨c,ec⟩:=h2 x' hfree;have hkk:Env.kindOf (dQ X s H N' scope cl C fp).env x'=some .cell\/Env.kindOf (dQ X s H N' scope cl C fp).env x'=some .free:=by
    have z:(Mj scope X.env).names.lookup x'=some (cR X.env x' .free):=by rw[zf,q3];rfl
    show(Mj scope X.env).names.lookup x'=_\/(Mj scope X.env).names.lookup x'=_;rw[z];unfold cR;split
    .exact .inl rfl
    .exact .inr rfl
   refine⟨hkk,c,ec,?_⟩;rcases lk with⟨k,_⟩|⟨_,c',ec',hcell⟩
   .rcases kX with z|z <;> rw[k]at z <;> cases z
   .rw[h1 x' c ec]at ec';cases ec';obtain⟨o,ho,hd⟩:=hcell;exact⟨o,kp c o ho,hd⟩
 .obtain⟨v,o,ho,hd⟩:=I.cell x c (h1 x c e);exact⟨v,o,kp c o ho,hd⟩
 .obtain⟨v,o,ho,hd⟩:=I.cell x c (h1 x c e);exact hH c (I.freeC x c (h1 x c e)) (p_ ho)
 .show(cw nl cap σ).length=N'.length;rw[sc.len];simp[cw]
end
section
variable{prog:z_}{w:Ht}{A:HA}{R:NZ->g_->Prop}{s:g_}
theorem BY{elt target iter:Expr}{ifs:List Expr}{scope:JC}{pos:Pos}{it acc:a_}{env:Env}(I:Nat->g_->Prop)(turn:∀n s,I n s->C_ (F_ prog w) A (LC it) (fun r s1=>match r with
  |none=>R (.ok .next) s1
  |some v=>C_ (F_ prog w) A (Kj target it v) (fun _ s1'=>C_ (F_ prog w) A (Ki target env v) (fun _ s2=>
     C_ (F_ prog w) A (forIn ifs true fun c r=>if r=true then do let ok <-isTrue c env (eval c env);pure (ForInStep.yield ok)else pure (ForInStep.yield r)) (fun ok s3=>
      if ok=true then C_ (F_ prog w) A (eval elt env) (fun x s4=>C_ (F_ prog w) A (call (.builtin "list.append") [acc,x]) (fun _ s5=>∃m,m<n/\I m s5) (Lo (F_ prog w) A env fun e s'=>R (.error e) s') s4) (Lo (F_ prog w) A env fun e s'=>R (.error e) s') s3
      else ∃m,m<n/\I m s3) (Lo (F_ prog w) A env fun e s'=>R (.error e) s') s2) (Lo (F_ prog w) A env fun e s'=>R (.error e) s') s1')
     (Lo (F_ prog w) A env fun e s'=>R (.error e) s') s1) (Lo (F_ prog w) A env fun e s'=>R (.error e) s') s)(n:Nat)(h:I n s):KL (F_ prog w) A (.compLoop (.ListComp elt [⟨target,iter,ifs,0⟩] scope pos) 0 it acc env) R s:=by refine codeAny_loop rfl I (fun n s hI=>?_) n h;show C_ _ A ((compTurn (.ListComp elt [⟨target,iter,ifs,0⟩] scope pos) 0 it acc env).onRaise (fun x=>do noteFrame x env;theTreesLotGoes x)) _ _ s;refine wpAny_noted ?_;rw[compTurn_list];refine e_ (KS (e_ (IK (turn n s hI) (fun r s1 h1=>?_) fun _ _ h'=>h')));cases r with
|none=>exact o_ h1
|some v=>refine e_ (IK h1 (fun _ s1' h1'=>?_) fun _ _ h'=>h');refine e_ (IK h1' (fun _ s2 h2=>e_ (IK h2 (fun ok s3 h3=>?_) fun _ _ h'=>h')) fun _ _ h'=>h');cases ok with
 |false=>exact o_ ⟨rfl,h3⟩
 |true=>exact e_ (e_ (IK h3 (fun x s4 h4=>e_ (IK h4 (fun _ s5 h5=>o_ (o_ ⟨rfl,h5⟩)) fun _ _ h'=>h')) fun _ _ h'=>h'))
end
def jG(X:Cx)(g:GE)(m:List Md)(ifs:List Expr)(f:FQ):Prop:=∀(pz:List (Addr×Obj))(s:g_)(σ:L2.St)(H:Hp)(Q:Bool->Hp->Prop),Inv X pz σ H s->tQ X g m f σ H Q ->C_ (F_ X.prog X.w) X.A (forIn ifs true fun c r=>if r=true then do let ok <-isTrue c X.env (eval c X.env);pure (ForInStep.yield ok)else pure (ForInStep.yield r)) (TP X pz σ Q) X.xe s
section
variable{X:Cx}{g:GE}{m:List Md}{c:Expr}{p:FQ}
theorem kP:jG X g m [] fun _=>.ok true:=fun pz s σ H Q I ⟨r,G,si,q⟩=>wpAny_tests_nil ⟨H,I,q G H (Grow.refl si.gok)⟩
theorem iH(h:SQ X g m c p):jG X g m [c] p:=fun pz s σ H Q I q=>wpAny_tests_one (h pz s σ H Q I q)
end
def io(ft:FT)(nl:Nat):Prop:=∀d r r1,ft d r=some r1->r1.length=r.length/\∀i,nl<=i->r1[i]? = r[i]?
theorem fw{i nl:Nat}(h:i<nl):io (aG i) nl:=fun d r r1 e=>by cases e;exact⟨by simp,fun j hj=>by rw[b_ (by omega)]⟩
section
variable{X:Cx}{pz:List (Addr×Obj)}{σ:L2.St}{H2:Hp}{s2:g_}{scope:JC}{N':List Str}{nl:Nat}{cap:List Nat}{cl:List (Str×Addr)}{fp:List Addr}{g:GE}{G2:GH}{m:List Md}{r:ag}{elt tg iter:Expr}{ifs:List Expr}{pos:Pos}{J:It}{it:Addr}{tn:Nat->Heap->Prop}{ds vs:List D}{ft:FT}{q:FQ}{fe:FE}{E:a_->g_->Prop}
theorem BW(i:Nat):(aE nl cap m)[i]?≠some Md.ow:=fun h=>by
 by_cases hi:i<nl
 .unfold aE at h;rw[HG (by simpa using hi),Im]at h;split at h <;> cases h
 .unfold aE at h;rw[kT (by omega)]at h;cases e:cap[i-nl]? with
 |none=>rw[e]at h;cases h
 |some j=>rw[e]at h;have h':(if m.getD j Md.sh=Md.sh then Md.sh else Md.bw)=Md.ow:=G_ h;split at h' <;> cases h'
theorem EX{i:Nat}(hi:i<nl)(d:D):(aU nl cap r)[i]?≠some (some d):=fun h=>by unfold aU at h;rw[HG (by simpa using hi),Im]at h;split at h <;> cases h
def sd(El:W.Frag->GH->Hp->GH->Hp->V->D->Prop)(X:Cx)(g:GE)(m:List Md)(f:FE):TE:=fun σ H Q=>∃r G,SI X g m r G σ H/\fin (f r) (fun d=>∀v G' H',Grow X.K G H G' H'->El X.K G H G' H' v d->Q v H') (XW X σ G H)
theorem yb{El:W.Frag->GH->Hp->GH->Hp->V->D->Prop}{Rl:Addr->GH->Hp->List V->List D->Prop}(R0:∀p G H,Rl p G H [] [])(Rg:∀{p G H G' H' ws ds},Rl p G H ws ds->Grow X.K G H G' H'->Rl p G' H' ws ds)(Rn:∀{p G H ws ds},Rl p G H ws ds->ws.length=ds.length)(Ra:∀{p G H G' H' ws ds v d},Rl p G H ws ds->Grow X.K G H G' H'->Grow X.K G2 H2 G H->H p=some (.lst ws)->El X.K G H G' H' v d->Rl p G' (upd H' p (.lst (ws++[v]))) (ws++[v]) (ds++[d]))(hN:X.N.Nodup)(hcalm:X.calm=true)(sc:CompSc X scope N' nl cap)(h1:∀x c,cl.lookup x=some c->X.env.cells.lookup x=some c)(h2:∀x,(x,NameKind.free)∈scope.names->∃c,cl.lookup x=some c)(I2:Inv X pz σ H2 s2)(si:SI X g m r G2 σ H2)(T:Turn X.prog X.w X.K tg J fp it tn)(st:tn 0 s2.heap)(hf:∀b∈fp,cx X pz H2 b)(Y:YieldsC X.K J ds G2 H2)(hsz:ds.length<=sizeLine)(hg:∀C,SG (dQ X s2 H2 N' scope cl C fp) ⟨G2,H2,fun _=>none⟩ (aE nl cap m) tg ft (aE nl cap m))(hft:io ft nl)(hq:∀C,jG (dQ X s2 H2 N' scope cl C fp) ⟨G2,H2,fun _=>none⟩ (aE nl cap m) ifs q)(he:∀C,PE (dQ X s2 H2 N' scope cl C fp) elt (sd El (dQ X s2 H2 N' scope cl C fp) ⟨G2,H2,fun _=>none⟩ (aE nl cap m) fe))(hres:d9 ft q fe (aU nl cap r) ds=.ok vs){RR:a_->Addr->NZ->g_->Prop}(hRR:∀(p C:Addr)(s':g_)(H':Hp)(G':GH),Inv X pz σ H' s'->(∃mm,s'.heap.Ns C mm)->H' C=none->C≠X.env.locals->X.s₀.heap.objs.size<=C->(∀x c,X.env.cells.lookup x=some c->c≠C)->(∀z∈X.pn++pz,z.1≠C) ->Grow X.K G2 H2 G' H'->H2 p=none->(∃ws,H' p=some (.lst ws)/\G' p=none/\Rl p G' H' ws vs)->RR (.ref p) C (.ok .next) s'):C_ (F_ X.prog X.w) X.A (newList []) (fun acc s3=>C_ (F_ X.prog X.w) X.A (newFunctionEnv scope X.env.globals cl [] X.env.qual none .none (some X.env)) (fun cenv s4=>KL (F_ X.prog X.w) X.A (.compStart (.ListComp elt [⟨tg,iter,ifs,0⟩] scope pos) 0 (.ref it) acc { cenv with scope:=Mj scope X.env }) (RR acc cenv.locals) s4) E s3) E s2:=by
 refine II (wpAny_newFunctionEnv sc.nocell (by intro y hy;simp at hy) (fun h₁ hns₁ hsb₁=>?_) sc.kind)
 dsimp only at hns₁ hsb₁ ⊢
 generalize hH2:s2.heap.push { cls:=.type "list",dict:=none,data:=.seq ([]:List a_).toArray }=HH at hns₁ hsb₁ ⊢;have hC:HH.objs.size=s2.heap.objs.size+1:=by rw[<-hH2,IE]
 have hDC:s2.heap.objs.size≠HH.objs.size:=by rw[hC];exact B_ (Iz _)
 have hCle:s2.heap.objs.size<=HH.objs.size:=by rw[hC];exact KO _
 have below:∀b,b<s2.heap.objs.size->b≠HH.objs.size/\b≠s2.heap.objs.size:=fun b hb=>⟨by rw[hC];exact B_ (JZ hb),B_ hb⟩
 have old:∀b o,s2.heap.get? b=some o->h₁.get? b=some o:=fun b o e=>hsb₁.extBut b o (below b (p_ e)).1 (h_ _ (hH2▸h_ _ e));have hacc:h₁.get? s2.heap.objs.size=some { cls:=.type "list",dict:=none,data:=.seq ([]:List a_).toArray }:=hsb₁.extBut _ _ hDC (h_ _ (hH2▸u_ _ rfl));have hp2:H2 s2.heap.objs.size=none:=I2.hok.fresh (q_ _);have hflt:∀b∈fp,cx X pz H2 b/\b<s2.heap.objs.size:=fun b hb=>⟨hf b hb,by obtain⟨o,e,_⟩:=T.obj 0 s2.heap st b hb;exact p_ e⟩
 have ok:=Ab (fp:=fp) I2 sc h1 h2 hflt hCle;generalize hXX:dQ X s2 H2 N' scope cl HH.objs.size fp=XX at ok;have hG2p:G2 s2.heap.objs.size=none:=si.gok.isN hp2;have w0:Grow X.K G2 H2 G2 (upd H2 s2.heap.objs.size (.lst [])):=Grow.new si.gok hp2 _;have hok4:bU X.prog X.w (upd H2 s2.heap.objs.size (.lst [])) h₁:=I2.hok.laid old (q_ _) ⟨Hy _,[],0,.nil,hacc⟩;have IC:Inv XX [] (cw nl cap σ) (upd H2 s2.heap.objs.size (.lst [])) { s2 with heap:=h₁,toks:=s2.toks+([]:List (Str×a_)).length }:=by
  subst hXX;refine Aa I2 ok sc h1 h2 hN rfl I2.bare old hns₁ hCle ?_ (fun b hb hlt=>?_) (Un.laid old (q_ _) hp2) hok4
  .rw[aW (IG hDC)];exact I2.hok.fresh hCle
  .rw[aW (below b hlt).2];exact hb
 have SC:SI XX ⟨G2,H2,fun _=>none⟩ (aE nl cap m) (aU nl cap r) G2 (cw nl cap σ) (upd H2 s2.heap.objs.size (.lst [])):=by subst hXX;exact zD si w0
 have hst₁:tn 0 h₁:=T.keep _ _ _ st fun b _ o e=>old b o e;have hfX:∀(H':Hp),(∀b∈fp,H' b=none)->∀b∈fp,cx XX [] H' b:=fun H' hn b hb=>by
  clear IC SC;subst hXX;obtain⟨z0,z1,z2,z3,z4,z5⟩:=hf b hb;refine⟨hn b hb,?_,?_,?_,?_,?_⟩
  .exact(below b (hflt b hb).2).1
  .intro hfs;rcases x_.mp (I2.stkSub b hfs)with z|z
   .exact z1 z
   .exact z2 z
  .exact .inl hb
  .exact fun x c e=>z4 x c (h1 x c e)
  .intro p hp;exact absurd (show p∈([]:List (Addr×Obj))from hp) (by simp)
 have eA:XX.A=X.A:=Eq.rec (motive:=fun z _=>z.A=X.A) rfl hXX;have eP:XX.prog=X.prog:=Eq.rec (motive:=fun z _=>z.prog=X.prog) rfl hXX;have eW:XX.w=X.w:=Eq.rec (motive:=fun z _=>z.w=X.w) rfl hXX;have eK:XX.K=X.K:=Eq.rec (motive:=fun z _=>z.K=X.K) rfl hXX;have eX:XX.xe=fun _ _=>False:=Eq.rec (motive:=fun z _=>z.xe=fun _ _=>False) rfl hXX;have eE:XX.env=LF scope cl HH.objs.size X.env:=Eq.rec (motive:=fun z _=>z.env=LF scope cl HH.objs.size X.env) rfl hXX;have eC:XX.calm=true:=Eq.rec (motive:=fun z _=>z.calm=true) hcalm hXX;have eH:XX.H₀=H2:=Eq.rec (motive:=fun z _=>z.H₀=H2) rfl hXX;have hg':PG XX tg (tG XX ⟨G2,H2,fun _=>none⟩ (aE nl cap m) (aE nl cap m) ft):=Eq.rec (motive:=fun z _=>PG z tg (tG z ⟨G2,H2,fun _=>none⟩ (aE nl cap m) (aE nl cap m) ft)) (hg _).2 hXX;have hq':jG XX ⟨G2,H2,fun _=>none⟩ (aE nl cap m) ifs q:=Eq.rec (motive:=fun z _=>jG z ⟨G2,H2,fun _=>none⟩ (aE nl cap m) ifs q) (hq _) hXX;have he':PE XX elt (sd El XX ⟨G2,H2,fun _=>none⟩ (aE nl cap m) fe):=Eq.rec (motive:=fun z _=>PE z elt (sd El z ⟨G2,H2,fun _=>none⟩ (aE nl cap m) fe)) (he _) hXX;have fin':∀{H':Hp}{s':g_}{σ':L2.St}{G':GH}{ws:List V},Inv XX [] σ' H' s'->Grow X.K G2 H2 G' H'->H' s2.heap.objs.size=some (.lst ws)->G' s2.heap.objs.size=none->Rl s2.heap.objs.size G' H' ws vs->RR (.ref s2.heap.objs.size) HH.objs.size (.ok .next) s':=fun{H' s' σ' G' ws} J1 wg hpp hgp rs=>by
  clear IC SC hfX hg' hq' he' eA eP eW eK eX eE eC eH;subst hXX;have un:=J1.base;refine hRR _ _ s' H' G' ?_ (let⟨mm,hn,_⟩:=J1.loc;⟨mm,hn⟩) J1.free (Ir (A_ I2.lt hCle)) (HZ I2.sz hCle) (fun x c e z=>?_) (fun z hz e=>?_) wg hp2 ⟨_,hpp,hgp,rs⟩
  .refine I2.call' J1.os un J1.hok J1.bare fun b hb=>?_;obtain⟨z0,z1,z2,z3,z4,z5⟩:=hf b hb;exact⟨z3,z1,z4,z5⟩
  .obtain⟨v,o,ho,_⟩:=I2.cell x c e;exact absurd (A_ (p_ ho) hCle) (by rw[z];exact Ii _)
  .have:=(I2.pin z hz).1;exact absurd (A_ (p_ this) hCle) (by rw[e];exact Ii _)
 have loop:KL (F_ X.prog X.w) X.A (.compLoop (.ListComp elt [⟨tg,iter,ifs,0⟩] scope pos) 0 (.ref it) (.ref s2.heap.objs.size) (LF scope cl HH.objs.size X.env)) (RR (.ref s2.heap.objs.size) HH.objs.size)
   { s2 with heap:=h₁,toks:=s2.toks+([]:List (Str×a_)).length }:=by
  refine BY (fun n s'=>∃(i:Nat)(σ':L2.St)(H':Hp)(G':GH)(ws:List V)(done rest:List D),Inv XX [] σ' H' s'/\SI XX ⟨G2,H2,fun _=>none⟩ (aE nl cap m) (aU nl cap r) G' σ' H'/\tn i s'.heap/\(∀b∈fp,H' b=none)/\Grow X.K G2 H2 G' H' /\H' s2.heap.objs.size=some (.lst ws)/\G' s2.heap.objs.size=none/\Rl s2.heap.objs.size G' H' ws done/\d9 ft q fe (aU nl cap r) (ds.drop i)=.ok rest/\vs=done++rest/\done.length<=i/\i<=ds.length/\n=ds.length-i) ?_ ds.length
   ⟨0,_,_,G2,[],[],vs,IC,SC,hst₁,fun b hb=>?_,w0,bM,hG2p,R0 _ _ _,hres,rfl,q_ _,Hy _,rfl⟩
  rotate_left
  .rw[aW (below b (hflt b hb).2).2];exact(hf b hb).1
  rintro n s3 ⟨i,σ3,H3,G3,ws,done,rest,I3,S3,st3,fr3,w3,hp3,hg3,rs3,hr3,hv3,hd3,hi3,rfl⟩
  have weaken:∀{α:Type}{t:Sem α}{Q:α->g_->Prop}{s':g_}{E':a_->g_->Prop},C_ (F_ XX.prog XX.w) XX.A t Q XX.xe s'->C_ (F_ X.prog X.w) X.A t Q E' s':=fun h=>by rw[eP,eW,eA,eX]at h;exact IK h (fun _ _ z=>z) fun _ _ z=>z.elim
  by_cases hlt:i<ds.length
  .have hd:ds.drop i=ds[i]::ds.drop (i+1):=I_ hlt;rw[hd]at hr3;unfold d9 at hr3;have it3:=T.item XX eP eW eK eC i [] s3 σ3 H3 (Lo (F_ X.prog X.w) X.A (LF scope cl HH.objs.size X.env) fun e s'=>RR (.ref s2.heap.objs.size) HH.objs.size (.error e) s') I3 (hfX H3 fr3) st3 (Y.go G3 H3 i w3 hlt);rw[eA]at it3;refine aF it3 fun rr s4 ⟨u,hr,h4⟩=>?_;subst hr;refine aF h4 fun _ s5 ⟨x,H5,I5,r5,y5,st5,fr5⟩=>?_;obtain⟨G5,w5,rv5⟩:=Y.yld G3 H3 i x H5 ds[i] w3 y5 (j_ hlt);have w25:=w3.trans w5;cases eft:ft ds[i] (aU nl cap r)with
  |none=>rw[eft]at hr3;cases hr3
  |some r1=>
    rw[eft]at hr3;simp only[opt_some,bind_ok]at hr3;have I5':=I5.pinned (hfX H5 fr5) (T.obj _ _ st5);have S5:SI XX ⟨G2,H2,fun _=>none⟩ (aE nl cap m) (aU nl cap r) G5 σ3 H5:=S3.grow (by rw[eK];exact w5);have rv5':RG XX.K G5 x ds[i]:=by rw[eK];exact rv5
    have as5:=hg' _ s5 σ3 H5 x u (fun σ6 H6=>H6=H5/\SI XX ⟨G2,H2,fun _=>none⟩ (aE nl cap m) r1 G5 σ6 H5) I5' r5 ⟨aU nl cap r,G5,ds[i],S5,rv5',r1,eft,fun σ6 si6=>⟨rfl,si6⟩⟩;rw[eE]at as5;refine aF (weaken as5) fun _ s6 ⟨σ6,H6,I6,e6,S6⟩=>?_;subst e6;obtain⟨fl1,fl2⟩:=hft _ _ _ eft;cases eq1:q r1 with
   |stuck=>rw[eq1]at hr3;cases hr3
   |exc xx=>rw[eq1]at hr3;cases hr3
   |ok b1=>
     rw[eq1]at hr3;simp only[bind_ok]at hr3;have te6:=hq' _ s6 σ6 H6 (fun b H7=>b=b1/\∃G7,Grow X.K G5 H6 G7 H7) I6 ⟨r1,G5,S6,by rw[eq1];exact fun G7 H7 w7=>⟨rfl,G7,by rw[eK]at w7;exact w7⟩⟩;rw[eE]at te6;refine aF (weaken te6) fun b s7 ⟨H7,I7,eb,G7,w7⟩=>?_;subst eb;have S7:SI XX ⟨G2,H2,fun _=>none⟩ (aE nl cap m) r1 G7 σ6 H7:=S6.grow (by rw[eK];exact w7);have w27:=w25.trans w7;have hp7:H7 s2.heap.objs.size=some (.lst ws):=w7.he _ _ (w5.he _ _ hp3);have hg7:G7 s2.heap.objs.size=none:=by rw[w7.gf _ (by rw[w5.he _ _ hp3];simp),w5.gf _ (by rw[hp3];simp)];exact hg3
     have back:∀{σ8:L2.St}{H8:Hp}{G8:GH}{s8:g_},Inv XX ([]++kO fp s5.heap) σ8 H8 s8->Inv XX [] σ8 H8 s8/\tn (i+1) s8.heap/\∀b∈fp,H8 b=none:=fun{σ8 H8 G8 s8} I8=>by refine⟨I8.unpinned,T.keep _ _ _ st5 fun b hb o e=>(I8.pin (b,o) (Hx _ (Hx _ (nH hb e)))).1,fun b hb=>?_⟩;obtain⟨o,e,_⟩:=T.obj _ _ st5 b hb;exact(I8.pin (b,o) (Hx _ (Hx _ (nH hb e)))).2.1
     have less:∀{σ8:L2.St}{H8:Hp}{G8:GH},SI XX ⟨G2,H2,fun _=>none⟩ (aE nl cap m) r1 G8 σ8 H8->SI XX ⟨G2,H2,fun _=>none⟩ (aE nl cap m) (aU nl cap r) G8 σ8 H8:=fun h=>h.less fl1.symm fun j d hj=>by
      by_cases hjn:j<nl
      .exact absurd hj (EX hjn d)
      .rw[fl2 j (by omega)];exact hj
     cases b with
    |false=>rw[if_neg d_]at hr3 ⊢;obtain⟨I7',t7,f7⟩:=back (G8:=G7) I7;exact⟨ds.length-(i+1),by omega,i+1,σ6,H7,G7,ws,done,rest,I7',less S7,t7,f7,w27,hp7,hg7,Rg rs3 (w5.trans w7),hr3,hv3,by omega,hlt,rfl⟩
    |true=>rw[if_pos rfl]at hr3 ⊢;cases ee1:fe r1 with
     |stuck=>rw[ee1]at hr3;cases hr3
     |exc xx=>rw[ee1]at hr3;cases hr3
     |ok d1=>rw[ee1]at hr3;simp only[bind_ok]at hr3;cases er:d9 ft q fe (aU nl cap r) (ds.drop (i+1))with
      |stuck=>rw[er]at hr3;cases hr3
      |exc xx=>rw[er]at hr3;cases hr3
      |ok rest'=>
        rw[er]at hr3;simp only[bind_ok]at hr3;cases hr3;have el7:=he' _ s7 σ6 H7 (fun v H8=>∃G8,Grow X.K G7 H7 G8 H8/\El X.K G7 H7 G8 H8 v d1) I7 ⟨r1,G7,S7,by rw[ee1];exact fun v G8 H8 w8 rv=>⟨G8,by rw[eK]at w8;exact w8,by rw[eK]at rv;exact rv⟩⟩;rw[eE]at el7;refine aF (weaken el7) fun u8 s8 ⟨v8,H8,I8,r8,G8,w8,rv8⟩=>?_;have hp8:H8 s2.heap.objs.size=some (.lst ws):=w8.he _ _ hp7;have hg8:G8 s2.heap.objs.size=none:=by rw[w8.gf _ (by rw[hp7];simp)];exact hg7
        have S8:SI XX ⟨G2,H2,fun _=>none⟩ (aE nl cap m) r1 G8 σ6 H8:=S7.grow (by rw[eK];exact w8);have hlen:=Rn rs3;have ap8:=iO (X:=XX) _ s8 σ6 H8 (.ref s2.heap.objs.size) [v8] (.ref s2.heap.objs.size) [u8] (fun v H9=>H9=upd H8 s2.heap.objs.size (.lst (ws++[v8]))) I8 rfl (.cons r8 .nil) ⟨_,ws,v8,rfl,rfl,hp8,by omega,rfl⟩;refine aF (weaken ap8) fun u9 s9 ⟨v9,H9,I9,r9,e9⟩=>?_;subst e9;obtain⟨I9',t9,f9⟩:=back (G8:=G8) I9;have rsn:=Ra (Rg rs3 (w5.trans w7)) w8 w27 hp7 rv8;have w28:=w27.trans w8;refine⟨ds.length-(i+1),by omega,i+1,σ6,_,G8,ws++[v8],done++[d1],rest',I9',less (S8.other hg8 hp2 BW _),t9,f9,?_,bM,hg8,rsn,er,by rw[hv3,Je];rfl,by rw[HJ,Lz];omega,hlt,rfl⟩;refine⟨fun b e hb=>(w28.ok b e hb).mono (fun _ _ z=>z) fun o z=>?_,fun b o hb=>?_,w28.ge,w28.gf⟩
        .rw[aW (by rintro rfl;rw[hg8]at hb;cases hb)];exact z
        .rw[aW (by rintro rfl;rw[hp2]at hb;cases hb)];exact w28.he b o hb
  .have e:i=ds.length:=by omega
   subst e;rw[J9]at hr3;cases hr3;rw[HU]at hv3;subst hv3;have dn:=T.done XX eP eW eK eC ds.length [] s3 σ3 H3 (Lo (F_ X.prog X.w) X.A (LF scope cl HH.objs.size X.env) fun e s'=>RR (.ref s2.heap.objs.size) HH.objs.size (.error e) s') I3 (hfX H3 fr3) st3 (Y.stop G3 H3 w3);rw[eA]at dn;refine aF dn fun rr s4 ⟨hr,I4⟩=>?_;subst hr;exact fin' I4 w3 hp3 hg3 rs3
 exact codeAny_compStart_list loop (T.self X.A 0 _ _ _ hst₁ loop)
end
def mf:Res (List D)->Res (List D)
|.ok d=>.ok d
|_=>.stuck
@[simp] theorem noXL_ok(d:List D):mf (.ok d)=.ok d:=rfl
def cL(nl:Nat)(cap:List Nat)(fi:FI)(ft:FT)(q:FQ)(fe:FE):FE:=fun r=>(fi r).bind fun ds=>(bO (sz ds)).bind fun ds=>(mf (d9 ft q fe (aU nl cap r) ds)).bind fun vs=>.ok (.lst vs)
section
variable{X:Cx}{g:GE}{m mb:List Md}{scope:JC}{N':List Str}{nl:Nat}{cap:List Nat}{elt tg iter:Expr}{ifs:List Expr}{pos pos' spos:Pos}{fi:FI}{ft:FT}{q:FQ}{fe:FE}{ro:Bool}
theorem ya{r:ag}{P:D->Prop}{x:D->Prop}(h:fin (cL nl cap fi ft q fe r) P x):fin (fi r) (fun ds=>∃vs,ds.length<=sizeLine/\d9 ft q fe (aU nl cap r) ds=.ok vs/\P (.lst vs)) x:=by unfold cL at h;refine aT (a8 h) fun ds h1=>?_;obtain⟨ds',e2,h2⟩:=cB (a8 h1);obtain⟨rfl,hl⟩:=oN e2;cases e3:d9 ft q fe (aU nl cap r) ds' with
|ok vs=>rw[e3]at h2;exact⟨vs,hl,rfl,h2⟩
|exc x=>rw[e3]at h2;exact h2.elim
|stuck=>rw[e3]at h2;exact h2.elim
theorem CompSc.clo{pz:List (Addr×Obj)}{σ:L2.St}{H:Hp}{s:g_}(sc:CompSc X scope N' nl cap)(ok:X.Ok):∃cl,M_ scope X.env=pure cl/\(∀x c,cl.lookup x=some c->X.env.cells.lookup x=some c)/\(∀x,(x,NameKind.free)∈scope.names->∃c,cl.lookup x=some c):=Fa fun y hy hf=>ok.has y.1 (sc.freeK y hy hf)
theorem kL(hN:X.N.Nodup)(hcalm:X.calm=true)(sc:CompSc X scope N' nl cap)(hi:gE X g m tg iter fi)(hg:∀s0 H0 cl C fp g',SG (dQ X s0 H0 N' scope cl C fp) g' (aE nl cap m) tg ft (aE nl cap m))(hft:io ft nl)(hq:∀s0 H0 cl C fp g',jG (dQ X s0 H0 N' scope cl C fp) g' (aE nl cap m) ifs q)(he:∀s0 H0 cl C fp g',SE (dQ X s0 H0 N' scope cl C fp) g' (aE nl cap m) elt fe)(hs:∀x,Jd iter X.env x=pure x:=by intro _;rfl):SO X g m (.ListComp elt [⟨tg,iter,ifs,0⟩] scope pos) (cL nl cap fi ft q fe):=by
 intro pz s σ H Q I h;obtain⟨r,G,si,k⟩:=h;obtain⟨cl,hcl,h1,h2⟩:=sc.clo (pz:=pz) (σ:=σ) (H:=H) (s:=s) I.ok;have k1:=ya k;rw[eval_ListComp];refine KY (use:=none) rfl hs hcl sc.kind sc.names (aF (hi pz s σ H (fun J H'=>∃G' ds vs,Grow X.K G H G' H'/\YieldsC X.K J ds G' H'/\ds.length<=sizeLine/\d9 ft q fe (aU nl cap r) ds=.ok vs /\(∀a G' H',Grow X.K G H G' H'->H a=none->Own X.K G' H' a (.lst vs)->Q (.ref a) H')) I ⟨r,G,si,aT k1 fun ds ⟨vs,z1,z2,z3⟩ J G' H' w y=>⟨G',ds,vs,w,y,z1,z2,z3⟩⟩) fun v s1 hv=>aF hv fun itv s2 hv2=>?_);obtain⟨it,fp,tn,J,H2,rfl,I2,T,st,hf,G2,ds,vs,w2,Y,hsz,hres,hQ⟩:=hv2;refine yb (El:=fun K _ _ G' _ v d=>RG K G' v d) (Rl:=fun _ G _ ws ds=>aV X.K G ws ds) (fun _ _ _=>.nil) (fun h w=>h.mono w.ge) Paired.length (fun h w _ _ e=>Paired.snoc (h.mono w.ge) e) (RR:=fun acc C=>compPost (F_ X.prog X.w) X.A X.xe none (EP X pz σ Q) acc C) hN hcalm sc h1 h2 I2 (si.grow w2) T st hf Y hsz (fun C=>hg _ _ _ _ _ _) hft (fun C=>hq _ _ _ _ _ _) (fun C=>he _ _ _ _ _ _) hres ?_;intro p C s' H' G' I' hns hC1 hC2 hC3 hC4 hC5 w' hp ⟨ws,o1,o2,o3⟩;have ho:Own X.K G' H' p (.lst vs):=⟨o2,.lst o1 o3⟩
 obtain⟨mm,hn⟩:=hns;refine⟨mm,hn,fun h' hsb=>⟨.ref p,H',?_,rfl,hQ p G' H' (w2.trans w') (w2.back hp) ho⟩⟩;exact I'.turned (it:=C) (t':=s'.toks) (fun b o hb e=>hsb.extBut b o hb e) hC1 hC2.symm.symm (.inr hC3) hC4 hC5
theorem iP(i:Nat){y:Str}(hN:X.N.Nodup)(hcalm:X.calm=true)(hy:X.N[i]? = some y)(hyl:X.env.scope.names.lookup y=some .local)(sc:CompSc X scope N' nl cap)(hi:gE X g m tg iter fi)(hg:∀s0 H0 cl C fp g',SG (dQ X s0 H0 N' scope cl C fp) g' (aE nl cap m) tg ft (aE nl cap m))(hft:io ft nl)(hq:∀s0 H0 cl C fp g',jG (dQ X s0 H0 N' scope cl C fp) g' (aE nl cap m) ifs q)(he:∀s0 H0 cl C fp g',SE (dQ X s0 H0 N' scope cl C fp) g' (aE nl cap m) elt fe)(hsw:J7 (.ListComp elt [⟨tg,iter,ifs,0⟩] scope pos) (some (.Name y pos')) spos.line X.env=pure true:=by rfl)(hs:∀x,Jd iter X.env x=pure x:=by intro _;rfl):SS X g ro mb m (.Assign [.Name y pos'] (.ListComp elt [⟨tg,iter,ifs,0⟩] scope pos) spos) (am m i (cL nl cap fi ft q fe)) (m.set i .ow):=by
 refine⟨by simp,?_⟩;intro pz s σ H D0 I h;obtain⟨r,G,si,k⟩:=h;obtain⟨cl,hcl,h1,h2⟩:=sc.clo (pz:=pz) (σ:=σ) (H:=H) (s:=s) I.ok;have k1:=ya (e8 si (m':=m.set i .ow) (by simp) k);rw[exec_Assign_Name_used _ _ _ _ hsw];refine e_ (KS (e_ ?_));show C_ _ X.A (do let _ <-comprehension (.ListComp elt [⟨tg,iter,ifs,0⟩] scope pos) scope X.env _ (newList []) false (eval iter X.env) (some (Ki (.Name y pos') X.env))) _ _ s;refine e_ (IK (KY (use:=some (Ki (.Name y pos') X.env)) (Q:=fun _ s'=>SP X pz D0 .next s') rfl hs hcl sc.kind sc.names (aF (hi pz s σ H (fun J H'=>∃G' ds vs,Grow X.K G H G' H'/\YieldsC X.K J ds G' H'/\ds.length<=sizeLine/\d9 ft q fe (aU nl cap r) ds=.ok vs /\(∀σ' G' H',aB G G'->SI X g (m.set i .ow) (r.set i (some (.lst vs))) G' σ' H'->D0.nx σ' H')) I ⟨r,G,si,aT k1 fun ds ⟨vs,z1,z2,z3⟩ J G' H' w y=>⟨G',ds,vs,w,y,z1,z2,z3⟩⟩) fun v s1 hv=>aF hv fun itv s2 hv2=>?_)) (fun _ s' hq=>o_ (o_ hq)) fun _ _ e=>e);obtain⟨it,fp,tn,J,H2,rfl,I2,T,st,hf,G2,ds,vs,w2,Y,hsz,hres,hQ⟩:=hv2;refine yb (El:=fun K _ _ G' _ v d=>RG K G' v d) (Rl:=fun _ G _ ws ds=>aV X.K G ws ds) (fun _ _ _=>.nil) (fun h w=>h.mono w.ge) Paired.length (fun h w _ _ e=>Paired.snoc (h.mono w.ge) e) (RR:=fun acc C=>compPost (F_ X.prog X.w) X.A X.xe (some (Ki (.Name y pos') X.env)) (fun _ s'=>SP X pz D0 .next s') acc C) hN hcalm sc h1 h2 I2 (si.grow w2) T st hf Y hsz (fun C=>hg _ _ _ _ _ _) hft (fun C=>hq _ _ _ _ _ _) (fun C=>he _ _ _ _ _ _) hres ?_;intro p C s' H' G' I' hns hC1 hC2 hC3 hC4 hC5 w' hp ⟨ws,o1,o2,o3⟩;have ho:Own X.K G' H' p (.lst vs):=⟨o2,.lst o1 o3⟩
 obtain⟨mm,hn⟩:=hns;show C_ _ X.A (Ki (.Name y pos') X.env (.ref p)) _ _ s';refine Mc (xJ I' hN hy (.inl hyl) (v:=.ref p) rfl (fun s'' I'' ⟨a,hsb,ha⟩=>?_) (.inr hyl));have hCa:C≠a:=by
  rcases ha with z|z
  .rw[z];exact hC2
  .exact(hC4 y a z).symm
 refine⟨mm,hn.sameBut hsb hCa,fun h' hsb'=>?_⟩;refine⟨_,H',I''.turned (it:=C) (t':=s''.toks) (fun b o hb e=>hsb'.extBut b o hb e) hC1 hC2 (.inr hC3) hC4 hC5,?_⟩;exact hQ _ G' H' (w2.trans w').ge (si.setN (w2.trans w') i (w2.back hp) ho)
end
def fN(K:W.Frag)(r:V->List V->Hp->VK->Prop)(mk:D->List D->Option D):Prop:=∀(G:GH)(H:Hp)(a:Addr)(d:D)(vs:List V)(ds:List D)(d':D)(Q:VK),aC K G H->Own K G H a d->aV K G vs ds->mk d ds=some d' ->(∀o',OwnO K G (upd H a o') a d'->Q .non (upd H a o'))->r (.ref a) vs H Q
def ou(T:String):D->Bool
|.lst _=>T == "list"
|.dic _=>T == "dict"
|_=>false
def cg(T:String)(m:List Md)(i:Nat)(fl:ag->Res (List D))(mk:D->List D->Option D):FS:=fun r=>match r[i]? with
|some (some d)=>if ou T d=true then eJ m r (fl r) fun ds=>(match mk d ds with
 |some d'=>.nx (r.set i (some d'))
 |none=>.stuck)else .stuck
|_=>.stuck
theorem BM{K:W.Frag}{G:GH}{H:Hp}{a:Addr}{d:D}{T:String}(o:Own K G H a d)(t:ou T d=true):lR K T (.ref a) H:=by cases o.ob with
|lst r s=>exact .inl ⟨Kt t,_,aL.of r⟩
|dic r s=>exact .inr (.inr (.inl ⟨Kt t,.inl ⟨_,.inl r⟩⟩))
section
variable{X:Cx}{g:GE}{m mb:List Md}{e a b o:Expr}{es:List Expr}{f fa fb:FE}{fl:ag->Res (List D)}{pos pos' apos cpos:Pos}{ro:Bool}{x name:Str}{T id:String}{R:V->List V->Hp->VK->Prop}{mk:D->List D->Option D}
theorem D4(i:Nat)(hm:m[i]? = some .ow)(hk:fN X.K R mk){D0:Ends}{σ:L2.St}{H:Hp}(h:tS X g ro m m mb (cg T m i fl mk) D0 σ H):∃v,σ[i]? = some (some v)/\lR X.K T v H/\tL X g m fl σ H fun xs H2=>R v xs H2 fun _ H1=>D0.nx σ H1:=by obtain⟨r,G,si,k⟩:=h;unfold cg at k;cases er:r[i]? with
|none=>simp only[er]at k;exact(show False from k).elim
|some oo=>cases oo with
 |none=>simp only[er]at k;exact(show False from k).elim
 |some d=>
   simp only[er]at k;by_cases ht:ou T d=true
   .rw[if_pos ht]at k;obtain⟨a,h1,h2,h3⟩:=si.mut hm er;refine⟨_,h1,BM h2 ht,r,G,si,aT (e8 si rfl k) fun ds k2 vs G' H' w rs=>?_⟩;cases em:mk d ds with
   |none=>simp only[em]at k2;exact(show False from k2).elim
   |some d'=>simp only[em]at k2;obtain⟨a',h1',h2',h3'⟩:=(si.grow w).mut hm er;rw[h1]at h1';cases h1';exact hk G' H' a d vs ds d' _ w.ok h2' rs em fun o' ob=>k2 σ G' _ w.ge (h3' o' d' ob)
   .rw[if_neg ht]at k;exact(show False from k).elim
theorem g0(i:Nat)(hm:m[i]? = some .ow)(pa:M4 T)(slot:Slot T name id)(hty:typeOf (.builtin id)=pure (.type "method_descriptor"))(hmt:gX X id R)(hk:fN X.K R mk)(hN:X.N[i]? = some x)(hv:dG X.env.scope x)(ha:SA X g m (e::es) fl)(hd:(x==("__debug__" : Str))=false:=by decide)(hcd:(x==("__classdict__" : Str))=false:=by decide)(hbase:ID (.Name x pos') name X.env (eval (.Name x pos') X.env)=eval (.Name x pos') X.env:=by rfl)(hfew:((backTo cpos (l_ (e::es) X.env)).all (fun x=>! x.1)&&(La cpos (JT [] X.env)).all (fun x=>x.1.isSome)&&decide ((e::es).length+([]:List Jz).length+(if ([]:List Jz).isEmpty then 0 else 1)<30))=true:=by rfl)(hline:(apos.endLine==cpos.line)=true:=by rfl)(hst:l_ (e::es) X.env=(false,eval e X.env)::l_ es X.env:=by rfl)(hplain:(backTo cpos (l_ es X.env)).any (·.1)=false:=by rfl):SS X g ro mb m (.Expr (.Call (.Attribute (.Name x pos') name apos) (e::es) [] cpos) pos) (cg T m i fl mk) m:=⟨rfl,PS.imp (m7 (oO pa slot hty hmt (gO hN hv hd hcd) ha hbase hfew hline hst hplain)) fun D0 σ H h=>D4 i hm hk h⟩
def appD:D->List D->Option D
|.lst ds,[d]=>if ds.length<sizeLine then some (.lst (ds++[d]))else none
|_,_=>none
theorem kD{K:W.Frag}:fN K wq appD:=by
 intro G H a d vs ds d' Q gk ow rs e q;unfold appD at e;split at e
 .split at e
  .rename_i hl;cases e;cases ow.ob with
  |lst r s=>cases rs with
   |cons r1 t=>cases t;have:=Paired.length s;exact⟨a,_,_,rfl,rfl,r,by omega,q _ (.lst bM (Paired.snoc s r1))⟩
  .cases e
 .cases e
theorem Paired.rev{α β:Type}{F:α->β->Prop}:∀{l:List α}{r:List β},Paired F l r->Paired F l.reverse r.reverse
|_,_,.nil=>.nil
|_,_,.cons h t=>by rw[JX,JX];exact Paired.snoc (Paired.rev t) h
def oQ(x:Int)(n:Nat):Nat:=if x<0 then(x+(n:Int)).toNat else min x.toNat n
def bG{α:Type}(xs:List α)(x:Int)(y:α):List α:=xs.take (oQ x xs.length)++y::xs.drop (oQ x xs.length)
def wt:V->List V->Hp->VK->Prop:=fun x vs H Q=>∃l xs i y,x=.ref l/\vs=[.int i,y]/\H l=some (.lst xs)/\-(2^63)<=i/\i<2^63/\xs.length<sizeLine/\Q .non (upd H l (.lst (bG xs i y)))
theorem EC:gX X "list.insert" wt:=by
 intro pz s σ H x vs v us Q I rx rv h;obtain⟨l,xs,i,y,rfl,rfl,hH,h1,h2,hz,q⟩:=h;cases rx;obtain⟨u,w',rfl,⟨t,rfl⟩,ry⟩:=tM rv;obtain⟨z,its,n,r,hl,e⟩:=I.lstM hH;have hfit:¬(! Na i)=true:=by rw[fitsIndex_both h1 h2];exact d_
 refine Ll KZ ⟨_,e,rfl⟩ PySem.F.entry_list_insert (PySem.F.args_list_insert_3 _ _ _) (AutoListH.list_insert_list_int_val_1 l its.toArray n i t w' hfit (by rw[n_];omega)) ⟨e,?_⟩;refine⟨.non,_,I.lset (its':=bG its i w') hH e ?_ ?_ ?_,rfl,q⟩
 .show((its.toArray.extract 0 (if i<0 then(i+((its.toArray.size:Nat):Int)).toNat else min i.toNat its.toArray.size)).push w'++its.toArray.extract (if i<0 then(i+((its.toArray.size:Nat):Int)).toNat else min i.toNat its.toArray.size))=(bG its i w').toArray;rw[n_];unfold bG oQ;generalize(if i<0 then(i+((its.length:Nat):Int)).toNat else min i.toNat its.length)=k;apply M8;simp;exact Lp (by rw[Mw];exact q_ _)
 .unfold bG;rw[hl];exact ai.append (r.take _) (.cons ry (r.drop _))
 .unfold bG;rw[HJ,IA,JI,Mw];omega
def insD:D->List D->Option D
|.lst ds,[.int i,d]=>if ds.length<sizeLine/\-(2^63)<=i/\i<2^63 then some (.lst (bG ds i d))else none
|_,_=>none
theorem Bg{α β:Type}{F:α->β->Prop}{l:List α}{r:List β}{x:α}{y:β}(h:Paired F l r)(i:Int)(hxy:F x y):Paired F (bG l i x) (bG r i y):=by unfold bG;rw[Paired.length h];exact Paired.app (Paired.tk _ h) (.cons hxy (Paired.dr _ h))
theorem Bh{K:W.Frag}:fN K wt insD:=by
 intro G H a d vs ds d' Q gk ow rs e q;unfold insD at e;split at e
 .split at e
  .rename_i hl;cases e;cases ow.ob with
  |lst r s=>cases rs with
   |cons r1 t=>cases t with
    |cons r2 t=>cases t;have:=Paired.length s;exact⟨a,_,_,_,rfl,by rw[r1.int gk],r,hl.2.1,hl.2.2,by omega,q _ (.lst bM (Bg s _ r2))⟩
  .cases e
 .cases e
end
def cy:D->Bool
|.non=>true
|.bl _=>true
|.int _=>true
|.str _=>true
|_=>false
def dE:D->V
|.non=>.non
|.bl b=>.bl b
|.int i=>.int i
|.str x=>.str x
|_=>.non
def cG(a b:D):Bool:=fJ (dE a) (dE b)
@[simp] theorem eqs_int(a b:Int):cG (.int a) (.int b)=(a==b):=rfl
@[simp] theorem eqs_str(a b:Str):cG (.str a) (.str b)=(a==b):=rfl
@[simp] theorem eqs_non_int(b:Int):cG .non (.int b)=false:=rfl
@[simp] theorem eqs_int_non(b:Int):cG (.int b) .non=false:=rfl
section
variable{K:W.Frag}{G:GH}{H:Hp}{v:V}{d:D}
theorem RB.flat(h:RB K G H v d)(gk:aC K G H)(hf:cy d=true):v=dE d/\fR v=true:=by cases d with
|non=>rw[h.non gk];exact⟨rfl,rfl⟩
|bl b=>rw[h.bl gk];exact⟨rfl,rfl⟩
|int i=>rw[h.int gk];exact⟨rfl,rfl⟩
|str x=>rw[h.str gk];exact⟨rfl,rfl⟩
|_=>cases hf
theorem zO{xs:List V}{ds:List D}(h:aV K G xs ds)(gk:aC K G H)(hf:ds.all cy=true):xs=ds.map dE/\xs.all fR=true:=by induction h with
|nil=>exact⟨rfl,rfl⟩
|cons r t ih=>rw[Jj,Hs]at hf;obtain⟨e1,e2⟩:=RB.flat (H:=H) r.rb gk hf.1;obtain⟨e3,e4⟩:=ih hf.2;exact⟨by rw[y_,<-e3,<-e1],by rw[Jj,e2,e4];rfl⟩
end
def di:D->Option au
|.int i=>some (.inl i)
|.str x=>some (.inr x)
|_=>none
def b9(kvs:List (au×D))(k:au):Bool:=kvs.any fun kv=>decide (kv.1=k)
def aY(kvs:List (au×D))(k:au):Option D:=(kvs.find? fun kv=>decide (kv.1=k)).map (·.2)
def fX(x c:D):Option Bool:=match c with
|.lst ds=>if cy x=true/\ds.all cy=true then some (ds.any fun y=>cG y x)else none
|.tup ds=>if cy x=true/\ds.all cy=true then some (ds.any fun y=>cG y x)else none
|.dic kvs=>(di x).map (b9 kvs)
|.str y=>match x with
 |.str z=>some (!(IH y z 0 y.length 1).isEmpty)
 |_=>none
|_=>none
def fh(x c:D):Option D:=(fX x c).map .bl
def bX(x c:D):Option D:=(fX x c).map fun b=>.bl (! b)
theorem vD{K:W.Frag}{G:GH}{k:au}{ps:List (au×V)}{kvs:List (au×D)}(h:eQ K G ps kvs)(d:D)(e:aY kvs k=some d):∃v,bS ps k=some v/\RG K G v d:=by induction h with
|nil=>cases e
|@cons p q ps kvs r t ih=>
  obtain⟨k1,v1⟩:=p;obtain⟨k2,d2⟩:=q;obtain⟨e1,r1⟩:=r;have e1':k1=k2:=e1;subst e1';by_cases hk:k1=k
  .subst hk;have:d2=d:=by simpa[aY,Hz]using e
   subst this;exact⟨v1,nz rfl,r1⟩
  .have e':aY kvs k=some d:=by simpa[aY,Hz,hk]using e
   obtain⟨v,h1,h2⟩:=ih e';exact⟨v,by rw[lq hk];exact h1,h2⟩
theorem EM{K:W.Frag}{G:GH}{k:au}{ps:List (au×V)}{kvs:List (au×D)}(h:eQ K G ps kvs)(e:aY kvs k=none):bS ps k=none:=by induction h with
|nil=>rfl
|@cons p q ps kvs r t ih=>
  obtain⟨k1,v1⟩:=p;obtain⟨k2,d2⟩:=q;obtain⟨e1,r1⟩:=r;have e1':k1=k2:=e1;subst e1';by_cases hk:k1=k
  .subst hk;simp[aY,Hz]at e
  .have e':aY kvs k=none:=by simpa[aY,Hz,hk]using e
   rw[lq hk];exact ih e'
theorem BE(kvs:List (au×D))(k:au):b9 kvs k=(aY kvs k).isSome:=by induction kvs with
|nil=>rfl
|cons p r ih=>
  by_cases e:p.1=k
  .simp[b9,aY,Hz,e]
  .have h1:b9 (p::r) k=b9 r k:=by simp[b9,e]
   have h2:aY (p::r) k=aY r k:=by simp[aY,Hz,e]
   rw[h1,h2,ih]
theorem o5{K:W.Frag}{G:GH}{H:Hp}{v:V}{d:D}{k:au}(gk:aC K G H)(h:RB K G H v d)(e:di d=some k):v=kV k:=by cases d with
|int i=>cases e;exact h.int gk
|str x=>cases e;exact h.str gk
|_=>cases e
section
variable{X:Cx}{g:GE}{m mb:List Md}{e a b o c:Expr}{f fa fb fc:FE}{pos pos':Pos}
def jp(neg:Bool):R2:=fun y x H Q=>∃a o,x=.ref a/\cZ H a y o/\Q (.bl (if neg then ! o.isSome else o.isSome)) H
theorem A1(hu:X.A.units+1<Jl):aQ X (HI .In) (jp false):=by intro pz s σ H y x u v Q I ry rx h;obtain⟨a,oo,rfl,hg,q⟩:=h;cases rx;exact sA hu I hg ry fun s' I'=>⟨.bl _,H,I',rfl,q⟩
theorem CV(hu:X.A.units+1<Jl):aQ X (HI .NotIn) (jp true):=by intro pz s σ H y x u v Q I ry rx h;obtain⟨a,oo,rfl,hg,q⟩:=h;cases rx;exact BZ hu I hg ry fun s' I'=>⟨.bl _,H,I',rfl,q⟩
def fF(K:W.Frag)(neg:Bool):R2:=fun x y H Q=>sm K neg x y H Q\/jp neg x y H Q\/∃i j,x=.str i/\y=.str j/\Q (.bl (if neg then !(!(IH j i 0 j.length 1).isEmpty)else !(IH j i 0 j.length 1).isEmpty)) H
theorem A0(hu:X.A.units+1<Jl):aQ X (HI .In) (fF X.K false):=aQ.or EH (aQ.or (A1 hu) EI)
theorem CU(hu:X.A.units+1<Jl):aQ X (HI .NotIn) (fF X.K true):=aQ.or Gr (aQ.or (CV hu) Gs)
theorem wb{K:W.Frag}(neg:Bool):cn K (fF K neg) (fun x c=>(fX x c).map fun b=>.bl (if neg then ! b else b)):=by
 intro G H v1 v2 d1 d2 d Q gk r1 r2 e q;have seq:∀{xs:List V}{ds:List D}{p:Addr},aV K G xs ds->v2=.ref p->(aL K H p xs\/bL K H p xs)->cy d1=true->ds.all cy=true->d=.bl (if neg then !(ds.any fun y=>cG y d1)else ds.any fun y=>cG y d1)->fF K neg v1 v2 H Q:=fun{xs ds p} rs e2 hs hf hfs ed=>by
  obtain⟨e1,f1⟩:=RB.flat r1 gk hf;obtain⟨e3,f3⟩:=zO rs gk hfs;refine .inl ⟨p,xs,e2,hs,f1,f3,q _ G H (Grow.refl gk) ?_⟩;have:oy v1 xs=ds.any fun y=>cG y d1:=by unfold oy;rw[e3,Kp,e1];rfl
  rw[this,ed];exact .scl (.bl _)
 cases d2 with
|lst ds=>
  by_cases hc:cy d1=true/\ds.all cy=true
  .simp only[fX,if_pos hc,Ij]at e;obtain⟨p,xs,e2,hs,rs⟩:=r2.lst gk;exact seq rs e2 (.inl hs) hc.1 hc.2 (G_ e).symm
  .simp only[fX,if_neg hc,Lw]at e;cases e
|tup ds=>
  by_cases hc:cy d1=true/\ds.all cy=true
  .simp only[fX,if_pos hc,Ij]at e;obtain⟨p,xs,e2,hs,rs⟩:=r2.tup gk;exact seq rs e2 (.inr hs) hc.1 hc.2 (G_ e).symm
  .simp only[fX,if_neg hc,Lw]at e;cases e
|dic kvs=>simp only[fX]at e;cases ek:di d1 with
 |none=>rw[ek]at e;cases e
 |some k=>
   rw[ek]at e;cases e;obtain⟨p,ps,rfl,hs,rs⟩:=r2.dic gk;refine .inr (.inl ⟨p,bS ps k,rfl,by rw[o5 gk r1 ek];exact .inl ⟨ps,k,hs,rfl,rfl⟩,q _ G H (Grow.refl gk) ?_⟩);have:(bS ps k).isSome=b9 kvs k:=by rw[BE];cases eg:aY kvs k with
   |none=>rw[EM rs eg];rfl
   |some d=>obtain⟨v,h1,_⟩:=vD rs d eg;rw[h1];rfl
   rw[this];exact .scl (.bl _)
|str y=>cases d1 with
 |str z=>cases e;exact .inr (.inr ⟨z,y,r1.str gk,r2.str gk,q _ G H (Grow.refl gk) (.scl (.bl _))⟩)
 |_=>cases e
|_=>cases e
theorem zS{K:W.Frag}:cn K (fF K false) fh:=by
 have h:=wb (K:=K) false;have e:(fun x c=>(fX x c).map fun b=>D.bl (if false=true then ! b else b))=fh:=by funext x c;unfold fh;cases fX x c <;> rfl
 rw[e]at h;exact h
theorem Bz{K:W.Frag}:cn K (fF K true) bX:=by
 have h:=wb (K:=K) true;have e:(fun x c=>(fX x c).map fun b=>D.bl (if true=true then ! b else b))=bX:=by funext x c;unfold bX;cases fX x c <;> rfl
 rw[e]at h;exact h
theorem hW(hu:X.A.units+1<Jl)(ha:SB X g m a fa)(hb:SB X g m b fb)(hm:Ji .In b=false:=by rfl):SQ X g m (.Compare a [.In] [b] pos) (aO (f2 fa fb fh)):=iz (A0 hu) zS ha hb hm
theorem i5(hu:X.A.units+1<Jl)(ha:SB X g m a fa)(hb:SB X g m b fb)(hm:Ji .NotIn b=false:=by rfl):SQ X g m (.Compare a [.NotIn] [b] pos) (aO (f2 fa fb bX)):=iz (CU hu) Bz ha hb hm
def iS:D->D->Option D
|.non,.non=>some (.bl true)
|_,.non=>some (.bl false)
|_,_=>none
def cW:D->D->Option D
|.non,.non=>some (.bl false)
|_,.non=>some (.bl true)
|_,_=>none
theorem RB.isnon{K:W.Frag}{G:GH}{H:Hp}{v:V}{d:D}(gk:aC K G H)(h:RB K G H v d):(v=.non↔d=.non):=by
 constructor
 .intro e;subst e;rcases h with h|⟨a,e,_⟩
  .cases h with
  |scl s=>cases s;rfl
  .cases e
 .intro e;subst e;exact h.non gk
theorem zU{K:W.Frag}:cn K (fun x y H Q=>y=.non/\Q (.bl (decide (x=.non))) H) iS:=by intro G H v1 v2 d1 d2 d Q gk r1 r2 e q;have hn:=r1.isnon gk;cases d2 with
|non=>refine⟨r2.non gk,q _ G H (Grow.refl gk) ?_⟩;cases d1 with
 |non=>cases e;rw[decide_eq_true (hn.mpr rfl)];exact .scl (.bl _)
 |_=>cases e;rw[decide_eq_false (fun z=>by have:=hn.mp z;cases this)];exact .scl (.bl _)
|_=>cases d1 <;> cases e
theorem uJ{K:W.Frag}:cn K (fun x y H Q=>y=.non/\Q (.bl (! decide (x=.non))) H) cW:=by intro G H v1 v2 d1 d2 d Q gk r1 r2 e q;have hn:=r1.isnon gk;cases d2 with
|non=>refine⟨r2.non gk,q _ G H (Grow.refl gk) ?_⟩;cases d1 with
 |non=>cases e;rw[decide_eq_true (hn.mpr rfl)];exact .scl (.bl _)
 |_=>cases e;rw[decide_eq_false (fun z=>by have:=hn.mp z;cases this)];exact .scl (.bl _)
|_=>cases d1 <;> cases e
theorem Aq(ha:SB X g m a fa)(hb:SB X g m b fb):SE X g m (.Compare a [.IsNot] [b] pos) (f2 fa fb cW):=tX vT uJ ha hb (iG _)
theorem jt(ha:SB X g m a fa)(hb:SB X g m b fb):SQ X g m (.Compare a [.Is] [b] pos) (aO (f2 fa fb iS)):=iz A2 zU ha hb (iG _)
theorem uC(ha:SB X g m a fa)(hb:SB X g m b fb):SQ X g m (.Compare a [.IsNot] [b] pos) (aO (f2 fa fb cW)):=iz vT uJ ha hb (iG _)
end
end DL
section
namespace DL
open PySem PySem.Spec PyProof.Rows L2
section
variable{X:Cx}{g:GE}{m mb:List Md}{e a b o c:Expr}{f fa fb fc:FE}{pos pos' p1 p2:Pos}{ro:Bool}{x:Str}
def l6:R2:=fun x y H Q=>∃a v,x=.ref a/\cZ H a y (some v)/\Q v H
theorem Bl(hu:X.A.units+1<Jl):gH X l6:=by intro value slice pz s σ H x y v u Q I rx ry h hs;obtain⟨a,w,rfl,hg,q⟩:=h;cases rx;exact tail_any (F8 I hg) PySem.F.slot_dict_getitem.lookup (EZ hu I hg ry fun w' s' I' rw'=>⟨w,H,I',rw',q⟩) hs
def aK:D->D->Option D
|.dic kvs,k=>(di k).bind (aY kvs)
|c,k=>ixD c k
theorem Bk{K:W.Frag}:cn K (fun x y H Q=>l6 x y H Q\/sk K x y H Q) aK:=by intro G H v1 v2 d1 d2 d Q gk r1 r2 e q;cases d1 with
|dic kvs=>obtain⟨a,ps,rfl,hs,rs⟩:=r1.dic gk;have e':(di d2).bind (aY kvs)=some d:=e;cases ek:di d2 with
 |none=>rw[ek]at e';cases e'
 |some k=>rw[ek]at e';obtain⟨v,h1,h2⟩:=vD rs d e';refine .inl ⟨a,v,rfl,?_,q v G H (Grow.refl gk) h2⟩;rw[o5 gk r2 ek,<-h1];exact .inl ⟨ps,k,hs,rfl,rfl⟩
|lst ds=>exact .inr (oR G H v1 v2 _ d2 d Q gk r1 r2 e q)
|tup ds=>exact .inr (oR G H v1 v2 _ d2 d Q gk r1 r2 e q)
|str ds=>exact .inr (oR G H v1 v2 _ d2 d Q gk r1 r2 e q)
|_=>cases e
theorem fZ(hu:X.A.units+1<Jl)(ha:SB X g m a fa)(hb:SB X g m b fb)(hs:m4 b:=by intro _ _;rfl):SE X g m (.Subscript a b pos) (f2 fa fb aK):=oK Bk (tj (gH.or (Bl hu) Bm) ha hb hs)
theorem kM:SO X g m (.Dict [] [] pos) fun _=>.ok (.dic []):=PE.imp Ed fun σ H Q ⟨r,G,si,q⟩ p hp=>q p G _ (Grow.new si.gok hp _) hp ⟨si.gok.isN hp,.dic bM .nil⟩
def cD(kvs:List (au×D))(k:au)(d:D):List (au×D):=if (kvs.any fun kv=>decide (kv.1=k))=true then kvs.map fun kv=>if kv.1=k then(kv.1,d)else kv else kvs++[(k,d)]
theorem Di{K:W.Frag}{G:GH}{k:au}{ps:List (au×V)}{kvs:List (au×D)}(h:eQ K G ps kvs):(ps.any fun kv=>decide (kv.1=k))=kvs.any fun kv=>decide (kv.1=k):=by induction h with
|nil=>rfl
|cons r t ih=>rw[Jv,Jv,ih,r.1]
theorem Ak{K:W.Frag}{G:GH}{ps:List (au×V)}{kvs:List (au×D)}{k:au}{v:V}{d:D}(r:eQ K G ps kvs)(h:RG K G v d):eQ K G (b5 ps k v) (cD kvs k d):=by
 unfold b5 cD;rw[Di r];by_cases hc:(kvs.any fun kv=>decide (kv.1=k))=true
 .rw[if_pos hc,if_pos hc];clear hc
  induction r with
 |nil=>exact .nil
 |@cons p q ps kvs r t ih=>
   refine .cons ?_ ih;obtain⟨p1,p2⟩:=p;obtain⟨q1,q2⟩:=q;have e:p1=q1:=r.1;subst e;by_cases hk:p1=k
   .simp only[hk,if_true,true_and];exact h
   .simp only[hk,if_false,true_and];exact r.2
 .rw[if_neg hc,if_neg hc];exact Paired.snoc r ⟨rfl,h⟩
def cO:D->D->D->Option D
|.lst ds,.int k,v=>(d8 ds.length k).map fun j=>.lst (ds.set j v)
|.dic kvs,k,v=>(di k).bind fun k=>if kvs.length<sizeLine then some (.dic (cD kvs k v))else none
|_,_,_=>none
def tT:V->V->V->Hp->(Hp->Prop)->Prop:=fun o i v H Q=>∃p H',o=.ref p/\eR H p i v H'/\Q H'
theorem Cu(hu:X.A.units+1<Jl):dW X tT:=by intro pz s σ H o i v ov iv u Q I ro ri rv h;obtain⟨p,H',rfl,hp,q⟩:=h;cases ro;exact E1 hu I hp ri rv fun s' I'=>⟨H',I',q⟩
theorem dW.or{t t':ij}(h:dW X t)(h':dW X t'):dW X (fun o i v H Q=>t o i v H Q\/t' o i v H Q):=by
 intro pz s σ H o i v ov iv u Q I ro ri rv q;rcases q with q|q
 .exact h pz s σ H o i v ov iv u Q I ro ri rv q
 .exact h' pz s σ H o i v ov iv u Q I ro ri rv q
theorem Cb{K:W.Frag}{G:GH}{H:Hp}{a:Addr}{d k v d':D}{kv vv:V}{Q:Hp->Prop}(gk:aC K G H)(ow:Own K G H a d)(rk:RB K G H kv k)(rv:RG K G vv v)(e:cO d k v=some d')(q:∀o',OwnO K G (upd H a o') a d'->Q (upd H a o')):tU (.ref a) kv vv H Q\/tT (.ref a) kv vv H Q:=by cases ow.ob with
|@lst xs ds r s=>cases k with
 |int k=>have e':(d8 ds.length k).map (fun j=>D.lst (ds.set j v))=some d':=e;cases ej:d8 ds.length k with
  |none=>rw[ej]at e';cases e'
  |some j=>rw[ej]at e';cases e';exact .inl ⟨a,xs,k,j,rfl,rk.int gk,r,by rw[Paired.length s];exact ej,q _ (.lst bM (Paired.st rv j s))⟩
 |_=>cases e
|@dic ps kvs r s=>have e':(di k).bind (fun k=>if kvs.length<sizeLine then some (D.dic (cD kvs k v))else none)=some d':=e;cases ek:di k with
 |none=>rw[ek]at e';cases e'
 |some k'=>
   rw[ek]at e';have e2:(if kvs.length<sizeLine then some (D.dic (cD kvs k' v))else none)=some d':=e';by_cases hl:kvs.length<sizeLine
   .rw[if_pos hl]at e2;cases e2;have:=Paired.length s;refine .inr ⟨a,_,rfl,?_,q _ (.dic bM (Ak s rv))⟩;rw[o5 gk rk ek];exact eR.k r (by omega)
   .rw[if_neg hl]at e2;cases e2
def putF(m:List Md)(i:Nat)(fk fv:FE):FS:=fun r=>eJ m r (fv r) fun v=>match r[i]? with
|some (some d)=>eJ m r (fk r) fun k=>(match cO d k v with
 |some d'=>.nx (r.set i (some d'))
 |none=>.stuck)
|_=>.stuck
theorem jT(i:Nat)(hu:X.A.units+1<Jl)(hm:m[i]? = some .ow)(hN:X.N[i]? = some x)(hv:dG X.env.scope x)(hk:SB X g m b fb)(he:SE X g m e f)(hd:(x==("__debug__" : Str))=false:=by decide)(hcd:(x==("__classdict__" : Str))=false:=by decide)(ha:∀v,Ki (.Subscript (.Name x p1) b p2) X.env v=(do
   let ov <-KJ [v] (eval (.Name x p1) X.env);let iv <-KJ [v,ov] (eval b X.env)
   NX p2
   KJ [v,ov,iv] (NW ov iv v)
   release [v,ov,iv] []):=by intro _;rfl)(hs:LV [.Subscript (.Name x p1) b p2] e pos.line X.env=pure false:=by rfl)(hw:LW [.Subscript (.Name x p1) b p2] e X.env=pure none:=by rfl)(h1:(Iq [.Subscript (.Name x p1) b p2] X.env).map (·.2)=[Ki (.Subscript (.Name x p1) b p2) X.env]:=by rfl):SS X g ro mb m (.Assign [.Subscript (.Name x p1) b p2] e pos) (putF m i fb f) m:=by refine⟨rfl,PS.imp (uR he (Bd (gO hN hv hd hcd) hk (dW.or DO (Cu hu)) ha) hs hw h1) fun D0 σ H ⟨r,G,si,k⟩=>⟨r,G,si,?_⟩⟩;refine aT (e8 si rfl k) fun v k1 vv G1 H1 w1 rv=>?_;cases er:r[i]? with
|none=>simp only[er]at k1;exact(show False from k1).elim
|some oo=>cases oo with
 |none=>simp only[er]at k1;exact(show False from k1).elim
 |some d=>simp only[er]at k1;obtain⟨a,h1,h2,h3⟩:=(si.grow w1).mut hm er;refine⟨_,h1,r,G1,si.grow w1,?_⟩;refine aT (e8 (m:=m) (si.grow w1) rfl (br.gle k1 w1.ge)) fun kk k2 kv G2 H2 w2 rk=>?_;cases es:cO d kk v with
  |none=>simp only[es]at k2;exact(show False from k2).elim
  |some d'=>simp only[es]at k2;obtain⟨a',h1',h2',h3'⟩:=((si.grow w1).grow w2).mut hm er;rw[h1]at h1';cases h1';exact Cb w2.ok h2' rk (rv.mono w2.ge) es fun o' ob=>k2 σ G2 _ w2.ge (h3' o' d' ob)
end
mutual
def aH:D->PyData
|.non=>.none
|.bl b=>.bool b
|.int i=>.int i
|.str x=>.str x
|.tup ds=>.tuple (zc6 ds)
|.lst ds=>.list (zc6 ds)
|.dic _=>.none
|.obj _ _=>.none
def zc6:List D->List PyData
|[]=>[]
|d::ds=>aH d::zc6 ds
end
def bu:Nat->D->Prop
|_,.non=>True
|_,.bl _=>True
|_,.int _=>True
|_,.str x=>PyData.strOk x=true
|0,.tup _=>False
|0,.lst _=>False
|k+1,.tup ds=>∀d∈ds,bu k d
|k+1,.lst ds=>∀d∈ds,bu k d
|_,.dic _=>False
|_,.obj _ _=>False
theorem kR{k:Nat}{ds:List D}:bu (k+1) (.lst ds)↔∀d∈ds,bu k d:=by simp only[bu]
theorem pq{k:Nat}{ds:List D}:bu (k+1) (.tup ds)↔∀d∈ds,bu k d:=by simp only[bu]
def jB(a b:D):Bool:=JF (aH a) (aH b)
section
variable{X:Cx}{pz:List (Addr×Obj)}{σ:L2.St}{H:Hp}{s:g_}{G:GH}
theorem xX{k:Nat}(ih:∀(d:D)(v:V)(u:a_),bu k d->RG X.K G v d->L2.ao v u->∃as,Reads s.heap u (aH d) as)(ds:List D)(vs:List V)(us:List a_)(h:∀d∈ds,bu k d)(r:aV X.K G vs ds)(q:ai vs us):∃as,ReadsAll s.heap us (zc6 ds) as:=by induction r generalizing us with
|nil=>cases q;exact⟨[],.nil⟩
|cons r t ih'=>cases q with
 |cons r' t'=>obtain⟨a1,h1⟩:=ih _ _ _ (h _ c_) r r';obtain⟨a2,h2⟩:=ih' _ (fun x hx=>h x (f_ _ hx)) t';exact⟨a1++a2,.cons h1 h2⟩
theorem nu(I:Inv X pz σ H s)(gk:aC X.K G H):∀(k:Nat)(d:D)(v:V)(u:a_),bu k d->RB X.K G H v d->L2.ao v u->∃as,Reads s.heap u (aH d) as:=by
 intro k
 induction k with
|zero=>intro d v u hs r ru;cases d with
 |non=>rw[r.non gk]at ru;cases ru;exact⟨_,.none⟩
 |bl b=>rw[r.bl gk]at ru;cases ru;exact⟨_,.bool b⟩
 |int i=>rw[r.int gk]at ru;obtain⟨t,rfl⟩:=ru;exact⟨_,.int i t⟩
 |str x=>rw[r.str gk]at ru;obtain⟨t,rfl⟩:=ru;exact⟨_,.str x t⟩
 |tup _=>unfold bu at hs;exact hs.elim
 |lst _=>unfold bu at hs;exact hs.elim
 |dic _=>unfold bu at hs;exact hs.elim
 |obj _ _=>unfold bu at hs;exact hs.elim
|succ k ih=>intro d v u hs r ru;cases d with
 |non=>rw[r.non gk]at ru;cases ru;exact⟨_,.none⟩
 |bl b=>rw[r.bl gk]at ru;cases ru;exact⟨_,.bool b⟩
 |int i=>rw[r.int gk]at ru;obtain⟨t,rfl⟩:=ru;exact⟨_,.int i t⟩
 |str x=>rw[r.str gk]at ru;obtain⟨t,rfl⟩:=ru;exact⟨_,.str x t⟩
 |tup ds=>obtain⟨a,xs,rfl,sq,rs⟩:=r.tup gk;cases ru;obtain⟨its,rv,pl,_⟩:=I.tuple sq;obtain⟨o,ho,hc,n,hd⟩:=pl;obtain⟨as,h⟩:=xX (k:=k) (fun d v u h1 h2 h3=>ih d v u h1 h2.rb h3) ds xs its (pq.mp hs) rs rv;refine⟨as,?_⟩;unfold aH;exact .tuple ho hc hd (by simpa using h)
 |lst ds=>obtain⟨a,xs,rfl,sq,rs⟩:=r.lst gk;cases ru;obtain⟨its,rv,pl,_⟩:=I.list sq;obtain⟨o,ho,hc,n,hd⟩:=pl.isList;obtain⟨as,h⟩:=xX (k:=k) (fun d v u h1 h2 h3=>ih d v u h1 h2.rb h3) ds xs its (kR.mp hs) rs rv;refine⟨a::as,?_⟩;unfold aH;exact .list ho hc hd (by simpa using h)
 |dic _=>unfold bu at hs;exact hs.elim
 |obj _ _=>unfold bu at hs;exact hs.elim
theorem pk{k:Nat}(ih:∀d,bu k d->Ia (aH d)=true/\Iv (aH d)<=k):∀ds:List D,(∀d∈ds,bu k d)->KP (zc6 ds)=true/\Lx (zc6 ds)<=k
|[],_=>by unfold zc6 KP Lx;exact⟨rfl,Hy _⟩
|d::ds,h=>by obtain⟨a1,a2⟩:=ih d (h d c_);obtain⟨b1,b2⟩:=pk ih ds fun x hx=>h x (f_ _ hx);unfold zc6 KP Lx;rw[a1,b1];exact⟨rfl,Nat.max_le.mpr ⟨a2,b2⟩⟩
theorem B8:∀(k:Nat)(d:D),bu k d->Ia (aH d)=true/\Iv (aH d)<=k:=by
 intro k
 induction k with
|zero=>intro d hs;cases d with
 |non=>unfold aH Ia Iv;exact⟨rfl,Hy _⟩
 |bl b=>unfold aH Ia Iv;exact⟨rfl,Hy _⟩
 |int i=>unfold aH Ia Iv;exact⟨rfl,Hy _⟩
 |str x=>unfold bu at hs;unfold aH Ia Iv;exact⟨hs,Hy _⟩
 |tup _=>unfold bu at hs;exact hs.elim
 |lst _=>unfold bu at hs;exact hs.elim
 |dic _=>unfold bu at hs;exact hs.elim
 |obj _ _=>unfold bu at hs;exact hs.elim
|succ k ih=>intro d hs;cases d with
 |non=>unfold aH Ia Iv;exact⟨rfl,Hy _⟩
 |bl b=>unfold aH Ia Iv;exact⟨rfl,Hy _⟩
 |int i=>unfold aH Ia Iv;exact⟨rfl,Hy _⟩
 |str x=>unfold bu at hs;unfold aH Ia Iv;exact⟨hs,Hy _⟩
 |tup ds=>obtain⟨b1,b2⟩:=pk ih ds (pq.mp hs);unfold aH Ia Iv;exact⟨b1,Mx b2⟩
 |lst ds=>obtain⟨b1,b2⟩:=pk ih ds (kR.mp hs);unfold aH Ia Iv;exact⟨b1,Mx b2⟩
 |dic _=>unfold bu at hs;exact hs.elim
 |obj _ _=>unfold bu at hs;exact hs.elim
theorem nI{d:D}(h:bu 60 d):N5 (aH d)=true:=by obtain⟨a,b⟩:=B8 60 d h;unfold N5;rw[a,decide_eq_true (HZ b (by decide))];rfl
end
section
variable{X:Cx}{g:GE}{m mb:List Md}{e a b o c:Expr}{f fa fb fc:FE}{pos pos':Pos}
def iX(a b:D):Bool:=cy a&&cy b&&hV (dE a) (dE b)
open Classical in
def dF(a b:D):Option Bool:=if iX a b=true then some (cG a b)else if bu 60 a/\bu 60 b then some (jB a b)else none
def eqD(a b:D):Option D:=(dF a b).map .bl
def neD(a b:D):Option D:=(dF a b).map fun c=>.bl (! c)
theorem xl{a b:D}(h:iX a b=false)(h1:bu 60 a)(h2:bu 60 b):dF a b=some (jB a b):=by unfold dF;rw[if_neg (by rw[h];exact d_),if_pos ⟨h1,h2⟩]
theorem k9{a b:D}(h:iX a b=true):dF a b=some (cG a b):=by unfold dF;rw[if_pos h]
@[simp] theorem eqB_int(a b:Int):dF (.int a) (.int b)=some (a==b):=k9 rfl
@[simp] theorem eqB_str(a b:Str):dF (.str a) (.str b)=some (a==b):=k9 rfl
@[simp] theorem eqB_non_int(b:Int):dF .non (.int b)=some false:=k9 rfl
@[simp] theorem eqB_int_non(b:Int):dF (.int b) .non=some false:=k9 rfl
@[simp] theorem eqB_non_non:dF .non .non=some true:=k9 rfl
theorem xv{a b:D}(h:hV (dE a) (dE b)=true)(fa:cy a=true)(fb:cy b=true):decide (dE a=dE b)=cG a b:=by
 cases a <;> cases b <;> first
  |exact absurd (show false=true from fa) d_
  |exact absurd (show false=true from fb) d_
  |exact absurd (show false=true from h) d_
  |exact py
  |exact oZ
  |exact pA
  |rfl
  |simp[dE,cG,fJ]
def m9(K:W.Frag)(neg:Bool):R2:=fun x y H Q=>∃(G:GH)(d1 d2:D),aC K G H/\RB K G H x d1/\RB K G H y d2/\bu 60 d1/\bu 60 d2/\Q (.bl (if neg then ! jB d1 d2 else jB d1 d2)) H
theorem xV(hu:X.A.units+64<Jl):aQ X (HI .Eq) (m9 X.K false):=by intro pz s σ H x y v u Q I rx ry h;obtain⟨G,d1,d2,gk,r1,r2,s1,s2,q⟩:=h;obtain⟨as,h1⟩:=nu I gk 60 d1 x v s1 r1 rx;obtain⟨bs,h2⟩:=nu I gk 60 d2 y u s2 r2 ry;exact SeqAt.compareEq_shaped h1 h2 (nI s1) (nI s2) hu ⟨.bl _,H,I,rfl,q⟩
theorem EJ(hu:X.A.units+64<Jl):aQ X (HI .NotEq) (m9 X.K true):=by intro pz s σ H x y v u Q I rx ry h;obtain⟨G,d1,d2,gk,r1,r2,s1,s2,q⟩:=h;obtain⟨as,h1⟩:=nu I gk 60 d1 x v s1 r1 rx;obtain⟨bs,h2⟩:=nu I gk 60 d2 y u s2 r2 ry;exact SeqAt.compareNe_shaped h1 h2 (nI s1) (nI s2) hu ⟨.bl _,H,I,rfl,q⟩
theorem eq_cases{a b:D}{c:Bool}(h:dF a b=some c):(iX a b=true/\c=cG a b)\/(bu 60 a/\bu 60 b/\c=jB a b):=by
 unfold dF at h;split at h
 .rename_i hs;cases h;exact .inl ⟨hs,rfl⟩
 .split at h
  .rename_i hs;cases h;exact .inr ⟨hs.1,hs.2,rfl⟩
  .cases h
theorem sU{K:W.Frag}:cn K (fun x y H Q=>zr x y H Q\/m9 K false x y H Q) eqD:=by intro G H v1 v2 d1 d2 d Q gk r1 r2 e q;unfold eqD at e;cases ec:dF d1 d2 with
|none=>rw[ec]at e;cases e
|some c=>
  rw[ec]at e;cases e;rcases eq_cases ec with⟨hs,rfl⟩|⟨s1,s2,rfl⟩
  .unfold iX at hs;rw[Hs,Hs]at hs;obtain⟨e1,_⟩:=RB.flat r1 gk hs.1.1;obtain⟨e2,_⟩:=RB.flat r2 gk hs.1.2;refine .inl ⟨by rw[e1,e2];exact hs.2,?_⟩;rw[e1,e2,xv hs.2 hs.1.1 hs.1.2];exact q _ G H (Grow.refl gk) (.scl (.bl _))
  .exact .inr ⟨G,d1,d2,gk,r1,r2,s1,s2,q _ G H (Grow.refl gk) (.scl (.bl _))⟩
theorem AL{K:W.Frag}:cn K (fun x y H Q=>zq x y H Q\/m9 K true x y H Q) neD:=by intro G H v1 v2 d1 d2 d Q gk r1 r2 e q;unfold neD at e;cases ec:dF d1 d2 with
|none=>rw[ec]at e;cases e
|some c=>
  rw[ec]at e;cases e;rcases eq_cases ec with⟨hs,rfl⟩|⟨s1,s2,rfl⟩
  .unfold iX at hs;rw[Hs,Hs]at hs;obtain⟨e1,_⟩:=RB.flat r1 gk hs.1.1;obtain⟨e2,_⟩:=RB.flat r2 gk hs.1.2;refine .inl ⟨by rw[e1,e2];exact hs.2,?_⟩;rw[e1,e2,xv hs.2 hs.1.1 hs.1.2];exact q _ G H (Grow.refl gk) (.scl (.bl _))
  .exact .inr ⟨G,d1,d2,gk,r1,r2,s1,s2,q _ G H (Grow.refl gk) (.scl (.bl _))⟩
theorem fE(hu:X.A.units+64<Jl)(ha:SB X g m a fa)(hb:SB X g m b fb):SE X g m (.Compare a [.Eq] [b] pos) (f2 fa fb eqD):=tX (aQ.or sZ (xV hu)) sU ha hb (iG _)
theorem dJ(hu:X.A.units+64<Jl)(ha:SB X g m a fa)(hb:SB X g m b fb):SQ X g m (.Compare a [.Eq] [b] pos) (aO (f2 fa fb eqD)):=iz (aQ.or sZ (xV hu)) sU ha hb (iG _)
theorem jq(hu:X.A.units+64<Jl)(ha:SB X g m a fa)(hb:SB X g m b fb):SQ X g m (.Compare a [.NotEq] [b] pos) (aO (f2 fa fb neD)):=iz (aQ.or AR (EJ hu)) AL ha hb (iG _)
def kQ(fa fb fc:FE)(k k':D->D->Option D):FE:=fun r=>(fa r).bind fun x=>(fb r).bind fun y=>(bO (k x y)).bind fun z=>(bO (gC z)).bind fun c=>if c=true then(fc r).bind fun w=>bO (k' y w)else .ok (.bl false)
def uD(K:W.Frag):R2:=fun x y H Q=>∃l b xs zs,x=.ref l/\y=.ref b/\aL K H l xs/\aL K H b zs/\xs.length+zs.length<=sizeLine/\∀p,H p=none->Q (.ref p) (upd H p (.lst (xs++zs)))
theorem CQ:aQ X (JD .Add) (uD X.K):=by
 intro pz s σ H x y v u Q I rx ry h;obtain⟨l,b,xs,zs,rfl,rfl,hH,hB,hz,q⟩:=h;cases rx;cases ry;obtain⟨its,r,pl,_⟩:=I.list hH;obtain⟨its2,r2,pl2,_⟩:=I.list hB;have l1:=r.length;have l2:=r2.length;obtain⟨⟨cls,dd,data,sl⟩,ho,hc,n,hd⟩:=pl.isList;obtain⟨⟨cls2,dd2,data2,sl2⟩,ho2,hc2,n2,hd2⟩:=pl2.isList;simp only at hc hd hc2 hd2;subst hc hd hc2 hd2;have e:its.toArray++its2.toArray=(its++its2).toArray:=by simp
 refine Mh ⟨_,ho,rfl⟩ ⟨_,ho2,rfl⟩ noFill_list_add seq_list_add PySem.F.slot_list_add PySem.F.entry_list_add (PySem.F.args_list_add_2 _ _) (list_addW _ _ its.toArray its2.toArray n n2 dd dd2 sl sl2 (by simp;omega)) ⟨ho,ho2,?_⟩;rw[e];exact⟨.ref _,_,I.lnew (t':=s.toks) (r.append r2) (by rw[HJ];omega),rfl,q _ I.fresh⟩
def addA:D->D->Option D
|.int a,.int b=>some (.int (a+b))
|.str a,.str b=>if a.length+b.length<=sizeLine then some (.str (a++b))else none
|.lst a,.lst b=>if a.length+b.length<=sizeLine then some (.lst (a++b))else none
|.tup (x::a),.tup b=>if (x::a).length+b.length<=sizeLine then some (.tup (x::a++b))else none
|_,_=>none
theorem BS{K:W.Frag}:cn K (fun x y H Q=>(∃i j,x=.int i/\y=.int j/\Q (.int (i+j)) H)\/(∃i j,x=.str i/\y=.str j/\i.length+j.length<=sizeLine/\Q (.str (i++j)) H)\/uD K x y H Q\/tN K x y H Q) addA:=by
 intro G H v1 v2 d1 d2 d Q gk r1 r2 e q;unfold addA at e;split at e
 .cases e;exact .inl ⟨_,_,r1.int gk,r2.int gk,q _ G H (Grow.refl gk) (.scl (.int _))⟩
 .split at e
  .rename_i hl;cases e;exact .inr (.inl ⟨_,_,r1.str gk,r2.str gk,hl,q _ G H (Grow.refl gk) (.scl (.str _))⟩)
  .cases e
 .split at e
  .rename_i hl;cases e;obtain⟨a,xs,rfl,s1,t1⟩:=r1.lst gk;obtain⟨b,ys,rfl,s2,t2⟩:=r2.lst gk;have l1:=Paired.length t1;have l2:=Paired.length t2;exact .inr (.inr (.inl ⟨a,b,xs,ys,rfl,rfl,s1,s2,by omega,fun p hp=>q _ _ _ (Grow.newF gk hp (.lst (.inl bM) (Paired.app t1 t2))) (.ref dA)⟩))
  .cases e
 .split at e
  .rename_i x0 a0 b0 hl;cases e;rcases r1 with r1|⟨a',_,oo⟩
   .obtain⟨a,xs,rfl,s1,t1⟩:=r1.tup gk;obtain⟨b,ys,rfl,s2,t2⟩:=r2.tup gk;have l1:=Paired.length t1;have l2:=Paired.length t2;refine .inr (.inr (.inr ⟨a,b,xs,ys,rfl,rfl,s1,s2,?_,by omega,fun hy=>?_,fun _ p hp=>q _ _ _ (Grow.newF gk hp (.tup (.inl bM) (Paired.app t1 t2))) (.ref dA)⟩))
    .rintro rfl
     cases t1
    .subst hy;cases t2;refine q _ G H (Grow.refl gk) ?_;rw[HU];exact r1
   .cases oo.ob
  .cases e
 .cases e
theorem gl(ha:SB X g m a fa)(hb:SB X g m b fb):SE X g m (.BinOp a .Add b pos) (f2 fa fb addA):=jR (aQ.or AZ (aQ.or FR (aQ.or CQ CS))) BS ha hb
end
end DL
end
namespace DL
open PySem PySem.Spec PyProof.Rows L2
structure DefAt(K:W.Frag)(mg:Str->Option a_)(x:Str)(st:Stmt):Prop where
 ex:∃f fd,mg x=some (.ref f)/\Fun K x x st f fd
structure Callee(P:z_)(w:Ht)(K:W.Frag)(mg:Str->Option a_)(base:Heap)(x:Str)(ps:List Str)(ds:List a_)(k:Nat)(ro:Bool)(ms:List Md)(F:List D->Res D):Prop where
 ex:∃f fd,mg x=some (.ref f)/\W.keepIn K (.ref f)=true/\dY K fd ps ds/\FnOk P w K mg base bB k f fd ps (fV K ro ms F)
section
variable{P:z_}{w:Ht}{K:W.Frag}{mg:Str->Option a_}{base:Heap}
theorem Bv{x:Str}{st:Stmt}{N ps:List Str}{k:Nat}{ro:Bool}{ms:List Md}{fs:FS}{m':List Md}(A:DefAt K mg x st)(S:FnScope N ps (az st))(hms:ms.length=ps.length)(hb:∀(kV doc pm:a_)(an:Option Addr)(cdv ct:a_)(us:List a_),us.length=ps.length->K9 (W.fnOf x x (eZ st) (c6 st) (az st) .none kV doc pm an cdv ct) ⟨us,[]⟩=pure (ps.zip us))(hbody:∀(f:Addr)(cdv:a_)(A:HA)(outer:List Env)(s:g_)(H:Hp)(g:GE)(E:XK),Room k (A.deeper (JW x (az st) s.heap.objs.size f cdv)) ->dU (aR bB P w K mg base N x (az st) f cdv A outer s H E).nox g ro [] (gP N.length ms) (c6 st) fs m'):Callee P w K mg base x ps [] (k+1) ro ms fun ds=>aD ro (fs (aS N.length ds)):=by obtain⟨f,fd,h1,F⟩:=A.ex;exact⟨f,fd,h1,F.kp,F.binds hb,vE F S hms (hbody f)⟩
structure DefAtD(K:W.Frag)(mg:Str->Option a_)(x:Str)(st:Stmt)(dds:List a_):Prop where
 ex:∃(f T:Addr)(o:Obj)(n:Nat)(oc:a_)(od:Option Addr)(kV doc pm:a_)(an:Option Addr)(cdv ct:a_)(osl:Array (Option a_)),mg x=some (.ref f)/\K.lookup T=some o/\o.data=.seq dds.toArray n/\K.lookup f=some ⟨oc,od,.func (W.fnOf x x (eZ st) (c6 st) (az st) (.ref T) kV doc pm an cdv ct),osl⟩/\W.codeIn K cdv x=true/\W.keepIn K (.ref f)=true
theorem pE{x:Str}{st:Stmt}{N ps:List Str}{k:Nat}{ro:Bool}{ms:List Md}{fs:FS}{m':List Md}{dds ds:List a_}(A:DefAtD K mg x st dds)(S:FnScope N ps (az st))(hms:ms.length=ps.length)(nn:Nat)(hn:nn+ds.length=ps.length)(hb:∀(T:Addr)(kV doc pm:a_)(an:Option Addr)(cdv ct:a_)(us:List a_),us.length=nn->∃kk:Option (Array a_)->Sem (List (Str×a_)),K9 (W.fnOf x x (eZ st) (c6 st) (az st) (.ref T) kV doc pm an cdv ct) ⟨us,[]⟩=My (.ref T) >>= kk/\kk (some dds.toArray)=pure (ps.zip (us++ds)))(hbody:∀(f:Addr)(cdv:a_)(A:HA)(outer:List Env)(s:g_)(H:Hp)(g:GE)(E:XK),Room k (A.deeper (JW x (az st) s.heap.objs.size f cdv)) ->dU (aR bB P w K mg base N x (az st) f cdv A outer s H E).nox g ro [] (gP N.length ms) (c6 st) fs m'):Callee P w K mg base x ps ds (k+1) ro ms fun zs=>aD ro (fs (aS N.length zs)):=by
 obtain⟨f,T,o,n,oc,od,kV,doc,pm,an,cdv,ct,osl,h1,hT,hd,lk,hcd,kp⟩:=A.ex;refine⟨f,W.fnOf x x (eZ st) (c6 st) (az st) (.ref T) kV doc pm an cdv ct,h1,kp,fun s us KX hl=>?_,?_⟩
 .obtain⟨kk,e1,e2⟩:=hb T kV doc pm an cdv ct us (by rw[HJ]at hl;omega);exact LR rfl (KX _ _ hT) hd e1 e2
 .have hpl:ps.length<=N.length:=by have:=congrArg KM S.pre;rw[JI]at this;omega
  refine oI lk hcd S (fun vs H Q E ⟨G,ds,gk,rs,q⟩=>rs.len.1.trans hms) fun A outer s H vs Q E hr ⟨G,ds,gk,rs,q⟩=>?_;exact⟨_,(hbody f cdv A outer s H ⟨G,H,fun _=>none⟩ E hr).2.nox,aS N.length ds,G,pM gk rs (by omega),xi q⟩
end
section
variable{X:Cx}{g:GE}{m:List Md}{e:Expr}{es:List Expr}{fl:ag->Res (List D)}{k:Nat}{ps:List Str}{F:List D->Res D}{dvs:List V}{ds:List a_}{dds:List D}{x:Str}{p pos:Pos}{i:Nat}{ms ms':List Md}
theorem vA(c:Callee X.prog X.w X.K X.mg X.base x ps ds k false ms' F)(hr:Room k X.A)(ha:fL X g m (e::es) ms fl)(hms:ms'=ms++HM dds.length .sh:=by rfl)(hg:Gl X x:=by rfl)(hd:ai dvs ds:=by exact .nil)(hsc:Paired Scl dvs dds:=by exact .nil)(hdb:(x==("__debug__" : Str))=false:=by decide)(he:l_ (e::es) X.env=(false,eval e X.env)::l_ es X.env:=by rfl)(hpl:(backTo pos (l_ es X.env)).any (·.1)=false:=by rfl):SE X g m (.Call (.Name x p) (e::es) [] pos) (aJ fl dds F):=by subst hms;obtain⟨f,fd,h1,h2,h3,h4⟩:=c.ex;exact B6 h4 hr hg h1 h2 h3 hd hsc ha hdb he hpl
theorem wf(c:Callee X.prog X.w X.K X.mg X.base x ps ds k true ms' F)(hr:Room k X.A)(ha:fL X g m (e::es) ms fl)(hms:ms'=ms++HM dds.length .sh:=by rfl)(hg:Gl X x:=by rfl)(hd:ai dvs ds:=by exact .nil)(hsc:Paired Scl dvs dds:=by exact .nil)(hdb:(x==("__debug__" : Str))=false:=by decide)(he:l_ (e::es) X.env=(false,eval e X.env)::l_ es X.env:=by rfl)(hpl:(backTo pos (l_ es X.env)).any (·.1)=false:=by rfl):SE X g m (.Call (.Name x p) (e::es) [] pos) (aJ fl dds F):=by subst hms;obtain⟨f,fd,h1,h2,h3,h4⟩:=c.ex;exact Cq h4 hr hg h1 h2 h3 hd hsc ha hdb he hpl
theorem wj(c:Callee X.prog X.w X.K X.mg X.base x ps ds k true ms' F)(hr:Room k X.A)(ha:fL X g m (e::es) ms fl)(hms:ms'=ms++HM dds.length .sh:=by rfl)(hg:Gl X x:=by rfl)(hd:ai dvs ds:=by exact .nil)(hsc:Paired Scl dvs dds:=by exact .nil)(hdb:(x==("__debug__" : Str))=false:=by decide)(he:l_ (e::es) X.env=(false,eval e X.env)::l_ es X.env:=by rfl)(hpl:(backTo pos (l_ es X.env)).any (·.1)=false:=by rfl):SO X g m (.Call (.Name x p) (e::es) [] pos) (eG (aJ fl dds F)):=by subst hms;obtain⟨f,fd,h1,h2,h3,h4⟩:=c.ex;exact AV h4 hr hg h1 h2 h3 hd hsc ha hdb he hpl
theorem v_(i:Nat)(hm:m[i]? = some .sh:=by rfl)(hN:X.N[i]? = some x:=by rfl)(hv:dG X.env.scope x:=by first|exact Or.inl rfl|exact Or.inr (Or.inl rfl)|exact Or.inr (Or.inr rfl))(hd:(x==("__debug__" : Str))=false:=by decide)(hcd:(x==("__classdict__" : Str))=false:=by decide):SE X g m (.Name x p) fun r=>dm r i:=At i hm hN hv hd hcd
theorem ae(i:Nat)(hm:i<m.length:=by decide)(hN:X.N[i]? = some x:=by rfl)(hv:dG X.env.scope x:=by first|exact Or.inl rfl|exact Or.inr (Or.inl rfl)|exact Or.inr (Or.inr rfl))(hd:(x==("__debug__" : Str))=false:=by decide)(hcd:(x==("__classdict__" : Str))=false:=by decide):SB X g m (.Name x p) fun r=>dm r i:=B7 i hm hN hv hd hcd
end
def wk(osc:JC)(ON:List Str)(sc:JC)(N':List Str)(nl:Nat)(cap:List Nat):Bool:=decide (sc.kind=.function)&&sc.names.all (fun y=>decide (y.2≠.cell))&&sc.names.all (fun y=>decide (y.2≠.local) || decide (sc.names.lookup y.1=some .local)) &&
 sc.names.all (fun y=>decide (y.2≠.free) || (decide (osc.names.lookup y.1=some .cell) || decide (osc.names.lookup y.1=some .free)))&&decide (N'.length=nl+cap.length) &&
 (r_ cap.length).all fun j=>match N'[nl+j]?,ON[cap.getD j 0]? with
 |some x,some y=>decide (x=y)&&decide (sc.names.lookup x=some .free)
 |_,_=>false
theorem fB{X:Cx}{osc:JC}{ON:List Str}{sc:JC}{N':List Str}{nl:Nat}{cap:List Nat}(h1:X.env.scope=osc)(h2:X.N=ON)(h:wk osc ON sc N' nl cap=true):CompSc X sc N' nl cap:=by subst h1 h2;unfold wk at h;simp only[Hs,E_,decide_eq_true_eq,ML]at h;obtain⟨⟨⟨⟨⟨a1,a2⟩,a3⟩,a4⟩,a5⟩,a6⟩:=h;refine⟨a1,a2,fun y hy hl=>(a3 y hy).resolve_left fun z=>z hl,fun y hy hf=>(a4 y hy).resolve_left fun z=>z hf,a5,fun j hj=>?_⟩;have h6:=a6 j (D_.mpr hj);cases e1:N'[nl+j]? with
|none=>rw[e1]at h6;cases h6
|some x=>cases e2:X.N[cap.getD j 0]? with
 |none=>rw[e1,e2]at h6;cases h6
 |some y=>rw[e1,e2]at h6;simp only[Hs,decide_eq_true_eq]at h6;exact⟨x,rfl,by rw[h6.1],h6.2⟩
section
variable{X:Cx}{g:GE}{m mb:List Md}{e a b c:Expr}{f fa fb fc:FE}{pos pos':Pos}
theorem E9{R R':R2}{k k':D->D->Option D}(ho:cn X.K R k)(ho':cn X.K R' k'){σ:L2.St}{H:Hp}{Q:VK}(h:tE X g m (kQ fa fb fc k k') σ H Q):uF R R' (tB X g m fa) (tB X g m fb) (tB X g m fc) σ H Q:=by obtain⟨r,G,si,q⟩:=h;refine seq2 si q fun d1 d2 v1 v2 G2 H2 w r1 r2 q2=>?_;obtain⟨z,ez,q3⟩:=cB (a8 q2);obtain⟨cc,ec,q4⟩:=cB (a8 q3);refine ho G2 H2 v1 v2 d1 d2 z _ w.ok r1 r2 ez fun v G3 H3 w3 rv=>?_;cases z with
|bl b'=>cases ec;refine⟨_,rv.bl w3.ok,?_⟩;cases cc with
 |false=>rw[if_neg d_]at q4 ⊢;exact q4 _ G3 H3 (w.trans w3) (.scl (.bl _))
 |true=>rw[if_pos rfl]at q4 ⊢;refine⟨r,G3,(si.grow w).grow w3,gq (a8 q4) (w.trans w3) fun d3 q5 v3 G4 H4 w4 r3=>?_⟩;obtain⟨d,e,q6⟩:=cB q5;exact ho' G4 H4 v2 v3 d2 d3 d Q w4.ok ((r2.mono w3).mono w4) r3 e fun v G' H' w' z=>q6 v G' H' (((w.trans w3).trans w4).trans w') z
|_=>cases ec
theorem DM{op op':NQ}{R R':R2}{k k':D->D->Option D}(hr:aQ X (HI op) R)(hr':aQ X (HI op') R')(ho:cn X.K R k)(ho':cn X.K R' k')(ha:SB X g m a fa)(hb:SB X g m b fb)(hc:SB X g m c fc)(hm:lastMarks [op,op'] [b,c]=false:=by with_unfolding_all rfl):SE X g m (.Compare a [op,op'] [b,c] pos) (kQ fa fb fc k k'):=PE.imp (Ec hr hr' ha hb hc hm) fun σ H Q h=>E9 ho ho' h
theorem AN{K:W.Frag}:cn K (gT fun i j=>V.bl (decide (i<j))) ic:=kZ fun _ _=>.bl _
theorem AM{K:W.Frag}:cn K (gT fun i j=>V.bl (decide (i<=j))) su:=kZ fun _ _=>.bl _
end
theorem ce{K:W.Frag}{h:Heap}{mg:Str->Option a_}{x:Str}{st:Stmt}(KX:K.In h)(G:h.Ns Il mg){f:Addr}{oc:a_}{od an:Option Addr}{osl:Array (Option a_)}{kV doc pm cdv ct:a_}(a:W.nsIn K Il x=some (some (.ref f)))(l:K.lookup f=some ⟨oc,od,.func (W.fnOf x x (eZ st) (c6 st) (az st) .none kV doc pm an cdv ct),osl⟩)(c:W.codeIn K cdv x=true)(k:W.keepIn K (.ref f)=true):DefAt K mg x st:=⟨f,_,W.mg_of KX G a,Ah l c k⟩
theorem oC{K:W.Frag}{h:Heap}{mg:Str->Option a_}{x:Str}{st:Stmt}{dds:List a_}(KX:K.In h)(G:h.Ns Il mg){f T:Addr}{oc tc:a_}{od an td:Option Addr}{osl tsl:Array (Option a_)}{n:Nat}{kV doc pm cdv ct:a_}(a:W.nsIn K Il x=some (some (.ref f)))(l:K.lookup f=some ⟨oc,od,.func (W.fnOf x x (eZ st) (c6 st) (az st) (.ref T) kV doc pm an cdv ct),osl⟩)(t:K.lookup T=some ⟨tc,td,.seq dds.toArray n,tsl⟩)(c:W.codeIn K cdv x=true)(k:W.keepIn K (.ref f)=true):DefAtD K mg x st dds:=⟨f,T,_,n,oc,od,kV,doc,pm,an,cdv,ct,osl,W.mg_of KX G a,t,rfl,l,c,k⟩
theorem zA{P:z_}{w:Ht}{K:W.Frag}{mg:Str->Option a_}{x p:Str}{st:Stmt}{k:Nat}{F:List D->Res D}{fa:Addr}(hfa:mg x=some (.ref fa))(A:DefAt K mg x st)(hb:∀(kV doc pm:a_)(an:Option Addr)(cdv ct:a_)(us:List a_),us.length=[p].length->K9 (W.fnOf x x (eZ st) (c6 st) (az st) .none kV doc pm an cdv ct) ⟨us,[]⟩=pure ([p].zip us))(C:∀(f:Addr)(fd:Iy),Fun K x x st f fd->∀base:Heap,FnOk P w K mg base bB k f fd [p] (fV K false [.sh] F)):∃fd:Iy,(∀(s:g_)(u:a_),LP s fd ⟨[u],[]⟩ [(p,u)])/\∀base:Heap,K.In base->base.Ns Il mg->FnOk P w K mg base bB k fa fd [p] (fV K false [.sh] F):=by obtain⟨f,fd,h1,Fn⟩:=A.ex;rw[hfa]at h1;cases h1;refine⟨fd,fun s u=>?_,fun base _ _=>C fa fd Fn base⟩;obtain⟨oc,od,kV,doc,pm,an,cdv,ct,osl,rfl,lk,hcd⟩:=Fn.ex;exact .of_eq (hb kV doc pm an cdv ct [u] rfl)
theorem zy{l:W.OpenLaw}{k:Nat}{q:z_}{loose:List Str}{XP:(Str->Option a_)->Heap->Prop}{YP:Ht->Heap->Prop}{d:DefRec}{K:Params->W.Frag}{x:Str}{F:List D->Res D}(hn:l.most=some 63)(hdf:d.params.defaults=[])(hr:Room k Ln)(hY:∀(w:Ht)(h:Heap),YP w h->(K w.params).In h)(hF:∀ns:List Int,ns.length<=63->F [.lst (ns.map .int)]=.ok (.bl true))(C:∀(w:Ht)(mg:Str->Option a_)(fa:Addr)(h:Heap),(K w.params).In h->h.Ns Il mg->mg d.name=some (.ref fa) ->∃fd:Iy,(∀(s:g_)(u:a_),LP s fd ⟨[u],[]⟩ [(x,u)])/\∀base:Heap,(K w.params).In base->base.Ns Il mg->FnOk l.prog w (K w.params) mg base bB k fa fd [x] (fV (K w.params) false [.sh] F)):W.WalkO q loose XP YP l.row.toRowW d [] (fun f vs=>M5 f vs):=by
 refine L2.hG (n:=63) (k:=k) (x:=x) (CX:=fun _=>bB) (sp:=fun w=>fV (K w.params) false [.sh] F) hn (by decide) hdf hr hY C (fun w H a ns hl hO hS=>?_) fun _ _ _ _ _ z=>z;have intsP:∀(l:List Int),Paired Scl (l.map V.int) (l.map D.int):=fun l=>by induction l with
 |nil=>exact .nil
 |cons i l ih=>exact .cons (.int i) ih
 rcases hS with hS|hS
 .refine⟨fun b=>if b=a then some (.lst (ns.map D.int))else none,[.lst (ns.map .int)],fun b d' hb=>?_,.sh (.ref (if_pos rfl)) .nil,?_⟩
  .by_cases e:b=a
   .subst e;have hb':some (D.lst (ns.map D.int))=some d':=(if_pos rfl).symm.trans hb;cases hb';exact .lst hS (Paired.mono (fun _ _ z=>.scl z) (intsP ns))
   .have hb':(none:Option D)=some d':=(if_neg e).symm.trans hb;cases hb'
  .rw[hF ns hl];intro v G' H' w' rv;exact rv.bl w'.ok
 .refine⟨fun _=>none,[.lst (ns.map .int)],fun b d' hb=>(by cases hb),.sh (.kc (.lst (.inr hS) (intsP ns))) .nil,?_⟩;rw[hF ns hl];intro v G' H' w' rv;exact rv.bl w'.ok
section
open AutoSeq1 (wpAny_loadPart')
section
variable{prog:z_}{w:Ht}{A:HA}{E:a_->g_->Prop}{s:g_}
theorem GT{it t:Addr}{i:Nat}{items}{x:a_}{Q:a_->g_->Prop}(hit:s.heap.IsTupleIter it t i)(ht:s.heap.IsTuple t items)(hx:items[i]? = some x)(hQ:∀h',h'.IsTupleIter it t (i+1)->JU it s.heap h'->Q x { s with heap:=h' }):C_ (F_ prog w) A (Ja (.ref it)) Q E s:=by
 obtain⟨o,ho,hc,hd⟩:=id hit;obtain⟨ol,hol,_,nl,hdl⟩:=ht;unfold Ja;refine e_ (Jq (name:=Lq "__next__") hit.typeIs F.slot_tuple_iterator_next
  (IB F.slot_tuple_iterator_next hit.typeIs F.entry_tuple_iterator_next ?_ (F.args_tuple_iterator_next_1 _)))
 show C_ _ _ (field (.ref it) 0 >>= _) _ _ s;refine e_ (LG ho hd (x:=.ref t) rfl ?_);show C_ _ _ (if (Value.ref t==Value.none)=true then _ else _) _ _ s;rw[if_neg (show ¬ ((Value.ref t==Value.none)=true)from d_)];show C_ _ _ (field (.ref it) 1 >>= _) _ _ s;refine e_ (LG ho hd (x:=.int i 0) rfl ?_);show C_ _ _ (My (.ref t) >>= _) _ _ s;refine e_ (wpAny_seqItems hol hdl ?_);simp only[HN,hx];refine e_ (J0 ho hd (by simp) (o_ ⟨x,rfl,o_ (hQ _ ?_ (Ie ..))⟩));exact⟨_,Ih _ ho (J5 (Ik hd _)),(KQ ..).trans hc,by rw[Ik hd];simp[Jy]⟩
theorem GN{it t:Addr}{i:Nat}{items}{Q:a_->g_->Prop}(hh:A.handled=none)(hit:s.heap.IsTupleIter it t i)(ht:s.heap.IsTuple t items)(hx:items[i]? = none)(hE:∀h' e,Ob it s.heap h'->(∃o,h'.get? e=some o/\o.cls=.type "StopIteration")->E (.ref e) { s with heap:=h' }):C_ (F_ prog w) A (Ja (.ref it)) Q E s:=by
 obtain⟨o,ho,hc,hd⟩:=id hit;obtain⟨ol,hol,_,nl,hdl⟩:=ht;unfold Ja;refine e_ (Jq (name:=Lq "__next__") hit.typeIs F.slot_tuple_iterator_next
  (IB F.slot_tuple_iterator_next hit.typeIs F.entry_tuple_iterator_next ?_ (F.args_tuple_iterator_next_1 _)))
 show C_ _ _ (field (.ref it) 0 >>= _) _ _ s;refine e_ (LG ho hd (x:=.ref t) rfl ?_);show C_ _ _ (if (Value.ref t==Value.none)=true then _ else _) _ _ s;rw[if_neg (show ¬ ((Value.ref t==Value.none)=true)from d_)];show C_ _ _ (field (.ref it) 1 >>= _) _ _ s;refine e_ (LG ho hd (x:=.int i 0) rfl ?_);show C_ _ _ (My (.ref t) >>= _) _ _ s;refine e_ (wpAny_seqItems hol hdl ?_);simp only[HN,hx];refine e_ (Nb (e_ (J0 ho hd (by simp) ?_)));show C_ _ _ (newExc (.type "StopIteration") [] >>= _) _ _ _;refine e_ ?_;simp only[newExc,newTuple];refine e_ (II ?_ (by size_fits));refine e_ (m:=Ky _ _) (MG (a:=Value.none) (by first|rfl|(simp only[Ky];rfl)) ?_);refine II ?_ (by size_fits);simp only[raiseNew];refine e_ (wpAny_handled ?_)
 first|rw[show A.in1.handled=none from hh]|rw[hh]
 refine e_ (o_ (wpAny_throw ?_));exact hE _ _ (((Ie ..).extBut.push _).push _) ⟨_,u_ _ rfl,rfl⟩
end
theorem vB{prog:z_}{w:Ht}{A:HA}(hh:A.handled=none)(it l:Addr)(hne:l≠it)(items:Array a_):Draws prog w A it [it,l] items.size (fun i v=>items[i]? = some v) (fun i h=>h.IsTupleIter it l i/\h.IsTuple l items) where
 live:=fun _ _ st=>let⟨o,ho,_⟩:=st.1;⟨o,ho⟩
 frame:=fun _ _ _ st hk=>⟨let⟨o,ho,r⟩:=st.1;⟨o,hk it (by simp) o ho,r⟩,let⟨o,ho,r⟩:=st.2;⟨o,hk l (by simp) o ho,r⟩⟩
 item:=fun i s Q E hi st hQ=>by refine GT st.1 st.2 (x:=items[i]) (by simp[hi]) fun h' hit' hs'=>?_;exact hQ _ h' s.toks (by simp[hi]) ⟨hit',st.2.extBut hs'.extBut hne⟩ hs'
 done:=fun s Q E st hE=>GN hh st.1 st.2 (by simp) hE
theorem GS(l:Addr)(items:Array a_)(n:Nat)(dct:Option Addr)(sl:Array (Option a_)) :
  Meets (JJ.«enumerate.__new__» ⟨[.type "enumerate",.ref l],[]⟩) (fun _ R s=>s.heap.get? l=some { cls:=.type "tuple",dict:=dct,data:=.seq items n,slots:=sl } /\
   R (.ok (.ret (.ref (s.heap.push { cls:=.type "tuple_iterator",data:=.fields #[.ref l,.int 0 0] }).objs.size)))
    { s with heap:=(s.heap.push { cls:=.type "tuple_iterator",data:=.fields #[.ref l,.int 0 0] }).push { cls:=.type "enumerate",data:=.fields #[.none,.bool false,.ref s.heap.objs.size,Jy 0,.none,.none] } }):=
 .of_wp fun prog w A R s h=>by
  obtain⟨hp,g,d,tk,os⟩:=s;obtain⟨hl,h⟩:=h;have hsub:=sub_enumerate;have hL:Heap.IsTuple (Shared.heap ⟨hp,g,d,tk,os⟩) l items:=⟨_,hl,rfl,n,rfl⟩
  wp_walk using IL hl
  refine wpAny_stack_any fun st=>o_ ?_;split
  .rename_i c _ _ _ _ _;cases(c==Value.type "enumerate")
   .wp_walk using IL hl,JS hL
    exact⟨_,rfl,h⟩
   .wp_walk using IL hl,JS hL
    exact⟨_,rfl,h⟩
  .wp_walk using IL hl,JS hL
   exact⟨_,rfl,h⟩
section
variable{prog:z_}{w:Ht}{A:HA}{E:a_->g_->Prop}{s:g_}
theorem GP{l:Addr}{items:Array a_}{Q:a_->g_->Prop}(hL:s.heap.IsTuple l items)(h:∀h',IsEnum h' (s.heap.objs.size+1) s.heap.objs.size 0 .none->h'.IsTupleIter s.heap.objs.size l 0->h'.objs.size=s.heap.objs.size+2 ->(∀b o,s.heap.get? b=some o->h'.get? b=some o)->Q (.ref (s.heap.objs.size+1)) { s with heap:=h' }):C_ (F_ prog w) A (call (.type "enumerate") [.ref l]) Q E s:=by
 obtain⟨⟨c,dct,dt,sl⟩,hl,hc,n,hd⟩:=hL;replace hc:c=.type "tuple" := hc;replace hd:dt=.seq items n:=hd;subst hc hd;refine callType_new F.called_enumerate (by decide) (F.typeCall_enumerate_1 _) (F.newCall_enumerate_1 _) (fun obj=>F.args_object_init_2 obj _) F.entry_enumerate_new
  (GS l items n dct sl) ⟨hl,?_⟩
 have hz:(s.heap.push { cls:=.type "tuple_iterator",data:=.fields #[.ref l,.int 0 0] }).objs.size=s.heap.objs.size+1:=IE ..;show _/\_;rw[hz];have he:IsEnum ((s.heap.push { cls:=.type "tuple_iterator",data:=.fields #[.ref l,.int 0 0] }).push
   { cls:=.type "enumerate",data:=.fields #[.none,.bool false,.ref s.heap.objs.size,Jy 0,.none,.none] }) (s.heap.objs.size+1) s.heap.objs.size 0 .none:=by
  have:=u_ (s.heap.push { cls:=.type "tuple_iterator",data:=.fields #[.ref l,.int 0 0] })
   (o:={ cls:=.type "enumerate",data:=.fields #[.none,.bool false,.ref s.heap.objs.size,Jy 0,.none,.none] }) rfl
  rw[hz]at this;exact this
 refine⟨⟨_,he,rfl⟩,h _ he ⟨_,h_ _ (u_ _ rfl),rfl,rfl⟩ (by rw[IE,hz]) fun b o x=>h_ _ (h_ _ x)⟩
end
theorem wI{X:Cx}{pz:List (Addr×Obj)}{σ:L2.St}{H:Hp}{s:g_}{h':Heap}{ch:List Addr}{T:Addr}{o:HO}{t':Nat}(I:Inv X pz σ H s)(hch:∀b∈ch,cx X pz H b)(k:∀b ob,b∉ch->s.heap.get? b=some ob->h'.get? b=some ob)(hT:s.heap.objs.size<=T)(new:bq X.prog X.w (upd H T o) h' T o):Inv X pz σ (upd H T o) { s with heap:=h',toks:=t' }:=by
 have hTn:H T=none:=I.hok.fresh hT;have trk:∀b u,H b=some u->b∉ch:=fun b u e hb=>by rw[(hch b hb).1]at e;cases e
 have neT:∀b ob,s.heap.get? b=some ob->b≠T:=fun b ob e=>B_ (A_ (p_ e) hT);have keepU:∀b u,H b=some u->upd H T o b=some u:=fun b u e=>by rw[aW (iN e hTn)];exact e
 refine I.step (g':=s.gens) (d':=s.drawn) (ch:=ch) (fun b hb=>?_) (fun b ob _ _ hc e _=>k b ob hc e) (fun b ob _ _ hc e _=>⟨ob.slots,k b ob hc e⟩) (fun b ob hc e n=>by rw[aW (neT b ob e)];exact n)
  (fun b ob hc e=>⟨ob,k b ob hc e⟩) (fun b xs e=>keepU b _ e) (fun b ob u e=>keepU b _ e) (fun b ps e=>⟨#[],by rw[keepU b _ e];simp⟩) (fun m hm=>?_) (fun b u e=>?_) I.bare
 .obtain⟨z0,z1,z2,z3,z4,z5⟩:=hch b hb;exact⟨z3,z1,z4,z5⟩
 .obtain⟨ob,es,ep,ho,r⟩:=hm;exact⟨ob,es,ep,k _ ob (fun hb=>(hch _ hb).2.1 rfl) ho,r⟩
 .by_cases hb:b=T
  .subst hb;rw[bM]at e;cases e;exact new
  .rw[aW hb]at e;refine(I.hok b u e).stay (fun c v hc q=>k c v ?_ q) (fun c q=>keepU c _ q) fun c xs q=>keepU c _ q;rcases hc with z|z
   .rw[z];exact trk b u e
   .exact trk c _ z
def jJ(sq:Hp->List V->Prop):It:=⟨fun i H=>∃xs x,sq H xs/\xs[i]? = some x,fun i H x H'=>∃p v,H p=none/\x=.ref p/\H'=upd H p (.tup [.int i,v])/\∀xs,sq H xs->xs[i]? = some v,fun i H=>∃xs,sq H xs/\xs.length=i⟩
theorem wF{P:z_}{w:Ht}{H:Hp}{h:Heap}{T:Addr}{i:Nat}{tk:Tok}{x:a_}{v:V}(hT:h.get? T=some { cls:=.type "tuple",data:=.seq #[.int i tk,x] })(r:L2.ao v x):bq P w H h T (.tup [.int i,v]):=⟨by show 2<=sizeLine;decide,[.int i tk,x],.cons ⟨tk,rfl⟩ (.cons r .nil),⟨_,hT,rfl,0,rfl⟩,_,hT,rfl⟩
theorem FB{P:z_}{w:Ht}{K:W.Frag}{elts:List Expr}{k:Nat}{pos:Pos}(a it e:Addr)(hei:e≠it):Turn P w K (.Tuple elts k pos) (jJ fun H xs=>aL K H a xs) [e,it] e (fun i h=>(∃old,IsEnum h e it i old)/\h.IsListIter it a i) where
 mem:=by simp
 obj:=fun i h st b hb=>by
  obtain⟨⟨old,he⟩,o,ho,hc,hd⟩:=st;rcases x_.mp hb with rfl|hb
  .exact⟨_,he,fun v z=>by have z':Data.fields _=Data.cell v:=z;cases z'⟩
  .rw[HB.mp hb];exact⟨o,ho,fun v z=>by rw[hd]at z;cases z⟩
 keep:=fun i h h' st kk=>by obtain⟨⟨old,he⟩,hi⟩:=st;exact⟨⟨old,kk e (by simp) _ he⟩,hi.at fun o q=>kk it (by simp) o q⟩
 item:=by
  intro X hP hw hK hc i pz s σ H E I hf st hg;subst hP hw hK;obtain⟨xs,x,hq,hx⟩:=hg;obtain⟨its,rv,p,hz⟩:=I.list hq;obtain⟨⟨old,he⟩,hi⟩:=st;obtain⟨o1,ho1,hc1,hd1⟩:=id hi;obtain⟨o2,ho2,hc2,_⟩:=id p.isList;have hai:a≠it:=by rintro rfl;rw[ho1]at ho2;cases ho2;rw[hc1]at hc2;exact absurd hc2 (by decide)
  have hea:e≠a:=by rintro rfl;rw[he]at ho2;cases ho2;exact absurd (show Value.type "enumerate" = _ from hc2) (by decide)
  have hlt:i<its.toArray.size:=by have:=(i_.mp hx).1;rw[n_,<-rv.length];exact this
  refine Lb (Og (A:=X.A.in1) (show X.A.in1.handled=none from I.ok.hd hc) it a hai its.toArray) he ⟨hi,p.isList⟩ hlt hei (by simp[hei,hea]) fun y h' tk hP ho hs' hT hsz hk=>?_;refine⟨_,rfl,Kz ho fun h'' he'' hs''=>?_⟩;obtain⟨u,hu,ru⟩:=rv.get hx;have hy:y=u:=by
   have:its[i]? = some y:=by simpa using hP
   rw[hu]at this;exact(G_ this).symm
  subst hy;have hTe:s.heap.objs.size≠e:=Ir (p_ he);have hT'':h''.get? s.heap.objs.size=some { cls:=.type "tuple",data:=.seq #[.int i tk,y] }:=(hs''.2 _ hTe).trans hT;refine⟨.ref s.heap.objs.size,upd H s.heap.objs.size (.tup [.int i,x]),wI (s:=s) (h':=h'') (t':=tk+1) (ch:=[e,it]) I hf (fun b ob hb q=>?_) (q_ _) (wF hT'' ru),rfl,⟨_,x,I.hok.fresh (q_ _),rfl,rfl,fun ys hy=>by rw[I.list_inj hy hq];exact hx⟩,⟨⟨_,by simpa using he''⟩,hs'.1.extBut hs''.extBut (IG hei)⟩,fun b hb=>?_⟩
  .have hbe:b≠e:=fun z=>hb (by simp[z]);exact(hs''.2 b hbe).trans (hk b ob hbe (fun z=>hb (by simp[z])) q)
  .rw[aW ?_]
   .exact(hf b hb).1
   .rcases x_.mp hb with rfl|hb
    .exact B_ (p_ he)
    .rw[HB.mp hb];exact B_ (p_ ho1)
 done:=by
  intro X hP hw hK hc i pz s σ H E I hf st hg;subst hP hw hK;obtain⟨xs,hq,hx⟩:=hg;obtain⟨its,rv,p,hz⟩:=I.list hq;obtain⟨⟨old,he⟩,hi⟩:=st;obtain⟨o1,ho1,hc1,hd1⟩:=id hi;obtain⟨o2,ho2,hc2,_⟩:=id p.isList;have hai:a≠it:=by rintro rfl;rw[ho1]at ho2;cases ho2;rw[hc1]at hc2;exact absurd hc2 (by decide)
  obtain⟨f0,f1,f2,f3,f4,f5⟩:=hf it (by simp);have hn:its.toArray.size=i:=by rw[n_,<-rv.length];exact hx
  refine Lr (Og (A:=X.A.in1) (show X.A.in1.handled=none from I.ok.hd hc) it a hai its.toArray) he ⟨by rw[hn];exact hi,p.isList⟩ fun h' eb=>⟨rfl,I.turned (t':=s.toks) (fun b o hb q=>eb b o hb q) f0 f1 f3 f4 f5⟩
 self:=fun _ _ _ _ _ st h=>let⟨⟨_,he⟩,_⟩:=st;J2 he h
theorem IsTupleIter.at'{h h':Heap}{a t:Addr}{i:Nat}(x:h.IsTupleIter a t i)(hs:∀o,h.get? a=some o->h'.get? a=some o):h'.IsTupleIter a t i:=let⟨o,ho,r⟩:=x;⟨o,hs o ho,r⟩
theorem FC{P:z_}{w:Ht}{K:W.Frag}{elts:List Expr}{k:Nat}{pos:Pos}(a it e:Addr)(hei:e≠it):Turn P w K (.Tuple elts k pos) (jJ fun H xs=>bL K H a xs) [e,it] e (fun i h=>(∃old,IsEnum h e it i old)/\h.IsTupleIter it a i) where
 mem:=by simp
 obj:=fun i h st b hb=>by
  obtain⟨⟨old,he⟩,o,ho,hc,hd⟩:=st;rcases x_.mp hb with rfl|hb
  .exact⟨_,he,fun v z=>by have z':Data.fields _=Data.cell v:=z;cases z'⟩
  .rw[HB.mp hb];exact⟨o,ho,fun v z=>by rw[hd]at z;cases z⟩
 keep:=fun i h h' st kk=>by obtain⟨⟨old,he⟩,hi⟩:=st;exact⟨⟨old,kk e (by simp) _ he⟩,IsTupleIter.at' hi fun o q=>kk it (by simp) o q⟩
 item:=by
  intro X hP hw hK hc i pz s σ H E I hf st hg;subst hP hw hK;obtain⟨xs,x,hq,hx⟩:=hg;obtain⟨its,rv,p,hz⟩:=I.tuple hq;obtain⟨⟨old,he⟩,hi⟩:=st;obtain⟨o1,ho1,hc1,hd1⟩:=id hi;obtain⟨o2,ho2,hc2,_⟩:=id p;have hai:a≠it:=by rintro rfl;rw[ho1]at ho2;cases ho2;rw[hc1]at hc2;exact absurd hc2 (by decide)
  have hea:e≠a:=by rintro rfl;rw[he]at ho2;cases ho2;exact absurd (show Value.type "enumerate" = _ from hc2) (by decide)
  have hlt:i<its.toArray.size:=by have:=(i_.mp hx).1;rw[n_,<-rv.length];exact this
  refine Lb (vB (A:=X.A.in1) (show X.A.in1.handled=none from I.ok.hd hc) it a hai its.toArray) he ⟨hi,p⟩ hlt hei (by simp[hei,hea]) fun y h' tk hP ho hs' hT hsz hk=>?_;refine⟨_,rfl,Kz ho fun h'' he'' hs''=>?_⟩;obtain⟨u,hu,ru⟩:=rv.get hx;have hy:y=u:=by
   have:its[i]? = some y:=by simpa using hP
   rw[hu]at this;exact(G_ this).symm
  subst hy;have hTe:s.heap.objs.size≠e:=Ir (p_ he);have hT'':h''.get? s.heap.objs.size=some { cls:=.type "tuple",data:=.seq #[.int i tk,y] }:=(hs''.2 _ hTe).trans hT;refine⟨.ref s.heap.objs.size,upd H s.heap.objs.size (.tup [.int i,x]),wI (s:=s) (h':=h'') (t':=tk+1) (ch:=[e,it]) I hf (fun b ob hb q=>?_) (q_ _) (wF hT'' ru),rfl,⟨_,x,I.hok.fresh (q_ _),rfl,rfl,fun ys hy=>by rw[I.tuple_inj hy hq];exact hx⟩,⟨⟨_,by simpa using he''⟩,hs'.1.extBut hs''.extBut (IG hei)⟩,fun b hb=>?_⟩
  .have hbe:b≠e:=fun z=>hb (by simp[z]);exact(hs''.2 b hbe).trans (hk b ob hbe (fun z=>hb (by simp[z])) q)
  .rw[aW ?_]
   .exact(hf b hb).1
   .rcases x_.mp hb with rfl|hb
    .exact B_ (p_ he)
    .rw[HB.mp hb];exact B_ (p_ ho1)
 done:=by
  intro X hP hw hK hc i pz s σ H E I hf st hg;subst hP hw hK;obtain⟨xs,hq,hx⟩:=hg;obtain⟨its,rv,p,hz⟩:=I.tuple hq;obtain⟨⟨old,he⟩,hi⟩:=st;obtain⟨o1,ho1,hc1,hd1⟩:=id hi;obtain⟨o2,ho2,hc2,_⟩:=id p;have hai:a≠it:=by rintro rfl;rw[ho1]at ho2;cases ho2;rw[hc1]at hc2;exact absurd hc2 (by decide)
  obtain⟨f0,f1,f2,f3,f4,f5⟩:=hf it (by simp);have hn:its.toArray.size=i:=by rw[n_,<-rv.length];exact hx
  refine Lr (vB (A:=X.A.in1) (show X.A.in1.handled=none from I.ok.hd hc) it a hai its.toArray) he ⟨by rw[hn];exact hi,p⟩ fun h' eb=>⟨rfl,I.turned (t':=s.toks) (fun b o hb q=>eb b o hb q) f0 f1 f3 f4 f5⟩
 self:=fun _ _ _ _ _ st h=>let⟨⟨_,he⟩,_⟩:=st;J2 he h
end
def hU:D->Option String
|.non=>some "NoneType"
|.bl _=>some "bool"
|.int _=>some "int"
|.str _=>some "str"
|.tup _=>some "tuple"
|.lst _=>some "list"
|.dic _=>some "dict"
|.obj _ _=>none
def cN(t T:String):Bool:=t==T || (t == "bool" && T == "int")
def cX(T:String)(d:D):Option D:=(hU d).map fun t=>.bl (cN t T)
def zv(K:W.Frag)(x:V)(H:Hp)(t:String):Prop:=match x with
|.non=>t = "NoneType"
|.bl _=>t = "bool"
|.int _=>t = "int"
|.str _=>t = "str"
|.ref p=>(t = "list"/\∃xs,aL K H p xs)\/(t = "tuple"/\∃xs,bL K H p xs)\/(t = "dict"/\∃kvs,Rd H p (.dK kvs))
|_=>False
theorem BL{K:W.Frag}{G:GH}{H:Hp}{v:V}{d:D}{t:String}(gk:aC K G H)(h:RB K G H v d)(e:hU d=some t):zv K v H t:=by cases d with
|non=>cases e;rw[h.non gk];rfl
|bl b=>cases e;rw[h.bl gk];rfl
|int i=>cases e;rw[h.int gk];rfl
|str x=>cases e;rw[h.str gk];rfl
|tup ds=>cases e;obtain⟨a,xs,rfl,s,r⟩:=h.tup gk;exact .inr (.inl ⟨rfl,xs,s⟩)
|lst ds=>cases e;obtain⟨a,xs,rfl,s,r⟩:=h.lst gk;exact .inl ⟨rfl,xs,s⟩
|dic ds=>cases e;obtain⟨a,xs,rfl,s,r⟩:=h.dic gk;exact .inr (.inr ⟨rfl,xs,s⟩)
|obj _ _=>cases e
section
variable{X:Cx}{g:GE}{m:List Md}{e a:Expr}{f:FE}{pos p p2:Pos}
theorem Dm:dv X (.builtin "isinstance") (fun xs H Q=>∃x t T b,xs=[x,.ty T]/\zv X.K x H t/\W.kitOne X.K (.type t) (.type T)=some b/\Q (.bl b) H):=by
 intro pz s σ H xs us Q I r h;obtain⟨x,t,T,b,rfl,ty,e,q⟩:=h;obtain⟨u,w',rfl,rx,ry⟩:=tM r;cases ry;have fin:∀tk,EP X pz σ Q (.bool b) { s with toks:=tk }:=fun tk=>⟨.bl b,H,I.tok tk,rfl,q⟩
 cases x with
|non=>cases rx;cases(show t = "NoneType" from ty);exact W.kia_one W.kitx_none I.kIn True.intro e (fun z=>nomatch z) fin
|bl y=>cases rx;cases(show t = "bool" from ty);exact W.kia_one W.kitx_bool I.kIn True.intro e (fun z=>nomatch z) fin
|int i=>obtain⟨t,rfl⟩:=rx;cases ty;exact W.kia_one W.kitx_int I.kIn True.intro e (fun z=>nomatch z) fin
|str i=>obtain⟨t,rfl⟩:=rx;cases ty;exact W.kia_one W.kitx_str I.kIn True.intro e (fun z=>nomatch z) fin
|ref p=>
  cases rx;rcases ty with⟨rfl,xs,hq⟩|⟨rfl,xs,hq⟩|⟨rfl,kvs,hq⟩
  .obtain⟨its,_,pl,_⟩:=I.list hq;obtain⟨o,ho,hc,_⟩:=pl.isList;exact W.kia_one W.kitx_list I.kIn ⟨o,ho,hc⟩ e (fun z=>nomatch z) fin
  .obtain⟨its,_,pl,_⟩:=I.tuple hq;obtain⟨o,ho,hc,_⟩:=pl;exact W.kia_one W.kitx_tuple I.kIn ⟨o,ho,hc⟩ e (fun z=>nomatch z) fin
  .obtain⟨_,_,vs,_,pp⟩:=(show bq X.prog X.w H s.heap p (.dK kvs)from hq.ok I.hok)
   obtain⟨o,es,ep,h1,h2,_⟩:=pp;exact W.kia_one W.kitx_dict I.kIn ⟨o,h1,h2.1⟩ e (fun z=>nomatch z) fin
|_=>exact(show False from ty).elim
theorem ir(x:Str)(T:String)(hv:JH x=some (.type T))(hk:∀(d:D)(t:String),hU d=some t->W.kitOne X.K (.type t) (.type T)=some (cN t T))(hg:Gl X "isinstance")(hm:X.mg "isinstance" = none)(hgT:Gl X x)(hmT:X.mg x=none)(he:SB X g m e f)(hn:x≠"__name__" := by decide)(hd:(x==("__debug__" : Str))=false:=by decide)(hs1:l_ [e,.Name x p2] X.env=(false,eval e X.env)::l_ [.Name x p2] X.env:=by rfl)(hs2:l_ [.Name x p2] X.env=(false,eval (.Name x p2) X.env)::l_ [] X.env:=by rfl)(hpl:(backTo pos (l_ [.Name x p2] X.env)).any (·.1)=false:=by rfl):SE X g m (.Call (.Name "isinstance" p) [e,.Name x p2] [] pos) (f1 f (cX T)):=by
 refine PE.imp (lc Dm hg hm (by first|exact MM|rfl) (gp he (gp (CW (v:=.ty T) hgT hmT hv rfl hn hd) gN hs2) hs1) (by decide) (by decide) hs1 hpl) fun σ H Q ⟨r,G,si,q⟩=>⟨r,G,si,aT (a8 q) fun d q1 v G1 H1 w1 r1=>?_⟩
 obtain⟨d',e',q2⟩:=cB q1;unfold cX at e';cases et:hU d with
|none=>rw[et]at e';cases e'
|some t=>rw[et]at e';cases e';exact⟨v,t,T,_,rfl,BL w1.ok r1 et,hk d t et,q2 _ G1 H1 w1 (.scl (.bl _))⟩
end
theorem nJ{d:D}{t:String}(h:hU d=some t){P:String->Prop}(h1:P "NoneType")(h2:P "bool")(h3:P "int")(h4:P "str")(h5:P "tuple")(h6:P "list")(h7:P "dict"):P t:=by cases d <;> cases h <;> assumption
theorem vL(K:W.Frag)(d:D)(t:String)(h:hU d=some t):W.kitOne K (.type t) (.type "int")=some (cN t "int"):=nJ (P:=fun t=>W.kitOne K (.type t) (.type "int")=some (cN t "int")) h (by kernel_rfl) (by kernel_rfl) (by kernel_rfl) (by kernel_rfl) (by kernel_rfl) (by kernel_rfl) (by kernel_rfl)
theorem wL(K:W.Frag)(d:D)(t:String)(h:hU d=some t):W.kitOne K (.type t) (.type "bool")=some (cN t "bool"):=nJ (P:=fun t=>W.kitOne K (.type t) (.type "bool")=some (cN t "bool")) h (by kernel_rfl) (by kernel_rfl) (by kernel_rfl) (by kernel_rfl) (by kernel_rfl) (by kernel_rfl) (by kernel_rfl)
theorem wM(K:W.Frag)(d:D)(t:String)(h:hU d=some t):W.kitOne K (.type t) (.type "list")=some (cN t "list"):=nJ (P:=fun t=>W.kitOne K (.type t) (.type "list")=some (cN t "list")) h (by kernel_rfl) (by kernel_rfl) (by kernel_rfl) (by kernel_rfl) (by kernel_rfl) (by kernel_rfl) (by kernel_rfl)
theorem xN(K:W.Frag)(d:D)(t:String)(h:hU d=some t):W.kitOne K (.type t) (.type "tuple")=some (cN t "tuple"):=nJ (P:=fun t=>W.kitOne K (.type t) (.type "tuple")=some (cN t "tuple")) h (by kernel_rfl) (by kernel_rfl) (by kernel_rfl) (by kernel_rfl) (by kernel_rfl) (by kernel_rfl) (by kernel_rfl)
section
variable{X:Cx}{g:GE}{m:List Md}{e a b:Expr}{f fa:FE}{pos p pos2 p2:Pos}{es:List Expr}{fl:ag->Res (List D)}
def cQ(lo:Int)(n:Nat):List V:=(r_ n).map fun(i:Nat)=>V.int (lo+(i:Int))
theorem B3{K:W.Frag}{G:GH}(lo:Int)(n:Nat):aV K G (cQ lo n) (cr lo n):=by
 unfold cQ cr
 induction(r_ n)with
|nil=>exact .nil
|cons i l ih=>exact .cons (.scl (.int _)) ih
theorem rn:∀{xs:List V}{us:List a_},xs.length=us.length->(∀(j:Nat) v u,xs[j]? = some v->us[j]? = some u->L2.ao v u)->ai xs us
|[],[],_,_=>.nil
|v::xs,u::us,hl,h=>.cons (h 0 v u rfl rfl) (rn (by simpa using hl) fun j a b e1 e2=>h (j+1) a b (by simpa using e1) (by simpa using e2))
|[],_::_,hl,_=>by simp at hl
|_::_,[],hl,_=>by simp at hl
theorem Eo{lo:Int}{n:Nat}{acc:Array a_}(h:ItemsOf (fun i v=>∃t,v=.int (lo+i*1) t) acc n):ai (cQ lo n) acc.toList:=by
 refine rn (by simp[cQ,h.1]) fun j v u e1 e2=>?_;have hj:j<n:=by have:=(i_.mp e1).1;simpa[cQ]using this
 unfold cQ at e1;rw[t_,IT hj]at e1;cases e1;obtain⟨t,rfl⟩:=h.2 j u (by rw[<-HQ];exact e2);exact⟨t,by simp⟩
theorem EW:dv X (.type "range") (fun xs H Q=>∃j,xs=[.int j]/\∀p,H p=none->Q (.ref p) (upd H p (.rng 0 j))):=by intro pz s σ H xs us Q I r h;obtain⟨j,rfl,q⟩:=h;obtain⟨u,rfl,t,rfl⟩:=bA r;refine call_range_1 ⟨.ref s.heap.objs.size,_,I.laid (o:=.rng 0 j) (fun b o e=>h_ _ e) (q_ _) ⟨_,_,_,u_ _ rfl⟩,rfl,q _ (I.hok.fresh (q_ _))⟩
theorem Gq(hc:X.calm=true):dv X (.type "list") (fun xs H Q=>∃p lo hi,xs=[.ref p]/\H p=some (.rng lo hi)/\(-(2^62)<=lo/\lo<2^62/\-(2^62)<=hi/\hi<2^62)/\(hi-lo).toNat<=sizeLine/\∀l,H l=none->Q (.ref l) (upd H l (.lst (cQ lo (hi-lo).toNat)))):=by
 intro pz s σ H xs us Q I r h;obtain⟨p,lo,hi,rfl,hp,⟨h1,h2,h3,h4⟩,hz,q⟩:=h;obtain⟨u,rfl,rx⟩:=bA r;cases rx;obtain⟨t,u,v,ho⟩:=(show bq X.prog X.w H s.heap p (.rng lo hi)from I.hok p _ hp)
 have e2:K8 lo hi 1=(((hi-lo).toNat:Nat):Int):=by rw[rangeSize_one];split <;> omega
 refine call_list_range (I.ok.hd hc) (r:=p) (a:=lo) (b:=hi) (c:=1) ho (small_one h1 h2 h3 h4) e2 (by rw[HF]at hz;omega) fun h' tk acc c' kp hS hacc=>?_;refine⟨.ref s.heap.objs.size,_,I.laid (t':=tk) kp (q_ _) (show bq X.prog X.w _ h' _ (.lst (cQ lo (hi-lo).toNat))from⟨by unfold cQ;rw[m_,Ml];exact hz,acc.toList,c',Eo hacc,by rw[LH];exact hS⟩),rfl,q _ (I.hok.fresh (q_ _))⟩
def gJ:List D->Option D
|[.int j]=>if-(2^62)<=j/\j<2^62/\j.toNat<=sizeLine then some (.lst (cr 0 j.toNat))else none
|_=>none
theorem vG{H:Hp}{p l:Addr}{o:HO}(h:upd H p o l=none):H l=none/\l≠p:=by
 by_cases e:l=p
 .subst e;rw[bM]at h;cases h
 .rw[aW e]at h;exact⟨h,e⟩
theorem j4(hc:X.calm=true)(hgl:Gl X "list")(hml:X.mg "list" = none)(hg:Gl X "range")(hm:X.mg "range" = none)(ha:fY X g m [a] fl)(hs:l_ [a] X.env=(false,eval a X.env)::l_ [] X.env:=by rfl)(hs2:l_ [.Call (.Name "range" p2) [a] [] pos2] X.env=(false,eval (.Call (.Name "range" p2) [a] [] pos2) X.env)::l_ [] X.env:=by rfl):SO X g m (.Call (.Name "list" p) [.Call (.Name "range" p2) [a] [] pos2] [] pos) (fC fl gJ):=by
 refine PE.imp (lj (Gq hc) hgl hml rfl (gp (lj EW hg hm boot_range ha (by decide) (by decide) hs rfl) gN hs2) (by decide) (by decide) hs2 rfl) fun σ H Q ⟨r,G,si,q⟩=>⟨r,G,si,aT (a8 q) fun ds q1 vs G1 H1 w1 rs=>?_⟩
 obtain⟨d,e,q2⟩:=cB q1;unfold gJ at e;split at e
 .split at e
  .rename_i j hj;cases e;cases rs with
  |cons r1 t=>cases t;refine⟨j,by rw[r1.int w1.ok],fun p hp=>⟨p,0,j,rfl,bM,⟨by decide,by decide,hj.1,hj.2.1⟩,by simpa using hj.2.2,fun l hl=>?_⟩⟩;obtain⟨hl1,hl2⟩:=vG hl;have w2:=Grow.new w1.ok hp (.rng 0 j);have w3:=Grow.new w2.ok hl (.lst (cQ 0 (j-0).toNat));refine q2 l G1 _ (w1.trans (w2.trans w3)) (w1.back hl1) ⟨w1.ok.isN hl1,.lst bM ?_⟩;rw[show j-0=j by omega];exact B3 0 _
  .cases e
 .cases e
end
section
variable{X:Cx}{g:GE}{m mb:List Md}{e a b o:Expr}{es:List Expr}{f fa fb fo:FE}{fl:ag->Res (List D)}{pos pos' apos cpos:Pos}{ro:Bool}{x name:Str}{T id:String}{R:V->List V->Hp->VK->Prop}{k:D->List D->Option D}
def iY(x:V):List V->Option Nat
|[]=>none
|y::xs=>if fJ y x=true then some 0 else(iY x xs).map (· + 1)
def iC(x:D):List D->Option Nat
|[]=>none
|y::xs=>if cG y x=true then some 0 else(iC x xs).map (· + 1)
theorem wG(x:D):∀ds:List D,iY (dE x) (ds.map dE)=iC x ds
|[]=>rfl
|y::ds=>by show(if fJ (dE y) (dE x)=true then some 0 else(iY (dE x) (ds.map dE)).map (· + 1))=if cG y x=true then some 0 else(iC x ds).map (· + 1);rw[wG x ds];rfl
theorem Dt{x:V}{xs:List V}{us:List a_}{j:Nat}(h0:ai xs us)(f:xs.all fR=true)(h:iY x xs=some j):∃hj:j<us.length,cK x us[j]=true/\∀i (hi:i<us.length),i<j->cK x us[i]=false:=by induction h0 generalizing j with
|nil=>cases h
|@cons y u xs us r t ih=>
  rw[Jj,Hs]at f;unfold iY at h;by_cases hy:fJ y x=true
  .rw[if_pos hy]at h;cases h;exact⟨Nat.zero_lt_succ _,by show cK x u=true;rw[mX r f.1];exact hy,fun i _ hlt=>absurd hlt (Nat.not_lt_zero _)⟩
  .rw[if_neg hy]at h;cases e:iY x xs with
  |none=>rw[e]at h;cases h
  |some z=>rw[e]at h;cases h;obtain⟨a,b,c⟩:=ih f.2 e;refine⟨Nat.succ_lt_succ a,b,fun i hi hlt=>?_⟩;cases i with
   |zero=>show cK x u=false;rw[mX r f.1];simpa using hy
   |succ i=>exact c i (Ls hi) (Ls hlt)
def iK(xs:List V):Bool:=xs.all fun x=>match x with|.int _=>true|_=>false
theorem Ge{xs:List V}(h:iK xs=true):xs.all fR=true:=by unfold iK at h;rw[E_]at h ⊢;intro x hx;have:=h x hx;cases x <;> first|rfl|exact absurd this d_
theorem xS{k:Int}{t:Tok}:∀{xs:List V}{us:List a_},ai xs us->iK xs=true->∀u∈us,Mz u (.int k t) (cK (.int k) u)
|_,_,.nil,_=>fun u hu=>by cases hu
|y::xs,u::us,.cons r rt,f=>fun u' hu=>by unfold iK at f;rw[Jj,Hs]at f;cases y with
 |int i=>
   obtain⟨t',rfl⟩:=r;rcases x_.mp hu with rfl|hu
   .exact MeetsSeq.EqGives.int i k t' t
   .exact xS rt f.2 u' hu
 |_=>exact absurd f.1 d_
def tP:V->List V->Hp->VK->Prop:=fun x vs H Q=>∃l xs k j,x=.ref l/\vs=[.int k]/\H l=some (.lst xs)/\iK xs=true/\iY (.int k) xs=some j/\Q .non (upd H l (.lst (xs.eraseIdx j)))
theorem xT:gX X "list.remove" tP:=by
 intro pz s σ H x vs v us Q I rx rv h;obtain⟨l,xs,k,j,rfl,rfl,hH,hi,e,q⟩:=h;cases rx;obtain⟨u,rfl,t,rfl⟩:=bA rv;obtain⟨hz,its,n,r,hl,eo⟩:=I.lstM hH;obtain⟨a,b,c⟩:=Dt r (Ge hi) e;have geq:∀y,y∈its.toArray->Mz y (.int k t) (cK (.int k) y):=fun y hy=>xS r hi y (by simpa using hy);have hsz:its.toArray.size<=sizeLine:=by rw[n_];omega
 refine Ll JQ ⟨_,eo,rfl⟩ PySem.F.entry_list_remove (PySem.F.args_list_remove_2 _ _) (MeetsSeq.list_remove l its.toArray n (.int k t) (cK (.int k)) geq j (by simpa using a) (by simpa using b) (fun i hi hlt=>by simpa using c i (by simpa using hi) hlt) hsz) ⟨eo,?_⟩;refine⟨.non,_,I.lset (its':=its.eraseIdx j) hH eo ?_ ?_ ?_,rfl,q⟩
 .apply Array.toList_inj.mp;simp[Array.toList_eraseIdxIfInBounds]
 .exact ai.eraseIdx j r
 .have:=List.length_eraseIdx_le xs j;omega
def isInt:D->Bool
|.int _=>true
|_=>false
theorem Bi{K:W.Frag}{G:GH}{H:Hp}{xs:List V}{ds:List D}(h:aV K G xs ds)(gk:aC K G H)(hf:ds.all isInt=true):iK xs=true/\xs=ds.map dE:=by induction h with
|nil=>exact⟨rfl,rfl⟩
|@cons x d xs ds r t ih=>rw[Jj,Hs]at hf;obtain⟨h1,h2⟩:=ih hf.2;cases d with
 |int i=>have e:=r.int gk;subst e;refine⟨?_,by rw[y_,<-h2];rfl⟩;show iK _=true;unfold iK at h1 ⊢;rw[Jj,h1];rfl
 |_=>exact absurd hf.1 d_
def remD:D->List D->Option D
|.lst ds,[.int k]=>if ds.all isInt=true then(iC (.int k) ds).map fun j=>.lst (ds.eraseIdx j)else none
|_,_=>none
theorem uW{K:W.Frag}:fN K tP remD:=by
 intro G H a d vs ds d' Q gk ow rs e q;unfold remD at e;split at e
 .split at e
  .rename_i zs k hall;cases ef:iC (.int k) zs with
  |none=>rw[ef]at e;cases e
  |some j=>rw[ef]at e;cases e;cases ow.ob with
   |lst r s=>cases rs with
    |cons r1 t=>cases t;obtain⟨h1,h2⟩:=Bi s gk hall;refine⟨a,_,k,j,rfl,by rw[r1.int gk],r,h1,?_,q _ (.lst bM (Paired.er j s))⟩;rw[h2];exact(wG (.int k) zs).trans ef
  .cases e
 .cases e
def Am:V->List V->Hp->VK->Prop:=fun x vs H Q=>∃d kvs,x=.ref d/\vs=[]/\Rd H d (.dK kvs)/\∀p,H p=none->Q (.ref p) (upd H p (.ext fun h=>h.IsValuesView p d))
theorem ED:gX X "dict.values" Am:=by
 intro pz s σ H x vs v us Q I rx rv h;obtain⟨d,kvs,rfl,rfl,hd,q⟩:=h;cases rx;cases rv;obtain⟨z1,ns1,vs1,r1,dd1⟩:=(show bq X.prog X.w H s.heap d (.dK kvs)from hd.ok I.hok)
 refine call_meetsIn K0 dd1.typeIs PySem.F.entry_dict_values (PySem.F.args_dict_values_1 _) (meets_dict_values (d5 X.prog X.w) d ns1) ⟨⟨vs1,dd1⟩,?_⟩;refine⟨.ref s.heap.objs.size,_,I.laid (t':=s.toks) (o:=.ext fun h=>h.IsValuesView s.heap.objs.size d) (fun b ob e=>h_ _ e) (q_ _) ?_,rfl,q _ (I.hok.fresh (q_ _))⟩;refine⟨⟨_,u_ _ rfl,rfl,rfl⟩,⟨_,u_ _ rfl⟩,fun h1 h2 hv hk=>?_⟩;obtain⟨ob,e,c⟩:=hv;exact⟨ob,hk ob e,c⟩
theorem Gw(hc:X.calm=true):dv X (.type "list") (fun xs H Q=>∃p d kvs,xs=[.ref p]/\H p=some (.ext fun h=>h.IsValuesView p d)/\Rd H d (.dK kvs)/\∀l,H l=none->Q (.ref l) (upd H l (.lst (kvs.map (·.2))))):=by
 intro pz s σ H xs us Q I r h;obtain⟨p,d,kvs,rfl,hp,hd,q⟩:=h;obtain⟨u,rfl,rx⟩:=bA r;cases rx;obtain⟨hv,_,_⟩:=(show bq X.prog X.w H s.heap p (.ext fun h=>h.IsValuesView p d)from I.hok p _ hp)
 obtain⟨z1,ns1,vs1,r1,dd1⟩:=(show bq X.prog X.w H s.heap d (.dK kvs)from hd.ok I.hok)
 obtain⟨ep,hat⟩:=dd1.dictAt;have l1:=Paired.length r1;refine W.kdl_call (W.kdl_values (knd:=d5 X.prog X.w) (kvs:=vs1) (ep:=ep)) (I.ok.hd hc) ⟨hv,hat⟩ (by omega) fun h' tk acc c' kp hS hacc=>?_;have hvals:ai (kvs.map (·.2)) acc.toList:=by refine rn (by have h1:=hacc.1;have h2:acc.toList.length=acc.size:=IR;rw[m_];omega) fun j v u e1 e2=>?_;obtain⟨k,hk⟩:=hacc.2 j u (by rw[<-HQ];exact e2);rw[t_]at e1;cases e3:kvs[j]? with
 |none=>rw[e3]at e1;cases e1
 |some kv=>rw[e3]at e1;cases e1;obtain⟨kv',e4,e5⟩:=Paired.get r1 hk;rw[e3]at e4;cases e4;exact e5.2
 refine⟨.ref s.heap.objs.size,_,I.laid (t':=tk) kp (q_ _) (show bq X.prog X.w _ h' _ (.lst (kvs.map (·.2)))from⟨by rw[m_];exact z1,acc.toList,c',hvals,by rw[LH];exact hS⟩),rfl,q _ (I.hok.fresh (q_ _))⟩
def kA:D->Option D
|.dic kvs=>some (.lst (kvs.map (·.2)))
|_=>none
theorem uI{K:W.Frag}{G:GH}:∀{ps:List (au×V)}{kvs:List (au×D)},eQ K G ps kvs->aV K G (ps.map (·.2)) (kvs.map (·.2))
|_,_,.nil=>.nil
|_,_,.cons r t=>.cons r.2 (uI t)
theorem oX(hc:X.calm=true)(hg:Gl X "list")(hm:X.mg "list" = none)(ho:SB X g m o fo)(hbase:ID o "values" X.env (eval o X.env)=eval o X.env:=by rfl)(hline:(apos.endLine==cpos.line)=true:=by rfl)(hs2:l_ [.Call (.Attribute o "values" apos) [] [] cpos] X.env=(false,eval (.Call (.Attribute o "values" apos) [] [] cpos) X.env)::l_ [] X.env:=by rfl):SO X g m (.Call (.Name "list" pos') [.Call (.Attribute o "values" apos) [] [] cpos] [] pos) (f1 fo kA):=by
 refine PE.imp (lj (Gw hc) hg hm rfl (gp (uP PySem.F.plainAttrs_dict K0 PySem.F.type_dict_values ED ho hbase hline) gN hs2) (by decide) (by decide) hs2 rfl) fun σ H Q ⟨r,G,si,q⟩=>⟨r,G,si,aT (a8 q) fun d q1 v G1 H1 w1 r1=>?_⟩
 obtain⟨d',e,q2⟩:=cB q1;cases d with
|dic kvs=>
  cases e;obtain⟨a,ps,rfl,hs,rs⟩:=r1.dic w1.ok;refine⟨.inr (.inr (.inl ⟨rfl,.inl ⟨ps,hs⟩⟩)),a,ps,rfl,rfl,hs,fun p hp=>⟨p,a,ps,rfl,bM,?_,fun l hl=>?_⟩⟩
  .exact Rd.mono hs fun a o e=>o6 hp _ _ e
  .obtain⟨hl1,hl2⟩:=vG hl;have w2:=Grow.new w1.ok hp (.ext fun h=>h.IsValuesView p a);have w3:=Grow.new w2.ok hl (.lst (ps.map (·.2)));exact q2 l G1 _ (w1.trans (w2.trans w3)) (w1.back hl1) ⟨w1.ok.isN hl1,.lst bM (uI rs)⟩
|_=>cases e
end
def cH:Nat->List D->List D
|_,[]=>[]
|i,d::ds=>.tup [.int i,d]::cH (i+1) ds
theorem pO:∀(i:Nat)(ds:List D),(cH i ds).length=ds.length
|_,[]=>rfl
|i,d::ds=>congrArg (· + 1) (pO (i+1) ds)
theorem xk:∀(i j:Nat)(ds:List D),(cH i ds)[j]? = (ds[j]?).map fun d=>D.tup [.int ((i+j:Nat):Int),d]
|_,_,[]=>by simp[cH]
|i,0,d::ds=>by simp[cH]
|i,j+1,d::ds=>by show(cH (i+1) ds)[j]? = _;rw[xk (i+1) j ds];simp only[List.getElem?_cons_succ];rw[show i+1+j=i+(j+1)by omega]
def mo(f:FE):FI:=fun r=>(f r).bind fun d=>(bO (bN d)).bind fun ds=>.ok (cH 0 ds)
section
variable{X:Cx}{g:GE}{m:List Md}{e a:Expr}{f:FE}{pos p pos2:Pos}{elts:List Expr}{kk:Nat}
theorem C2{te:TE}(hg:Gl X "enumerate")(hm:X.mg "enumerate" = none)(he:PE X e te)(hs:l_ [e] X.env=(false,eval e X.env)::l_ [] X.env:=by rfl):PI X (.Tuple elts kk pos2) (.Call (.Name "enumerate" p) [e] [] pos) (fun σ H R=>te σ H fun x H1=>(∃a,x=.ref a/\(∃xs,aL X.K H1 a xs)/\R (jJ fun H xs=>aL X.K H a xs) H1)\/∃a,x=.ref a/\(∃xs,bL X.K H1 a xs)/\R (jJ fun H xs=>bL X.K H a xs) H1):=by
 intro pz s σ H R I h;refine Call_ (ja I hg hm boot_enumerate (IU (aF (gp he gN hs pos pz s σ H (fun vs H1=>match vs with
 |[x]=>(∃a,x=.ref a/\(∃xs,aL X.K H1 a xs)/\R (jJ fun H xs=>aL X.K H a xs) H1)\/∃a,x=.ref a/\(∃xs,bL X.K H1 a xs)/\R (jJ fun H xs=>bL X.K H a xs) H1
 |_=>False) I h) fun us s1 ⟨vs,H1,I1,r1,q1⟩=>?_) hs rfl))
 .cases r1 with
 |nil=>exact q1.elim
 |@cons x u xs us rx rt=>cases rt with
 |cons _ _=>exact q1.elim
 |nil=>
  have fin:∀{h':Heap},h'.objs.size=s1.heap.objs.size+2->(∀b o,s1.heap.get? b=some o->h'.get? b=some o)->∀b∈[s1.heap.objs.size+1,s1.heap.objs.size],cx X pz H1 b:=fun hz kp b hb=>by
   have hge:s1.heap.objs.size<=b:=by
    rcases x_.mp hb with rfl|hb
    .exact KO _
    .rw[HB.mp hb];exact q_ _
   exact I1.fpOk hge (I1.hok.fresh hge)
  rcases q1 with⟨a,rfl,⟨xs,hq⟩,q⟩|⟨a,rfl,⟨xs,hq⟩,q⟩
  .cases rx;obtain⟨its,rv,pl,hz⟩:=I1.list hq;refine call_enumerate_list pl.isList fun h' he hi hsz kp=>J2 he ?_;exact⟨_,[s1.heap.objs.size+1,s1.heap.objs.size],_,_,H1,rfl,I1.kept (t':=s1.toks) kp,FB a _ _ (Ir (Iz _)),⟨⟨_,he⟩,hi⟩,fin hsz kp,q⟩
  .cases rx;obtain⟨its,rv,pl,hz⟩:=I1.tuple hq;refine GP (show s1.heap.IsTuple a its.toArray from pl) fun h' he hi hsz kp=>J2 he ?_;exact⟨_,[s1.heap.objs.size+1,s1.heap.objs.size],_,_,H1,rfl,I1.kept (t':=s1.toks) kp,FC a _ _ (Ir (Iz _)),⟨⟨_,he⟩,hi⟩,fin hsz kp,q⟩
end
theorem vN:∀a b:List Int,HT.bn a b=bF a b
|[],[]=>rfl
|[],_::_=>rfl
|_::_,[]=>rfl
|x::xs,y::ys=>by rw[HT.cE,bF,vN xs ys]
inductive TupI(h:Heap):a_->List Int->Prop where
 |mk {a:Addr} {items:Array a_} {ns:List Int}:MV h a items->IV items.toList ns->TupI h (.ref a) ns
theorem Gf:∀(xs ys:List Int),((r_ (min xs.length ys.length)).all (fun j=>decide (xs.getD j 0=ys.getD j 0))&&xs.length==ys.length)=decide (xs=ys):=by
 intro xs ys;rw[HE,Hs,E_,beq_iff_eq,decide_eq_true_iff];constructor
 .rintro⟨h1,h2⟩
  refine MA h2 fun i a b=>?_;have:=h1 i (D_.mpr (by omega));simp only[decide_eq_true_eq]at this;simpa[s_,a,b]using this
 .rintro rfl
  exact⟨fun i _=>by simp,rfl⟩
theorem CH{A:HA}{s:g_}{p q:a_}{k l:List Int}(hp:TupI s.heap p k)(hq:TupI s.heap q l)(hu:A.units<Jl):L6 A s p q (decide (k=l)):=by cases hp with
|@mk a ia _ ha ia'=>cases hq with
 |@mk b ib _ hb ib'=>
   by_cases e:a=b
   .subst e;obtain⟨o,h1,h2,n,h3⟩:=ha;obtain⟨o',h1',h2',n',h3'⟩:=hb;rw[h1]at h1';cases h1';rw[h3]at h3';cases h3';have:k=l:=by have z1:=ia';have z2:=ib';exact(N6 z1).symm.trans (N6 z2)
    subst this;rw[decide_eq_true rfl];exact MH _
   .have l1:=ia'.length;have l2:=ib'.length;rw[IR]at l1 l2;have key:=SeqAt.RcAt.tuples (A:=A) (s:=s) (e:=fun j=>decide (k.getD j 0=l.getD j 0)) (show s.heap.IsTuple a ia from ha) (show s.heap.IsTuple b ib from hb) hu (fun j h1 h2=>by
     obtain⟨t,e1⟩:=Nc ia' j ia[j] (by rw[HQ];simp[h1]);obtain⟨t',e2⟩:=Nc ib' j ib[j] (by rw[HQ];simp[h2]);rw[e1,e2];have:=Kv (A:=A.in1) (s:=s) (k.getD j 0) t (l.getD j 0) t';have e:(k.getD j 0==l.getD j 0)=decide (k.getD j 0=l.getD j 0):=by rw[HE];simp
     rw[e]at this;exact this)
    rw[l1,l2,Gf]at key;exact SeqAt.EqAt.of_refs e key
inductive TupsI(h:Heap):List a_->List (List Int)->Prop where
 |nil:TupsI h [] []
 |cons {p:a_} {k:List Int} {ps:List a_} {ks:List (List Int)}:TupI h p k->TupsI h ps ks->TupsI h (p::ps) (k::ks)
theorem TupsI.length{h:Heap}:∀{ps:List a_}{ks:List (List Int)},TupsI h ps ks->ps.length=ks.length
|_,_,.nil=>rfl
|_,_,.cons _ t=>congrArg (· + 1) t.length
section
variable{prog:z_}{w:Ht}{A:HA}{s:g_}
theorem Bu{fin:Bool}{Q:Bool->g_->Prop}(hu:A.units<Jl){ps qs:List a_}{ks ls:List (List Int)}{i:Nat}(h1:TupsI s.heap ps ks)(h2:TupsI s.heap qs ls)(h:Q (eN fin ks ls) s):W.KatLex prog w A false fin Q (ps.zip qs) i s:=by induction h1 generalizing qs ls i with
|nil=>cases h2 <;> exact W.kat_nil h
|@cons p k ps ks hp tp ih=>cases h2 with
 |nil=>exact W.kat_nil h
 |@cons q l qs ls hq tq=>
   refine W.kat_cons (CH hp hq hu prog w _ _ ?_);by_cases e:k=l
   .rw[decide_eq_true e];have h':Q (eN fin ks ls) s:=by unfold eN at h;rw[if_pos e]at h;exact h
    exact W.kat_yes (ih tq h')
   .rw[decide_eq_false e];have h':Q (bF k l) s:=by unfold eN at h;rw[if_neg e]at h;exact h
    refine W.kat_no ?_;rw[LD];refine W.kat_one _ _ ?_;cases hp with
   |mk ha ia=>cases hq with
    |mk hb ib=>refine HT.eM ha hb ia ib hu ?_;rw[vN];exact h'
inductive TupR(h:Heap):a_->List (List Int)->Prop where
 |mk {a:Addr} {items:List a_} {ks:List (List Int)}:MV h a items.toArray->TupsI h items ks->ks≠[]->TupR h (.ref a) ks
theorem C9{p q:a_}{ks ls:List (List Int)}{Q:Bool->g_->Prop}{E:a_->g_->Prop}(hp:TupR s.heap p ks)(hq:TupR s.heap q ls)(hu:A.units<Jl)(h:Q (bJ ks ls) s):C_ (F_ prog w) A (keyLt' (tuples' false) p q) Q E s:=by cases hp with
|@mk _ items _ ha ta hna=>cases hq with
 |@mk _ items_1 _ hb tb hnb=>
   obtain⟨o,h1,h2,n,h3⟩:=ha;obtain⟨o',h1',h2',n',h3'⟩:=hb;refine W.kat_lt h1 h3 h1' h3' ?_;have e:decide (items.toArray.size<items_1.toArray.size)=decide (ks.length<ls.length):=by rw[n_,n_,ta.length,tb.length]
   rw[e];exact Bu hu (by simpa using ta) (by simpa using tb) h
end
def gM:List D->Option (List Int)
|[]=>some []
|.int i::ds=>(gM ds).map (i::·)
|_=>none
theorem xg{K:W.Frag}{G:GH}{H:Hp}(gk:aC K G H){ds:List D}{xs:List V}{ns:List Int}(h:aV K G xs ds)(e:gM ds=some ns):xs=ns.map V.int:=by induction h generalizing ns with
|nil=>cases e;rfl
|@cons x d xs ds r t ih=>cases d with
 |int i=>have e':(gM ds).map (i::·)=some ns:=e;cases q:gM ds with
  |none=>rw[q]at e';cases e'
  |some ms=>rw[q]at e';cases e';rw[r.int gk,ih q];rfl
 |_=>cases e
def mw(K:W.Frag)(H:Hp)(x:V)(k:List Int):Prop:=∃b,x=.ref b/\bL K H b (k.map V.int)
def km(K:W.Frag)(H:Hp)(x:V)(ks:List (List Int)):Prop:=∃b xs,x=.ref b/\bL K H b xs/\Paired (mw K H) xs ks/\ks≠[]
def iu{α:Type}(d:α)(ys:List α)(kss:List (List (List Int))):List α:=(fT ys.length fun i j=>bJ (kss.getD i []) (kss.getD j [])).map fun i=>ys.getD i d
theorem bq.isS{P:z_}{w:Ht}{H:Hp}{h:Heap}{a:Addr}{o:HO}(x:bq P w H h a o):h.get? a≠none:=by
 have s:∀{u:Obj},h.get? a=some u->h.get? a≠none:=fun e z=>by rw[z]at e;cases e
 cases o with
|lst xs=>obtain⟨_,_,_,_,e⟩:=x;exact s e
|tup xs=>obtain⟨_,_,_,⟨_,e,_⟩,_⟩:=x;exact s e
|dK kvs=>obtain⟨_,_,_,_,o,_,_,e,_⟩:=x;exact s e
|dT kvs=>obtain⟨_,_,_,_,o,_,_,e,_⟩:=x;exact s e
|set S n=>obtain⟨o,_,_,_,e,_⟩:=x;exact s e
|ins C dx fs=>obtain⟨_,_,_,e,_⟩:=x;exact s e
|own y=>obtain⟨_,e⟩:=x;exact s e
|xd fs=>obtain⟨_,⟨_,_,_,e,_⟩,_⟩:=x;exact s e
|rng lo hi=>obtain⟨_,_,_,e⟩:=x;exact s e
|frz ob u=>obtain⟨e,_⟩:=x;exact s e
|tbl ps=>exact s (show h.get? a=some _ from x)
|met f y=>exact s (show h.get? a=some _ from x)
|ext φ=>obtain⟨_,⟨_,e⟩,_⟩:=x;exact s e
section
variable{X:Cx}{pz:List (Addr×Obj)}{σ:L2.St}{H:Hp}{s:g_}
theorem TupI.stay{h h':Heap}{L:Addr}{mm:Str->Option a_}(hL:h.Ns L mm)(k:∀b o,b≠L->h.get? b=some o->h'.get? b=some o){p:a_}{ns:List Int}(x:TupI h p ns):TupI h' p ns:=by cases x with
|mk ht hi=>
  obtain⟨o,h1,h2,n,h3⟩:=ht;refine .mk ⟨o,k _ _ ?_ h1,h2,n,h3⟩ hi
  rintro rfl
  obtain⟨o',es,ep,e,d,_⟩:=hL;rw[h1]at e;cases e;rw[h3]at d;cases d
theorem TupsI.stay{h h':Heap}{L:Addr}{mm:Str->Option a_}(hL:h.Ns L mm)(k:∀b o,b≠L->h.get? b=some o->h'.get? b=some o):∀{ps:List a_}{ks:List (List Int)},TupsI h ps ks->TupsI h' ps ks
|_,_,.nil=>.nil
|_,_,.cons x t=>.cons (x.stay hL k) (t.stay hL k)
theorem TupR.stay{h h':Heap}{L:Addr}{mm:Str->Option a_}(hL:h.Ns L mm)(k:∀b o,b≠L->h.get? b=some o->h'.get? b=some o){p:a_}{ks:List (List Int)}(x:TupR h p ks):TupR h' p ks:=by cases x with
|mk ht hi hn=>
  obtain⟨o,h1,h2,n,h3⟩:=ht;refine .mk ⟨o,k _ _ ?_ h1,h2,n,h3⟩ (hi.stay hL k) hn
  rintro rfl
  obtain⟨o',es,ep,e,d,_⟩:=hL;rw[h1]at e;cases e;rw[h3]at d;cases d
theorem CI(I:Inv X pz σ H s){x:V}{k:List Int}{u:a_}(h:mw X.K H x k)(r:L2.ao x u):TupI s.heap u k:=by obtain⟨b,rfl,hq⟩:=h;cases r;obtain⟨its,rv,pl,_⟩:=I.tuple hq;exact .mk pl (by simpa using yd rv)
theorem DT(I:Inv X pz σ H s){xs:List V}{ks:List (List Int)}{us:List a_}(h:Paired (mw X.K H) xs ks)(v:ai xs us):TupsI s.heap us ks:=by induction h generalizing us with
|nil=>cases v;exact .nil
|cons h _ ih=>cases v with
 |cons r q=>exact .cons (CI I h r) (ih q)
theorem CJ(I:Inv X pz σ H s){x:V}{ks:List (List Int)}{u:a_}(h:km X.K H x ks)(r:L2.ao x u):TupR s.heap u ks:=by obtain⟨b,xs,rfl,hq,hp,hn⟩:=h;cases r;obtain⟨its,rv,pl,_⟩:=I.tuple hq;exact .mk pl (DT I hp rv) hn
theorem xK{ys:List V}{us:List a_}(r:ai ys us):∀(ix:List Nat),(∀i∈ix,i<ys.length)->ai (ix.map fun i=>ys.getD i .non) (ix.map fun i=>us.getD i Value.none)
|[],_=>.nil
|i::ix,h=>by
  refine .cons ?_ (xK r ix fun j hj=>h j (f_ _ hj));have hi:=h i c_;obtain⟨u,h1,h2⟩:=r.get (i:=i) (x:=ys[i]) (j_ hi);have e1:ys.getD i .non=ys[i]:=by simp[s_,hi]
  have e2:us.getD i Value.none=u:=by rw[s_,h1];rfl
  show L2.ao (ys.getD i .non) (us.getD i Value.none);rw[e1,e2];exact h2
theorem Inv.laidN{D:Addr}{ys:List V}{its:List a_}{c:Nat}{h':Heap}(I:Inv X pz σ H s)(hD:s.heap.get? D=none)(hDL:D≠X.env.locals)(k:∀b o,b≠X.env.locals->s.heap.get? b=some o->h'.get? b=some o)(hns:∀m,s.heap.Ns X.env.locals m->h'.Ns X.env.locals m)(ho:h'.get? D=some { cls:=.type "list",data:=.seq its.toArray c })(rv:ai ys its)(hz:ys.length<=sizeLine)(t':Nat):Inv X pz σ (upd H D (.lst ys)) { s with heap:=h',toks:=t' }:=by
 have hHD:H D=none:=by cases q:H D with
 |none=>rfl
 |some u=>exact absurd hD (bq.isS (I.hok D u q))
 have neD:∀b o,s.heap.get? b=some o->b≠D:=fun b o e z=>by rw[z,hD]at e;cases e
 have keepU:∀b u,H b=some u->upd H D (.lst ys) b=some u:=fun b u e=>by rw[aW (iN e hHD)];exact e
 have trkL:∀b u,H b=some u->b≠X.env.locals:=fun b u e z=>by rw[z,I.free]at e;cases e
 refine I.step (g':=s.gens) (d':=s.drawn) (ch:=[]) (fun b hb=>absurd hb (by simp)) (fun b ob hL _ _ e _=>k b ob hL e) (fun b ob hL _ _ e _=>⟨ob.slots,k b ob hL e⟩) (fun b ob _ e n=>by rw[aW (neD b ob e)];exact n)
  (fun b ob _ e=>?_) (fun b xs e=>keepU b _ e) (fun b ob u e=>keepU b _ e) (fun b ps e=>⟨#[],by rw[keepU b _ e];simp⟩) hns (fun b u e=>?_) I.bare
 .by_cases hb:b=X.env.locals
  .subst hb;obtain⟨m,hn,_⟩:=I.loc;obtain⟨o,_,_,ho',_⟩:=hns m hn;exact⟨o,ho'⟩
  .exact⟨ob,k b ob hb e⟩
 .by_cases hb:b=D
  .subst hb;rw[bM]at e;cases e;exact⟨hz,its,c,rv,ho⟩
  .rw[aW hb]at e;refine(I.hok b u e).stay (fun cc v hc q=>k cc v ?_ q) (fun cc q=>keepU cc _ q) fun cc xs q=>keepU cc _ q;rcases hc with z|z
   .rw[z];exact trkL b u e
   .exact trkL cc _ z
theorem vS{h:Heap}{L:Addr}{m m':Str->Option a_}(a:h.Ns L m)(b:h.Ns L m'):m=m':=by obtain⟨o,es,ep,e,d,_,f⟩:=a;obtain⟨o',es',ep',e',d',_,f'⟩:=b;rw[e]at e';cases e';rw[d]at d';cases d';funext x;rw[<-f,<-f']
theorem wK{h:Heap}:∀{us:List a_}{kss:List (List (List Int))},Paired (fun u ks=>TupR h u ks) us kss->∃fs,W.KatTups h us fs/\fs.length=us.length/\∀f∈fs,∃b o,f=Value.ref b/\h.get? b=some o/\o.cls=.type "tuple"
|_,_,.nil=>⟨[],W.KatTups.nil,rfl,fun f hf=>nomatch hf⟩
|_,_,.cons x t=>by obtain⟨fs,h1,h2,h3⟩:=wK t;cases x with
 |@mk a items ks ht hi hn=>cases hi with
  |nil=>exact absurd rfl hn
  |@cons p k ps ks hp _=>
    obtain⟨o,e1,e2,n,e3⟩:=ht;refine⟨p::fs,W.KatTups.cons e1 e2 e3 (by simp) h1,by simp[h2],fun f hf=>?_⟩;rcases x_.mp hf with rfl|hf
    .cases hp with
    |mk hb _=>obtain⟨ob,q1,q2,_⟩:=hb;exact⟨_,ob,rfl,q1,q2⟩
    .exact h3 f hf
theorem DS(I:Inv X pz σ H s){ys:List V}{kss:List (List (List Int))}{us:List a_}(h:Paired (km X.K H) ys kss)(v:ai ys us):Paired (fun u ks=>TupR s.heap u ks) us kss:=by induction h generalizing us with
|nil=>cases v;exact .nil
|cons h _ ih=>cases v with
 |cons r q=>exact .cons (CJ I h r) (ih q)
theorem lB{n:Nat}{c:Nat->Nat->Bool}{i:Nat}(h:i∈fT n c):i<n:=D_.mp ((qf n c).mem_iff.mp h)
theorem F6{k:Nat}(hr:Room k X.A):dv X (.builtin "sorted") (fun xs H Q=>∃p ys kss,xs=[.ref p]/\aL X.K H p ys/\Paired (km X.K H) ys kss/\ys.length<64/\∀l,H l=none->Q (.ref l) (upd H l (.lst (iu .non ys kss)))):=by
 intro pz s σ H xs us Q I r h;obtain⟨p,ys,kss,rfl,hq,hk,h64,q⟩:=h;obtain⟨u,rfl,rx⟩:=bA r;cases rx;obtain⟨its,rv,pl,hz⟩:=I.list hq;have hl:=rv.length;have hkl:=Paired.length hk;by_cases h2:its.length<2
 .refine Gp pl.isList h2 fun h' c D kp hD ho=>?_;have hs:s.heap.get? D=none:=Ke hD;refine⟨.ref D,_,Inv.laidN I hs (Ir (A_ I.lt hD)) (fun b o _ e=>kp b o e) (fun m ⟨o,es,ep,e,z⟩=>⟨o,es,ep,kp _ _ e,z⟩) ho rv (by omega) s.toks,rfl,?_⟩;have e:iu V.non ys kss=ys:=by unfold iu fT;rw[if_pos (by omega)];refine MA (by simp) fun i a b=>?_;simp[s_,b]
  have:=q D (I.hok.fresh hD);rw[e]at this;exact this
 .obtain⟨mF,F⟩:=I.fr;have trs:=DS I hk rv;refine W.kat_sorted F (wQ (g:=X.base) (h:=s.heap) (L:=X.env.locals)) pl.isList (by omega) (by omega) fun D e1 h' F' N' hlt=>?_;have hDs:s.heap.get? D=none:=by cases z:s.heap.get? D with
  |none=>rfl
  |some o=>have zn:=(N' _ (c_)).2;exact absurd (hlt (D,o) (nW zn.1 zn.2 z)) (Ii _)
  have keepN:∀{h2:Heap}{oD:Obj},Fr X.base X.env.locals h2 mF->News X.base X.env.locals h2 ((D,oD)::k4 X.base s.heap X.env.locals)->∀b o,b≠X.env.locals->s.heap.get? b=some o->h2.get? b=some o:=fun{h2 oD} F2 N2 b o hb e=>by cases z:X.base.get? b with
  |some o'=>have:=I.bk b o' z;rw[e]at this;cases this;exact F2.keep b o z
  |none=>exact(N2 (b,o) (f_ _ (nW hb z e))).1
  have k1:=keepN F' N';have trs':Paired (fun u ks=>TupR h' u ks) its kss:=Paired.mono (fun _ _ x=>x.stay F.ns k1) trs;obtain⟨fs,t1,t2,t3⟩:=wK trs';refine W.kat_kind (T:=.type "tuple") t1 (by omega) (fun v hv=>?_) (by decide) ?_
  .obtain⟨b,o,rfl,e1,e2⟩:=t3 v hv;rw[<-e2];exact(W.Looks.ld e1).andThen .now
  have hn:0<its.length:=by omega
  refine ES (n:=its.length) (c:=fun i j=>bJ (kss.getD i []) (kss.getD j [])) (fun i j C hi hj hC=>?_) (xo hn) ?_
  .have gi:∀i,i<its.length->TupR h' (its.getD i Value.none) (kss.getD i []):=fun i hi=>by
    have hki:i<kss.length:=by omega
    obtain⟨a,ha,hx⟩:=Paired.get trs' (j_ hki);rw[s_,ha,s_,j_ hki];exact hx
   exact C9 (gi i hi) (gi j hj) (by have:=hr.un;show X.A.units+1+1<Jl;omega) hC
  .refine W.KasFin.intro F' N' (.head fun q hq z=>?_) fun h3 c F3 N3=>?_
   .have:=hlt q hq;rw[z]at this;exact Ii _ this
   .have oD:=(N3 _ c_)
    have hix:∀i∈fT ys.length (fun i j=>bJ (kss.getD i []) (kss.getD j [])),i<ys.length:=fun i hi=>lB hi;have e0:(kasRun (fun i j=>bJ (kss.getD i []) (kss.getD j [])) (W.kas_sort its.length)).toList=fT ys.length (fun i j=>bJ (kss.getD i []) (kss.getD j [])):=by unfold fT;rw[if_neg (by omega),hl]
    rw[e0]at oD;refine⟨.ref D,_,Inv.laidN (t':=_) (its:=(fT ys.length fun i j=>bJ (kss.getD i []) (kss.getD j [])).map fun i=>its.getD i Value.none) I hDs oD.2.1 (keepN F3 N3) (fun m hm=>by rw[vS hm F.ns];exact F3.ns) oD.1 (xK rv _ hix) ?_,rfl,q D ?_⟩
    .have:=(qf ys.length fun i j=>bJ (kss.getD i []) (kss.getD j [])).length_eq;rw[m_,this,Ml];omega
    .cases z:H D with
    |none=>rfl
    |some u=>exact absurd hDs (bq.isS (I.hok D u z))
end
def iE:D->Option (List Int)
|.tup ds=>gM ds
|_=>none
def gL:List D->Option (List (List Int))
|[]=>some []
|d::ds=>(iE d).bind fun k=>(gL ds).map (k::·)
def mQ:D->Option (List (List Int))
|.tup (d::ds)=>gL (d::ds)
|_=>none
def iI:List D->Option (List (List (List Int)))
|[]=>some []
|d::ds=>(mQ d).bind fun k=>(iI ds).map (k::·)
def kC:List D->Option D
|[.lst ds]=>(iI ds).bind fun kss=>if ds.length<64 then some (.lst (iu .non ds kss))else none
|_=>none
section
variable{K:W.Frag}{G:GH}{H:Hp}
theorem BH(gk:aC K G H){v:V}{d:D}{k:List Int}(r:RG K G v d)(e:iE d=some k):mw K H v k:=by cases d with
|tup ds=>obtain⟨a,xs,rfl,s,rs⟩:=r.tup gk;have:=xg gk rs e;subst this;exact⟨a,rfl,s⟩
|_=>cases e
theorem CC(gk:aC K G H){ds:List D}{xs:List V}{ks:List (List Int)}(h:aV K G xs ds)(e:gL ds=some ks):Paired (mw K H) xs ks:=by induction h generalizing ks with
|nil=>cases e;exact .nil
|@cons x d xs ds r t ih=>have e':(iE d).bind (fun k=>(gL ds).map (k::·))=some ks:=e;cases e1:iE d with
 |none=>rw[e1]at e';cases e'
 |some k=>rw[e1]at e';cases e2:gL ds with
  |none=>rw[e2]at e';cases e'
  |some ks'=>rw[e2]at e';cases e';exact .cons (BH gk r e1) (ih e2)
theorem DU{d:D}{ds:List D}{ks:List (List Int)}(e:gL (d::ds)=some ks):ks≠[]:=by have e':(iE d).bind (fun k=>(gL ds).map (k::·))=some ks:=e;cases e1:iE d with
|none=>rw[e1]at e';cases e'
|some k=>rw[e1]at e';cases e2:gL ds with
 |none=>rw[e2]at e';cases e'
 |some ks'=>rw[e2]at e';cases e';simp
theorem BI(gk:aC K G H){v:V}{d:D}{ks:List (List Int)}(r:RG K G v d)(e:mQ d=some ks):km K H v ks:=by cases d with
|tup ds=>cases ds with
 |nil=>cases e
 |cons d ds=>obtain⟨a,xs,rfl,s,rs⟩:=r.tup gk;exact⟨a,xs,rfl,s,CC gk rs e,DU e⟩
|_=>cases e
theorem CD(gk:aC K G H){ds:List D}{xs:List V}{ks:List (List (List Int))}(h:aV K G xs ds)(e:iI ds=some ks):Paired (km K H) xs ks:=by induction h generalizing ks with
|nil=>cases e;exact .nil
|@cons x d xs ds r t ih=>have e':(mQ d).bind (fun k=>(iI ds).map (k::·))=some ks:=e;cases e1:mQ d with
 |none=>rw[e1]at e';cases e'
 |some k=>rw[e1]at e';cases e2:iI ds with
  |none=>rw[e2]at e';cases e'
  |some ks'=>rw[e2]at e';cases e';exact .cons (BI gk r e1) (ih e2)
theorem wX{xs:List V}{ds:List D}(r:aV K G xs ds):∀(ix:List Nat),(∀i∈ix,i<ds.length)->aV K G (ix.map fun i=>xs.getD i .non) (ix.map fun i=>ds.getD i .non)
|[],_=>.nil
|i::ix,h=>by refine .cons ?_ (wX r ix fun j hj=>h j (f_ _ hj));have hi:=h i c_;obtain⟨u,h1,h2⟩:=Paired.get r (j_ hi);show RG K G (xs.getD i .non) (ds.getD i .non);rw[s_,h1,s_,j_ hi];exact h2
end
section
variable{X:Cx}{g:GE}{m:List Md}{a:Expr}{fl:ag->Res (List D)}{pos p:Pos}{k:Nat}
theorem wS(hr:Room k X.A)(hg:Gl X "sorted")(hm:X.mg "sorted" = none)(ha:fY X g m [a] fl)(hs:l_ [a] X.env=(false,eval a X.env)::l_ [] X.env:=by rfl):SO X g m (.Call (.Name "sorted" p) [a] [] pos) (fC fl kC):=by
 refine mK (R:=fun xs H Q=>∃p ys kss,xs=[.ref p]/\aL X.K H p ys/\Paired (km X.K H) ys kss/\ys.length<64/\∀l,H l=none->Q (.ref l) (upd H l (.lst (iu .non ys kss)))) ?_ (lc (F6 hr) hg hm (by first|exact K1|rfl) ha (by decide) (by decide) hs rfl);intro G H vs ds d Q gk rs e q;unfold kC at e;split at e
 .rename_i zs;cases ek:iI zs with
 |none=>rw[ek]at e;cases e
 |some kss=>
   rw[ek]at e;have e':(if zs.length<64 then some (D.lst (iu .non zs kss))else none)=some d:=e;by_cases h64:zs.length<64
   .rw[if_pos h64]at e';cases e';cases rs with
   |cons r1 t=>cases t;obtain⟨b,xs,rfl,s,r⟩:=r1.lst gk;have hl:=Paired.length r;refine⟨b,xs,kss,rfl,s,CD gk r ek,by omega,fun l hl'=>q l G _ (Grow.new gk hl' _) hl' ⟨gk.isN hl',.lst bM ?_⟩⟩;unfold iu;rw[hl];exact wX r _ fun i hi=>lB hi
   .rw[if_neg h64]at e';cases e'
 .cases e
end
end DL
namespace DL
open PySem PyProof.Rows PySem.SeqAt PySem.MeetsSeq PySem.MeetsSeq2 PySem.MeetsSeq3 L2
section
open PySem.AutoSeq1 (wpAny_loadPart')
end
end DL
namespace DL
open PySem PyProof.Rows L2
section
variable{prog:z_}{w:Ht}{A:HA}{E:a_->g_->Prop}{s:g_}
def jI(h:Heap)(u:a_)(ns:List Int):Prop:=∃a its,u=.ref a/\h.IsList a its/\IV its.toList ns
end
end DL
namespace DL
open PySem PySem.Spec PyProof.Rows L2
section
variable{X:Cx}{pz:List (Addr×Obj)}{σ:L2.St}{H:Hp}{s:g_}
theorem jI.stay{h h':Heap}{L:Addr}{mm:Str->Option a_}(hL:h.Ns L mm)(k:∀b o,b≠L->h.get? b=some o->h'.get? b=some o){p:a_}{ns:List Int}(x:jI h p ns):jI h' p ns:=by
 obtain⟨a,its,rfl,⟨o,h1,h2,n,h3⟩,hi⟩:=x;refine⟨a,its,rfl,⟨o,k _ _ ?_ h1,h2,n,h3⟩,hi⟩
 rintro rfl
 obtain⟨o',es,ep,e,d,_⟩:=hL;rw[h1]at e;cases e;rw[h3]at d;cases d
end
section
variable{X:Cx}{pz:List (Addr×Obj)}{σ:L2.St}{H:Hp}{s:g_}
theorem Inv.keptN{h':Heap}(I:Inv X pz σ H s)(k:∀b o,b≠X.env.locals->s.heap.get? b=some o->h'.get? b=some o)(hns:∀m,s.heap.Ns X.env.locals m->h'.Ns X.env.locals m)(t':Nat):Inv X pz σ H { s with heap:=h',toks:=t' }:=by
 have trkL:∀b u,H b=some u->b≠X.env.locals:=fun b u e z=>by rw[z,I.free]at e;cases e
 refine I.step (g':=s.gens) (d':=s.drawn) (ch:=[]) (fun b hb=>absurd hb (by simp)) (fun b ob hL _ _ e _=>k b ob hL e) (fun b ob hL _ _ e _=>⟨ob.slots,k b ob hL e⟩) (fun b ob _ e n=>n)
  (fun b ob _ e=>?_) (fun b xs e=>e) (fun b ob u e=>e) (fun b ps e=>⟨#[],by rw[e];simp⟩) hns (fun b u e=>?_) I.bare
 .by_cases hb:b=X.env.locals
  .subst hb;obtain⟨m,hn,_⟩:=I.loc;obtain⟨o,_,_,ho',_⟩:=hns m hn;exact⟨o,ho'⟩
  .exact⟨ob,k b ob hb e⟩
 .refine(I.hok b u e).stay (fun cc v hc q=>k cc v ?_ q) (fun cc q=>q) fun cc xs q=>q;rcases hc with z|z
  .rw[z];exact trkL b u e
  .exact trkL cc _ z
end
end DL
namespace DL
open PySem PyProof.Rows L2
section
open PySem.AutoSeq1 (wpAny_loadPart')
theorem GR(l b:Addr)(items items2:Array a_)(n n2:Nat)(dd2:Option Addr)(sl2:Array (Option a_))(hz:items.size+items2.size<=sizeLine) :
  Meets (JJ.«list.extend» ⟨[.ref l,.ref b],[]⟩)
   (fun _ R s=>s.heap.get? l=some { cls:=.type "list",data:=.seq items n }/\s.heap.get? b=some { cls:=.type "list",dict:=dd2,data:=.seq items2 n2,slots:=sl2 } /\R (.ok (.ret .none)) { s with heap:=s.heap.update l (Ic fun x=>x++items2) }):=by
 refine .of_wp fun prog w A R s h=>?_;obtain⟨hp,g,d,tk,os⟩:=s;obtain⟨hl,hb,h⟩:=h
 wp_walk using IL hl,IL hb
 have hlong:¬ (! items.isEmpty&&JP (items.size+items2.size))=true:=by rw[D6 hz,LI];exact d_
 rw[if_neg hlong];refine e_ (LX hl rfl (o_ ⟨_,rfl,h⟩) (by omega) (by rw[Array.size_append];omega))
def wW(K:W.Frag):V->List V->Hp->VK->Prop:=fun x vs H Q=>∃l b xs zs,x=.ref l/\vs=[.ref b]/\H l=some (.lst xs)/\aL K H b zs/\xs.length+zs.length<=sizeLine/\Q .non (upd H l (.lst (xs++zs)))
section
variable{X:Cx}
theorem FN:sI X "list.extend" (wW X.K):=by
 intro pz s σ H x vs v us Q I rx rv h;obtain⟨l,b,xs,zs,rfl,rfl,hH,hB,hz,q⟩:=h;cases rx;obtain⟨u,rfl,ru⟩:=rv.one;cases ru;obtain⟨z,its,n,r,hl,e⟩:=I.lstM hH;obtain⟨its2,r2,⟨⟨c2,d2,x2,s2⟩,n2,e2,f1,f2,f3⟩,z2⟩:=I.list hB;simp only at f1 f2 f3;subst f1 f2 f3;have hl1:=r.length;have hl2:=r2.length;refine Ll F.slot_list_extend ⟨_,e,rfl⟩ F.entry_list_extend (F.args_list_extend_2 _ _)
  (GR l b its.toArray its2.toArray n n2 _ s2 (by rw[n_,n_];omega)) ⟨e,e2,?_⟩
 refine⟨.non,_,I.lset (its':=its++its2) hH e (by simp) (r.append r2) ?_,rfl,q⟩;rw[HJ];omega
end
end
end DL
namespace DL
open PySem PyProof.Rows PySem.W
abbrev aP(p:Array Nat)(i:Nat):Nat:=p.getD i 0
theorem kE{p q:Array Nat}{i j:Nat}(h:p[i]? = q[j]?):aP p i=aP q j:=by unfold aP;rw[Kq,Kq,h]
section
variable{n:Nat}{c:Nat->Nat->Bool}(as:∀i j,c i j=true->c j i=false)(tr:∀i j k,c j i=false->c k j=false->c k i=false)
def Le(c:Nat->Nat->Bool)(i j:Nat):Prop:=c j i=false
def Up(c:Nat->Nat->Bool)(p:Array Nat)(k:Nat):Prop:=∀i,i+1<k->Le c (aP p i) (aP p (i+1))
def Dn(c:Nat->Nat->Bool)(p:Array Nat)(k:Nat):Prop:=∀i,i+1<k->Le c (aP p (i+1)) (aP p i)
def fj(c:Nat->Nat->Bool)(i j:Nat):Prop:=Le c i j/\Le c j i
def mD(c:Nat->Nat->Bool)(p:Array Nat)(k q:Nat):Prop:=∀i,k-(q+1)<=i->i<k->fj c (aP p i) (aP p (k-1))
theorem gm(as:∀i j,c i j=true->c j i=false)(i:Nat):Le c i i:=by unfold Le;cases e:c i i with
|false=>rfl
|true=>have:=as i i e;rw[e]at this;cases this
theorem na(p:Array Nat):∀(f x:Nat),1<=x->x<=kasRun c (IW p f x)/\kasRun c (IW p f x)<=x+f/\(∀i,x<=i+1->i+1<kasRun c (IW p f x)->Le c (aP p i) (aP p (i+1)))
|0,x,_=>⟨q_ _,q_ _,fun i h1 h2=>by have:kasRun c (IW p 0 x)=x:=rfl;omega⟩
|f+1,x,h1=>by
  have e:kasRun c (IW p (f+1) x)=kasRun c (if c (p.getD x 0) (p.getD (x-1) 0)=true then KasT.ret x else IW p f (x+1)):=by rw[kas_asc.eq_2];rfl
  rw[e];cases q:c (p.getD x 0) (p.getD (x-1) 0)with
 |true=>rw[if_pos rfl];exact⟨q_ _,Nat.le_add_right _ _,fun i h1 h2=>by have:kasRun c (KasT.ret x)=x:=rfl;omega⟩
 |false=>
   rw[if_neg d_];obtain⟨a1,a2,a3⟩:=na p f (x+1) (by omega);refine⟨by omega,by omega,fun i h2 h3=>?_⟩;by_cases z:i+1=x
   .have:i=x-1:=by omega
    subst this;rw[show x-1+1=x by omega];exact q
   .exact a3 i (by omega) h3
theorem Up.asc{p:Array Nat}{f x:Nat}(h1:1<=x)(h:Up c p x):Up c p (kasRun c (IW p f x)):=by
 obtain⟨a1,a2,a3⟩:=na (c:=c) p f x h1;intro i hi;by_cases z:i+1<x
 .exact h i z
 .exact a3 i (by omega) hi
theorem j3{p:Array Nat}{i j k:Nat}(hj:j<=p.size):aP (JY p i j) k=if i<=k/\k<j then aP p (i+j-1-k)else aP p k:=by
 have h:=getElem?_mirror_all (xs:=p) (i:=i) hj k;by_cases z:i<=k/\k<j
 .rw[if_pos z]at h ⊢;exact kE h
 .rw[if_neg z]at h ⊢;exact kE h
theorem nv(p:Array Nat)(i j:Nat):(JY p i j).size=p.size:=mirror_size p i j _
include tr in
theorem fj.trans{i j k:Nat}(h1:fj c i j)(h2:fj c j k):fj c i k:=⟨tr _ _ _ h1.1 h2.1,tr _ _ _ h2.2 h1.2⟩
theorem fj.symm{i j:Nat}(h:fj c i j):fj c j i:=⟨h.2,h.1⟩
include as tr in
theorem wu{p:Array Nat}{k q:Nat}(hk:k<=p.size)(hq:q+1<=k)(b:mD c p k q)(i:Nat):fj c (aP (JY p (k-(q+1)) k) i) (aP p i):=by
 rw[j3 hk];by_cases z:k-(q+1)<=i/\i<k
 .rw[if_pos z];exact(b _ (by omega) (by omega)).trans tr (b i z.1 z.2).symm
 .rw[if_neg z];exact⟨gm as _,gm as _⟩
include tr in
theorem Dn.eqv{p p':Array Nat}{k:Nat}(h:Dn c p k)(e:∀i,fj c (aP p' i) (aP p i)):Dn c p' k:=fun i hi=>tr _ _ _ (e (i+1)).1 (tr _ _ _ (h i hi) (e i).2)
include as tr in
theorem ny:∀(f:Nat)(p:Array Nat)(k q:Nat),p.size=n->q+1<=k->k+f<=n->Dn c p k->mD c p k q ->(kasRun c (IS f p k q)).1.size=n/\(kasRun c (IS f p k q)).2.2+1<=(kasRun c (IS f p k q)).2.1/\(kasRun c (IS f p k q)).2.1<=n/\Dn c (kasRun c (IS f p k q)).1 (kasRun c (IS f p k q)).2.1/\mD c (kasRun c (IS f p k q)).1 (kasRun c (IS f p k q)).2.1 (kasRun c (IS f p k q)).2.2
|0,p,k,q,h1,h2,h3,h4,h5=>⟨h1,h2,(by show k<=n;omega),h4,h5⟩
|f+1,p,k,q,h1,h2,h3,h4,h5=>by
  have e:kasRun c (IS (f+1) p k q)=kasRun c (if c (p.getD k 0) (p.getD (k-1) 0)=true then(if q>0 then IS f (JY p (k-(q+1)) k) (k+1) 0 else IS f p (k+1) 0)
    else KasT.ask (p.getD (k-1) 0) (p.getD k 0) fun d=>if d=true then KasT.ret (p,k,q)else IS f p (k+1) (q+1)):=by rw[kas_desc.eq_2];rfl
  rw[e];cases c1:c (p.getD k 0) (p.getD (k-1) 0)with
 |true=>
   rw[if_pos rfl];have down:∀p':Array Nat,Dn c p' k->aP p' k=aP p k->fj c (aP p' (k-1)) (aP p (k-1))->Dn c p' (k+1):=by
    intro p' d e1 e2 i hi;by_cases z:i+1=k
    .have:i=k-1:=by omega
     subst this;rw[show k-1+1=k by omega,e1];exact tr _ _ _ (as _ _ c1) e2.2
    .exact d i (by omega)
   have one:∀p':Array Nat,mD c p' (k+1) 0:=fun p' i a b=>by
    have:i=k:=by omega
    subst this;exact⟨gm as _,gm as _⟩
   by_cases hq:q>0
   .rw[if_pos hq];have ev:=wu as tr (by omega) h2 h5;refine ny f _ (k+1) 0 (by rw[nv];exact h1) (by omega) (by omega) (down _ (h4.eqv tr ev) ?_ (ev _)) (one _);rw[j3 (by omega),if_neg (by omega)]
   .rw[if_neg hq];exact ny f p (k+1) 0 h1 (by omega) (by omega) (down p h4 rfl ⟨gm as _,gm as _⟩) (one _)
 |false=>rw[if_neg d_];show _/\_;have e2:kasRun c (KasT.ask (p.getD (k-1) 0) (p.getD k 0) fun d=>if d=true then KasT.ret (p,k,q)else IS f p (k+1) (q+1))=kasRun c (if c (p.getD (k-1) 0) (p.getD k 0)=true then KasT.ret (p,k,q)else IS f p (k+1) (q+1)):=rfl;rw[e2];cases c2:c (p.getD (k-1) 0) (p.getD k 0)with
  |true=>rw[if_pos rfl];exact⟨h1,h2,(by show k<=n;omega),h4,h5⟩
  |false=>
    rw[if_neg d_];refine ny f p (k+1) (q+1) h1 (by omega) (by omega) (fun i hi=>?_) (fun i a b=>?_)
    .by_cases z:i+1=k
     .have:i=k-1:=by omega
      subst this;rw[show k-1+1=k by omega];exact c2
     .exact h4 i (by omega)
    .have ek:fj c (aP p (k-1)) (aP p k):=⟨c1,c2⟩
     rw[show k+1-1=k by omega];by_cases z:i=k
     .subst z;exact⟨gm as _,gm as _⟩
     .exact(h5 i (by omega) (by omega)).trans tr ek
def oF(n:Nat)(c:Nat->Nat->Bool)(r:Nat×Array Nat):Prop:=r.2.size=n/\r.1<=n/\Up c r.2 r.1
theorem wZ{p:Array Nat}{k:Nat}(hp:p.size=n)(h1:1<=k)(hk:k<=n)(d:Dn c p k):oF n c (kasRun c (NS k n p)):=by
 unfold NS;rw[kd];have u:Up c (JY p 0 k) k:=fun i hi=>by rw[j3 (by omega),j3 (by omega),if_pos ⟨by omega,by omega⟩,if_pos ⟨by omega,by omega⟩];have:=d (0+k-1-(i+1)) (by omega);rw[show 0+k-1-(i+1)+1=0+k-1-i by omega]at this;exact this
 obtain⟨a1,a2,a3⟩:=na (c:=c) (JY p 0 k) (n-k) k h1;exact⟨by show(JY p 0 k).size=n;rw[nv];exact hp,by show kasRun c (IW (JY p 0 k) (n-k) k)<=n;omega,u.asc h1⟩
include as tr in
theorem xG{p:Array Nat}{k:Nat}(hp:p.size=n)(hk:k+1<=n)(d:Dn c p (k+1)):oF n c (kasRun c (Ko k n p)):=by
 unfold Ko;rw[kd];have one:mD c p (k+1) 0:=fun i a b=>by
  have:i=k:=by omega
  subst this;exact⟨gm as _,gm as _⟩
 obtain⟨r1,r2,r3,r4,r5⟩:=ny as tr (n-(k+1)) p (k+1) 0 hp (by omega) (by omega) d one;by_cases hq:(kasRun c (IS (n-(k+1)) p (k+1) 0)).2.2>0
 .rw[if_pos hq];exact wZ (by rw[nv];exact r1) (by omega) r3 (r4.eqv tr (wu as tr (by omega) r2 r5))
 .rw[if_neg hq];exact wZ r1 (by omega) r3 r4
include as tr in
theorem uH{p:Array Nat}{k:Nat}(h:Up c p k):∀(d i:Nat),i+d<k->Le c (aP p i) (aP p (i+d))
|0,i,_=>gm as _
|d+1,i,hi=>tr _ _ _ (uH h d i (by omega)) (h (i+d) (by omega))
include as tr in
theorem kz{p:Array Nat}{k i j:Nat}(h:Up c p k)(hij:i<=j)(hj:j<k):Le c (aP p i) (aP p j):=by have:=uH as tr h (j-i) i (by omega);rw[show i+(j-i)=j by omega]at this;exact this
include as tr in
theorem Ff{p:Array Nat}(hp:p.size=n)(hn:2<=n):oF n c (kasRun c (Mv n p))/\1<=n:=by
 refine⟨?_,by omega⟩;unfold Mv;rw[kd];obtain⟨a1,a2,a3⟩:=na (c:=c) p (n-1) 1 (q_ _);have u:Up c p (kasRun c (IW p (n-1) 1)):=Up.asc (q_ _) (fun i hi=>by omega);have stop:kasRun c (IW p (n-1) 1)<n->c (aP p (kasRun c (IW p (n-1) 1))) (aP p (kasRun c (IW p (n-1) 1)-1))=true:=by
  have gen:∀(f x:Nat),1<=x->kasRun c (IW p f x)<x+f->c (aP p (kasRun c (IW p f x))) (aP p (kasRun c (IW p f x)-1))=true:=by
   intro f
   induction f with
  |zero=>intro x _ h;have:kasRun c (IW p 0 x)=x:=rfl;omega
  |succ f ih=>
    intro x hx;have e:kasRun c (IW p (f+1) x)=kasRun c (if c (p.getD x 0) (p.getD (x-1) 0)=true then KasT.ret x else IW p f (x+1)):=by rw[kas_asc.eq_2];rfl
    rw[e];cases q:c (p.getD x 0) (p.getD (x-1) 0)with
   |true=>rw[if_pos rfl];intro _;exact q
   |false=>rw[if_neg d_];intro h;exact ih (x+1) (by omega) (by omega)
  intro h;exact gen (n-1) 1 (q_ _) (by omega)
 generalize kasRun c (IW p (n-1) 1)=m at *;by_cases hm:m=n
 .rw[if_pos (by simpa using hm)];exact⟨hp,by show m<=n;omega,u⟩
 .rw[if_neg (by simpa using hm)];have st:=stop (by omega);by_cases h1:m>1
  .rw[if_pos h1];have e:kasRun c (KasT.ask (p.getD 0 0) (p.getD (m-1) 0) fun c=>if c=true then KasT.ret (m,p)else Ko m n (JY p 0 m))=kasRun c (if c (p.getD 0 0) (p.getD (m-1) 0)=true then KasT.ret (m,p)else Ko m n (JY p 0 m)):=rfl;rw[e];cases q:c (p.getD 0 0) (p.getD (m-1) 0)with
  |true=>rw[if_pos rfl];exact⟨hp,by show m<=n;omega,u⟩
  |false=>
    rw[if_neg d_];have all:∀i,i<m->fj c (aP p i) (aP p (m-1)):=fun i hi=>⟨kz as tr u (by omega) (by omega),tr _ _ _ q (kz as tr u (Hy _) hi)⟩
    refine xG as tr (by rw[nv];exact hp) (by omega) fun i hi=>?_;have e1:∀i,i<m->fj c (aP (JY p 0 m) i) (aP p (m-1)):=fun i hi=>by rw[j3 (by omega),if_pos ⟨by omega,hi⟩];exact all _ (by omega)
    by_cases z:i+1=m
    .rw[z,j3 (j:=m) (k:=m) (by omega),if_neg (by omega)];exact tr _ _ _ (as _ _ st) (e1 i (by omega)).2
    .exact((e1 (i+1) (by omega)).trans tr (e1 i (by omega)).symm).1
  .rw[if_neg h1];have hm1:m=1:=by omega
   subst hm1;refine xG as tr hp (by omega) fun i hi=>?_;have:i=0:=by omega
   subst this;exact as _ _ st
include as tr in
theorem pS{p:Array Nat}{k:Nat}(u:Up c p k):∀(f l r:Nat),r-l<=f->l<=r->r<=k->(∀i,i<l->Le c (aP p i) (aP p k))->(∀i,r<=i->i<k->c (aP p k) (aP p i)=true) ->kasRun c (Jw p k f l r)<=k/\(∀i,i<kasRun c (Jw p k f l r)->Le c (aP p i) (aP p k))/\(∀i,kasRun c (Jw p k f l r)<=i->i<k->c (aP p k) (aP p i)=true)
|0,l,r,h1,h2,h3,h4,h5=>by
  have e:kasRun c (Jw p k 0 l r)=l:=rfl;rw[e];have:l=r:=by omega
  subst this;exact⟨h3,h4,h5⟩
|f+1,l,r,h1,h2,h3,h4,h5=>by
  rw[kas_place.eq_2];by_cases z:l>=r
  .rw[if_pos z];have e:kasRun c (KasT.ret l)=l:=rfl;rw[e];have:l=r:=by omega
   subst this;exact⟨h3,h4,h5⟩
  .rw[if_neg z];have e:kasRun c (KasT.ask (p.getD k 0) (p.getD ((l+r)/2) 0) fun c=>if c=true then Jw p k f l ((l+r)/2)else Jw p k f ((l+r)/2+1) r)=kasRun c (if c (p.getD k 0) (p.getD ((l+r)/2) 0)=true then Jw p k f l ((l+r)/2)else Jw p k f ((l+r)/2+1) r):=rfl;rw[e];cases q:c (p.getD k 0) (p.getD ((l+r)/2) 0)with
  |true=>rw[if_pos rfl];refine pS u f l ((l+r)/2) (by omega) (by omega) (by omega) h4 fun i a b=>?_;cases w:c (aP p k) (aP p i)with
   |true=>rfl
   |false=>have:c (aP p k) (aP p ((l+r)/2))=false:=tr _ _ _ (kz as tr u a b) w;rw[q]at this;cases this
  |false=>rw[if_neg d_];refine pS u f ((l+r)/2+1) r (by omega) (by omega) h3 (fun i a=>?_) h5;exact tr _ _ _ (kz as tr u (by omega:i<=(l+r)/2) (by omega)) q
theorem uE{p:Array Nat}{s d:Nat}(hs:s<p.size)(hd:d<=s)(k:Nat):aP (bubble p s d) k=if k=s-d then aP p s else if s-d<k/\k<=s then aP p (k-1)else aP p k:=by
 have h:=getElem?_bubble hs d hd k;by_cases z:k=s-d
 .rw[if_pos z]at h ⊢;exact kE h
 .rw[if_neg z]at h ⊢;by_cases y:s-d<k/\k<=s
  .rw[if_pos y]at h ⊢;exact kE h
  .rw[if_neg y]at h ⊢;exact kE h
include as tr in
theorem wy:∀(f:Nat)(p:Array Nat)(k:Nat),p.size=n->k+f=n->Up c p k->(kasRun c (kas_bin f p k)).size=n/\Up c (kasRun c (kas_bin f p k)) n
|0,p,k,h1,h2,u=>by
  have:k=n:=by omega
  subst this;exact⟨h1,u⟩
|f+1,p,k,h1,h2,u=>by
  rw[kas_bin.eq_2,kd];obtain⟨a1,a2,a3⟩:=pS as tr u k 0 k (by omega) (by omega) (q_ _) (fun i hi=>by omega) (fun i a b=>by omega);generalize kasRun c (Jw p k k 0 k)=l at *;refine wy f _ (k+1) (by rw[bubble_size];exact h1) (by omega) fun i hi=>?_;rw[uE (by omega) (by omega),uE (by omega) (by omega)];rw[show k-(k-l)=l by omega];by_cases z1:i=l
  .rw[if_pos z1,if_neg (by omega),if_pos ⟨by omega,by omega⟩,show i+1-1=i by omega];exact as _ _ (a3 i (by omega) (by omega))
  .rw[if_neg z1];by_cases z2:i+1=l
   .rw[if_pos z2,if_neg (by omega)];exact a2 i (by omega)
   .rw[if_neg z2];by_cases z3:l<i
    .rw[if_pos ⟨z3,by omega⟩,if_pos ⟨by omega,by omega⟩];have:=u (i-1) (by omega);rw[show i-1+1=i by omega]at this;rw[show i+1-1=i by omega];exact this
    .rw[if_neg (by omega),if_neg (by omega)];exact u i (by omega)
include as tr in
theorem DI(hn:2<=n):(kasRun c (Kx n)).size=n/\Up c (kasRun c (Kx n)) n:=by
 unfold Kx;rw[kd];obtain⟨⟨r1,r2,r3⟩,_⟩:=Ff as tr (p:=(r_ n).toArray) (by simp) hn;generalize kasRun c (Mv n (r_ n).toArray)=r at *;by_cases z:r.1<n
 .rw[if_pos z];refine wy as tr _ _ _ r1 (by have:max r.1 1<=n:=(by omega);omega) fun i hi=>?_;exact r3 i (by omega)
 .rw[if_neg z];refine⟨r1,fun i hi=>r3 i (by omega)⟩
include as tr in
theorem Go:(fT n c).Pairwise (Le c):=by
 unfold fT;by_cases h:n<2
 .rw[if_pos h]
  match n,h with
 |0,_=>exact List.Pairwise.nil
 |1,_=>simp[Ly]
 .rw[if_neg h];obtain⟨s1,u⟩:=DI as tr (n:=n) (by omega);rw[JM];intro i j hi hj hij;have:=kz as tr u (i:=i) (j:=j) (by omega) (by simp at hj;omega);simp at hi hj;have e:∀k (hk:k<(kasRun c (Kx n)).size),aP (kasRun c (Kx n)) k=(kasRun c (Kx n))[k]:=fun k hk=>by simp[aP,M6,hk]
  rw[e i hi,e j hj]at this;simpa using this
end
end DL
section
namespace DL
theorem ze{α:Type}{le:α->α->Prop}(anti:∀a b,le a b->le b a->a=b):∀{l m:List α},l.Perm m->l.Pairwise le->m.Pairwise le->l=m
|[],m,p,_,_=>by rw[NJ.mp p]
|a::l,[],p,_,_=>by have:=p.length_eq;simp at this
|a::l,b::m,p,h1,h2=>by
  have h1':=HV.mp h1;have h2':=HV.mp h2;have e:a=b:=by
   rcases x_.mp (p.mem_iff.mp c_)with z|z
   .exact z
   .rcases x_.mp (p.mem_iff.mpr c_)with y|y
    .exact y.symm
    .exact anti a b (h1'.1 b y) (h2'.1 a z)
  subst e;rw[ze anti (L8 p) h1'.2 h2'.2]
theorem xP:∀(a b:List Int),bF a b=true->bF b a=false
|[],[],h=>by cases h
|[],_::_,_=>rfl
|_::_,[],h=>by cases h
|x::xs,y::ys,h=>by
  unfold bF at h ⊢;by_cases e:x=y
  .subst e;rw[if_pos rfl]at h ⊢;exact xP xs ys h
  .rw[if_neg e]at h;rw[if_neg (fun z=>e z.symm)];have:=of_decide_eq_true h;exact decide_eq_false (by omega)
theorem qe:∀(a b:List Int),bF a b=false->bF b a=false->a=b
|[],[],_,_=>rfl
|[],_::_,h,_=>by cases h
|_::_,[],_,h=>by cases h
|x::xs,y::ys,h1,h2=>by
  unfold bF at h1 h2;by_cases e:x=y
  .subst e;rw[if_pos rfl]at h1 h2;rw[qe xs ys h1 h2]
  .rw[if_neg e]at h1;rw[if_neg (fun z=>e z.symm)]at h2;have a1:=of_decide_eq_false h1;have a2:=of_decide_eq_false h2;omega
theorem yg:∀(a b c:List Int),bF b a=false->bF c b=false->bF c a=false
|[],b,[],_,_=>rfl
|[],[],_::_,_,h=>by cases h <;> rfl
|[],_::_,_::_,h,_=>rfl
|x::xs,[],_,h,_=>by cases h
|x::xs,y::ys,[],_,h=>by cases h
|x::xs,y::ys,z::zs,h1,h2=>by
  unfold bF at h1 h2 ⊢;by_cases e1:y=x
  .subst e1;rw[if_pos rfl]at h1;by_cases e2:z=y
   .subst e2;rw[if_pos rfl]at h2 ⊢;exact yg xs ys zs h1 h2
   .rw[if_neg e2]at h2 ⊢;exact h2
  .rw[if_neg e1]at h1;have a1:=of_decide_eq_false h1;by_cases e2:z=y
   .subst e2;rw[if_neg e1];exact h1
   .rw[if_neg e2]at h2;have a2:=of_decide_eq_false h2;rw[if_neg (by omega)];exact decide_eq_false (by omega)
def b8:List (List Int)->List (List Int)->Bool
|[],[]=>false
|[],_::_=>true
|_::_,[]=>false
|k::ks,l::ls=>if k=l then b8 ks ls else bF k l
theorem jd:∀(ks ls:List (List Int)),bJ ks ls=b8 ks ls
|[],[]=>rfl
|[],_::_=>rfl
|_::_,[]=>rfl
|k::ks,l::ls=>by
  have ih:=jd ks ls;unfold bJ at ih ⊢;have e:decide ((k::ks).length<(l::ls).length)=decide (ks.length<ls.length):=by simp
  rw[e];show(if k=l then eN _ ks ls else bF k l)=if k=l then b8 ks ls else bF k l;rw[ih]
theorem xR:∀(a b:List (List Int)),b8 a b=true->b8 b a=false
|[],[],h=>by cases h
|[],_::_,_=>rfl
|_::_,[],h=>by cases h
|x::xs,y::ys,h=>by
  unfold b8 at h ⊢;by_cases e:x=y
  .subst e;rw[if_pos rfl]at h ⊢;exact xR xs ys h
  .rw[if_neg e]at h;rw[if_neg (fun z=>e z.symm)];exact xP _ _ h
theorem xQ:∀(a b:List (List Int)),b8 a b=false->b8 b a=false->a=b
|[],[],_,_=>rfl
|[],_::_,h,_=>by cases h
|_::_,[],_,h=>by cases h
|x::xs,y::ys,h1,h2=>by
  unfold b8 at h1 h2;by_cases e:x=y
  .subst e;rw[if_pos rfl]at h1 h2;rw[xQ xs ys h1 h2]
  .rw[if_neg e]at h1;rw[if_neg (fun z=>e z.symm)]at h2;exact absurd (qe _ _ h1 h2) e
theorem yh:∀(a b c:List (List Int)),b8 b a=false->b8 c b=false->b8 c a=false
|[],b,[],_,_=>rfl
|[],[],_::_,_,h=>by cases h <;> rfl
|[],_::_,_::_,h,_=>rfl
|x::xs,[],_,h,_=>by cases h
|x::xs,y::ys,[],_,h=>by cases h
|x::xs,y::ys,z::zs,h1,h2=>by
  unfold b8 at h1 h2 ⊢;by_cases e1:y=x
  .subst e1;rw[if_pos rfl]at h1;by_cases e2:z=y
   .subst e2;rw[if_pos rfl]at h2 ⊢;exact yh xs ys zs h1 h2
   .rw[if_neg e2]at h2 ⊢;exact h2
  .rw[if_neg e1]at h1;by_cases e2:z=y
   .subst e2;rw[if_neg e1];exact h1
   .rw[if_neg e2]at h2;by_cases e3:z=x
    .subst e3;exact absurd (qe _ _ h1 h2) e1
    .rw[if_neg e3];exact yg _ _ _ h1 h2
end DL
end
namespace DL
open PySem PySem.Spec PyProof.Rows L2
def extD:D->List D->Option D
|.lst ds,[.lst es]=>if ds.length+es.length<=sizeLine then some (.lst (ds++es))else none
|_,_=>none
theorem Ag{K:W.Frag}:fN K (wW K) extD:=by
 intro G H a d vs ds d' Q gk ow rs e q;unfold extD at e;split at e
 .split at e
  .rename_i hl;cases e;cases ow.ob with
  |lst r s=>cases rs with
   |cons r1 t=>cases t;obtain⟨b,zs,rfl,s2,r2⟩:=r1.lst gk;have l1:=Paired.length s;have l2:=Paired.length r2;exact⟨a,b,_,_,rfl,rfl,r,s2,by omega,q _ (.lst bM (Paired.app s r2))⟩
  .cases e
 .cases e
section
variable{X:Cx}{pz:List (Addr×Obj)}{σ:L2.St}{H:Hp}{s:g_}
theorem D3(bs:List Bool):((r_ bs.length).all fun i=>bs.getD i true)=bs.all id:=by
 rw[HE,E_,E_];constructor
 .intro h b hb;obtain⟨i,hi,rfl⟩:=List.getElem_of_mem hb;have:=h i (D_.mpr hi);simpa[s_,hi]using this
 .intro h i hi;have hi:=D_.mp hi;have:=h bs[i] (JK _);simpa[s_,hi]using this
theorem FH(hc:X.calm=true)(I:Inv X pz σ H s){p:Addr}{bs:List Bool}(hq:aL X.K H p (bs.map V.bl)){A:HA}(hA:A.handled=none){E:a_->g_->Prop}{Q:a_->g_->Prop}(h:∀I fp wr n P St tr it s₂,it=Value.ref I->Walks X.prog X.w A I fp wr n P St->St 0 s₂.heap->TruthOf X.prog X.w A P tr->n=bs.length->(∀i,tr i=bs.getD i true) ->(∀(h':Heap)(tk:Nat),(∀(b:Addr)(o:Obj),¬b∈wr->s₂.heap.get? b=some o->h'.get? b=some o)->Inv X pz σ H { heap:=h',gens:=s₂.gens,drawn:=s₂.drawn,toks:=tk,os:=s₂.os })->Q it s₂):C_ (F_ X.prog X.w) A (MZ (.ref p)) Q E s:=by
 obtain⟨its,rv,pl,hz⟩:=I.list hq;have hl:=rv.length;rw[m_]at hl;refine PySem.Flt.iter_list_ pl.isList fun s₂ e2 hi hlt hne=>?_;refine h s.heap.objs.size [s.heap.objs.size,p] [s.heap.objs.size] its.toArray.size _ _ (fun i=>bs.getD i true) _ s₂ rfl (Oh hA _ p hne its.toArray) hi ?_ (by rw[n_,hl]) (fun i=>rfl) fun h' tk k=>?_
 .intro i v s' Q' E' hv hq';have hv':its[i]? = some v:=by simpa using hv
  have hi:i<its.length:=(i_.mp hv').1;have hki:i<(bs.map V.bl).length:=by rw[m_];omega
  obtain⟨u,h1,h3⟩:=rv.get (i:=i) (x:=(bs.map V.bl)[i]) (j_ hki);rw[hv']at h1;cases h1;rw[List.getElem_map]at h3;have h3':v=Value.bool bs[i]:=h3;subst h3';have e:bs.getD i true=bs[i]:=by
   have hb:i<bs.length:=by omega
   simp[s_,hb]
  have hq2:Q' (bs.getD i true) s':=hq';rw[e]at hq2;exact o_ hq2
 .subst e2;have ne:∀b o,s.heap.get? b=some o->¬ b∈[s.heap.objs.size]:=fun b o e z=>by have:=HB.mp z;subst this;exact absurd (p_ e) (Ii _)
  exact Inv.keptN I (fun b o _ e=>k b o (ne b o e) (h_ _ e)) (fun m ⟨o,es,ep,e,z⟩=>⟨o,es,ep,k _ _ (ne _ _ e) (h_ _ e),z⟩) tk
theorem Dl(hc:X.calm=true):dv X (.builtin "all") (fun xs H Q=>∃(p:Addr)(bs:List Bool),xs=[.ref p]/\aL X.K H p (bs.map V.bl)/\Q (.bl (bs.all id)) H):=by intro pz s σ H xs us Q I r h;obtain⟨p,bs,rfl,hq,q⟩:=h;obtain⟨u,rfl,rx⟩:=bA r;cases rx;refine call_all_walk (FH hc I hq (show X.A.in1.handled=none from I.ok.hd hc) fun J fp wr n P St tr it s₂ e1 e2 e3 e4 e5 e6 e7=>⟨J,fp,wr,n,P,St,tr,e1,e2,e3,e4,fun h' tk k=>?_⟩);have et:tr=fun i=>bs.getD i true:=funext e6;rw[e5,et,D3];exact⟨.bl (bs.all id),H,e7 h' tk k,rfl,q⟩
end
def gY:List D->Option (List Bool)
|[]=>some []
|.bl b::ds=>(gY ds).map (b::·)
|_=>none
theorem BV{K:W.Frag}{G:GH}{H:Hp}(gk:aC K G H){ds:List D}{xs:List V}{bs:List Bool}(h:aV K G xs ds)(e:gY ds=some bs):xs=bs.map V.bl:=by induction h generalizing bs with
|nil=>cases e;rfl
|@cons x d xs ds r t ih=>cases d with
 |bl b=>have e':(gY ds).map (b::·)=some bs:=e;cases e1:gY ds with
  |none=>rw[e1]at e';cases e'
  |some bs'=>rw[e1]at e';cases e';rw[ih e1,y_,(RG.rb (H:=H) r).bl gk]
 |_=>cases e
def allD:List D->Option D
|[.lst ds]=>(gY ds).map fun bs=>.bl (bs.all id)
|_=>none
theorem zZ{K:W.Frag}:mG K (fun xs H Q=>∃(p:Addr)(bs:List Bool),xs=[.ref p]/\aL K H p (bs.map V.bl)/\Q (.bl (bs.all id)) H) allD:=by
 intro G H vs ds d Q gk rs e q;unfold allD at e;split at e
 .rename_i zs;cases ek:gY zs with
 |none=>rw[ek]at e;cases e
 |some bs=>rw[ek]at e;cases e;cases rs with
  |cons r1 t=>cases t;obtain⟨b,xs,rfl,s,r⟩:=r1.lst gk;have ex:=BV gk r ek;subst ex;exact⟨b,bs,rfl,s,q _ G H (Grow.refl gk) (.scl (.bl _))⟩
 .cases e
section
variable{X:Cx}{g:GE}{m:List Md}{e:Expr}{es:List Expr}{fl:ag->Res (List D)}{pos p:Pos}
theorem Ao(hc:X.calm=true)(hg:Gl X "all")(hm:X.mg "all" = none)(ha:fY X g m (e::es) fl)(he:l_ (e::es) X.env=(false,eval e X.env)::l_ es X.env:=by rfl)(hpl:(backTo pos (l_ es X.env)).any (·.1)=false:=by rfl):SE X g m (.Call (.Name "all" p) (e::es) [] pos) (fC fl allD):=jo zZ (lc (Dl hc) hg hm PyProof.Rows.boot_all ha (by decide) (by decide) he hpl)
end
def iq(h0 H:Hp):Prop:=∀a o,h0 a=some o->H a=some o
structure YieldsB(K:W.Frag)(h0:Hp)(J:It)(ds:List D)(G0:GH):Prop where
 go:∀G H (i:Nat),aB G0 G->aC K G H->iq h0 H->i<ds.length->J.go i H
 yld:∀G H (i:Nat) x H' d,aB G0 G->aC K G H->iq h0 H->J.yld i H x H'->ds[i]? = some d->∃G',Grow K G H G' H'/\RG K G' x d
 stop:∀G H,aB G0 G->aC K G H->iq h0 H->J.stop ds.length H
theorem Yields.toH{K:W.Frag}{h0:Hp}{J:It}{ds:List D}{G0:GH}(y:Yields K J ds G0):YieldsB K h0 J ds G0:=⟨fun G H i w gk _ hi=>y.go G H i w gk hi,fun G H i x H' d w gk _ q e=>y.yld G H i x H' d w gk q e,fun G H w gk _=>y.stop G H w gk⟩
def GZ(X:Cx)(g:GE)(m:List Md)(f:FI):TI:=fun σ H R=>∃r G,SI X g m r G σ H/\fin (f r) (fun ds=>∀J G' H',Grow X.K G H G' H'->YieldsB X.K g.h0 J ds G'->R J H') (XW X σ G H)
def il(X:Cx)(g:GE)(m:List Md)(tg iter:Expr)(f:FI):Prop:=PI X tg iter (GZ X g m f)
def G9(X:Cx)(g:GE)(m:List Md)(f:FE):TE:=fun σ H Q=>∃r G,SI X g m r G σ H/\fin (f r) (fun d=>∀v G' H',Grow X.K G H G' H'->Bw X.K g.h0 G' H' v d->Q v H') (XW X σ G H)
def sH(X:Cx)(g:GE)(m:List Md)(e:Expr)(f:FE):Prop:=PE X e (G9 X g m f)
section
variable{X:Cx}{g:GE}{m m' mb:List Md}{tg e a iter:Expr}{f:FE}{pos p pos2:Pos}{ro:Bool}{sts:List Stmt}{s1:FS}{elts:List Expr}{kk:Nat}
theorem im.toH{fi:FI}(h:im X g m tg iter fi):il X g m tg iter fi:=PI.imp h fun σ H R ⟨r,G,si,q⟩=>⟨r,G,si,aT q fun ds k J G' H' w y=>k J G' H' w y.toH⟩
theorem jm(i:Nat){x:Str}(hm:m[i]? = some .bw:=by rfl)(hN:X.N[i]? = some x:=by rfl)(hv:dG X.env.scope x:=by first|exact Or.inl rfl|exact Or.inr (Or.inl rfl)|exact Or.inr (Or.inr rfl))(hd:(x==("__debug__" : Str))=false:=by decide)(hcd:(x==("__classdict__" : Str))=false:=by decide):sH X g m (.Name x pos) fun r=>dm r i:=by refine PE.imp (gO hN hv hd hcd) fun σ H Q ⟨r,G,si,q⟩=>?_;obtain⟨d,e,k⟩:=pQ q;obtain⟨v,e1,e2⟩:=si.bw i d e hm;exact⟨v,e1,k _ G H (Grow.refl si.gok) e2⟩
theorem wE{K:W.Frag}{h0:Hp}{G0 G:GH}{H0 H:Hp}{a:Addr}{ds:List D}(o:Own K G0 H0 a (.lst ds))(h:h0 a≠none)(o0:iq h0 H0)(le:aB G0 G)(o1:iq h0 H):∃xs,aL K H a xs/\aV K G xs ds:=by cases e:h0 a with
|none=>exact absurd e h
|some u=>have h1:=o0 a u e;have h2:=o1 a u e;cases o.ob with
 |lst r s=>rw[h1]at r;cases r;exact⟨_,aL.of h2,aV.mono s le⟩
theorem BO{K:W.Frag}{h0:Hp}{ds:List D}{G0:GH}{a:Addr}(h:∀G H,aB G0 G->aC K G H->iq h0 H->∃xs,aL K H a xs/\aV K G xs ds):YieldsB K h0 (mC K a) ds G0:=by
 refine⟨fun G H i w gk o hi=>?_,fun G H i x H' d w gk o y e=>?_,fun G H w gk o=>?_⟩
 .obtain⟨xs,s,r⟩:=h G H w gk o;have hl:=Paired.length r;exact⟨xs,xs[i],s,j_ (by omega)⟩
 .obtain⟨xs,s,r⟩:=h G H w gk o;obtain⟨rfl,y⟩:=y;obtain⟨v,e1,rv⟩:=Paired.get r e;have:=y xs s;rw[e1]at this;cases this;exact⟨G,Grow.refl gk,rv⟩
 .obtain⟨xs,s,r⟩:=h G H w gk o;exact⟨xs,s,JV (Paired.length r)⟩
theorem SI.oldIn{r:ag}{G:GH}{st:L2.St}{H:Hp}(s:SI X g m r G st H):iq g.h0 H:=s.old
theorem jV(h:sH X g m e f):il X g m tg e (aI bN f):=by
 refine PI.imp (pd h) fun σ H R ⟨r,G,si,q⟩=>⟨r,G,si,aT (a8 q) fun d q v G' H' w rv=>?_⟩
 obtain⟨ds,e,q⟩:=cB q;cases d with
|lst ds'=>
  cases e;rcases rv with rv|⟨a,rfl,o,ho⟩
  .obtain⟨a,xs,rfl,s,rs⟩:=rv.lst w.ok;exact .inl ⟨a,rfl,⟨xs,s⟩,q _ G' H' w (pw rv).toH⟩
  .cases o.ob with
  |lst r s=>exact .inl ⟨a,rfl,⟨_,aL.of r⟩,q _ G' H' w (BO fun G2 H2 le _ o2=>wE o ho (si.grow w).oldIn le o2)⟩
|tup ds'=>
  cases e;rcases rv with rv|⟨a,rfl,o,ho⟩
  .obtain⟨a,xs,rfl,s,rs⟩:=rv.tup w.ok;exact .inr ⟨a,rfl,⟨xs,s⟩,q _ G' H' w (o8 rv).toH⟩
  .cases o.ob
|_=>cases e
theorem pv{K:W.Frag}{h0:Hp}{ds:List D}{G0:GH}{sq:Hp->List V->Prop}(h:∀G H,aB G0 G->aC K G H->iq h0 H->∃xs,sq H xs/\aV K G xs ds):YieldsB K h0 (jJ sq) (cH 0 ds) G0:=by
 refine⟨fun G H i w gk o hi=>?_,fun G H i x H' d w gk o y e=>?_,fun G H w gk o=>?_⟩
 .obtain⟨xs,s,r⟩:=h G H w gk o;rw[pO]at hi;have hl:=Paired.length r;exact⟨xs,xs[i],s,j_ (by omega)⟩
 .obtain⟨xs,s,r⟩:=h G H w gk o;obtain⟨p,v,hp,rfl,rfl,hv⟩:=y;rw[xk]at e;cases ed:ds[i]? with
 |none=>rw[ed]at e;cases e
 |some d0=>rw[ed]at e;simp only[Ij,Mb,Lu]at e;subst e;obtain⟨v',e1,rv⟩:=Paired.get r ed;have:=hv xs s;rw[e1]at this;cases this;exact⟨_,Grow.newF gk hp (.tup (.inl bM) (.cons (.scl (.int _)) (.cons rv .nil))),.ref dA⟩
 .obtain⟨xs,s,r⟩:=h G H w gk o;rw[pO];exact⟨xs,s,Paired.length r⟩
theorem Db(hg:Gl X "enumerate")(hm:X.mg "enumerate" = none)(he:sH X g m e f)(hs:l_ [e] X.env=(false,eval e X.env)::l_ [] X.env:=by rfl):il X g m (.Tuple elts kk pos2) (.Call (.Name "enumerate" p) [e] [] pos) (mo f):=by
 refine PI.imp (C2 hg hm he hs) fun σ H R ⟨r,G,si,q⟩=>⟨r,G,si,aT (a8 q) fun d q v G' H' w rv=>?_⟩
 obtain⟨ds,e,q⟩:=cB (a8 q);cases d with
|lst ds'=>
  cases e;rcases rv with rv|⟨a,rfl,o,ho⟩
  .obtain⟨a,xs,rfl,s,rs⟩:=rv.lst w.ok;refine .inl ⟨a,rfl,⟨xs,s⟩,q _ G' H' w (pv fun G H le gk _=>?_)⟩;obtain⟨b,ys,e,s',r'⟩:=(rv.mono le).lst gk;cases e;exact⟨ys,s',r'⟩
  .cases o.ob with
  |lst r s=>exact .inl ⟨a,rfl,⟨_,aL.of r⟩,q _ G' H' w (pv fun G2 H2 le _ o2=>wE o ho (si.grow w).oldIn le o2)⟩
|tup ds'=>
  cases e;rcases rv with rv|⟨a,rfl,o,ho⟩
  .obtain⟨a,xs,rfl,s,rs⟩:=rv.tup w.ok;refine .inr ⟨a,rfl,⟨xs,s⟩,q _ G' H' w (pv fun G H le gk _=>?_)⟩;obtain⟨b,ys,e,s',r'⟩:=(rv.mono le).tup gk;cases e;exact⟨ys,s',r'⟩
  .cases o.ob
|_=>cases e
theorem i7(hp:Ks (F_ X.prog X.w) X.A X.env X.xe)(hc:X.calm=true){ft:FT}{fi:FI}(hi:il X g m tg iter fi)(hg:SG X g m tg ft m)(hb:dU X g ro m m sts s1 m)(hs:∀x,Jd iter X.env x=pure x:=by intro _;rfl):SS X g ro mb m (.For tg iter sts [] pos) (cA m fi ft s1) m:=by
 refine⟨rfl,PS.imp (pf hp hc hi hg.2 hb.2 hs) fun D σ H ⟨r,G,si,q⟩=>⟨r,G,si,aT (e8 si rfl q) fun ds q J G0 H0 w0 Y=>?_⟩⟩;refine⟨fun i n σ H=>∃r G,SI X g m r G σ H/\aB G0 G/\i<=ds.length/\n=ds.length-i/\br X g ro m mb G D (aA ft s1 (ds.drop i) r),⟨ds.length,r,G0,si.grow w0,aB.refl G0,Hy _,rfl,br.gle q w0.ge⟩,?_⟩
 rintro i n σ1 H1 ⟨r1,G1,si1,le1,hi,rfl,q1⟩
 by_cases hlt:i<ds.length
 .have hd:ds.drop i=ds[i]::ds.drop (i+1):=I_ hlt;rw[hd]at q1;unfold aA at q1;refine .inr ⟨Y.go G1 H1 i le1 si1.gok si1.oldIn hlt,fun σ' H'=>∃r G,SI X g m r G σ' H'/\aB G0 G/\br X g ro m mb G D (aA ft s1 (ds.drop (i+1)) r),fun σ' H' ⟨r',G',si',le',q'⟩=>⟨ds.length-(i+1),by omega,r',G',si',le',hlt,rfl,q'⟩,fun x H' y=>?_⟩;obtain⟨G',w',rv⟩:=Y.yld G1 H1 i x H' ds[i] le1 si1.gok si1.oldIn y (j_ hlt);have le':aB G0 G':=le1.trans w'.ge;cases eft:ft ds[i] r1 with
 |none=>simp only[eft]at q1;exact q1.elim
 |some r2=>simp only[eft]at q1;refine⟨r1,G',ds[i],si1.grow w',rv,r2,eft,fun σ2 si2=>⟨r2,G',si2,?_⟩⟩;cases eb:s1 r2 with
  |nx r'=>simp only[eb]at q1;exact fun σ3 G3 H3 le3 si3=>⟨r',G3,si3,le'.trans le3,br.gle q1 (aB.trans w'.ge le3)⟩
  |ct r'=>simp only[eb]at q1;exact fun σ3 G3 H3 le3 si3=>⟨r',G3,si3,le'.trans le3,br.gle q1 (aB.trans w'.ge le3)⟩
  |bk r'=>simp only[eb]at q1;exact fun σ3 G3 H3 le3 si3=>q1 σ3 G3 H3 (aB.trans w'.ge le3) si3
  |rt d=>simp only[eb]at q1;exact q1
  |exc x r'=>simp only[eb]at q1;exact fun pz e s' σ3 G3 H3 le3=>q1 pz e s' σ3 G3 H3 (aB.trans w'.ge le3)
  |stuck=>simp only[eb]at q1;exact q1
 .have e:i=ds.length:=by omega
  subst e;rw[J9]at q1;exact .inl ⟨Y.stop G1 H1 le1 si1.gok si1.oldIn,q1 σ1 G1 H1 (aB.refl _) si1⟩
end
section
open HT (Hi)
end
def bx(g:GE)(H:Hp)(fp:List Addr)(i:Nat)(p:Addr):GE:=⟨g.gh,fun b=>if b∈fp then H b else g.h0 b,fun j=>if j=i then some (some (V.ref p),none)else g.hd j⟩
theorem nj{g:GE}{H H':Hp}{fp:List Addr}{i:Nat}{p:Addr}(h:∀b∈fp,H' b=H b):bx g H' fp i p=bx g H fp i p:=by
 unfold bx;congr 1;funext b;by_cases hb:b∈fp
 .rw[if_pos hb,if_pos hb,h b hb]
 .rw[if_neg hb,if_neg hb]
def fM(K:W.Frag)(G:GH)(H:Hp)(b:Addr)(ds:List D):Prop:=∃xs,H b=some (.lst xs)/\aV K G xs ds
structure LRw(K:W.Frag)(G:GH)(H:Hp)(p:Addr)(as:List Addr)(w:List (List D)):Prop where
 out:H p=some (.lst (as.map V.ref))
 nd:(p::as).Nodup
 un:∀b∈p::as,G b=none
 rw:Paired (fM K G H) as w
theorem fM.mono{K:W.Frag}{G G':GH}{H H':Hp}{b:Addr}{ds:List D}(h:fM K G H b ds)(ge:aB G G')(he:H' b=H b):fM K G' H' b ds:=by obtain⟨xs,h1,h2⟩:=h;exact⟨xs,by rw[he];exact h1,h2.mono ge⟩
theorem lb{α β:Type}{F F':α->β->Prop}{l:List α}{r:List β}(h:Paired F l r)(f:∀a∈l,∀b,F a b->F' a b):Paired F' l r:=by induction h with
|nil=>exact .nil
|cons h _ ih=>exact .cons (f _ c_ _ h) (ih fun a ha=>f a (f_ _ ha))
theorem LRw.isS{K:W.Frag}{G:GH}{H:Hp}{p:Addr}{as:List Addr}{w:List (List D)}(h:LRw K G H p as w){b:Addr}(hb:b∈p::as):H b≠none:=by
 rcases x_.mp hb with rfl|hb
 .rw[h.out];simp
 .have:∀{as:List Addr}{w:List (List D)},Paired (fM K G H) as w->b∈as->H b≠none:=fun{as w} q hb=>by induction q with
  |nil=>cases hb
  |cons r _ ih=>
    rcases x_.mp hb with rfl|hb
    .obtain⟨xs,e,_⟩:=r;rw[e];simp
    .exact ih hb
  exact this h.rw hb
theorem LRw.mono{K:W.Frag}{G G':GH}{H H':Hp}{p:Addr}{as:List Addr}{w:List (List D)}(h:LRw K G H p as w)(ge:aB G G')(he:∀b∈p::as,H' b=H b)(un:∀b∈p::as,G' b=none):LRw K G' H' p as w:=⟨by rw[he p c_];exact h.out,h.nd,un,lb h.rw fun b hb ds r=>r.mono ge (he b (f_ _ hb))⟩
def dH(X:Cx)(g:GE)(i:Nat)(m:List Md)(r:ag)(w:List (List D))(G:GH)(st:L2.St)(H:Hp):Prop:=∃p as,LRw X.K G H p as w/\(∀b∈p::as,g.h0 b=none)/\SI X (bx g H (p::as) i p) m r G st H/\m[i]? = some .bw
section
variable{X:Cx}{g:GE}{i:Nat}{m m' m1:List Md}{r r':ag}{w:List (List D)}{G G':GH}{σ σ':L2.St}{H H':Hp}
theorem qv{p:Addr}{as:List Addr}(R:LRw X.K G H p as w)(h0:∀b∈p::as,g.h0 b=none)(si:SI X (bx g H (p::as) i p) m r G σ H)(le:aB G G')(si':SI X (bx g H (p::as) i p) m' r' G' σ' H')(hm:m'[i]? = some .bw):dH X g i m' r' w G' σ' H':=by
 have he:∀b∈p::as,H' b=H b:=fun b hb=>by have hs:=R.isS hb;cases e:H b with
 |none=>exact absurd e hs
 |some o=>
   have:(bx g H (p::as) i p).h0 b=some o:=by show(if b∈p::as then H b else g.h0 b)=_;rw[if_pos hb];exact e
   rw[si'.old b o this]
 have un:∀b∈p::as,G' b=none:=fun b hb=>by
  have h:(bx g H (p::as) i p).h0 b≠none:=by show(if b∈p::as then H b else g.h0 b)≠_;rw[if_pos hb];exact R.isS hb
  have e1:=si'.gf b h;have e2:=si.gf b h;rw[e1,<-e2];exact R.un b hb
 exact⟨p,as,R.mono le he un,h0,by rw[nj he];exact si',hm⟩
abbrev cz:=ag->List (List D)->Option (ag×List (List D))
def zp(X:Cx)(g:GE)(i:Nat)(m m':List Md)(f:cz):TS:=fun D σ H=>∃r w G,dH X g i m r w G σ H/\∃r' w',f r w=some (r',w')/\∀σ' G' H',aB G G'->dH X g i m' r' w' G' σ' H'->D.nx σ' H'
def gW(X:Cx)(g:GE)(i:Nat)(m:List Md)(st:Stmt)(f:cz)(m':List Md):Prop:=PS X st (zp X g i m m' f)
def ik(X:Cx)(g:GE)(i:Nat)(m:List Md)(st:List Stmt)(f:cz)(m':List Md):Prop:=bb X st (zp X g i m m' f)
variable{st:Stmt}{sts:List Stmt}{ro:Bool}{mb:List Md}{s1:FS}{f1 f2:cz}{tg iter:Expr}{pos:Pos}
def ca(f:FS):cz:=fun r w=>match f r with
|.nx r'=>some (r',w)
|_=>none
theorem kG(h:∀g',SS X g' ro mb m st s1 m')(hm:m'[i]? = some .bw):gW X g i m st (ca s1) m':=by
 have hA:PS X st (fun D σ H=>∃g',tS X g' ro m m' mb s1 D σ H):=fun pz s σ H D I ⟨g',q⟩=>(h g').2 pz s σ H D I q;refine PS.imp hA fun D σ H ⟨r,w,G,⟨p,as,R,h0,si,_⟩,r',w',e,k⟩=>⟨_,r,G,si,?_⟩
 unfold ca at e;cases q:s1 r with
|nx r1=>rw[q]at e;cases e;exact fun σ' G' H' le si'=>k σ' G' H' le (qv R h0 si le si' hm)
|_=>rw[q]at e;cases e
def d4(f1 f2:cz):cz:=fun r w=>(f1 r w).bind fun p=>f2 p.1 p.2
theorem Cw:ik X g i m [] (fun r w=>some (r,w)) m:=bb.imp pG fun D σ H ⟨r,w,G,si,r',w',e,k⟩=>by cases e;exact k σ G H (aB.refl G) si
theorem j8(h1:gW X g i m st f1 m1)(h2:ik X g i m1 sts f2 m'):ik X g i m (st::sts) (d4 f1 f2) m':=by
 refine bb.imp (iM h1 h2) fun D σ H ⟨r,w,G,si,r',w',e,k⟩=>⟨r,w,G,si,?_⟩
 unfold d4 at e;cases q:f1 r w with
|none=>rw[q]at e;cases e
|some z=>rw[q]at e;exact⟨z.1,z.2,rfl,fun σ' G' H' le si'=>⟨z.1,z.2,G',si',r',w',e,fun σ2 G2 H2 le2 si2=>k σ2 G2 H2 (le.trans le2) si2⟩⟩
theorem pC{K:W.Frag}{H:Hp}:∀{as:List Addr}{w:List (List D)}{G:GH},aC K G H->Paired (fM K G H) as w->as.Nodup->(∀b∈as,G b=none)->∃G',aB G G'/\(∀b,b∉as->G' b=G b)/\aC K G' H/\Paired (fun b ds=>G' b=some (.lst ds)) as w:=by
 intro as
 induction as with
|nil=>intro w G gk h _ _;cases h;exact⟨G,aB.refl G,fun _ _=>rfl,gk,.nil⟩
|cons b as ih=>intro w G gk h nd un;cases h with
 |@cons _ ds _ w r t=>
   rw[Hu]at nd;have hb:=un b c_;obtain⟨xs,e,rs⟩:=r;have g1:aC K (gset G b (.lst ds)) H:=gk.gset hb (.lst (.inl e) rs);obtain⟨G',l,o,g,q⟩:=ih g1 (lb t fun c hc ds r=>r.mono (c7 hb) rfl) nd.2 fun c hc=>by rw[dC (by rintro rfl;exact nd.1 hc)];exact un c (f_ _ hc)
   refine⟨G',aB.trans (c7 hb) l,fun c hc=>?_,g,.cons (l _ _ dA) q⟩;rw[o c fun z=>hc (f_ _ z),dC (by rintro rfl;exact hc c_)]
theorem xW{G:GH}{as:List Addr}{w:List (List D)}{b:Addr}(hb:b∈as)(q:Paired (fun b ds=>G b=some (.lst ds)) as w):∃ds,G b=some (.lst ds):=by induction q with
|nil=>cases hb
|cons h _ ih=>
  rcases x_.mp hb with rfl|hb
  .exact⟨_,h⟩
  .exact ih hb
theorem pR{fp:List Addr}{p:Addr}{d0:D}(si:SI X (bx g H fp i p) m r G σ H)(hm:m[i]? = some .bw)(h0:∀b∈fp,g.h0 b=none)(hS:∀b∈fp,H b≠none)(hb:∀j,j≠i->m[j]?≠some .bw)(le:aB G G')(g2:aC X.K G' H)(out:∀b,b∉fp->G' b=G b)(hd:G' p=some d0):SI X g (m.set i .sh) (r.set i (some d0)) G' σ H:=by
 have hlt:i<m.length:=(i_.mp hm).1;have hst:σ[i]? = some (some (V.ref p)):=(si.lk i (some (V.ref p),none) (by show(if i=i then _ else _)=_;rw[if_pos rfl]) hm).1;have h0':∀b,b∉fp->(bx g H (fp) i p).h0 b=g.h0 b:=fun b hb=>by show(if b∈fp then H b else g.h0 b)=_;rw[if_neg hb]
 have h0i:∀b,b∈fp->(bx g H (fp) i p).h0 b≠none:=fun b hb=>by show(if b∈fp then H b else g.h0 b)≠_;rw[if_pos hb];exact hS b hb
 have nin:∀b,g.h0 b≠none->b∉fp:=fun b h z=>h (h0 b z);have mne:∀{j x},i≠j->(m.set i .sh)[j]? = some x->m[j]? = some x:=fun hij h=>by rw[b_ hij]at h;exact h
 refine⟨g2,fun a o e=>?_,fun a d e=>le a d (si.ge a d e),fun a h=>?_,by simpa using si.lm,by simpa using si.lr,fun j d h1 h2=>?_,fun j d h1 h2=>?_,fun j d h1 h2=>?_,fun j k a d e hjk h1 h2 m1 m2 z1 z2=>?_,fun j o hj hm'=>?_⟩
 .exact si.old a o (by rw[h0' a (nin a (by rw[e];simp))];exact e)
 .have hn:=nin a h;rw[out a hn];exact si.gf a (by rw[h0' a hn];exact h)
 .by_cases hij:i=j
  .subst hij;rw[k_ (by rw[si.lr,<-si.lm];exact hlt)]at h1;cases h1;exact⟨_,hst,.ref hd⟩
  .rw[b_ hij]at h1;obtain⟨v,y1,y2⟩:=si.sh j d h1 (mne hij h2);exact⟨v,y1,y2.mono le⟩
 .by_cases hij:i=j
  .subst hij;rw[k_ hlt]at h2;cases h2
  .rw[b_ hij]at h1;obtain⟨a,y1,y2,y3⟩:=si.ow j d h1 (mne hij h2);have hn:a∉fp:=fun z=>h0i a z y3;exact⟨a,y1,⟨by rw[out a hn];exact y2.un,y2.ob.mono le fun _ z=>z⟩,by rw[<-h0' a hn];exact y3⟩
 .by_cases hij:i=j
  .subst hij;rw[k_ hlt]at h2;cases h2
  .exact absurd (mne hij h2) (hb j (IG hij))
 .have hij:i≠j:=by rintro rfl;rw[k_ hlt]at m1;cases m1
  have hik:i≠k:=by rintro rfl;rw[k_ hlt]at m2;cases m2
  rw[b_ hij]at h1;rw[b_ hik]at h2;exact si.dis j k a d e hjk h1 h2 (mne hij m1) (mne hik m2) z1 z2
 .by_cases hij:i=j
  .subst hij;rw[k_ hlt]at hm';cases hm'
  .exact absurd (mne hij hm') (hb j (IG hij))
theorem dH.frz(s:dH X g i m r w G σ H)(hb:∀j,j≠i->m[j]?≠some .bw):∃G',aB G G'/\(∀b d,G b=none->G' b=some d->∃ds,d=.lst ds)/\SI X g (m.set i .sh) (r.set i (some (.lst (w.map D.lst)))) G' σ H:=by
 obtain⟨p,as,R,h0,si,hm⟩:=s;have nd:=Hu.mp R.nd;obtain⟨G1,l1,o1,g1,q1⟩:=pC si.gok R.rw nd.2 fun b hb=>R.un b (f_ _ hb);have hp1:G1 p=none:=by rw[o1 p nd.1];exact R.un p c_
 have rs:aV X.K G1 (as.map V.ref) (w.map D.lst):=by
  have:∀{as:List Addr}{w:List (List D)},Paired (fun b ds=>G1 b=some (.lst ds)) as w->aV X.K G1 (as.map V.ref) (w.map D.lst):=fun{as w} q=>by induction q with
  |nil=>exact .nil
  |cons h _ ih=>exact .cons (.ref h) ih
  exact this q1
 have g2:aC X.K (gset G1 p (.lst (w.map D.lst))) H:=g1.gset hp1 (.lst (.inl R.out) rs);have le:aB G (gset G1 p (.lst (w.map D.lst))):=aB.trans l1 (c7 hp1);have out:∀b,b∉p::as->gset G1 p (.lst (w.map D.lst)) b=G b:=fun b hb=>by rw[dC (by rintro rfl;exact hb c_),o1 b fun z=>hb (f_ _ z)]
 refine⟨_,le,fun b d hn e=>?_,pR si hm h0 (fun b hb=>R.isS hb) hb le g2 out dA⟩;by_cases hbp:b=p
 .subst hbp;rw[dA]at e;cases e;exact⟨_,rfl⟩
 .rw[dC hbp]at e;by_cases hba:b∈as
  .obtain⟨ds,e1⟩:=xW hba q1;rw[e1]at e;cases e;exact⟨_,rfl⟩
  .rw[o1 b hba,hn]at e;cases e
theorem SI.hold(s:SI X g m r G σ H)(wg:Grow X.K G H G' H')(hlt:i<m.length){p:Addr}{fp:List Addr}(un:∀b∈fp,G' b=none)(hS:∀b∈fp,H' b≠none)(hn:∀b∈fp,H b=none):SI X (bx g H' fp i p) (m.set i .bw) (r.set i none) G' (σ.set i (some (V.ref p))) H':=by
 have s':=s.grow wg;have h0':∀b,b∉fp->(bx g H' (fp) i p).h0 b=g.h0 b:=fun b hb=>by show(if b∈fp then H' b else g.h0 b)=_;rw[if_neg hb]
 have h0i:∀b,b∈fp->(bx g H' (fp) i p).h0 b=H' b:=fun b hb=>by show(if b∈fp then H' b else g.h0 b)=_;rw[if_pos hb]
 have mne:∀{j x},i≠j->(m.set i .bw)[j]? = some x->m[j]? = some x:=fun hij h=>by rw[b_ hij]at h;exact h
 have rne:∀{j d},(r.set i none)[j]? = some (some d)->i≠j/\r[j]? = some (some d):=fun{j d} h=>by
  by_cases hij:i=j
  .subst hij;rw[k_ (by rw[s.lr,<-s.lm];exact hlt)]at h;cases h
  .rw[b_ hij]at h;exact⟨hij,h⟩
 refine⟨wg.ok,fun a o e=>?_,s'.ge,fun a h=>?_,by simpa using s.lm,by simpa using s.lr,fun j d h1 h2=>?_,fun j d h1 h2=>?_,fun j d h1 h2=>?_,fun j k a d e hjk h1 h2 m1 m2 z1 z2=>?_,fun j o hj hm'=>?_⟩
 .by_cases ha:a∈fp
  .rw[h0i a ha]at e;exact e
  .rw[h0' a ha]at e;exact s'.old a o e
 .by_cases ha:a∈fp
  .rw[un a ha];show none=g.gh a;cases e:g.gh a with
  |none=>rfl
  |some d=>exact absurd (hn a ha) (s.gok a d (s.ge a d e)).isS
  .rw[h0' a ha]at h;exact s'.gf a h
 .obtain⟨hij,h1⟩:=rne h1;rw[b_ hij];exact s'.sh j d h1 (mne hij h2)
 .obtain⟨hij,h1⟩:=rne h1;rw[b_ hij];obtain⟨a,y1,y2,y3⟩:=s.ow j d h1 (mne hij h2);have ha:a∉fp:=fun z=>y2.ob.isS (hn a z);exact⟨a,y1,y2.mono wg,by rw[h0' a ha];exact y3⟩
 .obtain⟨hij,h1⟩:=rne h1;rw[b_ hij];obtain⟨v,y1,y2⟩:=s'.bw j d h1 (mne hij h2);refine⟨v,y1,?_⟩;rcases y2 with y2|⟨a,ea,y2,y3⟩
  .exact .inl y2
  .refine .inr ⟨a,ea,y2,?_⟩;by_cases ha:a∈fp
   .rw[h0i a ha];exact hS a ha
   .rw[h0' a ha];exact y3
 .obtain⟨hij,h1⟩:=rne h1;obtain⟨hik,h2⟩:=rne h2;rw[b_ hij]at z1;rw[b_ hik]at z2;exact s.dis j k a d e hjk h1 h2 (mne hij m1) (mne hik m2) z1 z2
 .by_cases hij:i=j
  .subst hij;have hj':(if i=i then some (some (V.ref p),none)else g.hd i)=some o:=hj;rw[if_pos rfl]at hj';cases hj';exact⟨by rw[k_ (by rw[<-s.lm];exact hlt)],fun d h=>absurd rfl (rne h).1⟩
  .have hj':(if j=i then some (some (V.ref p),none)else g.hd j)=some o:=hj;rw[if_neg (IG hij)]at hj';have:=s.lk j o hj' (mne hij hm');exact⟨by rw[b_ hij];exact this.1,fun d h=>this.2 d (by rw[b_ hij]at h;exact h)⟩
theorem SI.new2(s:SI X g m r G σ H)(wg:Grow X.K G H G' H')(hlt:i<m.length){p:Addr}{as:List Addr}(R:LRw X.K G' H' p as w)(hn:∀b∈p::as,H b=none):dH X g i (m.set i .bw) (r.set i none) w G' (σ.set i (some (V.ref p))) H':=⟨p,as,R,fun b hb=>s.new (hn b hb),s.hold wg hlt R.un (fun b hb=>R.isS hb) hn,by rw[k_ hlt]⟩
def kn(X:Cx)(g:GE)(ro:Bool)(mb:List Md)(i:Nat)(m:List Md)(sts:List Stmt)(F:ag->List (List D)->Out)(m':List Md):Prop:=m'.length=m.length/\bb X sts (fun D σ H=>∃r w G,dH X g i m r w G σ H/\br X g ro m' mb G D (F r w))
def sS(i:Nat)(s:FS):ag->List (List D)->Out:=fun r w=>s (r.set i (some (.lst (w.map D.lst))))
def jL(f1:cz)(F:ag->List (List D)->Out):ag->List (List D)->Out:=fun r w=>match f1 r w with
|some p=>F p.1 p.2
|none=>.stuck
theorem xw{F:ag->List (List D)->Out}(hl:m1.length=m.length)(h1:gW X g i m st f1 m1)(h2:kn X g ro mb i m1 sts F m'):kn X g ro mb i m (st::sts) (jL f1 F) m':=by refine⟨h2.1.trans hl,bb.imp (iM h1 h2.2) fun D σ H ⟨r,w,G,si,q⟩=>⟨r,w,G,si,?_⟩⟩;unfold jL at q;cases e:f1 r w with
|none=>rw[e]at q;exact q.elim
|some z=>rw[e]at q;exact⟨z.1,z.2,rfl,fun σ' G' H' le si'=>⟨z.1,z.2,G',si',br.gle q le⟩⟩
def gr(X:Cx)(g:GE)(i:Nat)(m m1:List Md)(f:ag->Option (ag×List (List D))):TS:=fun D σ H=>∃r G,SI X g m r G σ H/\∃r' w',f r=some (r',w')/\∀σ' G' H',aB G G'->dH X g i m1 r' w' G' σ' H'->D.nx σ' H'
def ko(f:ag->Option (ag×List (List D)))(F:ag->List (List D)->Out):FS:=fun r=>match f r with
|some p=>F p.1 p.2
|none=>.stuck
theorem Ca{F:ag->List (List D)->Out}{f:ag->Option (ag×List (List D))}(hl:m1.length=m.length)(h1:PS X st (gr X g i m m1 f))(h2:kn X g ro mb i m1 sts F m'):dU X g ro mb m (st::sts) (ko f F) m':=by refine⟨h2.1.trans hl,bb.imp (iM h1 h2.2) fun D σ H ⟨r,G,si,q⟩=>⟨r,G,si,?_⟩⟩;unfold ko at q;cases e:f r with
|none=>rw[e]at q;exact q.elim
|some z=>rw[e]at q;exact⟨z.1,z.2,rfl,fun σ' G' H' le si'=>⟨z.1,z.2,G',si',br.gle q le⟩⟩
end
def RO(K:W.Frag)(H2:Hp)(p:Addr)(G:GH)(H:Hp)(ws:List V)(ds:List D):Prop:=Paired (fun v d=>∃b,v=V.ref b/\H2 b=none/\b≠p/\Own K G H b d) ws ds/\ws.Nodup
section
variable{K:W.Frag}{H2:Hp}{p:Addr}{G G':GH}{H H':Hp}{ws:List V}{ds:List D}
theorem RO.grow(h:RO K H2 p G H ws ds)(w:Grow K G H G' H'):RO K H2 p G' H' ws ds:=⟨Paired.mono (fun v d ⟨b,e,h1,h2,h3⟩=>⟨b,e,h1,h2,h3.mono w⟩) h.1,h.2⟩
theorem RO.upd{o:HO}(h:RO K H2 p G H ws ds):RO K H2 p G (L2.upd H p o) ws ds:=⟨Paired.mono (fun v d ⟨b,e,h1,h2,h3⟩=>⟨b,e,h1,h2,h3.un,h3.ob.mono (fun _ _ z=>z) fun _ z=>by rw[aW h2];exact z⟩) h.1,h.2⟩
end
theorem Eb{α β:Type}{F F':α->β->Prop}{l:List α}{w:List β}(h:Paired F l w){j:Nat}{a:α}{y:β}(nd:l.Nodup)(ha:l[j]? = some a)(hy:F' a y)(ho:∀b x,b≠a->F b x->F' b x):Paired F' l (w.set j y):=by induction h generalizing j with
|nil=>cases ha
|@cons b x l w r t ih=>rw[Hu]at nd;cases j with
 |zero=>cases ha;exact .cons hy (lb t fun c hc x q=>ho c x (by rintro rfl;exact nd.1 hc) q)
 |succ j=>
   have ha':l[j]? = some a:=by simpa using ha
   refine .cons (ho b x ?_ r) (ih nd.2 ha')
   rintro rfl
   exact nd.1 (IF ha')
theorem kr{m:List Md}{i:Nat}(h:((r_ m.length).all fun j=>j==i || decide (m[j]?≠some Md.bw))=true):∀j,j≠i->m[j]?≠some .bw:=fun j hj e=>by have hlt:j<m.length:=(i_.mp e).1;have:=E_.mp h j (D_.mpr hlt);rw[ML,beq_iff_eq,decide_eq_true_iff]at this;exact this.elim hj fun z=>z e
section
variable{X:Cx}{g:GE}{i:Nat}{m m' m1:List Md}{r r':ag}{w:List (List D)}{G G':GH}{σ σ':L2.St}{H H':Hp}
theorem SI.row{p:Addr}{as:List Addr}(R:LRw X.K G H p as w)(si:SI X (bx g H (p::as) i p) m r G σ H)(hm:m[i]? = some .bw)(hb:∀j,j≠i->m[j]?≠some .bw){b:Addr}(hbm:b∈p::as)(o:HO):SI X (bx g (upd H b o) (p::as) i p) m r G σ (upd H b o):=by
 have un:=R.un b hbm;have h0':∀c,c∉p::as->(bx g H (p::as) i p).h0 c=g.h0 c:=fun c hc=>by show(if c∈p::as then H c else g.h0 c)=_;rw[if_neg hc]
 have h0i:∀c,c∈p::as->(bx g H (p::as) i p).h0 c=H c:=fun c hc=>by show(if c∈p::as then H c else g.h0 c)=_;rw[if_pos hc]
 have k0':∀c,c∉p::as->(bx g (upd H b o) (p::as) i p).h0 c=g.h0 c:=fun c hc=>by show(if c∈p::as then _ else g.h0 c)=_;rw[if_neg hc]
 have k0i:∀c,c∈p::as->(bx g (upd H b o) (p::as) i p).h0 c=upd H b o c:=fun c hc=>by show(if c∈p::as then upd H b o c else g.h0 c)=_;rw[if_pos hc]
 refine⟨fun c d e=>?_,fun c u e=>?_,si.ge,fun c h=>?_,si.lm,si.lr,si.sh,fun j d h1 h2=>?_,fun j d h1 h2=>?_,si.dis,si.lk⟩
 .have hc:c≠b:=by rintro rfl;rw[un]at e;cases e
  exact(si.gok c d e).mono (fun _ _ z=>z) fun u z=>by rw[aW hc];exact z
 .by_cases hc:c∈p::as
  .rw[k0i c hc]at e;exact e
  .rw[k0' c hc]at e;have hcb:c≠b:=by rintro rfl;exact hc hbm
   rw[aW hcb];exact si.old c u (by rw[h0' c hc];exact e)
 .by_cases hc:c∈p::as
  .exact si.gf c (by rw[h0i c hc];exact R.isS hc)
  .rw[k0' c hc]at h;exact si.gf c (by rw[h0' c hc];exact h)
 .obtain⟨a,q1,q2,q3⟩:=si.ow j d h1 h2;have ha:a∉p::as:=fun z=>by rw[h0i a z]at q3;exact R.isS z q3
  have hab:a≠b:=by rintro rfl;exact ha hbm
  rw[h0' a ha]at q3;exact⟨a,q1,⟨q2.un,q2.ob.mono (fun _ _ z=>z) fun u z=>by rw[aW hab];exact z⟩,by rw[k0' a ha];exact q3⟩
 .by_cases hj:j=i
  .subst hj;have:=(si.lk j (some (V.ref p),none) (by show(if j=j then _ else _)=_;rw[if_pos rfl]) hm).2 d h1;cases this
  .exact absurd h2 (hb j hj)
variable{ro:Bool}{mb:List Md}{pos p1 p2 p3 p4 p5 p6 p7 p8 p9 p10 p11:Pos}{x xa xb:Str}{jc:Nat}
end
def lessA(H:Hp)(a:Addr):Hp:=fun b=>if b=a then none else H b
theorem Ew{H:Hp}{a b:Addr}(h:b≠a):lessA H a b=H b:=if_neg h
theorem Grow.lessA{K:W.Frag}{G G' G2:GH}{H H' H2:Hp}{a:Addr}(w:Grow K G H G' H')(ha:H a=none)(w2:Grow K G' (lessA H' a) G2 H2):Grow K G H G2 H2:=by
 have ne:∀b,H b≠none->b≠a:=fun b h=>by rintro rfl;exact h ha
 have he:∀b o,H b=some o->DL.lessA H' a b=some o:=fun b o e=>by rw[Ew (ne b (by rw[e];simp))];exact w.he b o e
 refine⟨w2.ok,fun b o e=>w2.he b o (he b o e),fun b d e=>w2.ge b d (w.ge b d e),fun b h=>?_⟩;rw[w2.gf b ?_,w.gf b h];cases e:H b with
|none=>exact absurd e h
|some o=>rw[he b o e];simp
def Hd(K:W.Frag)(ro:Bool)(ms:List Md)(F:List D->Res D):Sp:=fun vs H Q _=>∃G us a ds d,aC K G H/\vs=us++[V.ref a]/\ArgsOk K G H ms us ds/\Own K G H a d /\fin (F (ds++[d])) (fun d'=>∀v G' H',Grow K G (lessA H a) G' H'->RV ro K (lessA H a) G' H' v d'->Q v H') fun _=>False
section
variable{K:W.Frag}{G:GH}{H:Hp}
theorem ArgsOk.snoc{ms:List Md}{us:List V}{ds:List D}{v:V}{d:D}(h:ArgsOk K G H ms us ds)(r:RB K G H v d):ArgsOk K G H (ms++[.bw]) (us++[v]) (ds++[d]):=by induction h with
|nil=>exact .bw r .nil
|sh h _ ih=>exact .sh h ih
|bw h _ ih=>exact .bw h ih
end
section
variable{P:z_}{w:Ht}{K:W.Frag}{mg:Str->Option a_}{base:Heap}
structure CalleeV(P:z_)(w:Ht)(K:W.Frag)(mg:Str->Option a_)(base:Heap)(x:Str)(ps:List Str)(k:Nat)(ro:Bool)(ms:List Md)(F:List D->Res D):Prop where
 ex:∃f fd,mg x=some (.ref f)/\W.keepIn K (.ref f)=true/\dY K fd ps []/\FnOk P w K mg base bB k f fd ps (Hd K ro ms F)
end
theorem LRw.grow{K:W.Frag}{G G':GH}{H H':Hp}{p:Addr}{as:List Addr}{w:List (List D)}(R:LRw K G H p as w)(wg:Grow K G H G' H'):LRw K G' H' p as w:=by
 refine R.mono wg.ge (fun b hb=>?_) fun b hb=>by rw[wg.gf b (R.isS hb)];exact R.un b hb
 cases e:H b with
|none=>exact absurd e (R.isS hb)
|some o=>rw[wg.he b o e]
section
variable{X:Cx}{g:GE}{i:Nat}{m m' m1:List Md}{r r':ag}{w:List (List D)}{G G':GH}{σ σ':L2.St}{H H':Hp}{st:Stmt}{sts sts':List Stmt}{f1 f2:cz}{c e ie:Expr}{es:List Expr}{q:FQ}{f fi:FE}{fl:ag->Res (List D)}{pos p1 p2 p3 apos cpos spos:Pos}{x y:Str}
theorem SI.addRow{p a:Addr}{as:List Addr}{ds:List D}(si:SI X (bx g H (p::as) i p) m r G σ H)(R:LRw X.K G H p as w)(h0:∀b∈p::as,g.h0 b=none)(hm:m[i]? = some .bw)(hb:∀j,j≠i->m[j]?≠some .bw)(wg:Grow X.K G H G' H')(hn:H a=none)(ho:Own X.K G' H' a (.lst ds)):dH X g i m r (w++[ds]) G' σ (upd H' p (.lst (as.map V.ref++[V.ref a]))):=by
 have R1:=R.grow wg;have hap:a∉p::as:=fun z=>R.isS z hn;have hap':a≠p:=fun z=>hap (by rw[z];exact c_);have nd:=Hu.mp R.nd;have hga:g.h0 a=none:=by have:=si.new hn;have e:(if a∈p::as then H a else g.h0 a)=none:=this;rw[if_neg hap]at e;exact e
 have sub:∀b,b∈p::(as++[a])↔b∈p::as\/b=a:=fun b=>by simp[or_assoc]
 have h0':∀c,c∉p::as->(bx g H (p::as) i p).h0 c=g.h0 c:=fun c hc=>by show(if c∈p::as then H c else g.h0 c)=_;rw[if_neg hc]
 have h0i:∀c,c∈p::as->(bx g H (p::as) i p).h0 c=H c:=fun c hc=>by show(if c∈p::as then H c else g.h0 c)=_;rw[if_pos hc]
 generalize hH:upd H' p (.lst (as.map V.ref++[V.ref a]))=H2;have e2:∀b,b≠p->H2 b=H' b:=fun b hb=>by rw[<-hH,aW hb]
 have e2p:H2 p=some (.lst ((as++[a]).map V.ref)):=by rw[<-hH,bM];simp
 have k0':∀c,c∉p::(as++[a])->(bx g H2 (p::(as++[a])) i p).h0 c=g.h0 c:=fun c hc=>by show(if c∈p::(as++[a])then _ else g.h0 c)=_;rw[if_neg hc]
 have k0i:∀c,c∈p::(as++[a])->(bx g H2 (p::(as++[a])) i p).h0 c=H2 c:=fun c hc=>by show(if c∈p::(as++[a])then H2 c else g.h0 c)=_;rw[if_pos hc]
 have unp:G' p=none:=R1.un p c_;have s1:=si.grow wg;refine⟨p,as++[a],⟨e2p,?_,fun b hb'=>?_,?_⟩,fun b hb'=>?_,⟨fun c d e=>?_,fun c u e=>?_,s1.ge,fun c h=>?_,s1.lm,s1.lr,s1.sh,fun j d h1 h2=>?_,fun j d h1 h2=>?_,s1.dis,s1.lk⟩,hm⟩
 .rw[Hu,Ig];refine⟨fun z=>(IJ.mp z).elim nd.1 fun z=>hap' (HB.mp z).symm,nd.2,by simp,?_⟩;intro x hx y hy e;rw[HB.mp hy]at e;subst e;exact hap (f_ _ hx)
 .rcases(sub b).mp hb' with z|rfl
  .exact R1.un b z
  .exact ho.un
 .refine Paired.snoc (lb R1.rw fun b hb' ds' q=>q.mono (aB.refl _) (e2 b (by rintro rfl;exact nd.1 hb'))) ?_;cases ho.ob with
 |lst e1 rs=>exact⟨_,by rw[e2 a hap'];exact e1,rs⟩
 .rcases(sub b).mp hb' with z|rfl
  .exact h0 b z
  .exact hga
 .have hc:c≠p:=by rintro rfl;rw[unp]at e;cases e
  exact(s1.gok c d e).mono (fun _ _ z=>z) fun u z=>by rw[e2 c hc];exact z
 .by_cases hc:c∈p::(as++[a])
  .rw[k0i c hc]at e;exact e
  .rw[k0' c hc]at e;have hc1:c∉p::as:=fun z=>hc ((sub c).mpr (.inl z));have hcp:c≠p:=by rintro rfl;exact hc1 c_
   rw[e2 c hcp];exact s1.old c u (by rw[h0' c hc1];exact e)
 .by_cases hc:c∈p::as
  .exact s1.gf c (by rw[h0i c hc];exact R.isS hc)
  .by_cases hca:c=a
   .subst hca;rw[ho.un];show none=g.gh c;cases z:g.gh c with
   |none=>rfl
   |some d=>exact absurd hn (si.gok c d (si.ge c d z)).isS
   .rw[k0' c fun z=>((sub c).mp z).elim hc hca]at h;exact s1.gf c (by rw[h0' c hc];exact h)
 .obtain⟨b,q1,q2,q3⟩:=si.ow j d h1 h2;have hbf:b∉p::as:=fun z=>by rw[h0i b z]at q3;exact R.isS z q3
  have hba:b≠a:=by rintro rfl;exact q2.ob.isS hn
  have hbp:b≠p:=by rintro rfl;exact hbf c_
  rw[h0' b hbf]at q3;have q2':=q2.mono wg;exact⟨b,q1,⟨q2'.un,q2'.ob.mono (fun _ _ z=>z) fun u z=>by rw[e2 b hbp];exact z⟩,by rw[k0' b fun z=>((sub b).mp z).elim hbf hba];exact q3⟩
 .by_cases hj:j=i
  .subst hj;have:=(si.lk j (some (V.ref p),none) (by show(if j=j then _ else _)=_;rw[if_pos rfl]) hm).2 d h1;cases this
  .exact absurd h2 (hb j hj)
def gD(f:FE):cz:=fun r w=>match f r with
|.ok (.lst ds)=>if w.length<sizeLine then some (r,w++[ds])else none
|_=>none
theorem Co(hm:m[i]? = some .bw)(hb:∀j,j≠i->m[j]?≠some .bw)(hN:X.N[i]? = some x)(hv:dG X.env.scope x)(he:∀g',SO X g' m (.List es p1) f)(hd:(x==("__debug__" : Str))=false:=by decide)(hcd:(x==("__classdict__" : Str))=false:=by decide)(hbase:ID (.Name x p2) "append" X.env (eval (.Name x p2) X.env)=eval (.Name x p2) X.env:=by rfl)(hfew:((backTo cpos (l_ [.List es p1] X.env)).all (fun x=>! x.1)&&(La cpos (JT [] X.env)).all (fun x=>x.1.isSome)&&decide (([.List es p1]:List Expr).length+([]:List Jz).length+(if ([]:List Jz).isEmpty then 0 else 1)<30))=true:=by rfl)(hline:(apos.endLine==cpos.line)=true:=by rfl)(hst:l_ [.List es p1] X.env=(false,eval (.List es p1) X.env)::l_ [] X.env:=by rfl)(hplain:(backTo cpos (l_ [] X.env)).any (·.1)=false:=by rfl):gW X g i m (.Expr (.Call (.Attribute (.Name x p2) "append" apos) [.List es p1] [] cpos) pos) (gD f) m:=by have heA:PE X (.List es p1) (fun σ H Q=>∃g',tO X g' m f σ H Q):=fun pz s σ H Q I ⟨g',k⟩=>he g' pz s σ H Q I k;refine PS.imp (m7 (oO Hw HX HY iO (gO hN hv hd hcd) (gp heA gN hst) hbase hfew hline hst hplain)) fun D0 σ H ⟨r,w,G,⟨p,as,R,h0,si,_⟩,r',w',e,k⟩=>?_;have hst:σ[i]? = some (some (V.ref p)):=(si.lk i (some (V.ref p),none) (by show(if i=i then _ else _)=_;rw[if_pos rfl]) hm).1;refine⟨_,hst,.inl ⟨rfl,_,aL.of R.out⟩,_,r,G,si,?_⟩;unfold gD at e;cases z:f r with
|exc x=>rw[z]at e;cases e
|stuck=>rw[z]at e;cases e
|ok d=>rw[z]at e;cases d with
 |lst ds=>
   by_cases hl:w.length<sizeLine
   .simp only[if_pos hl]at e;cases e;intro a G1 H1 w1 hn ho;have hlen:=Paired.length R.rw;exact⟨p,as.map V.ref,V.ref a,rfl,rfl,(R.grow w1).out,by rw[m_];omega,k σ G1 _ w1.ge (SI.addRow si R h0 hm hb w1 hn ho)⟩
   .simp only[if_neg hl]at e;cases e
 |_=>cases e
end
def eO(x:Int):List Int->List Int
|[]=>[x]
|y::l=>if x<=y then x::y::l else y::eO x l
def cP:List Int->List Int
|[]=>[]
|x::l=>eO x (cP l)
theorem qc(x:Int):∀l:List Int,(eO x l).Perm (x::l)
|[]=>.refl _
|y::l=>by
  unfold eO;by_cases h:x<=y
  .rw[if_pos h]
  .rw[if_neg h];exact((qc x l).cons y).trans (.swap x y l)
theorem pT:∀l:List Int,(cP l).Perm l
|[]=>.refl _
|x::l=>(qc x (cP l)).trans ((pT l).cons x)
theorem wc(x:Int):∀l:List Int,l.Pairwise (·<=·)->(eO x l).Pairwise (·<=·)
|[],_=>by unfold eO;simp
|y::l,h=>by
  rw[HV]at h;unfold eO;by_cases hx:x<=y
  .rw[if_pos hx,HV,HV];refine⟨fun z hz=>?_,h⟩;rcases x_.mp hz with rfl|hz
   .exact hx
   .exact Int.le_trans hx (h.1 z hz)
  .rw[if_neg hx,HV];refine⟨fun z hz=>?_,wc x l h.2⟩;rcases x_.mp ((qc x l).mem_iff.mp hz)with rfl|hz
   .omega
   .exact h.1 z hz
theorem pr:∀l:List Int,(cP l).Pairwise (·<=·)
|[]=>.nil
|x::l=>wc x _ (pr l)
theorem mN:∀{a b:List Int},a.Perm b->a.Pairwise (·<=·)->b.Pairwise (·<=·)->a=b
|[],b,p,_,_=>(NJ.mp p).symm
|x::a,[],p,_,_=>absurd (List.perm_nil.mp p) (by simp)
|x::a,y::b,p,ha,hb=>by
  rw[HV]at ha hb;have h1:y<=x:=by
   rcases x_.mp (p.mem_iff.mp c_)with e|e
   .omega
   .exact hb.1 x e
  have h2:x<=y:=by
   rcases x_.mp (p.mem_iff.mpr c_)with e|e
   .omega
   .exact ha.1 y e
  have e:x=y:=by omega
  subst e;rw[mN (L8 p) ha.2 hb.2]
section
variable{X:Cx}{pz:List (Addr×Obj)}{σ:L2.St}{H:Hp}{s:g_}
theorem Gv:dv X (.builtin "sorted") (fun xs H Q=>∃p ks,xs=[.ref p]/\aL X.K H p (ks.map V.int)/\ks.length<64/\∀l,H l=none->Q (.ref l) (upd H l (.lst ((cP ks).map V.int)))):=by
 intro pz s σ H xs us Q I r h;obtain⟨p,ks,rfl,hq,h64,q⟩:=h;obtain⟨u,rfl,rx⟩:=bA r;cases rx;obtain⟨its,rv,pl,hz⟩:=I.list hq;have ia:IV its ks:=by simpa using yd rv
 obtain⟨mF,F⟩:=I.fr;refine W.kso_sorted F (wQ (g:=X.base) (h:=s.heap) (L:=X.env.locals)) pl.isList ia h64 fun D vs' ns' c h' F' N' hlt iv hln hpm hup _=>?_;have hDs:s.heap.get? D=none:=by cases z:s.heap.get? D with
 |none=>rfl
 |some o=>have zn:=(N' _ (c_)).2;exact absurd (hlt (D,o) (nW zn.1 zn.2 z)) (Ii _)
 have keepN:∀b o,b≠X.env.locals->s.heap.get? b=some o->h'.get? b=some o:=fun b o hb e=>by cases z:X.base.get? b with
 |some o'=>have:=I.bk b o' z;rw[e]at this;cases this;exact F'.keep b o z
 |none=>exact(N' (b,o) (f_ _ (nW hb z e))).1
 have oD:=(N' _ c_)
 have e:ns'=cP ks:=mN (hpm.trans (pT ks).symm) hup (pr ks);subst e;refine⟨.ref D,_,Inv.laidN (t':=_) (its:=vs') I hDs oD.2.1 keepN (fun m hm=>by rw[vS hm F.ns];exact F'.ns) oD.1 (pY iv) ?_,rfl,q D ?_⟩
 .rw[m_,hln,HF];omega
 .cases z:H D with
 |none=>rfl
 |some u=>exact absurd hDs (bq.isS (I.hok D u z))
end
def mZ:List D->Option D
|[.lst ds]=>(gM ds).bind fun ks=>if ks.length<64 then some (.lst ((cP ks).map .int))else none
|_=>none
section
variable{X:Cx}{g:GE}{m:List Md}{a b:Expr}{fl:ag->Res (List D)}{fa fb:FE}{pos p:Pos}
theorem EF{k:Nat}(hr:Room k X.A)(hg:Gl X "sorted")(hm:X.mg "sorted" = none)(ha:fY X g m [a] fl)(hs:l_ [a] X.env=(false,eval a X.env)::l_ [] X.env:=by rfl):SO X g m (.Call (.Name "sorted" p) [a] [] pos) (fC fl mZ):=by
 refine mK (R:=fun xs H Q=>∃p ks,xs=[.ref p]/\aL X.K H p (ks.map V.int)/\ks.length<64/\∀l,H l=none->Q (.ref l) (upd H l (.lst ((cP ks).map V.int)))) ?_ (lc Gv hg hm (by first|exact K1|rfl) ha (by decide) (by decide) hs rfl);intro G H vs ds d Q gk rs e q;unfold mZ at e;split at e
 .rename_i zs;cases ek:gM zs with
 |none=>rw[ek]at e;cases e
 |some ks=>
   rw[ek]at e;have e':(if ks.length<64 then some (D.lst ((cP ks).map .int))else none)=some d:=e;by_cases h64:ks.length<64
   .rw[if_pos h64]at e';cases e';cases rs with
   |cons r1 t=>
     cases t;obtain⟨b,xs,rfl,s,r⟩:=r1.lst gk;have ex:=xg gk r ek;subst ex;refine⟨b,ks,rfl,s,h64,fun l hl'=>q l G _ (Grow.new gk hl' _) hl' ⟨gk.isN hl',.lst bM ?_⟩⟩;have:∀l:List Int,aV X.K G (l.map V.int) (l.map D.int):=fun l=>by induction l with
     |nil=>exact .nil
     |cons x l ih=>exact .cons (.scl (.int x)) ih
     exact this _
   .rw[if_neg h64]at e';cases e'
 .cases e
end
inductive Cln:D->Prop where
 |non:Cln .non
 |bl (b:Bool):Cln (.bl b)
 |int (i:Int):Cln (.int i)
 |str (x:Str):Cln (.str x)
 |tup {ds:List D}:(∀d∈ds,Cln d)->Cln (.tup ds)
theorem Cln.lst{ds:List D}(h:Cln (.lst ds)):False:=nomatch h
theorem Cln.dic{ds:List (au×D)}(h:Cln (.dic ds)):False:=nomatch h
theorem Cln.get{ds:List D}(h:Cln (.tup ds)):∀d∈ds,Cln d:=by cases h with
|tup h=>exact h
open Classical in
theorem AE{K:W.Frag}{G G1 G':GH}{H H':Hp}(gk:aC K G H)(le:aB G G1)(hx:∀b d,G b=none->G1 b=some d->¬ Cln d)(w:Grow K G1 H G' H'):∃G2,Grow K G H G2 H'/\∀v d,Cln d->RG K G' v d->RG K G2 v d:=by
 have key:∀v d,Cln d->RG K G' v d->RG K (fun b=>if G b≠none then G b else if H b≠none then none else if ∃d,G' b=some d/\Cln d then G' b else none) v d:=fun v d hc h=>by cases h with
 |scl s=>exact .scl s
 |kc k=>exact .kc k
 |@ref a _ e=>
   refine .ref ?_;show(if G a≠none then G a else _)=some d;by_cases h1:G a=none
   .rw[if_neg (fun z=>z h1)];by_cases h2:H a=none
    .rw[if_neg (fun z=>z h2),if_pos ⟨d,e,hc⟩];exact e
    .rw[w.gf a h2]at e;exact absurd hc (hx a d h1 e)
   .rw[if_pos h1];cases q:G a with
   |none=>exact absurd q h1
   |some d'=>rw[w.ge a d' (le a d' q)]at e;exact e
 have keys:∀vs ds,(∀d∈ds,Cln d)->aV K G' vs ds->aV K (fun b=>if G b≠none then G b else if H b≠none then none else if ∃d,G' b=some d/\Cln d then G' b else none) vs ds:=fun vs ds hc h=>by induction h with
 |nil=>exact .nil
 |cons r _ ih=>exact .cons (key _ _ (hc _ c_) r) (ih fun d hd=>hc d (f_ _ hd))
 have ge:aB G fun b=>if G b≠none then G b else if H b≠none then none else if ∃d,G' b=some d/\Cln d then G' b else none:=fun a d e=>by show(if G a≠none then G a else _)=some d;rw[if_pos (by rw[e];simp)];exact e
 refine⟨_,⟨fun a d e=>?_,w.he,ge,fun a h=>?_⟩,key⟩
 .have e':(if G a≠none then G a else if H a≠none then none else if ∃d,G' a=some d/\Cln d then G' a else none)=some d:=e;by_cases h1:G a=none
  .rw[if_neg (fun z=>z h1)]at e';by_cases h2:H a=none
   .rw[if_neg (fun z=>z h2)]at e';by_cases h3:∃d,G' a=some d/\Cln d
    .rw[if_pos h3]at e';obtain⟨d',q1,q2⟩:=h3;rw[q1]at e';cases e';have ob:=w.ok a d q1;cases ob with
    |lst _ _=>exact q2.lst.elim
    |dic _ _=>exact q2.dic.elim
    |exc _ _ _=>exact absurd q2 (by intro z;cases z)
    |fld _ _=>exact absurd q2 (by intro z;cases z)
    |tup r s=>exact .tup r (keys _ _ q2.get s)
    .rw[if_neg h3]at e';cases e'
   .rw[if_pos h2]at e';cases e'
  .rw[if_pos h1]at e';exact(gk a d e').mono ge fun o z=>w.he a o z
 .show(if G a≠none then G a else _)=G a;by_cases h1:G a=none
  .rw[if_neg (fun z=>z h1),if_pos h,h1]
  .rw[if_pos h1]
section
variable{X:Cx}{g:GE}{i:Nat}{m m' m1:List Md}{r r':ag}{w:List (List D)}{G G':GH}{σ σ':L2.St}{H H':Hp}{e:Expr}{f:FE}{st:Stmt}{pos p1 p2 p3 p4 p5 p6 p7 p8 p9 p10:Pos}{x xa xb y:Str}
theorem dH.after(s:dH X g i m r w G σ H)(wg:Grow X.K G H G' H'):dH X g i m r w G' σ H':=by obtain⟨p,as,R,h0,si,hm⟩:=s;exact qv R h0 si wg.ge (si.grow wg) hm
abbrev ig(i:Nat)(r:ag)(w:List (List D)):ag:=r.set i (some (.lst (w.map D.lst)))
end
structure TL(K:W.Frag)(G:GH)(H:Hp)(p a:Addr)(d1:D)(ds:List D):Prop where
 tp:∃x xs,H p=some (.tup [x,.ref a])/\RG K G x d1/\H a=some (.lst xs)/\aV K G xs ds
 un:∀b∈[p,a],G b=none
 ne:p≠a
theorem TL.isS{K:W.Frag}{G:GH}{H:Hp}{p a:Addr}{d1:D}{ds:List D}(t:TL K G H p a d1 ds):∀b∈[p,a],H b≠none:=fun b hb=>by
 obtain⟨x,xs,h1,_,h2,_⟩:=t.tp;rcases x_.mp hb with rfl|hb
 .rw[h1];simp
 .rw[HB.mp hb,h2];simp
theorem TL.grow{K:W.Frag}{G G':GH}{H H':Hp}{p a:Addr}{d1:D}{ds:List D}(t:TL K G H p a d1 ds)(w:Grow K G H G' H'):TL K G' H' p a d1 ds:=by obtain⟨x,xs,h1,h2,h3,h4⟩:=t.tp;exact⟨⟨x,xs,w.he _ _ h1,h2.mono w.ge,w.he _ _ h3,h4.mono w.ge⟩,fun b hb=>by rw[w.gf b (t.isS b hb)];exact t.un b hb,t.ne⟩
def RW(K:W.Frag)(H0:Hp)(G:GH)(H:Hp)(v:V)(d:D):Prop:=∃p a d1 ds,v=.ref p/\d=.tup [d1,.lst ds]/\(∀b∈[p,a],H0 b=none)/\TL K G H p a d1 ds
def Hc(K:W.Frag)(ms:List Md)(F:List D->Res D):Sp:=fun vs H Q _=>∃G ds,aC K G H/\ArgsOk K G H ms vs ds/\fin (F ds) (fun d=>∀v G' H',Grow K G H G' H'->RW K H G' H' v d->Q v H') fun _=>False
abbrev FW:=ag->Res D
section
variable{P:z_}{w:Ht}{K:W.Frag}{mg:Str->Option a_}{base:Heap}
structure CalleeW(P:z_)(w:Ht)(K:W.Frag)(mg:Str->Option a_)(base:Heap)(x:Str)(ps:List Str)(k:Nat)(ms:List Md)(F:List D->Res D):Prop where
 ex:∃f fd,mg x=some (.ref f)/\W.keepIn K (.ref f)=true/\dY K fd ps []/\FnOk P w K mg base bB k f fd ps (Hc K ms F)
end
section
variable{X:Cx}{g:GE}{ro:Bool}{i:Nat}{m m' m1 mb ms:List Md}{r r':ag}{G G':GH}{σ σ':L2.St}{H H':Hp}{e c:Expr}{es:List Expr}{q:FQ}{st:Stmt}{sts sts1:List Stmt}{fl:ag->Res (List D)}{F:List D->Res D}{k:Nat}{ps:List Str}{pos p1 p2 p3 p4 apos cpos:Pos}{x y:Str}{d1:D}{ds:List D}
def my(X:Cx)(g:GE)(i:Nat)(m:List Md)(r:ag)(d1:D)(ds:List D)(G:GH)(st:L2.St)(H:Hp):Prop:=∃p a,TL X.K G H p a d1 ds/\(∀b∈[p,a],g.h0 b=none)/\SI X (bx g H [p,a] i p) m r G st H/\m[i]? = some .bw
theorem my.after(s:my X g i m r d1 ds G σ H)(wg:Grow X.K G H G' H'):my X g i m r d1 ds G' σ H':=by
 obtain⟨p,a,t,h0,si,hm⟩:=s;refine⟨p,a,t.grow wg,h0,?_,hm⟩;rw[nj (H:=H) fun b hb=>?_]
 .exact si.grow wg
 .cases e:H b with
 |none=>exact absurd e (t.isS b hb)
 |some o=>rw[wg.he b o e]
theorem my.frz(s:my X g i m r d1 ds G σ H)(hb:∀j,j≠i->m[j]?≠some .bw):∃G',aB G G'/\(∀b d,G b=none->G' b=some d->¬ Cln d)/\SI X g (m.set i .sh) (r.set i (some (.tup [d1,.lst ds]))) G' σ H:=by
 obtain⟨p,a,t,h0,si,hm⟩:=s;obtain⟨x,xs,h1,h2,h3,h4⟩:=t.tp;have ua:=t.un a (f_ _ c_);have up:=t.un p c_;have g1:aC X.K (gset G a (.lst ds)) H:=si.gok.gset ua (.lst (.inl h3) h4);have up1:gset G a (.lst ds) p=none:=by rw[dC t.ne];exact up
 have g2:aC X.K (gset (gset G a (.lst ds)) p (.tup [d1,.lst ds])) H:=g1.gset up1 (.tup (.inl h1) (.cons (h2.mono (c7 ua)) (.cons (.ref dA) .nil)));refine⟨_,aB.trans (c7 ua) (c7 up1),fun b d hn e hc=>?_,pR si hm h0 t.isS hb (aB.trans (c7 ua) (c7 up1)) g2 (fun b hb=>?_) dA⟩
 .by_cases hbp:b=p
  .subst hbp;rw[dA]at e;cases e;exact(hc.get _ (f_ _ c_)).lst
  .rw[dC hbp]at e;by_cases hba:b=a
   .subst hba;rw[dA]at e;cases e;exact hc.lst
   .rw[dC hba,hn]at e;cases e
 .rw[dC (by rintro rfl;exact hb c_),dC (by rintro rfl;exact hb (f_ _ c_))]
abbrev F3:=ag->D->List D->Option ag
end
end DL
section
namespace DL
section
open PySem PyProof.Rows PySem.W PySem.Calls
variable{prog:z_}{w:Ht}{A:HA}{E:a_->g_->Prop}{s:g_}{l:Addr}{vs:List a_}{ns:List Int}
end
open PySem PySem.Spec PyProof.Rows L2
end DL
end
section
namespace DL
section
open PySem PyProof.Rows
variable{prog:z_}{w:Ht}{A:HA}{R:NZ->g_->Prop}{I S:Addr}{fp wr:List Addr}{n:Nat}{P:Nat->a_->Prop}{St:Nat->Heap->Prop}{TP:Heap->Prop}{bt:Nat->Nat->Bool}
def mW(wr:List Addr)(S:Addr)(h h':Heap):Prop:=∀b o,b∉wr->b≠S->h.get? b=some o->h'.get? b=some o
theorem mW.trans{h h1 h2:Heap}(a:mW wr S h h1)(b:mW wr S h1 h2):mW wr S h h2:=fun c o hc hs e=>b c o hc hs (a c o hc hs e)
end
end DL
end
namespace DL
open PySem PySem.Spec PyProof.Rows L2
theorem uZ{α:Type}{l:List α}{j:Nat}{a:α}(h:l[j]? = some a):l.set j a=l:=by
 refine JA fun n=>?_;by_cases hn:j=n
 .subst hn;rw[k_ (i_.mp h).1,h]
 .rw[b_ hn]
def gF(X:Cx)(g:GE)(i jr:Nat)(m:List Md)(r:ag)(w:List (List D))(k:Nat)(G:GH)(st:L2.St)(H:Hp):Prop:=∃p as q,LRw X.K G H p as w/\(∀b∈p::as,g.h0 b=none)/\SI X (bx g H (p::as) i p) m r G st H/\as[k]? = some q/\st[jr]? = some (some (V.ref q))/\m[i]? = some .bw/\m[jr]? = some .sh/\r[jr]? = some none
abbrev AI(i jr:Nat)(r:ag)(w:List (List D))(k:Nat):ag:=(ig i r w).set jr (some (.lst (w.getD k [])))
section
variable{X:Cx}{g:GE}{i jr k:Nat}{m m' m1:List Md}{r r':ag}{w:List (List D)}{G G':GH}{σ σ':L2.St}{H H':Hp}{e ie:Expr}{f fi:FE}{st:Stmt}{sts:List Stmt}{pos p1 p2 p3 p4 p5 p6 p7 p8 p9 p10:Pos}{x y:Str}
theorem SI.slot{v:V}(s:SI X g m r G σ H)(hm:m[i]? = some .sh):SI X g m (r.set i none) G (σ.set i (some v)) H:=by
 have key:∀{j:Nat}{d:D},(r.set i none)[j]? = some (some d)->i≠j/\r[j]? = some (some d):=fun{j d} h=>by
  have hij:i≠j:=by
   rintro rfl
   rw[J3,if_pos rfl]at h;split at h <;> cases h
  rw[b_ hij]at h;exact⟨hij,h⟩
 refine⟨s.gok,s.old,s.ge,s.gf,by rw[IM];exact s.lm,by rw[IM,IM];exact s.lr,fun j d h hj=>?_,fun j d h hj=>?_,fun j d h hj=>?_,fun j k a d e hjk h1 h2 m1 m2 q1 q2=>?_,fun j o h hj=>?_⟩
 .obtain⟨hij,h⟩:=key h;rw[b_ hij];exact s.sh j d h hj
 .obtain⟨hij,h⟩:=key h;rw[b_ hij];exact s.ow j d h hj
 .obtain⟨hij,h⟩:=key h;rw[b_ hij];exact s.bw j d h hj
 .obtain⟨z1,h1⟩:=key h1;obtain⟨z2,h2⟩:=key h2;rw[b_ z1]at q1;rw[b_ z2]at q2;exact s.dis j k a d e hjk h1 h2 m1 m2 q1 q2
 .have hij:i≠j:=by rintro rfl;rw[hm]at hj;cases hj
  obtain⟨q1,q2⟩:=s.lk j o h hj;exact⟨by rw[b_ hij];exact q1,fun d hd=>q2 d (by rw[b_ hij]at hd;exact hd)⟩
theorem gF.after(s:gF X g i jr m r w k G σ H)(wg:Grow X.K G H G' H'):gF X g i jr m r w k G' σ H':=by
 obtain⟨p,as,q,R,h0,si,h1,h2,h3,h4,h5⟩:=s;have he:∀b∈p::as,H' b=H b:=fun b hb=>by cases e:H b with
 |none=>exact absurd e (R.isS hb)
 |some o=>rw[wg.he b o e]
 exact⟨p,as,q,R.grow wg,h0,by rw[nj he];exact si.grow wg,h1,h2,h3,h4,h5⟩
theorem gF.frz(s:gF X g i jr m r w k G σ H)(hb:∀j,j≠i->m[j]?≠some .bw):∃G',aB G G'/\(∀b d,G b=none->G' b=some d->∃ds,d=.lst ds)/\SI X g (m.set i .sh) (AI i jr r w k) G' σ H:=by
 obtain⟨p,as,q,R,h0,si,ha,hs,hm,hmj,hr⟩:=s;have nd:=Hu.mp R.nd;obtain⟨G1,l1,o1,g1,q1⟩:=pC si.gok R.rw nd.2 fun b hb=>R.un b (f_ _ hb);have hp1:G1 p=none:=by rw[o1 p nd.1];exact R.un p c_
 have rs:aV X.K G1 (as.map V.ref) (w.map D.lst):=by
  have:∀{as:List Addr}{w:List (List D)},Paired (fun b ds=>G1 b=some (.lst ds)) as w->aV X.K G1 (as.map V.ref) (w.map D.lst):=fun{as w} q=>by induction q with
  |nil=>exact .nil
  |cons h _ ih=>exact .cons (.ref h) ih
  exact this q1
 have g2:aC X.K (gset G1 p (.lst (w.map D.lst))) H:=g1.gset hp1 (.lst (.inl R.out) rs);have le:aB G (gset G1 p (.lst (w.map D.lst))):=aB.trans l1 (c7 hp1);have out:∀b,b∉p::as->gset G1 p (.lst (w.map D.lst)) b=G b:=fun b hb=>by rw[dC (by rintro rfl;exact hb c_),o1 b fun z=>hb (f_ _ z)]
 have hk:k<w.length:=by rw[<-Paired.length q1];exact(i_.mp ha).1
 have hw:w[k]? = some (w.getD k []):=by rw[s_,j_ hk];rfl
 obtain⟨q',hq',hg'⟩:=Paired.get q1 hw;rw[ha]at hq';cases hq';have S:=pR si hm h0 (fun b hb=>R.isS hb) hb le g2 out dA;have S2:=S.set jr (v:=.ref q) (.ref (c7 hp1 _ _ hg'));have hji:i≠jr:=by rintro rfl;rw[hm]at hmj;cases hmj
 rw[uZ (by rw[b_ hji];exact hmj),uZ hs]at S2;refine⟨_,le,fun b d hn e=>?_,S2⟩;by_cases hbp:b=p
 .subst hbp;rw[dA]at e;cases e;exact⟨_,rfl⟩
 .rw[dC hbp]at e;by_cases hba:b∈as
  .obtain⟨ds,e1⟩:=xW hba q1;rw[e1]at e;cases e;exact⟨_,rfl⟩
  .rw[o1 b hba,hn]at e;cases e
end
end DL
namespace DL
open PySem PySem.Spec PyProof.Rows L2 PySem.W PySem.Calls
def Hb(K:W.Frag)(ro:Bool)(ms:List Md)(F:List D->Res D):Sp:=fun vs H Q E=>∃G ds,aC K G H/\ArgsOk K G H ms vs ds /\fin (F ds) (fun d=>∀v G' H',Grow K G H G' H'->RV ro K H G' H' v d->Q v H') fun x=>∀C od nm fs G' H',x=xD nm fs->XN K nm C->XF G' od fs->Grow K G H G' H'->E (.ref C) od H'
section
variable{P:z_}{w:Ht}{K:W.Frag}{mg:Str->Option a_}{base:Heap}
structure CalleeX(P:z_)(w:Ht)(K:W.Frag)(mg:Str->Option a_)(base:Heap)(x:Str)(ps:List Str)(ds:List a_)(k:Nat)(ro:Bool)(ms:List Md)(F:List D->Res D):Prop where
 ex:∃f fd,mg x=some (.ref f)/\W.keepIn K (.ref f)=true/\dY K fd ps ds/\FnOk P w K mg base (Hr P w) k f fd ps (Hb K ro ms F)
end
def XO(K:W.Frag)(C:Addr)(bm:List a_):Prop:=∃N nm q bs hdct sn sub ab col dd k0 k1 k2 k3 k5 newId,K.lookup C=some (excClassObj nm q C N bs bm hdct sn sub ab col dd k0 k1 k2 k3 k5 newId)
abbrev _root_.L2.Cx.held(X:Cx)(v:a_):Cx:={ X with A:=X.A.mark (some v),calm:=false,xe:=fun _ _=>False }
section
variable{X:Cx}{pz:List (Addr×Obj)}{σ:L2.St}{H H':Hp}{s s':g_}{a C:Addr}{od:Option Addr}
theorem Inv.held(I:Inv X pz σ H s)(v:a_):Inv (X.held v) pz σ H s:=⟨⟨I.ok.mod,I.ok.kind,I.ok.glob,I.ok.blt,I.ok.above,I.ok.inj,I.ok.has,I.ok.cab,(fun h=>nomatch h),I.ok.frames,I.ok.stk,I.ok.exf,I.ok.bs,I.ok.bsz,I.ok.noex,I.ok.exfs,I.ok.funs,I.ok.frf⟩,I.os,I.bare,I.base,I.loc,I.cell,I.free,I.freeC,I.pin,I.hok,I.len⟩
end
abbrev _root_.L2.Cx.tr(X:Cx)(ps:List (Addr×Obj))(E:a_->g_->Prop):Cx:={ X with pn:=ps,xe:=E }
section
variable{X:Cx}{pz pins':List (Addr×Obj)}{σ:L2.St}{H:Hp}{s:g_}{E:a_->g_->Prop}
theorem Inv.tr(I:Inv X pz σ H s)(E:a_->g_->Prop):Inv (X.tr (X.pn++pz) E) [] σ H s:=⟨⟨I.ok.mod,I.ok.kind,I.ok.glob,I.ok.blt,I.ok.above,I.ok.inj,I.ok.has,I.ok.cab,I.ok.hd,I.ok.frames,I.ok.stk,I.ok.exf,I.ok.bs,I.ok.bsz,I.ok.noex,I.ok.exfs,I.ok.funs,I.ok.frf⟩,I.os,I.bare,I.base,I.loc,I.cell,I.free,I.freeC,fun p hp=>I.pin p (by rw[HU]at hp;exact hp),I.hok,I.len⟩
theorem Inv.untr(I:Inv (X.tr (X.pn++pz) E) pins' σ H s):Inv X pz σ H s:=⟨⟨I.ok.mod,I.ok.kind,I.ok.glob,I.ok.blt,I.ok.above,I.ok.inj,I.ok.has,I.ok.cab,I.ok.hd,I.ok.frames,I.ok.stk,I.ok.exf,I.ok.bs,I.ok.bsz,I.ok.noex,I.ok.exfs,I.ok.funs,I.ok.frf⟩,I.os,I.bare,I.base,I.loc,I.cell,I.free,I.freeC,fun p hp=>I.pin p (H_ _ hp),I.hok,I.len⟩
theorem SP.untr{D:Ends}{f:Flow}(h:SP (X.tr (X.pn++pz) E) [] D f s):SP X pz D f s:=by cases f with
|next=>obtain⟨σ',H',I,q⟩:=h;exact⟨σ',H',Inv.untr I,q⟩
|brk=>obtain⟨σ',H',I,q⟩:=h;exact⟨σ',H',Inv.untr I,q⟩
|cont=>obtain⟨σ',H',I,q⟩:=h;exact⟨σ',H',Inv.untr I,q⟩
|ret u=>obtain⟨v,σ',H',I,r,q⟩:=h;exact⟨v,σ',H',Inv.untr I,r,q⟩
end
structure XA(K:W.Frag)(C:Addr)(bm:List a_):Prop where
 ob:XO K C bm
 be:bm.contains (Value.type "BaseException")=true
 bo:bm.contains (Value.type "object")=true
 ga:findIn K (.ref C) "__getattribute__" = some (some (.builtin "BaseException.__getattribute__"))
 gn:findIn K (.ref C) "__getattr__" = some none
 gc:findIn K (.ref C) "__class__" = some (some (.builtin "object.__class__"))
 gg:specialIn K (.builtin "object.__class__") "__get__" = some (some (.builtin "getset_descriptor.__get__"))
 gt:takesIn K (.builtin "object.__class__")=some true
structure IsxOk(K:W.Frag)(c:a_)(tab:Str->Option Bool):Prop where
 no:kitOne K (.type "NoneType") c=some false
 ex:∀nm b C,tab nm=some b->XN K nm C->∃bm,XA K C bm/\kitOne K (.ref C) c=some b
section
variable{X:Cx}{g:GE}{m:List Md}{e:Expr}{f:FE}{pos p p2:Pos}
theorem RB.exc{K:W.Frag}{G:GH}{H:Hp}{v:V}{k:Str}{nm:Str}{ds:List (Str×D)}(gk:aC K G H)(h:RB K G H v (.obj 0 ((k,.str nm)::ds))):∃a C od,v=.ref a/\H a=some (.ext (zu a C od))/\XN K nm C:=by
 rcases h with h|⟨a,rfl,h⟩
 .cases h with
 |scl s=>cases s
 |ref e=>cases gk _ _ e with
  |exc r n f=>exact⟨_,_,_,rfl,r,n⟩
 |kc k=>cases k
 .cases h.ob
end
theorem XN.uniq{K:W.Frag}{nm:Str}{C c:Addr}(h:XN K nm C)(k:(K.all fun e=>match e.2.data with|.cls cd=>cd.name != nm || e.1==c|_=>true)=true):C=c:=by
 obtain⟨o,cd,h1,h2,h3⟩:=h;have hm:(C,o)∈(K:List (Addr×Obj)):=by
  have key:∀l:List (Addr×Obj),l.lookup C=some o->(C,o)∈l:=by
   intro l
   induction l with
  |nil=>intro h;cases h
  |cons q l ih=>
    intro h;rw[List.lookup]at h;split at h
    .rename_i hb;have:=Kt hb;cases h;rw[this];exact c_
    .exact f_ _ (ih h)
  exact key K h1
 have:=E_.mp k _ hm;simp only[h2]at this;rw[h3]at this;simpa using this
def Hj(f:Addr):Nat->Option (Option V×Option D):=fun j=>if j=0 then some (some (V.ref f),none)else none
theorem SI.fn{X:Cx}{m:List Md}{r:ag}{G:GH}{st:L2.St}{H:Hp}(f:Addr)(s:SI X ⟨G,H,fun _=>none⟩ m r G st H):SI X ⟨G,H,Hj f⟩ (.bw::m) (none::r) G (some (V.ref f)::st) H where
 gok:=s.gok
 old:=s.old
 ge:=s.ge
 gf:=s.gf
 lm:=congrArg (· + 1) s.lm
 lr:=congrArg (· + 1) s.lr
 sh:=fun i d h hm=>by cases i with
 |zero=>simp at h
 |succ i=>exact s.sh i d (by simpa using h) (by simpa using hm)
 ow:=fun i d h hm=>by cases i with
 |zero=>simp at h
 |succ i=>exact s.ow i d (by simpa using h) (by simpa using hm)
 bw:=fun i d h hm=>by cases i with
 |zero=>simp at h
 |succ i=>exact s.bw i d (by simpa using h) (by simpa using hm)
 dis:=fun i j a d e hij hi hj mi mj si sj=>by cases i with
 |zero=>simp at hi
 |succ i=>cases j with
  |zero=>simp at hj
  |succ j=>exact s.dis i j a d e (fun z=>hij (by rw[z])) (by simpa using hi) (by simpa using hj) (by simpa using mi) (by simpa using mj) (by simpa using si) (by simpa using sj)
 lk:=fun i o h _=>by cases i with
 |zero=>have h:some (some (V.ref f),none)=some o:=h;cases h;exact⟨rfl,fun d e=>by simp at e⟩
 |succ i=>exact nomatch (show none=some o from h)
def Hg(K:W.Frag)(mg:Str->Option a_)(y:Str)(ro:Bool)(ms:List Md)(F:List D->Res D):Sp:=fun vs H Q E=>∃f vs',mg y=some (.ref f)/\vs=V.ref f::vs'/\fV K ro ms F vs' H Q E
section
variable{P:z_}{w:Ht}{K:W.Frag}{mg:Str->Option a_}{base:Heap}
structure CalleeF(P:z_)(w:Ht)(K:W.Frag)(mg:Str->Option a_)(base:Heap)(x y:Str)(ps:List Str)(k:Nat)(ro:Bool)(ms:List Md)(F:List D->Res D):Prop where
 ex:∃f fd,mg x=some (.ref f)/\W.keepIn K (.ref f)=true/\dY K fd ps []/\FnOk P w K mg base bB k f fd ps (Hg K mg y ro ms F)
end
end DL
namespace DL
open PySem PySem.Spec PyProof.Rows L2
section
variable{X:Cx}{g:GE}{i:Nat}{m m' m1:List Md}{r r':ag}{w:List (List D)}{G G':GH}{σ σ':L2.St}{H H':Hp}{st:Stmt}{sts sts':List Stmt}{ro:Bool}{mb:List Md}{c e:Expr}{q:FQ}{f:FE}{s1:FS}{f1:cz}{pos p1 p2 p3 apos cpos:Pos}{x y:Str}
theorem Dv{fp:List Addr}{p:Addr}{d0:D}(si:SI X (bx g H fp i p) m r G σ H)(hm:m[i]? = some .bw)(h0:∀b∈fp,g.h0 b=none)(hS:∀b∈fp,H b≠none)(hb:∀j,j≠i->m[j]?≠some .bw)(le:aB G G')(g2:aC X.K G' H)(out:∀b,b∉fp->G' b=G b)(ho:Own X.K G' H p d0)(hpf:p∈fp):SI X g (m.set i .ow) (r.set i (some d0)) G' σ H:=by
 have hlt:i<m.length:=(i_.mp hm).1;have hst:σ[i]? = some (some (V.ref p)):=(si.lk i (some (V.ref p),none) (by show(if i=i then _ else _)=_;rw[if_pos rfl]) hm).1;have h0':∀b,b∉fp->(bx g H (fp) i p).h0 b=g.h0 b:=fun b hb=>by show(if b∈fp then H b else g.h0 b)=_;rw[if_neg hb]
 have h0i:∀b,b∈fp->(bx g H (fp) i p).h0 b≠none:=fun b hb=>by show(if b∈fp then H b else g.h0 b)≠_;rw[if_pos hb];exact hS b hb
 have nin:∀b,g.h0 b≠none->b∉fp:=fun b h z=>h (h0 b z);have mne:∀{j x},i≠j->(m.set i .ow)[j]? = some x->m[j]? = some x:=fun hij h=>by rw[b_ hij]at h;exact h
 refine⟨g2,fun a o e=>?_,fun a d e=>le a d (si.ge a d e),fun a h=>?_,by simpa using si.lm,by simpa using si.lr,fun j d h1 h2=>?_,fun j d h1 h2=>?_,fun j d h1 h2=>?_,fun j k a d e hjk h1 h2 m1 m2 z1 z2=>?_,fun j o hj hm'=>?_⟩
 .exact si.old a o (by rw[h0' a (nin a (by rw[e];simp))];exact e)
 .have hn:=nin a h;rw[out a hn];exact si.gf a (by rw[h0' a hn];exact h)
 .by_cases hij:i=j
  .subst hij;rw[k_ hlt]at h2;cases h2
  .rw[b_ hij]at h1;obtain⟨v,y1,y2⟩:=si.sh j d h1 (mne hij h2);exact⟨v,y1,y2.mono le⟩
 .by_cases hij:i=j
  .subst hij;rw[k_ (by rw[si.lr,<-si.lm];exact hlt)]at h1;cases h1;exact⟨p,hst,ho,h0 p hpf⟩
  .rw[b_ hij]at h1;obtain⟨a,y1,y2,y3⟩:=si.ow j d h1 (mne hij h2);have hn:a∉fp:=fun z=>h0i a z y3;exact⟨a,y1,⟨by rw[out a hn];exact y2.un,y2.ob.mono le fun _ z=>z⟩,by rw[<-h0' a hn];exact y3⟩
 .by_cases hij:i=j
  .subst hij;rw[k_ hlt]at h2;cases h2
  .exact absurd (mne hij h2) (hb j (IG hij))
 .have key:∀k e,i≠k->(r.set i (some d0))[k]? = some (some e)->(m.set i .ow)[k]? = some .ow->σ[k]? = some (some (V.ref p))->False:=fun k e hik h m0 z=>by rw[b_ hik]at h;obtain⟨a,y1,y2,y3⟩:=si.ow k e h (mne hik m0);rw[z]at y1;cases y1;exact h0i p hpf y3
  by_cases hij:i=j
  .subst hij;rw[hst]at z1;cases z1;exact key k e hjk h2 m2 z2
  .by_cases hik:i=k
   .subst hik;rw[hst]at z2;cases z2;exact key j d hij h1 m1 z1
   .rw[b_ hij]at h1;rw[b_ hik]at h2;exact si.dis j k a d e hjk h1 h2 (mne hij m1) (mne hik m2) z1 z2
 .by_cases hij:i=j
  .subst hij;rw[k_ hlt]at hm';cases hm'
  .exact absurd (mne hij hm') (hb j (IG hij))
theorem Ck{K:W.Frag}{G1:GH}{as:List Addr}{w:List (List D)}(q:Paired (fun b ds=>G1 b=some (.lst ds)) as w):aV K G1 (as.map V.ref) (w.map D.lst):=by induction q with
|nil=>exact .nil
|cons h _ ih=>exact .cons (.ref h) ih
theorem dH.frzO(s:dH X g i m r w G σ H)(hb:∀j,j≠i->m[j]?≠some .bw):∃G',aB G G'/\SI X g (m.set i .ow) (r.set i (some (.lst (w.map D.lst)))) G' σ H:=by
 obtain⟨p,as,R,h0,si,hm⟩:=s;have nd:=Hu.mp R.nd;obtain⟨G1,l1,o1,g1,q1⟩:=pC si.gok R.rw nd.2 fun b hb=>R.un b (f_ _ hb);have hp1:G1 p=none:=by rw[o1 p nd.1];exact R.un p c_
 exact⟨G1,l1,Dv si hm h0 (fun b hb=>R.isS hb) hb l1 g1 (fun b hb=>o1 b fun z=>hb (f_ _ z)) ⟨hp1,.lst R.out (Ck q1)⟩ c_⟩
theorem DP(h:dU X g ro mb (m.set i .ow) sts s1 m')(hb:∀j,j≠i->m[j]?≠some .bw):kn X g ro mb i m sts (sS i s1) m':=⟨by simpa using h.1,bb.imp h.2 fun D σ H ⟨r,w,G,s,q⟩=>by obtain⟨G',le,si⟩:=s.frzO hb;exact⟨_,G',si,br.gle q le⟩⟩
abbrev FM:=ag->List (List D)->Out
end
section
variable{X:Cx}{g:GE}{i jy:Nat}{m m' m1 ms:List Md}{r r':ag}{w:List (List D)}{G G':GH}{σ σ':L2.St}{H H':Hp}{st:Stmt}{sts sts':List Stmt}{ro:Bool}{mb:List Md}{c e tg:Expr}{es:List Expr}{q:FQ}{f:FE}{s1:FS}{f1:cz}{pos p p1 p2 p3 apos cpos:Pos}{x y z:Str}{k:Nat}{ps:List Str}{fl:ag->Res (List D)}
theorem SI.addOwn{p a:Addr}{as:List Addr}{ds:List D}(si:SI X (bx g H (p::as) i p) m r G σ H)(R:LRw X.K G H p as w)(h0:∀b∈p::as,g.h0 b=none)(hm:m[i]? = some .bw)(hb:∀j,j≠i->m[j]?≠some .bw)(hmy:m[jy]? = some .ow)(hry:r[jy]? = some (some (.lst ds)))(hsy:σ[jy]? = some (some (V.ref a)))(ho:Own X.K G H a (.lst ds))(hga:(bx g H (p::as) i p).h0 a=none):dH X g i m (r.set jy none) (w++[ds]) G σ (upd H p (.lst (as.map V.ref++[V.ref a]))):=by
 have h0':∀c,c∉p::as->(bx g H (p::as) i p).h0 c=g.h0 c:=fun c hc=>by show(if c∈p::as then H c else g.h0 c)=_;rw[if_neg hc]
 have h0i:∀c,c∈p::as->(bx g H (p::as) i p).h0 c=H c:=fun c hc=>by show(if c∈p::as then H c else g.h0 c)=_;rw[if_pos hc]
 have hap:a∉p::as:=fun z=>by rw[h0i a z]at hga;exact R.isS z hga
 have hap':a≠p:=fun z=>hap (by rw[z];exact c_);have nd:=Hu.mp R.nd;rw[h0' a hap]at hga;have sub:∀b,b∈p::(as++[a])↔b∈p::as\/b=a:=fun b=>by simp[or_assoc]
 generalize hH:upd H p (.lst (as.map V.ref++[V.ref a]))=H2;have e2:∀b,b≠p->H2 b=H b:=fun b hb=>by rw[<-hH,aW hb]
 have e2p:H2 p=some (.lst ((as++[a]).map V.ref)):=by rw[<-hH,bM];simp
 have k0':∀c,c∉p::(as++[a])->(bx g H2 (p::(as++[a])) i p).h0 c=g.h0 c:=fun c hc=>by show(if c∈p::(as++[a])then _ else g.h0 c)=_;rw[if_neg hc]
 have k0i:∀c,c∈p::(as++[a])->(bx g H2 (p::(as++[a])) i p).h0 c=H2 c:=fun c hc=>by show(if c∈p::(as++[a])then H2 c else g.h0 c)=_;rw[if_pos hc]
 have unp:G p=none:=R.un p c_;have rne:∀{j:Nat}{d:D},(r.set jy none)[j]? = some (some d)->jy≠j/\r[j]? = some (some d):=fun{j d} h=>by
  have hij:jy≠j:=by
   rintro rfl
   rw[J3,if_pos rfl]at h;split at h <;> cases h
  rw[b_ hij]at h;exact⟨hij,h⟩
 refine⟨p,as++[a],⟨e2p,?_,fun b hb'=>?_,?_⟩,fun b hb'=>?_,⟨fun c d e=>?_,fun c u e=>?_,si.ge,fun c h=>?_,si.lm,by rw[IM];exact si.lr,fun j d h1 h2=>si.sh j d (rne h1).2 h2,fun j d h1 h2=>?_,fun j d h1 h2=>?_,fun j k a d e hjk h1 h2=>si.dis j k a d e hjk (rne h1).2 (rne h2).2,fun j o hj hm'=>?_⟩,hm⟩
 .rw[Hu,Ig];refine⟨fun z=>(IJ.mp z).elim nd.1 fun z=>hap' (HB.mp z).symm,nd.2,by simp,?_⟩;intro x hx y hy e;rw[HB.mp hy]at e;subst e;exact hap (f_ _ hx)
 .rcases(sub b).mp hb' with z|rfl
  .exact R.un b z
  .exact ho.un
 .refine Paired.snoc (lb R.rw fun b hb' ds' q=>q.mono (aB.refl _) (e2 b (by rintro rfl;exact nd.1 hb'))) ?_;cases ho.ob with
 |lst e1 rs=>exact⟨_,by rw[e2 a hap'];exact e1,rs⟩
 .rcases(sub b).mp hb' with z|rfl
  .exact h0 b z
  .exact hga
 .have hc:c≠p:=by rintro rfl;rw[unp]at e;cases e
  exact(si.gok c d e).mono (fun _ _ z=>z) fun u z=>by rw[e2 c hc];exact z
 .by_cases hc:c∈p::(as++[a])
  .rw[k0i c hc]at e;exact e
  .rw[k0' c hc]at e;have hc1:c∉p::as:=fun z=>hc ((sub c).mpr (.inl z));have hcp:c≠p:=by rintro rfl;exact hc1 c_
   rw[e2 c hcp];exact si.old c u (by rw[h0' c hc1];exact e)
 .by_cases hc:c∈p::as
  .exact si.gf c (by rw[h0i c hc];exact R.isS hc)
  .by_cases hca:c=a
   .subst hca;rw[ho.un];show none=g.gh c;cases z:g.gh c with
   |none=>rfl
   |some d=>have:=si.ge c d z;rw[ho.un]at this;exact this
   .rw[k0' c fun z=>((sub c).mp z).elim hc hca]at h;exact si.gf c (by rw[h0' c hc];exact h)
 .obtain⟨hj,h1⟩:=rne h1;obtain⟨b,q1,q2,q3⟩:=si.ow j d h1 h2;have hbf:b∉p::as:=fun z=>by rw[h0i b z]at q3;exact R.isS z q3
  have hba:b≠a:=by rintro rfl;exact si.dis jy j b _ _ hj hry h1 hmy h2 hsy q1
  have hbp:b≠p:=by rintro rfl;exact hbf c_
  rw[h0' b hbf]at q3;exact⟨b,q1,⟨q2.un,q2.ob.mono (fun _ _ z=>z) fun u z=>by rw[e2 b hbp];exact z⟩,by rw[k0' b fun z=>((sub b).mp z).elim hbf hba];exact q3⟩
 .by_cases hj:j=i
  .subst hj;have:=(si.lk j (some (V.ref p),none) (by show(if j=j then _ else _)=_;rw[if_pos rfl]) hm).2 d (rne h1).2;cases this
  .exact absurd h2 (hb j hj)
 .have:=si.lk j o hj hm';exact⟨this.1,fun d hd=>this.2 d (rne hd).2⟩
def dS(jy:Nat):cz:=fun r w=>match r[jy]? with
|some (some (.lst ds))=>if w.length<sizeLine then some (r.set jy none,w++[ds])else none
|_=>none
theorem Cn(jy:Nat)(hm:m[i]? = some .bw)(hb:∀j,j≠i->m[j]?≠some .bw)(hmy:m[jy]? = some .ow)(hN:X.N[i]? = some x)(hv:dG X.env.scope x)(hNy:X.N[jy]? = some y)(hvy:dG X.env.scope y)(hd:(x==("__debug__" : Str))=false:=by decide)(hcd:(x==("__classdict__" : Str))=false:=by decide)(hdy:(y==("__debug__" : Str))=false:=by decide)(hcdy:(y==("__classdict__" : Str))=false:=by decide)(hbase:ID (.Name x p2) "append" X.env (eval (.Name x p2) X.env)=eval (.Name x p2) X.env:=by rfl)(hfew:((backTo cpos (l_ [.Name y p1] X.env)).all (fun x=>! x.1)&&(La cpos (JT [] X.env)).all (fun x=>x.1.isSome)&&decide (([.Name y p1]:List Expr).length+([]:List Jz).length+(if ([]:List Jz).isEmpty then 0 else 1)<30))=true:=by rfl)(hline:(apos.endLine==cpos.line)=true:=by rfl)(hst:l_ [.Name y p1] X.env=(false,eval (.Name y p1) X.env)::l_ [] X.env:=by rfl)(hplain:(backTo cpos (l_ [] X.env)).any (·.1)=false:=by rfl):gW X g i m (.Expr (.Call (.Attribute (.Name x p2) "append" apos) [.Name y p1] [] cpos) pos) (dS jy) m:=by
 refine PS.imp (m7 (oO Hw HX HY iO (gO hN hv hd hcd) (gp (gO hNy hvy hdy hcdy) gN hst) hbase hfew hline hst hplain)) fun D0 σ H ⟨r,w,G,⟨p,as,R,h0,si,_⟩,r',w',e,k⟩=>?_;have hst:σ[i]? = some (some (V.ref p)):=(si.lk i (some (V.ref p),none) (by show(if i=i then _ else _)=_;rw[if_pos rfl]) hm).1;unfold dS at e;split at e
 .rename_i ds hry;by_cases hl:w.length<sizeLine
  .rw[if_pos hl]at e;cases e;obtain⟨a,y1,y2,y3⟩:=si.ow jy _ hry hmy;have hlen:=Paired.length R.rw;exact⟨_,hst,.inl ⟨rfl,_,aL.of R.out⟩,_,y1,p,as.map V.ref,V.ref a,rfl,rfl,R.out,by rw[m_];omega,k σ G _ (aB.refl G) (SI.addOwn si R h0 hm hb hmy hry y1 y2 y3)⟩
  .rw[if_neg hl]at e;cases e
 .cases e
theorem Cs(i:Nat)(hlt:i<m.length)(hN:X.N.Nodup)(hi:X.N[i]? = some x)(hx:fO X.env.scope x)(hs:J7 (.List [] p2) (some (.Name x p3)) pos.line X.env=pure false:=by rfl)(hf:X.fn x=true\/X.env.scope.names.lookup x=some .local:=by first|exact .inl rfl|exact .inr rfl|assumption):PS X (.Assign [.Name x p3] (.List [] p2) pos) (gr X g i m (m.set i .bw) (fun r=>some (r.set i none,[]))):=by
 refine PS.imp (mU hN hi hx (uQ gN) hs hf) fun D0 σ H ⟨r,G,si,r',w',e,k⟩=>?_;cases e;refine⟨by rw[HF];simp,fun p hp=>?_⟩;have w2:=Grow.new si.gok hp (.lst []);refine k _ G _ w2.ge (si.new2 w2 hlt (p:=p) (as:=[]) ⟨bM,by simp,fun b hb=>?_,.nil⟩ fun b hb=>?_)
 .rw[HB.mp hb];exact si.gok.isN hp
 .rw[HB.mp hb];exact hp
abbrev ip:=ag->List (List D)->Option (List (List D))
def tK(X:Cx)(g:GE)(D:Ends)(w':List (List DL.D)):Prop:=∀p as G' H',Grow X.K g.gh g.h0 G' H'->LRw X.K G' H' p as w'->(∀b∈p::as,g.h0 b=none)->D.rt (V.ref p) H'
def tR(X:Cx)(g:GE)(i:Nat)(m:List Md)(F:ip):TS:=fun D σ H=>∃r w G,dH X g i m r w G σ H/\∃w',F r w=some w'/\tK X g D w'
def lS(X:Cx)(g:GE)(m:List Md)(F:ag->Option (List (List D))):TS:=fun D σ H=>∃r G,SI X g m r G σ H/\∃w',F r=some w'/\tK X g D w'
theorem Fb{p:Addr}{fp:List Addr}(si:SI X (bx g H fp i p) m r G σ H)(h0:∀b∈fp,g.h0 b=none):Grow X.K g.gh g.h0 G H:=by
 have nin:∀b,g.h0 b≠none->b∉fp:=fun b h z=>h (h0 b z);have h0':∀b,b∉fp->(bx g H (fp) i p).h0 b=g.h0 b:=fun b hb=>by show(if b∈fp then H b else g.h0 b)=_;rw[if_neg hb]
 exact⟨si.gok,fun a o e=>si.old a o (by rw[h0' a (nin a (by rw[e];simp))];exact e),si.ge,fun a h=>si.gf a (by rw[h0' a (nin a h)];exact h)⟩
theorem CA(hm:m[i]? = some .bw)(hN:X.N[i]? = some x)(hv:dG X.env.scope x)(hd:(x==("__debug__" : Str))=false:=by decide)(hcd:(x==("__classdict__" : Str))=false:=by decide):bb X [.Return (some (.Name x p1)) pos] (tR X g i m fun _ w=>some w):=C3 (PS.imp (ph (gO hN hv hd hcd)) fun D σ H ⟨r,w,G,⟨p,as,R,h0,si,_⟩,w',e,k⟩=>by cases e;exact⟨_,(si.lk i (some (V.ref p),none) (by show(if i=i then _ else _)=_;rw[if_pos rfl]) hm).1,k p as G H (Fb si h0) R h0⟩)
theorem DQ{F:ip}(h1:gW X g i m st f1 m1)(h2:bb X sts (tR X g i m1 F)):bb X (st::sts) (tR X g i m fun r w=>(f1 r w).bind fun z=>F z.1 z.2):=bb.imp (iM h1 h2) fun D σ H ⟨r,w,G,si,w',e,k⟩=>by replace e:(f1 r w).bind (fun z=>F z.1 z.2)=some w':=e;cases q:f1 r w with
 |none=>rw[q]at e;cases e
 |some z=>rw[q]at e;exact⟨r,w,G,si,z.1,z.2,q,fun σ' G' H' le si'=>⟨z.1,z.2,G',si',w',e,k⟩⟩
theorem Cz{F:ip}{f:ag->Option (ag×List (List D))}(h1:PS X st (gr X g i m m1 f))(h2:bb X sts (tR X g i m1 F)):bb X (st::sts) (lS X g m fun r=>(f r).bind fun z=>F z.1 z.2):=bb.imp (iM h1 h2) fun D σ H ⟨r,G,si,w',e,k⟩=>by replace e:(f r).bind (fun z=>F z.1 z.2)=some w':=e;cases q:f r with
 |none=>rw[q]at e;cases e
 |some z=>rw[q]at e;exact⟨r,G,si,z.1,z.2,q,fun σ' G' H' le si'=>⟨z.1,z.2,G',si',w',e,k⟩⟩
end
def Hf(K:W.Frag)(ms:List Md)(F:List D->Option (List (List D))):Sp:=fun vs H Q _=>∃G ds w',aC K G H/\ArgsOk K G H ms vs ds/\F ds=some w'/\∀p as G' H',Grow K G H G' H'->LRw K G' H' p as w'->(∀b∈p::as,H b=none)->Q (V.ref p) H'
structure CalleeR(P:z_)(w:Ht)(K:W.Frag)(mg:Str->Option a_)(base:Heap)(x:Str)(ps:List Str)(k:Nat)(ms:List Md)(F:List D->Option (List (List D))):Prop where
 ex:∃f fd,mg x=some (.ref f)/\W.keepIn K (.ref f)=true/\dY K fd ps []/\FnOk P w K mg base bB k f fd ps (Hf K ms F)
section
variable{X:Cx}{g:GE}{i:Nat}{m ms:List Md}{e:Expr}{es:List Expr}{fl:ag->Res (List D)}{k:Nat}{ps:List Str}{F:List D->Option (List (List D))}{x y:Str}{p p3 pos cpos:Pos}
def kY(i:Nat)(fl:ag->Res (List D))(F:List D->Option (List (List D))):ag->Option (ag×List (List D)):=fun r=>match fl r with
|.ok ds=>(F ds).map fun w=>(r.set i none,w)
|_=>none
theorem Fk(i:Nat)(hlt:i<m.length)(hN:X.N.Nodup)(hi:X.N[i]? = some x)(hx:fO X.env.scope x)(c:CalleeR X.prog X.w X.K X.mg X.base y ps k ms F)(hr:Room k X.A)(ha:fL X g m (e::es) ms fl)(hs:J7 (.Call (.Name y p) (e::es) [] cpos) (some (.Name x p3)) pos.line X.env=pure false:=by rfl)(hf:X.fn x=true\/X.env.scope.names.lookup x=some .local:=by first|exact .inl rfl|exact .inr rfl|assumption)(hg:Gl X y:=by rfl)(hdb:(y==("__debug__" : Str))=false:=by decide)(he:l_ (e::es) X.env=(false,eval e X.env)::l_ es X.env:=by rfl)(hpl:(backTo cpos (l_ es X.env)).any (·.1)=false:=by rfl):PS X (.Assign [.Name x p3] (.Call (.Name y p) (e::es) [] cpos) pos) (gr X g i m (m.set i .bw) (kY i fl F)):=by
 obtain⟨fa,fd,h1,h2,h3,h4⟩:=c.ex;refine PS.imp (mU hN hi hx (m6 h4 hr hg h1 h2 h3 .nil mP ha hdb he hpl) hs hf) fun D0 σ H ⟨r,G,si,r',w',ee,kk⟩=>⟨r,G,si,?_⟩
 unfold kY at ee;cases ez:fl r with
|exc x=>rw[ez]at ee;cases ee
|stuck=>rw[ez]at ee;cases ee
|ok zs=>rw[ez]at ee;cases ef:F zs with
 |none=>simp only[ef]at ee;cases ee
 |some w1=>simp only[ef]at ee;cases ee;intro vs G' H' wg rs;refine⟨G',zs,_,wg.ok,by rw[HU];exact rs,ef,fun p as G2 H2 w2 R hn=>?_⟩;exact kk _ G2 H2 (wg.trans w2).ge (si.new2 (wg.trans w2) hlt R fun b hb=>wg.back (hn b hb))
end
def lessL(H:Hp)(fp:List Addr):Hp:=fun b=>if b∈fp then none else H b
theorem Ex{H:Hp}{fp:List Addr}{b:Addr}(h:b∉fp):lessL H fp b=H b:=if_neg h
def Hh(K:W.Frag)(ms:List Md)(F:List (List D)->List D->Res D):Sp:=fun vs H Q _=>∃G p as w us ds,aC K G H/\LRw K G H p as w/\vs=V.ref p::us/\ArgsOk K G H ms us ds /\fin (F w ds) (fun d=>∀v G' H',Grow K G (lessL H (p::as)) G' H'->RV true K (lessL H (p::as)) G' H' v d->Q v H') fun _=>False
structure CalleeD(P:z_)(w:Ht)(K:W.Frag)(mg:Str->Option a_)(base:Heap)(x:Str)(ps:List Str)(k:Nat)(ms:List Md)(F:List (List D)->List D->Res D):Prop where
 ex:∃f fd,mg x=some (.ref f)/\W.keepIn K (.ref f)=true/\dY K fd ps []/\FnOk P w K mg base bB k f fd ps (Hh K ms F)
section
variable{X:Cx}{g:GE}{i:Nat}{m ms:List Md}{mb:List Md}{e:Expr}{es:List Expr}{fl:ag->Res (List D)}{k:Nat}{ps:List Str}{F:List (List D)->List D->Res D}{r:ag}{w:List (List D)}{G G1 G':GH}{σ:L2.St}{H H1 H':Hp}{x y:Str}{p p1 p3 pos cpos:Pos}
theorem Grow.lessL{K:W.Frag}{G0:GH}{H0:Hp}{fp:List Addr}(w1:Grow K G0 H0 G1 H1)(h0:∀b∈fp,H0 b=none)(w2:Grow K G1 (lessL H1 fp) G' H'):Grow K G0 H0 G' H':=by
 have ne:∀b,H0 b≠none->b∉fp:=fun b h z=>h (h0 b z);have he:∀b o,H0 b=some o->DL.lessL H1 fp b=some o:=fun b o e=>by rw[Ex (ne b (by rw[e];simp))];exact w1.he b o e
 refine⟨w2.ok,fun b o e=>w2.he b o (he b o e),fun b d e=>w2.ge b d (w1.ge b d e),fun b h=>?_⟩;rw[w2.gf b ?_,w1.gf b h];cases e:H0 b with
|none=>exact absurd e h
|some o=>rw[he b o e];simp
end
def He(K:W.Frag)(ms:List Md)(F:List D->Res D):Sp:=fun vs H Q _=>∃G a us d ds,aC K G H/\vs=V.ref a::us/\ArgsOk K G H ms us ds/\Own K G H a d /\fin (F (d::ds)) (fun d'=>∀v G' H',Grow K G (lessA H a) G' H'->RV true K (lessA H a) G' H' v d'->Q v H') fun _=>False
structure CalleeU(P:z_)(w:Ht)(K:W.Frag)(mg:Str->Option a_)(base:Heap)(x:Str)(ps:List Str)(k:Nat)(ms:List Md)(F:List D->Res D):Prop where
 ex:∃f fd,mg x=some (.ref f)/\W.keepIn K (.ref f)=true/\dY K fd ps []/\FnOk P w K mg base bB k f fd ps (He K ms F)
theorem SI.modeN{X:Cx}{g:GE}{m:List Md}{r:ag}{G:GH}{σ:L2.St}{H:Hp}{j:Nat}(s:SI X g m r G σ H)(hr:∀d,r[j]?≠some (some d)):SI X g (m.set j .sh) r G σ H:=by
 have ne:∀{k:Nat}{d:D},r[k]? = some (some d)->j≠k:=fun h=>by rintro rfl;exact hr _ h
 have mn:∀{k:Nat}{x:Md},j≠k->(m.set j .sh)[k]? = some x->m[k]? = some x:=fun hk h=>by rw[b_ hk]at h;exact h
 refine⟨s.gok,s.old,s.ge,s.gf,by rw[IM];exact s.lm,s.lr,fun k d h hm=>s.sh k d h (mn (ne h) hm),fun k d h hm=>s.ow k d h (mn (ne h) hm),fun k d h hm=>s.bw k d h (mn (ne h) hm),fun k l a d e hkl h1 h2 m1 m2=>s.dis k l a d e hkl h1 h2 (mn (ne h1) m1) (mn (ne h2) m2),fun k o h hm=>?_⟩;by_cases hk:j=k
 .subst hk;rw[J3]at hm;split at hm
  .split at hm <;> cases hm
  .exact s.lk j o h hm
 .exact s.lk k o h (mn hk hm)
section
variable{X:Cx}{g:GE}{i:Nat}{m:List Md}{pos p1 p2 apos cpos:Pos}{x y:Str}
theorem Cp(jy:Nat)(hij:i≠jy)(hm:m[i]? = some .bw)(hb:∀j,j≠i->m[j]?≠some .bw)(hmy:m[jy]? = some .ow)(hN:X.N[i]? = some x)(hv:dG X.env.scope x)(hNy:X.N[jy]? = some y)(hvy:dG X.env.scope y)(hd:(x==("__debug__" : Str))=false:=by decide)(hcd:(x==("__classdict__" : Str))=false:=by decide)(hdy:(y==("__debug__" : Str))=false:=by decide)(hcdy:(y==("__classdict__" : Str))=false:=by decide)(hbase:ID (.Name x p2) "append" X.env (eval (.Name x p2) X.env)=eval (.Name x p2) X.env:=by rfl)(hfew:((backTo cpos (l_ [.Name y p1] X.env)).all (fun x=>! x.1)&&(La cpos (JT [] X.env)).all (fun x=>x.1.isSome)&&decide (([.Name y p1]:List Expr).length+([]:List Jz).length+(if ([]:List Jz).isEmpty then 0 else 1)<30))=true:=by rfl)(hline:(apos.endLine==cpos.line)=true:=by rfl)(hst:l_ [.Name y p1] X.env=(false,eval (.Name y p1) X.env)::l_ [] X.env:=by rfl)(hplain:(backTo cpos (l_ [] X.env)).any (·.1)=false:=by rfl):gW X g i m (.Expr (.Call (.Attribute (.Name x p2) "append" apos) [.Name y p1] [] cpos) pos) (dS jy) (m.set jy .sh):=by
 refine PS.imp (Cn (g:=g) jy hm hb hmy hN hv hNy hvy hd hcd hdy hcdy hbase hfew hline hst hplain) fun D0 σ H ⟨r,w,G,s,r',w',e,k⟩=>⟨r,w,G,s,r',w',e,fun σ' G' H' le s'=>k σ' G' H' le ?_⟩
 obtain⟨p,as,R,h0,si,_⟩:=s';refine⟨p,as,R,h0,si.modeN fun d h=>?_,by rw[b_ (IG hij)];exact hm⟩;unfold dS at e;split at e
 .rename_i ds hry;split at e
  .cases e;rw[J3,if_pos rfl]at h;split at h <;> cases h
  .cases e
 .cases e
end
def oH(f1:cz)(F:ip):ip:=fun r w=>(f1 r w).bind fun z=>F z.1 z.2
def mO(f:ag->Option (ag×List (List D)))(F:ip):ag->Option (List (List D)):=fun r=>(f r).bind fun z=>F z.1 z.2
section
variable{X:Cx}{g:GE}{i:Nat}{m m1:List Md}{st:Stmt}{sts:List Stmt}{f1:cz}
theorem Fo{F:ip}(h1:gW X g i m st f1 m1)(h2:bb X sts (tR X g i m1 F)):bb X (st::sts) (tR X g i m (oH f1 F)):=DQ h1 h2
theorem DR{F:ip}{f:ag->Option (ag×List (List D))}(h1:PS X st (gr X g i m m1 f))(h2:bb X sts (tR X g i m1 F)):bb X (st::sts) (lS X g m (mO f F)):=Cz h1 h2
end
abbrev sr(i:Nat):ag->Option (ag×List (List D)):=fun r=>some (r.set i none,[])
abbrev An:ip:=fun _ w=>some w
section
variable{X:Cx}{g:GE}{i:Nat}{m m' m1:List Md}{r r':ag}{w:List (List D)}{G G':GH}{σ σ':L2.St}{H H':Hp}{st:Stmt}{sts sts1:List Stmt}{ro:Bool}{mb:List Md}{c ie:Expr}{q:FQ}{fi:FE}{f1:cz}{pos p1 p2 p3 apos cpos:Pos}{x:Str}
def eF(f:FS)(F:ag->Option (List (List D))):ag->Option (List (List D)):=fun r=>match f r with
|.nx r'=>F r'
|_=>none
theorem wm{f:FS}{F:ag->Option (List (List D))}(h1:SS X g ro mb m st f m1)(h2:bb X sts (lS X g m1 F)):bb X (st::sts) (lS X g m (eF f F)):=bb.imp (iM h1.2 h2) fun D σ H ⟨r,G,si,w',e,k⟩=>by unfold eF at e;refine⟨r,G,si,?_⟩;cases q:f r with
 |nx r'=>rw[q]at e;exact fun σ' G' H' le si'=>⟨r',G',si',w',e,k⟩
 |rt d=>rw[q]at e;cases e
 |bk r'=>rw[q]at e;cases e
 |ct r'=>rw[q]at e;cases e
 |exc x r'=>rw[q]at e;cases e
 |stuck=>rw[q]at e;cases e
theorem w9{s1:FS}(j:Nat)(h:SS X g ro mb m st s1 m')(hi:m'[j]? = some .ow):SS X g ro mb m st s1 (m'.set j .sh):=by
 refine⟨by simp[h.1],fun pz s σ H D I ⟨r,G,si,q⟩=>?_⟩;refine aF (h.2 pz s σ H ⟨fun σ' H'=>D.nx σ' H'\/∃a,∀ob,D.nx σ' (fz H' a ob),D.rt,D.bk,D.ct⟩ I ⟨r,G,si,?_⟩) fun f s' p=>?_
 .cases e:s1 r with
 |nx r'=>
   rw[e]at q;intro σ' G' H' w si';rcases si'.frz j hi with⟨G2,le,si2⟩|⟨a,z⟩
   .exact .inl (q σ' G2 H' (w.trans le) si2)
   .refine .inr ⟨a,fun ob=>?_⟩;obtain⟨G2,le,si2⟩:=z ob;exact q σ' G2 _ (w.trans le) si2
 |rt d=>rw[e]at q;exact q
 |bk r'=>rw[e]at q;exact q
 |ct r'=>rw[e]at q;exact q
 |exc x r'=>rw[e]at q;exact fun pz e s' σ' G' H' w si'=>q pz e s' σ' G' H' w (by rw[lh (m:=m') (by simp)];exact si')
 |stuck=>rw[e]at q;exact q
 .cases f with
 |next=>
   obtain⟨σ',H',I',z|⟨a,z⟩⟩:=p
   .exact⟨σ',H',I',z⟩
   .obtain⟨ob,I2⟩:=Inv.fast I' a;exact⟨σ',_,I2,z ob⟩
 |brk=>exact p
 |cont=>exact p
 |ret u=>exact p
def fA(p:FQ)(b:cz):Nat->cz
|0,_,_=>none
|n+1,r,w=>match p r with
 |.ok true=>(b r w).bind fun z=>fA p b n z.1 z.2
 |.ok false=>some (r,w)
 |_=>none
theorem DK(n:Nat)(hp:Ks (F_ X.prog X.w) X.A X.env X.xe)(hc:∀g',SQ X g' m c q)(hb:ik X g i m sts f1 m)(hm:m[i]? = some .bw):gW X g i m (.While c sts [] pos) (fA q f1 n) m:=by
 have hcA:PT X c (fun σ H Q=>∃g',tQ X g' m q σ H Q):=fun pz s σ H Q I ⟨g',k⟩=>hc g' pz s σ H Q I k;refine PS.imp (wU hp hcA hb) fun D σ H ⟨r,w,G,s,r',w',e,k⟩=>?_;refine⟨fun n σ H=>∃r w G1,dH X g i m r w G1 σ H/\aB G G1/\fA q f1 n r w=some (r',w'),⟨n,r,w,G,s,aB.refl _,e⟩,?_⟩
 rintro n σ1 H1 ⟨r1,w1,G1,s1,le1,e1⟩
 cases n with
|zero=>cases e1
|succ n=>unfold fA at e1;obtain⟨p,as,R,h0,si,_⟩:=id s1;refine⟨_,r1,G1,si,?_⟩;cases z:q r1 with
 |exc x=>rw[z]at e1;cases e1
 |stuck=>rw[z]at e1;cases e1
 |ok b=>rw[z]at e1;intro G2 H2 w2;have S2:=qv R h0 si w2.ge (si.grow w2) hm;cases b with
  |false=>rw[if_neg d_];cases e1;exact k σ1 G2 H2 (aB.trans le1 w2.ge) S2
  |true=>rw[if_pos rfl];simp only[]at e1;cases eb:f1 r1 w1 with
   |none=>rw[eb]at e1;cases e1
   |some zz=>rw[eb]at e1;refine⟨fun σ' H'=>∃r w G1,dH X g i m r w G1 σ' H'/\aB G G1/\fA q f1 n r w=some (r',w'),fun σ' H' h=>⟨n,Iz _,h⟩,r1,w1,G2,S2,zz.1,zz.2,eb,fun σ3 G3 H3 le3 s3=>⟨zz.1,zz.2,G3,s3,aB.trans le1 (aB.trans w2.ge le3),e1⟩⟩
def mh(i:Nat)(q:FQ)(F:FM):FM:=fun r w=>match q (ig i r w)with
|.ok false=>F r w
|_=>.stuck
theorem Cy{F:FM}(hb:∀j,j≠i->m[j]?≠some .bw)(hc:∀g',SQ X g' (m.set i .sh) c q)(h:kn X g ro mb i m sts F m'):kn X g ro mb i m (.If c sts1 [] pos::sts) (mh i q F) m':=by
 have hn:bb X sts1 (fun _ _ _=>False):=fun pz s σ H D I h=>h.elim;refine⟨h.1,bb.imp (iM (t8 (hc g) hn pG) h.2) fun D σ H ⟨r,w,G,s,k⟩=>?_⟩;have gk:aC X.K G H:=by obtain⟨p,as,R,h0,si,hm⟩:=s;exact si.gok
 obtain⟨G1,le,hx,si⟩:=s.frz hb;refine⟨_,G1,si,?_⟩;unfold mh at k;cases z:q (ig i r w)with
|exc x=>rw[z]at k;exact k.elim
|stuck=>rw[z]at k;exact k.elim
|ok b=>rw[z]at k;cases b with
 |true=>exact k.elim
 |false=>intro G' H' wg;obtain⟨G2,w2,_⟩:=AE gk le (fun b d h1 h2 hc=>by obtain⟨ds,rfl⟩:=hx b d h1 h2;exact hc.lst) wg;rw[if_neg d_];exact⟨r,w,G2,s.after w2,br.gle k w2.ge⟩
def gB(fi:FE):cz:=fun r w=>match fi r with
|.ok (.int k)=>(d8 w.length k).bind fun j=>(w[j]?).map fun _=>(r,w.set j [])
|_=>none
theorem B5(hm:m[i]? = some .bw)(hb:∀j,j≠i->m[j]?≠some .bw)(hN:X.N[i]? = some x)(hv:dG X.env.scope x)(hk:∀g',SB X g' m ie fi)(hd:(x==("__debug__" : Str))=false:=by decide)(hcd:(x==("__classdict__" : Str))=false:=by decide)(hpl:m4 ie:=by intro _ _;rfl)(hbase:ID (.Subscript (.Name x p2) ie p1) "clear" X.env (eval (.Subscript (.Name x p2) ie p1) X.env)=eval (.Subscript (.Name x p2) ie p1) X.env:=by rfl)(hline:(apos.endLine==cpos.line)=true:=by rfl):gW X g i m (.Expr (.Call (.Attribute (.Subscript (.Name x p2) ie p1) "clear" apos) [] [] cpos) pos) (gB fi) m:=by have hkA:PE X ie (fun σ H Q=>∃g',tB X g' m fi σ H Q):=fun pz s σ H Q I ⟨g',k⟩=>hk g' pz s σ H Q I k;refine PS.imp (m7 (uP Hw PySem.F.slot_list_clear PySem.F.type_list_clear EB (tj we (gO hN hv hd hcd) hkA hpl) hbase hline)) fun D0 σ H ⟨r,w,G,⟨p,as,R,h0,si,_⟩,r',w',ee,k⟩=>?_;have hst:σ[i]? = some (some (V.ref p)):=(si.lk i (some (V.ref p),none) (by show(if i=i then _ else _)=_;rw[if_pos rfl]) hm).1;refine⟨_,hst,_,r,G,si,?_⟩;unfold gB at ee;cases z:fi r with
|exc x=>rw[z]at ee;cases ee
|stuck=>rw[z]at ee;cases ee
|ok d=>cases d with
 |int kk=>simp only[z]at ee;cases e1:d8 w.length kk with
  |none=>rw[e1]at ee;cases ee
  |some j=>rw[e1]at ee;simp only[Lc]at ee;cases e2:w[j]? with
   |none=>rw[e2]at ee;cases ee
   |some row=>
     rw[e2]at ee;cases ee;intro v G1 H1 wg1 rv;have rv:=rv.int wg1.ok;subst rv;have R1:=R.grow wg1;obtain⟨b,hbj,xs,hx,rs⟩:=Paired.get R1.rw e2;have at1:c9 (as.map V.ref) kk=some (V.ref b):=by unfold c9;rw[m_,Paired.length R1.rw,e1];show(as.map V.ref)[j]? = _;rw[t_,hbj];rfl
     have hbm:b∈as:=IF hbj;have nd:=Hu.mp R.nd;have hbp:b≠p:=by rintro rfl;exact nd.1 hbm
     have hh:∀c∈p::as,H1 c=H c:=fun c hc=>by cases y:H c with
     |none=>exact absurd y (R.isS hc)
     |some o=>rw[wg1.he c o y]
     have si1:SI X (bx g H1 (p::as) i p) m r G1 σ H1:=by rw[nj hh];exact si.grow wg1
     refine⟨p,_,kk,_,rfl,rfl,aL.of R1.out,at1,.inl ⟨rfl,_,aL.of hx⟩,b,xs,rfl,rfl,hx,?_⟩;refine k σ G1 _ wg1.ge ⟨p,as,⟨by rw[aW (IG hbp)];exact R1.out,R1.nd,R1.un,?_⟩,h0,SI.row R1 si1 hm hb (f_ _ hbm) _,hm⟩;exact Eb R1.rw nd.2 hbj ⟨_,bM,.nil⟩ fun b' x' hne ⟨xs',q1,q2⟩=>⟨xs',by rw[aW hne];exact q1,q2⟩
 |_=>rw[z]at ee;cases ee
end
section
variable{P:z_}{w:Ht}{K:W.Frag}{mg:Str->Option a_}{base:Heap}
theorem EA{x:Str}{st:Stmt}{N ps:List Str}{k:Nat}{ms:List Md}{F:ag->Option (List (List D))}{dds:List a_}(A:DefAtD K mg x st dds)(S:FnScope N ps (az st))(hms:ms.length=ps.length)(hb:∀(T:Addr)(kV doc pm:a_)(an:Option Addr)(cdv ct:a_)(us:List a_),us.length=ps.length->∃kk:Option (Array a_)->Sem (List (Str×a_)),K9 (W.fnOf x x (eZ st) (c6 st) (az st) (.ref T) kV doc pm an cdv ct) ⟨us,[]⟩=My (.ref T) >>= kk/\kk (some dds.toArray)=pure (ps.zip (us++[])))(hbody:∀(f:Addr)(cdv:a_)(A:HA)(outer:List Env)(s:g_)(H:Hp)(g:GE)(E:XK),Room k (A.deeper (JW x (az st) s.heap.objs.size f cdv)) ->bb (aR bB P w K mg base N x (az st) f cdv A outer s H E).nox (c6 st) (lS (aR bB P w K mg base N x (az st) f cdv A outer s H E).nox g (gP N.length ms) F)):CalleeR P w K mg base x ps (k+1) ms fun ds=>F (aS N.length ds):=by
 obtain⟨f,T,o,n,oc,od,kV,doc,pm,an,cdv,ct,osl,h1,hT,hd,lk,hcd,kp⟩:=A.ex;refine⟨f,W.fnOf x x (eZ st) (c6 st) (az st) (.ref T) kV doc pm an cdv ct,h1,kp,fun s us KX hl=>?_,?_⟩
 .obtain⟨kk,e1,e2⟩:=hb T kV doc pm an cdv ct us (by simpa using hl);exact LR rfl (KX _ _ hT) hd e1 e2
 .have hpl:ps.length<=N.length:=by have:=congrArg KM S.pre;rw[JI]at this;omega
  refine oI lk hcd S (fun vs H Q E ⟨G,ds,w',gk,rs,q⟩=>rs.len.1.trans hms) fun A outer s H vs Q E hr ⟨G,ds,w',gk,rs,e,q⟩=>?_;exact⟨_,(hbody f cdv A outer s H ⟨G,H,fun _=>none⟩ E hr).nox,aS N.length ds,G,pM gk rs (by omega),w',e,fun p as G' H' wg R hn=>q p as G' H' wg R hn⟩
end
end DL
namespace HS
open PySem PySem.Spec PyProof.Rows
def tb(m mv:Nat)(led:Bool)(ks:List Nat):SetTable:={ mask:=m,place:=ks.toArray,dummies:=#[],finger:=0,led:=led,moves:=mv,plain:=true }
def ins(k:Nat):List Nat->List Nat
|[]=>[k]
|a::l=>if k<a then k::a::l else a::ins k l
def pos(k:Nat)(ks:List Nat):Nat:=(ks.filter (· < k)).length
def subs:List (List Nat):=(r_ 128).map fun b=>(r_ 7).filter fun i=>b.testBit i
def fK(led:Bool)(mm:Nat×Nat)(ks:List Nat)(k:Nat):Bool:=
 decide ((tb mm.1 mm.2 led ks).freeSlot (k:Int)=some (k,false))&&decide ((tb mm.1 mm.2 led ks).put k=(tb mm.1 mm.2 led (ins k ks),pos k ks))&&(tb mm.1 mm.2 led (ins k ks)).fits (ks.length+1)
  && ((tb mm.1 mm.2 led (ins k ks)).tooFull==(mm.1==7&&ks.length==4))&&subs.contains (ins k ks)&&decide (ins k ks=ks.take (pos k ks)++k::ks.drop (pos k ks))&&decide (pos k ks<=ks.length)
def sD:Bool:=subs.all fun ks=>(r_ 7).all fun k=>ks.contains k || [((7:Nat),(0:Nat)),(31,1)].all fun mm=>(mm.1==7&&decide (4<ks.length)) || (fK true mm ks k&&fK false mm ks k)
def sC:Bool:=subs.all fun ks=>decide (ks.length≠5) || [true,false].all fun led=>decide ((tb 7 0 led ks).relaid (ks.map fun k:Nat=>(k:Int)).toArray (Nd 5)=some (tb 31 1 led ks,(r_ 5).toArray))&&(tb 31 1 led ks).fits 5
def sB:Bool:=subs.all fun ks=>decide (KA ks.toArray 0=0)&&(r_ ks.length).all fun i=>decide (KA ks.toArray (ks.getD i 0+1)=i+1)
theorem Ho:sD=true:=by decide+kernel
theorem Hn:sC=true:=by decide+kernel
theorem Hm:sB=true:=by decide+kernel
theorem Hl:(subs.all fun ks=>ks.all fun k=>decide (k<7))=true:=by decide+kernel
theorem CB{ks:List Nat}(h:ks∈subs){k:Nat}(hk:k∈ks):k<7:=by have:=E_.mp Hl ks h;exact of_decide_eq_true (E_.mp this k hk)
theorem Hk:(subs.all fun ks=>decide (ks.length<=7))=true:=by decide+kernel
theorem subs_len{ks:List Nat}(h:ks∈subs):ks.length<=7:=of_decide_eq_true (E_.mp Hk ks h)
structure Mk(m mv:Nat)(ks:List Nat):Prop where
 mem:ks∈subs
 mode:(m,mv)=(7,0)/\ks.length<=4\/(m,mv)=(31,1)
structure Tk(m mv:Nat)(led:Bool)(ks:List Nat)(k:Nat):Prop where
 free:(tb m mv led ks).freeSlot (k:Int)=some (k,false)
 put:(tb m mv led ks).put k=(tb m mv led (ins k ks),pos k ks)
 fits:(tb m mv led (ins k ks)).fits (ks.length+1)=true
 full:(tb m mv led (ins k ks)).tooFull=(m==7&&ks.length==4)
 mem:ins k ks∈subs
 eq:ins k ks=ks.take (pos k ks)++k::ks.drop (pos k ks)
 le:pos k ks<=ks.length
theorem AD{m mv:Nat}{led:Bool}{ks:List Nat}{k:Nat}(h:Mk m mv ks)(hk:k<7)(hn:k∉ks):Tk m mv led ks k:=by
 have h1:=E_.mp Ho ks h.mem;have h2:=E_.mp h1 k (D_.mpr hk);rw[show ks.contains k=false by simpa using hn,KW]at h2;have h3:=E_.mp h2 (m,mv) (by rcases h.mode with⟨e,_⟩|e <;> rw[e] <;> simp);have h4:(m==7&&decide (4<ks.length))=false:=by
  rcases h.mode with⟨e,hl⟩|e
  .rw[decide_eq_false (by omega),LI]
  .have:m=31:=congrArg Mm e;subst this;rfl
 have h3':((m==7&&decide (4<ks.length)) || (fK true (m,mv) ks k&&fK false (m,mv) ks k))=true:=h3;rw[h4,KW,Hs]at h3';have h5:fK led (m,mv) ks k=true:=by cases led;exact h3'.2;exact h3'.1
 unfold fK at h5;simp only[Hs,decide_eq_true_eq,beq_iff_eq]at h5;obtain⟨⟨⟨⟨⟨⟨a1,a2⟩,a3⟩,a4⟩,a5⟩,a6⟩,a7⟩:=h5;exact⟨a1,a2,a3,a4,by simpa using a5,a6,a7⟩
theorem tJ{k:Nat}(h:k<7):NU (k:Int)=(k:Int):=by match k,h with
|0,_=>rfl
|1,_=>rfl
|2,_=>rfl
|3,_=>rfl
|4,_=>rfl
|5,_=>rfl
|6,_=>rfl
structure Es(es:Array (Int×a_))(ks:List Nat):Prop where
 keys:es.toList.map (·.1)=ks.map fun k:Nat=>(k:Int)
 vals:∀e∈es.toList,∃t,e.2=.int e.1 t
theorem Es.size{es:Array (Int×a_)}{ks:List Nat}(h:Es es ks):es.size=ks.length:=by have:=congrArg KM h.keys;simpa using this
theorem Es.key{es:Array (Int×a_)}{ks:List Nat}(h:Es es ks){e:Int×a_}(he:e∈es.toList):∃k∈ks,e.1=((k:Nat):Int):=by have:e.1∈es.toList.map (·.1):=w_.mpr ⟨e,he,rfl⟩;rw[h.keys]at this;obtain⟨k,hk,e2⟩:=w_.mp this;exact⟨k,hk,e2.symm⟩
def SA(h:Heap)(a:Addr)(led:Bool)(ks:List Nat):Prop:=∃es ep m mv,h.get? a=some { cls:=.type "set",dict:=none,data:=.set es ep (tb m mv led ks) }/\Mk m mv ks/\Es es ks
theorem ng{m mv:Nat}{led:Bool}{ks:List Nat}{es:Array (Int×a_)}(h:Mk m mv ks)(e:Es es ks):(tb m mv led ks).fits es.size=true:=by
 unfold SetTable.fits SetTable.fill tb;rw[e.size];have:=subs_len h.mem;have hm:7<=m:=by
  rcases h.mode with⟨e,_⟩|e
  .have:=congrArg Mm e;simp at this;omega
  .have:=congrArg Mm e;simp at this;omega
 simp;omega
section
variable{prog:z_}{w:Ht}{A:HA}{E:a_->g_->Prop}{s:g_}
theorem zI{es:Array (Int×a_)}{ks:List Nat}{m mv:Nat}(h:Mk m mv ks)(e:Es es ks):ElemsOf (Ld prog w) es.toList:=fun x hx=>by obtain⟨k,hk,e1⟩:=e.key hx;obtain⟨t,e2⟩:=e.vals x hx;refine⟨⟨x.1,by rw[e2];exact L9 _ _ _ _,?_⟩,by rw[e2];rfl⟩;rw[e1];exact(tJ (CB h.mem hk)).symm
theorem yN{α:Type}(xs:Array α)(p:Nat)(x:α)(hp:p<=xs.size):(Jf xs p x).toList=xs.toList.take p++x::xs.toList.drop p:=by unfold Jf;rw[Array.toList_append,Mn,LJ,LJ];have e:List.take (xs.size-p) (List.drop p xs.toList)=List.drop p xs.toList:=Lp (by simp);simp[List.extract,e]
theorem Af{es:Array (Int×a_)}{ks:List Nat}{m mv:Nat}{led:Bool}{k:Nat}(e:Es es ks)(T:Tk m mv led ks k)(t:Tok):Es (Jf es (pos k ks) ((k:Int),.int (k:Int) t)) (ins k ks):=by
 have hp:pos k ks<=es.size:=by rw[e.size];exact T.le
 refine⟨?_,fun x hx=>?_⟩
 .rw[yN _ _ _ hp,T.eq,HD,HD,y_,y_,LZ,L0,e.keys,LZ,L0]
 .rw[yN _ _ _ hp]at hx;rcases IJ.mp hx with z|z
  .exact e.vals x (List.mem_of_mem_take z)
  .rcases x_.mp z with z|z
   .subst z;exact⟨t,rfl⟩
   .exact e.vals x (List.mem_of_mem_drop z)
theorem FV{α:Type}(l:List α):(r_ l.length).filterMap (fun i=>l[i]?)=l:=by
 have:(r_ l.length).map (fun i=>l[i]?)=l.map some:=by
  refine JA fun i=>?_;rw[t_,t_];by_cases h:i<l.length
  .rw[IT h,j_ h,Ij,Ij,j_ h]
  .rw[HL (by simp;omega),HL (by omega)];rfl
 have e:(r_ l.length).filterMap (fun i=>l[i]?)=((r_ l.length).map (fun i=>l[i]?)).filterMap id:=by rw[L_];rfl
 rw[e,this,L_];simp
theorem B1{es:Array (Int×a_)}{ks:List Nat}{led:Bool}(hm:ks∈subs)(hl:ks.length=5)(e:Es es ks):relayAll (tb 7 0 led ks) es (Nd es.size)=(es,tb 31 1 led ks,false):=by
 have h1:=E_.mp Hn ks hm;rw[decide_eq_false (by omega),KW]at h1;have h2:=E_.mp h1 led (by cases led <;> simp);simp only[Hs,decide_eq_true_eq]at h2;have ek:es.map (·.1)=(ks.map fun k:Nat=>(k:Int)).toArray:=by rw[<-e.keys,<-Array.toList_map]
 have es5:es.size=5:=by rw[e.size,hl]
 have ep:(r_ 5).toArray.filterMap (fun i=>es[i]?)=es:=by have:=FV es.toList;rw[IR,es5]at this;apply M8;rw[List.filterMap_toArray];refine Oc ?_ this;show List.filterMap (fun i=>es[i]?) (r_ 5)=_;congr 1;funext i;rw[HQ]
 unfold relayAll;rw[ek,es5,h2.1];simp only[ep];rw[es5,h2.2];rfl
theorem wV{h:Heap}{a:Addr}{es es':Array (Int×a_)}{ep:Nat}{t t':SetTable}(ho:h.get? a=some { cls:=.type "set",dict:=none,data:=.set es ep t }):(h.update a (Nf es' t')).get? a=some { cls:=.type "set",dict:=none,data:=.set es' (ep+1) t' }:=by have:=Ih (Nf es' t') ho (by rw[putSet_of es' t' rfl];rfl);rw[putSet_of es' t' rfl]at this;exact this
theorem zY{a:Addr}{led:Bool}{ks:List Nat}{k:Nat}{t:Tok}{Q:Bool->g_->Prop}(hS:SA s.heap a led ks)(hk:k<7)(h:∀h' b,JU a s.heap h'->SA h' a led (if k∈ks then ks else ins k ks)->Q b { s with heap:=h' }):C_ (F_ prog w) A (setAddHashed a (.int (k:Int) t) (NU (k:Int))) Q E s:=by
 obtain⟨es,ep,m,mv,ho,M,e⟩:=hS;have hf:=ng (led:=led) M e;have hel:=zI (prog:=prog) (w:=w) M e;have hz:=e.size;have h7:=subs_len M.mem;unfold setAddHashed setAddHashedIn;refine Ip (e_ (J4 ho rfl hf ?_))
 dsimp only
 rw[byScan_of (knd:=Ld prog w) rfl (by rw[hz];unfold scanBound;omega) hel];simp only[↓reduceIte];unfold setAddByScan;refine e_ (e_ (Nb (e_ (wpAny_setScan_of (knd:=Ld prog w) (k:=(k:Int)) (L9 _ _ _ _) ho rfl hf hel ?_))));have his:∀x∈es.toList,(Ld prog w).is (k:Int) x.2=decide (x.1=(k:Int)):=fun x hx=>by obtain⟨t',e2⟩:=e.vals x hx;rw[e2];exact(KeyKind.is_eq_decide (knd:=Ld prog w) (L9 _ _ _ _) _).trans (by rw[HE];simp[eq_comm])
 cases hr:List.findIdx? (fun x=>(Ld prog w).is (k:Int) x.2) es.toList with
|some j=>
  dsimp only
  obtain⟨hj,hpj,_⟩:=List.findIdx?_eq_some_iff_getElem.mp hr;rw[his _ (JK hj)]at hpj;obtain⟨k',hk',e1⟩:=e.key (JK hj);have:k'=k:=by have:=of_decide_eq_true hpj;omega
  subst this;refine o_ (o_ ?_);have:=h s.heap false (Heap.SameBut.refl a s.heap) (by rw[if_pos hk'];exact⟨es,ep,m,mv,ho,M,e⟩);cases s;exact this
|none=>
  dsimp only
  have hnot:k∉ks:=fun hm=>by
   have:((k:Nat):Int)∈es.toList.map (·.1):=by rw[e.keys];exact w_.mpr ⟨k,hm,rfl⟩
   obtain⟨x,hx,ex⟩:=w_.mp this;have:=List.findIdx?_eq_none_iff.mp hr x hx;rw[his x hx,decide_eq_true ex]at this;cases this
  rw[if_neg hnot]at h;have T:=AD (led:=led) M hk hnot;have eI:=Af e T t;have hsz:(Jf es (pos k ks) ((k:Int),.int (k:Int) t)).size=ks.length+1:=by rw[eI.size,T.eq];simp;have:=T.le;omega
  have hL:layNew (tb m mv led ks) es (NU (k:Int)) (.int (k:Int) t)=(Jf es (pos k ks) ((k:Int),.int (k:Int) t),tb m mv led (ins k ks),false,false):=by unfold layNew;rw[tJ hk,T.free];simp only[T.put];unfold SetTable.orStandIn;rw[hsz,T.fits];rfl
  rw[hL]
  dsimp only
  refine e_ (o_ ?_);have hpl:(tb m mv led (ins k ks)).plain=true:=rfl;rw[if_pos hpl];refine e_ (o_ ?_);simp only[if_true];generalize hE:Jf es (pos k ks) ((k:Int),.int (k:Int) t)=es1 at eI hsz;refine e_ (Mo ho rfl ?_ (by rw[hsz,HF];omega));have g1:=wV (es':=es1) (t':=tb m mv led (ins k ks)) ho;have sb1:=Ie s.heap a (Nf es1 (tb m mv led (ins k ks)));rw[T.full];by_cases h5:(m==7&&ks.length==4)=true
  .rw[h5];simp only[Ng,NK,if_true];simp only[Hs,beq_iff_eq]at h5;have e1:m=7:=h5.1;have e2:mv=0:=by
    rcases M.mode with⟨q,_⟩|q
    .exact congrArg Prod.snd q
    .have:m=31:=congrArg Mm q;omega
   subst e1 e2;have l5:(ins k ks).length=5:=by rw[<-eI.size,hsz];omega
   rw[B1 T.mem l5 eI]
   dsimp only
   refine e_ (o_ ?_);refine e_ (Mo g1 rfl ?_ (by rw[hsz,HF];omega));exact o_ (o_ (h _ _ (sb1.trans (Ie _ a _)) ⟨_,_,31,1,wV g1,⟨T.mem,.inr rfl⟩,eI⟩))
  .have h5:(m==7&&ks.length==4)=false:=by simpa using h5
   rw[h5];simp only[Ng,LI,HK,if_false];refine o_ (o_ (h _ _ sb1 ⟨_,_,m,mv,g1,⟨T.mem,?_⟩,eI⟩));rcases M.mode with⟨q,hl⟩|q
   .left;refine⟨q,?_⟩;have hm:m=7:=congrArg Mm q;rw[hm]at h5;have:ks.length≠4:=by intro z;rw[z]at h5;cases h5
    rw[<-eI.size,hsz];omega
   .exact .inr q
end
def stp(ks:List Nat)(k:Nat):List Nat:=if k∈ks then ks else ins k ks
abbrev ledOf(w:Ht):Bool:=! w.params.followText "set-order"
theorem SA.keep{h h':Heap}{a:Addr}{led:Bool}{ks:List Nat}(x:SA h a led ks)(e:∀o,h.get? a=some o->h'.get? a=some o):SA h' a led ks:=by obtain⟨es,ep,m,mv,ho,M,E⟩:=x;exact⟨es,ep,m,mv,e _ ho,M,E⟩
section
variable{prog:z_}{w:Ht}{A:HA}{R:NZ->g_->Prop}{I:Addr}{fp wr:List Addr}{G:Array MX->Array MX->Prop}{n:Nat}{P:Nat->a_->Prop}{St:Nat->g_->Prop}
theorem DV(W:WalksS prog w A.in1 I fp wr G n P St){S:Addr}(hSf:S∉fp)(val:Nat->Nat)(hval:∀i v,P i v->val i<7/\∃t,v=.int (val i:Int) t){led:Bool}:∀(k i:Nat)(s:g_)(ks:List Nat),i+k=n->St i s->SA s.heap S led ks ->(∀s',Moved (S::wr) G s s'->SA s'.heap S led (((LK i k).map val).foldl stp ks)->R (.ok (.ret .none)) s') ->KL (F_ prog w) A (.builtin "set.update.loop" ⟨[.ref S,.ref I],[]⟩) R s:=by
 have hSw:S∉wr:=fun h=>hSf (W.sub _ h);have hsub:∀b∈wr,b∈S::wr:=fun b hb=>f_ _ hb;intro k
 induction k with
|zero=>
  intro i s ks hi hst hS hR;have hi':i=n:=by omega
  rw[hi']at hst;refine Ju F.entry_set_update_loop ?_;rw[Jg F.plain_set_update_loop _];show C_ _ A.in1 (LC (.ref I) >>= _) _ _ s;refine e_ (W.done s _ _ hst fun s' hm=>?_);exact o_ (hR s' (hm.mono hsub) (hS.keep fun o e=>hm.heap S o hSw e))
|succ k ih=>
  intro i s ks hi hst hS hR;refine Ju F.entry_set_update_loop ?_;rw[Jg F.plain_set_update_loop _];show C_ _ A.in1 (LC (.ref I) >>= _) _ _ s;refine e_ (W.item i s _ _ (by omega) hst fun v s' hP hst' hm=>?_);obtain⟨h7,t,rfl⟩:=hval i v hP;have hS':=hS.keep (h':=s'.heap) fun o e=>hm.heap S o hSw e;show C_ _ A.in1 (KJ [Value.int (val i:Int) t] (setAdd S (.int (val i:Int) t)) >>= _) _ _ s';refine e_ (Ip ?_);unfold setAdd;refine Ip (e_ ((Ld prog w).pyHash (k:=(val i:Int)) (L9 _ _ _ _) ?_));refine zY (s:={ s' with toks:=s'.toks+1 }) hS' h7 fun h' b hsb hS2=>?_;refine o_ ⟨K2 F.plain_set_update_loop _,ih (i+1) _ _ (by omega) (W.frame _ s' _ _ hst' (KO _) fun b hb o e=>?_) hS2 fun s'' hm'' hS''=>?_⟩
  .rw[hsb.2 b fun z:b=S=>hSf (by rw[<-z];exact hb)];exact e
  .refine hR s'' (Moved.trans W.gtrans ((hm.mono hsub).then_heap (KO _) fun b o hb e=>?_) hm'') ?_
   .rw[hsb.2 b fun z:b=S=>hb (by rw[z];exact c_)];exact e
   .rw[MB,y_,IP];exact hS''
end
section
variable{prog:z_}{w:Ht}{A:HA}{E:a_->g_->Prop}{s:g_}
abbrev gR(led:Bool):Obj:={ cls:=.type "set",dict:=none,data:=.set #[] 0 (.fresh 0 0 led) }
theorem Dg(a:a_){Q:a_->g_->Prop}(h:Q (.ref s.heap.objs.size) { s with heap:=s.heap.push (gR (ledOf w)) }):KL (F_ prog w) A (.call (.builtin "set.__new__") ⟨[.type "set",a],[]⟩) (wants Q E) s:=by
 refine MN ?_;show C_ _ A.in1 (checkBuiltinCall "set.__new__" ⟨[.type "set",a],[]⟩ >>= fun _=>again (.builtin "set.__new__" ⟨[.type "set",a],[]⟩)) _ _ s;refine e_ (MG (F.newCall_set_1 a) (o_ ⟨K2 F.plain_set_new _,Ju F.entry_set_new ?_⟩));rw[Jg F.plain_set_new _];have hsub:=sub_set_self;obtain⟨hp,g,d,tk,os⟩:=s;unfold JJ.«set.__new__» Nh
 dsimp only
 wp_walk
 refine JL (o_ ?_);simp only[newObj];exact e_ (wpAny_alloc (o_ (o_ h)))
theorem DN{h:Heap}{a:Addr}{led:Bool}(ho:h.get? a=some (gR led)):SA h a led []:=⟨#[],0,7,0,ho,⟨by decide+kernel,.inl ⟨rfl,by decide⟩⟩,⟨rfl,fun _ h=>by simp at h⟩⟩
end
section
variable{prog:z_}{w:Ht}{A:HA}{E:a_->g_->Prop}{s:g_}
theorem call_set{l:Addr}{items:Array a_}{ns:List Nat}{Q:a_->g_->Prop}(hh:A.handled=none)(hl:s.heap.IsList l items)(hn:ns.length=items.size)(hv:∀i v,items[i]? = some v->ns.getD i 0<7/\∃t,v=.int (ns.getD i 0:Nat) t)(h:∀(h':Heap)(tk:Nat),SA h' s.heap.objs.size (ledOf w) (ns.foldl stp [])->(∀b o,s.heap.get? b=some o->h'.get? b=some o)->Q (.ref s.heap.objs.size) { s with heap:=h',toks:=tk }):C_ (F_ prog w) A (call (.type "set") [.ref l]) Q E s:=by
 obtain⟨c,tl,hmro⟩:=F.called_set.mro;have hmade:=F.called_set.made;have hsub:=F.called_set.sub;refine wpAny_call (MN ?_);show C_ _ _ (callAny (.type "set") _) _ _ _;refine o_ ⟨Code.quiet_builtin _ (by decide+kernel),Ju F.entry_type_call ?_⟩;rw[Around.under_plain (weight_type_call_type "set" [.ref l] []) rfl];have h1:=F.called_set.notType;have h2:=F.called_set.canCreate;have hct:=F.typeCall_set_1 (.ref l)
 repeat (any_goals (first|assumption|wp_step))
 refine Km (Dg (.ref l) (E:=E) (Q:=fun obj s₁=>obj=.ref s.heap.objs.size/\s₁={ s with heap:=s.heap.push (gR (ledOf w)) }) ⟨rfl,rfl⟩) fun r s₁ hr=>?_;cases r with
|error e=>exact hr
|ok fl=>cases fl with
 |next=>exact hr.elim
 |brk=>exact hr.elim
 |cont=>exact hr.elim
 |ret obj=>
   obtain⟨rfl,rfl⟩:=hr;have hS:(s.heap.push (gR (ledOf w))).get? s.heap.objs.size=some (gR (ledOf w)):=u_ _ rfl;have hT:NL { s with heap:=s.heap.push (gR (ledOf w)) } (.ref s.heap.objs.size) "set" := ⟨_,hS,rfl⟩
   have hli:=F.called_set.init.lookup;have hbi:=F.called_set.init.bind (.ref s.heap.objs.size)
   repeat (any_goals (first|assumption|wp_step))
   refine Km (codeAny_call_builtin (R:=wants (fun r s₂=>r=.none/\∃h' tk,s₂={ s with heap:=h',toks:=tk }/\SA h' s.heap.objs.size (ledOf w) (ns.foldl stp [])/\∀b o,s.heap.get? b=some o->h'.get? b=some o) E) F.called_set.init.plain F.entry_set_init (check_set_init_1 hT ?_)) fun r₂ s₂ hr₂=>?_
   .obtain⟨ol,hol,hcl,nl,hdl⟩:=hl;obtain⟨ocls,odict,odata,oslots⟩:=ol;simp only at hcl hdl;subst hcl;subst hdl;have hol':(s.heap.push (gR (ledOf w))).get? l=some { cls:=.type "list",dict:=odict,data:=.seq items nl,slots:=oslots }:=h_ _ hol;have hsls:=F.sub_list_set;have hslf:=F.sub_list_frozenset;have hne:(Value.type "list" == Value.type "dict")=false:=by decide
    have hl1:(s.heap.push (gR (ledOf w))).IsList l items:=⟨_,hol',rfl,nl,rfl⟩
    unfold JJ.«set.__init__» noKeywords MO;generalize hPI:MZ=PI
    wp_walk
    subst hPI;refine Mi hl1 (e_ (wpAny_runValue ?_));have hlS:l<s.heap.objs.size:=p_ hol;have hh3:A.in1.in1.in1.handled=none:=by simp[hh]
    have hneI:l≠(s.heap.push (gR (ledOf w))).objs.size:=by rw[IE];exact B_ (JZ hlS)
    have hSf:s.heap.objs.size∉[(s.heap.push (gR (ledOf w))).objs.size,l]:=by rw[IE];simp only[x_,J_,or_false,not_or];exact⟨B_ (Iz _),Ir hlS⟩
    refine DV ((Oh hh3 _ l hneI items).toS) hSf (fun i=>ns.getD i 0) hv (led:=ledOf w) items.size 0 _ [] (by omega) ⟨⟨_,u_ _ rfl,rfl,rfl⟩,hl1.push _⟩ (DN (h_ _ hS)) fun s' hm hS'=>?_;obtain⟨h',g',d',tk',os'⟩:=s';have eg:g'=s.gens:=hm.gens;have ed:d'=s.drawn:=hm.drawn;have eo:os'=s.os:=hm.os;subst eg;subst ed;subst eo;have el:(LK 0 items.size).map (fun i=>ns.getD i 0)=ns:=by
     rw[<-Kf,<-hn];refine JA fun i=>?_;rw[t_];by_cases hi:i<ns.length
     .rw[IT hi,Ij,s_,j_ hi];rfl
     .rw[HL (by simp;omega),HL (by omega)];rfl
    rw[el]at hS';show C_ _ _ _ _ _ _;refine o_ ?_;show C_ _ _ (ret Value.none) _ _ _;refine o_ ⟨rfl,h',tk',rfl,hS',fun b o e=>?_⟩;have hb:b<s.heap.objs.size:=p_ e;refine hm.heap b o ?_ (h_ _ (h_ _ e));rw[IE];simp only[x_,J_,or_false,not_or];exact⟨B_ hb,B_ (JZ hb)⟩
   .cases r₂ with
   |error e=>exact hr₂
   |ok fl₂=>cases fl₂ with
    |ret r=>
      obtain⟨rfl,h',tk,rfl,hS',hk'⟩:=hr₂
      repeat (any_goals (first|assumption|wp_step))
      exact h _ _ hS' hk'
    |next=>exact hr₂.elim
    |brk=>exact hr₂.elim
    |cont=>exact hr₂.elim
end
theorem ka:Slot "set_iterator" "__next__" "set_iterator.__next__" :=
 .of (owner := "set_iterator") (n := "__next__") (by rw[MP,LA];kernel_rfl) (by decide+kernel) (by decide+kernel) (by decide+kernel)
  (by first|exact .inl (by decide+kernel)|exact .inr (by decide+kernel)) (by rw[LL];kernel_rfl)
theorem yT:Slot "set_iterator" "__iter__" "set_iterator.__iter__" :=
 .of (owner := "set_iterator") (n := "__iter__") (by rw[MP,LA];kernel_rfl) (by decide+kernel) (by decide+kernel) (by decide+kernel)
  (by first|exact .inl (by decide+kernel)|exact .inr (by decide+kernel)) (by rw[LL];kernel_rfl)
theorem yM:entryFor table "set_iterator.__next__" = some JJ.«set_iterator.__next__»:=entryFor_of_tree (by kernel_rfl)
theorem GL:entryFor table "set_iterator.__iter__" = some JJ.«dict_keyiterator.__iter__»:=entryFor_alias (id' := "dict_keyiterator.__iter__") (by kernel_rfl) rfl (by decide+kernel) (by kernel_rfl)
theorem Gx:entryFor table "set.__iter__" = some JJ.«frozenset.__iter__»:=entryFor_alias (id' := "frozenset.__iter__") (by kernel_rfl) rfl (by decide+kernel) (by kernel_rfl)
theorem yZ(a:a_):argsOk "set_iterator.__next__" ⟨[a],[]⟩:=by unfold argsOk;kernel_rfl
theorem F5(a:a_):argsOk "set_iterator.__iter__" ⟨[a],[]⟩:=by unfold argsOk;kernel_rfl
def SE(h:Heap)(S:Addr)(led:Bool)(ks:List Nat)(es:Array (Int×a_))(ep:Nat):Prop:=∃m mv,h.get? S=some { cls:=.type "set",dict:=none,data:=.set es ep (tb m mv led ks) }/\Mk m mv ks/\Es es ks
def du(h:Heap)(it S:Addr)(sl i n ep:Nat):Prop:=∃o,h.get? it=some o/\o.cls=.type "set_iterator"/\o.data=.fields #[Jy (sl:Int),Jy (i:Int),.ref S,Jy (n:Int),Jy (ep:Int)]
def db(w:Ht)(S:Addr)(ep:Nat)(es:Array (Int×a_)):List a_:=((if w.params.followText "set-order" then NT (w.params.setOrder S ep) es else es).toList.map (·.2))
def slotOf(w:Ht)(ks:List Nat)(i:Nat):Nat:=if w.params.followText "set-order" then 0 else if i=0 then 0 else ks.getD (i-1) 0+1
section
variable{prog:z_}{w:Ht}{A:HA}{E:a_->g_->Prop}{s:g_}{S:Addr}{ks:List Nat}{es:Array (Int×a_)}{ep:Nat}
theorem Dj(h:ks∈subs){i:Nat}(hi:i<=ks.length):KA ks.toArray (if i=0 then 0 else ks.getD (i-1) 0+1)=i:=by
 have h1:=E_.mp Hm ks h;simp only[Hs,decide_eq_true_eq]at h1;by_cases z:i=0
 .subst z;exact h1.1
 .rw[if_neg z];have:=E_.mp h1.2 (i-1) (D_.mpr (by omega));have:=of_decide_eq_true this;rw[this];omega
theorem vR(hS:SE s.heap S (ledOf w) ks es ep){i:Nat}(hi:i<=ks.length){Q:Option (a_×Nat)->g_->Prop}(h:Q (((db w S ep es)[i]?).map fun v=>(v,slotOf w ks (i+1))) s):C_ (F_ prog w) A (N7 S (slotOf w ks i) i ep) Q E s:=by
 obtain⟨m,mv,ho,M,e⟩:=hS;have hf:=ng (led:=ledOf w) M e;unfold N7;refine e_ (J4 ho rfl hf ?_)
 dsimp only
 unfold Ni;refine e_ (e_ (JL (o_ ?_)));show C_ _ _ (if w.params.followText "set-order" = true then _ else _) _ _ _;cases z:w.params.followText "set-order" with
|true=>
  simp only[if_true,bne_self_eq_false,HK,if_false];refine e_ ?_;unfold setWalk;refine e_ (J4 ho rfl hf ?_)
  dsimp only
  unfold Ni;refine e_ (e_ (JL (o_ ?_)));show C_ _ _ (if w.params.followText "set-order" = true then _ else _) _ _ _;rw[z];simp only[if_true];refine e_ (JL (o_ (o_ ?_)));have:(((db w S ep es)[i]?).map fun v=>(v,slotOf w ks (i+1)))=((NT (w.params.setOrder S ep) es)[i]?).map fun e=>(e.2,slotOf w ks i):=by unfold db slotOf;rw[z];simp only[if_true];rw[t_,HQ,Option.map_map];rfl
  rw[this]at h;exact h
|false=>
  simp only[HK,if_false];show C_ _ _ (if (! true&&decide (es.size>1))=true then _ else _) _ _ _;simp only[Bool.not_true,LD,HK,if_false];have hl:(!(tb m mv (ledOf w) ks).led && ! es.isEmpty)=false:=by show(!(! w.params.followText "set-order")&&_)=false;rw[z];rfl
  refine e_ (?_:C_ _ _ (if (!(tb m mv (ledOf w) ks).led && ! es.isEmpty)=true then _ else _) _ _ _);rw[hl];simp only[HK,if_false];refine o_ ?_;have hb:KA (tb m mv (ledOf w) ks).place (slotOf w ks i)=i:=by unfold slotOf;rw[z];exact Dj M.mem hi
  rw[hb];refine o_ ?_;have ez:=e.size;by_cases hlt:i<ks.length
  .have h1:es[i]? = some es[i]:=Array.getElem?_eq_getElem (by omega);have h2:(tb m mv (ledOf w) ks).place[i]? = some ks[i]:=by show ks.toArray[i]? = _;rw[LB];exact j_ hlt
   rw[h1,h2];have:(((db w S ep es)[i]?).map fun v=>(v,slotOf w ks (i+1)))=some (es[i].2,ks[i]+1):=by unfold db slotOf;rw[z];simp only[HK,if_false];rw[t_,HQ,h1];simp[hlt]
   rw[this]at h;exact h
  .have h1:es[i]? = none:=Array.getElem?_eq_none (by omega);have:(((db w S ep es)[i]?).map fun v=>(v,slotOf w ks (i+1)))=none:=by unfold db;rw[z];simp only[HK,if_false];rw[t_,HQ,h1];rfl
   rw[this]at h;rw[h1];exact h
end
section
variable{prog:z_}{w:Ht}{A:HA}{E:a_->g_->Prop}{s:g_}{S it:Addr}{ks:List Nat}{es:Array (Int×a_)}{ep i:Nat}
theorem du.typeIs{sl n:Nat}(h:du s.heap it S sl i n ep):s.TypeIs (.ref it) "set_iterator" := by obtain⟨o,ho,hc,_⟩:=h;exact⟨o,ho,hc⟩
theorem SE.entries(hS:SE s.heap S (ledOf w) ks es ep){Q:Array (Int×a_)->g_->Prop}(h:Q es s):C_ (F_ prog w) A (setEntries S) Q E s:=by obtain⟨m,mv,ho,M,e⟩:=hS;exact wpAny_setEntries_of ho rfl (ng M e) h
theorem SE.size{h:Heap}{led:Bool}(hS:SE h S led ks es ep):es.size=ks.length:=by obtain⟨m,mv,ho,M,e⟩:=hS;exact e.size
theorem Cv{v:a_}{Q:Option a_->g_->Prop}(hit:du s.heap it S (slotOf w ks i) i ks.length ep)(hS:SE s.heap S (ledOf w) ks es ep)(hi:i<=ks.length)(hx:(db w S ep es)[i]? = some v)(hQ:∀h',du h' it S (slotOf w ks (i+1)) (i+1) ks.length ep->JU it s.heap h'->Q (some v) { s with heap:=h' }):C_ (F_ prog w) A (LC (.ref it)) Q E s:=by
 obtain⟨o,ho,hc,hd⟩:=id hit;unfold LC;refine e_ (wpAny_attempt (Jq (name:=Lq "__next__") hit.typeIs ka (IB ka hit.typeIs yM ?_ (yZ _))));unfold JJ.«set_iterator.__next__»;refine e_ (o_ ?_)
 dsimp only
 refine e_ (wpAny_fieldsOf ho hd ?_)
 dsimp only[Jy]
 refine e_ (hS.entries ?_);rw[hS.size];simp only[bne_self_eq_false,HK,if_false];refine e_ (?_:C_ _ _ (N7 S (slotOf w ks i:Int).toNat (i:Int).toNat (ep:Int).toNat) _ _ _);rw[HN,HN,HN];refine vR hS hi ?_;rw[hx]
 dsimp only[Ij]
 refine e_ (J0 ho hd (by simp) ?_);have ho1:(s.heap.update it (NM (·.setIfInBounds 0 (Jy ((slotOf w ks (i+1):Nat):Int))))).get? it=some (NM (·.setIfInBounds 0 (Jy ((slotOf w ks (i+1):Nat):Int))) o):=Ih _ ho (J5 (Ik hd _));refine e_ (J0 ho1 (Ik hd _) (by simp) ?_);refine o_ ⟨_,rfl,o_ (hQ _ ⟨_,Ih _ ho1 (J5 (Ik (Ik hd _) _)),?_,?_⟩ ((Ie ..).trans (Ie ..)))⟩
 .exact(KQ ..).trans ((KQ ..).trans hc)
 .rw[Ik (Ik hd _)];simp[Jy]
theorem B9{Q:Option a_->g_->Prop}(hh:A.handled=none)(hit:du s.heap it S (slotOf w ks i) i ks.length ep)(hS:SE s.heap S (ledOf w) ks es ep)(hi:i<=ks.length)(hx:(db w S ep es)[i]? = none)(hQ:∀h',Ob it s.heap h'->Q none { s with heap:=h' }):C_ (F_ prog w) A (LC (.ref it)) Q E s:=by
 obtain⟨o,ho,hc,hd⟩:=id hit;unfold LC;refine e_ (wpAny_attempt (Jq (name:=Lq "__next__") hit.typeIs ka (IB ka hit.typeIs yM ?_ (yZ _))));unfold JJ.«set_iterator.__next__»;refine e_ (o_ ?_)
 dsimp only
 refine e_ (wpAny_fieldsOf ho hd ?_)
 dsimp only[Jy]
 refine e_ (hS.entries ?_);rw[hS.size];simp only[bne_self_eq_false,HK,if_false];refine e_ (?_:C_ _ _ (N7 S (slotOf w ks i:Int).toNat (i:Int).toNat (ep:Int).toNat) _ _ _);rw[HN,HN,HN];refine vR hS hi ?_;rw[hx]
 dsimp only[Lw]
 refine e_ (J0 ho hd (by simp) ?_);refine e_ ?_;simp only[newExc,newTuple];refine e_ (II ?_ (by size_fits));refine e_ (m:=Ky _ _) (MG (a:=Value.none) (by first|rfl|(simp only[Ky];rfl)) ?_);refine II ?_ (by size_fits);simp only[raiseNew];refine e_ (wpAny_handled ?_);rw[show A.in1.handled=none from hh];refine e_ (o_ (wpAny_throw ?_));refine e_ (MC (T := "StopIteration") (b:=true) ⟨_,u_ _ rfl,rfl⟩ isSubtype_stop ?_);exact o_ (hQ _ (((Ie ..).extBut.push _).push _))
theorem SE.keep{h h':Heap}{led:Bool}(x:SE h S led ks es ep)(e:∀o,h.get? S=some o->h'.get? S=some o):SE h' S led ks es ep:=by obtain⟨m,mv,ho,r⟩:=x;exact⟨m,mv,e _ ho,r⟩
theorem du.keep{h h':Heap}{sl n:Nat}(x:du h it S sl i n ep)(e:∀o,h.get? it=some o->h'.get? it=some o):du h' it S sl i n ep:=by obtain⟨o,ho,r⟩:=x;exact⟨o,e _ ho,r⟩
theorem yc{α:Type}:∀(l:List α)(i:Nat)(h:i<l.length),(l[i]::l.eraseIdx i).Perm l
|a::l,0,_=>KB _
|a::l,i+1,h=>by
  have hi:i<l.length:=by simpa using h
  have ih:=yc l i hi;refine(List.Perm.swap a l[i] (l.eraseIdx i)).trans ?_;exact List.Perm.cons a ih
theorem wT{α:Type}(next:Nat->Nat):∀(n k:Nat)(left:List α)(out:Array α),n=left.length->(Mp next n k left out).toList.Perm (out.toList++left)
|0,k,left,out,h=>by unfold Mp;have:left=[]:=Kg h.symm;rw[this,HU]
|n+1,k,left,out,h=>by
  unfold Mp;have hlt:next k%left.length<left.length:=Ka _ (by omega)
  rw[j_ hlt]
  dsimp only
  have ih:=wT next n (k+1) (left.eraseIdx (next k%left.length)) (out.push left[next k%left.length]) (by rw[List.length_eraseIdx,if_pos hlt];omega)
  refine ih.trans ?_;rw[Mn,Je];refine List.Perm.append_left _ ?_;exact yc left _ hlt
theorem nr(w:Ht)(S:Addr)(ep:Nat)(es:Array (Int×a_)):(db w S ep es).Perm (es.toList.map (·.2)):=by
 unfold db;refine List.Perm.map _ ?_;split
 .have:=wT (w.params.setOrder S ep) es.size 0 es.toList #[] (by simp);simpa[NT]using this
 .exact KB _
theorem DW(hh:A.handled=none)(hne:S≠it)(ks:List Nat)(es:Array (Int×a_))(hz:es.size=ks.length)(ep:Nat):Walks prog w A it [it,S] [it] ks.length (fun i v=>(db w S ep es)[i]? = some v) (fun i h=>(du h it S (slotOf w ks i) i ks.length ep/\SE h S (ledOf w) ks es ep)/\i<=ks.length) where
 sub:=fun b hb=>by simp at hb;simp[hb]
 frame:=fun _ _ _ st hk=>⟨⟨st.1.1.keep fun o e=>hk it (by simp) o e,st.1.2.keep fun o e=>hk S (by simp) o e⟩,st.2⟩
 item:=fun i s Q E hi st hQ=>by
  have hl:(db w S ep es).length=ks.length:=by rw[(nr w S ep es).length_eq,m_];simpa using hz
  have hx:(db w S ep es)[i]? = some (db w S ep es)[i]:=j_ (by omega);refine Cv st.1.1 st.1.2 st.2 hx fun h' hit' hs'=>?_;exact hQ _ h' s.toks hx ⟨⟨hit',st.1.2.keep fun o e=>hs'.extBut S o hne e⟩,hi⟩ fun b o hb e=>hs'.extBut b o (fun z=>hb (by simp[z])) e
 done:=fun s Q E st hQ=>by
  have hl:(db w S ep es).length=ks.length:=by rw[(nr w S ep es).length_eq,m_];simpa using hz
  exact B9 hh st.1.1 st.1.2 st.2 (HL (by omega)) fun h' he'=>hQ h' s.toks fun b o hb e=>he' b o (fun z=>hb (by simp[z])) e
 self:=fun _ _ _ _ st hQ=>by have hT:=st.1.1.typeIs;refine Mq hT yT (IB yT hT GL ?_ (F5 _));exact o_ ⟨_,rfl,"set_iterator",_,hT,ka.lookup,hQ⟩
end
section
variable{prog:z_}{w:Ht}{A:HA}{E:a_->g_->Prop}{s:g_}{S it:Addr}{ks:List Nat}{es:Array (Int×a_)}{ep i:Nat}
theorem SE.typeIs{led:Bool}(h:SE s.heap S led ks es ep):s.TypeIs (.ref S) "set" := by obtain⟨m,mv,ho,_⟩:=h;exact⟨_,ho,rfl⟩
abbrev kx(S:Addr)(n ep:Nat):Obj:={ cls:=.type "set_iterator",data:=.fields #[Jy 0,Jy 0,.ref S,Jy (n:Int),Jy (ep:Int)] }
theorem Dz{Q:a_->g_->Prop}(hS:SE s.heap S (ledOf w) ks es ep)(h:Q (.ref s.heap.objs.size) { s with heap:=s.heap.push (kx S ks.length ep) }):C_ (F_ prog w) A (MZ (.ref S)) Q E s:=by
 have hT:=hS.typeIs;refine Mq hT F.slot_set_iter (IB F.slot_set_iter hT Gx ?_ (F.args_set_iter_1 _));unfold JJ.«frozenset.__iter__»;refine e_ (o_ ?_);unfold NN;refine e_ (e_ (hS.entries (o_ ?_)));obtain⟨m,mv,ho,M,e⟩:=id hS;have hf:=ng (led:=ledOf w) M e;unfold setDrawn;refine e_ (e_ (J4 ho rfl hf ?_))
 dsimp only
 unfold Ni;refine e_ (e_ (JL (o_ ?_)));refine o_ ?_;have hd:(! w.params.followText "set-order" && (! true&&decide (es.size>1)))=false:=by simp
 refine(?_:C_ _ _ (if (! w.params.followText "set-order" && (! true&&decide (es.size>1)))=true then _ else _) _ _ _);rw[hd];simp only[HK,if_false];refine e_ (o_ ?_);refine e_ (wpAny_setEpoch_of ho rfl hf ?_);unfold newFields;refine e_ (II ?_ (by size_fits));rw[hS.size];exact o_ ⟨_,rfl,"set_iterator",_,⟨_,u_ _ rfl,rfl⟩,ka.lookup,h⟩
theorem F7{Q:List a_->g_->Prop}(hh:A.handled=none)(hS:SE s.heap S (ledOf w) ks es ep)(h:∀h' tk (vs:List a_),vs.length=ks.length->(∀(j:Nat)(v:a_),vs[j]? = some v->(db w S ep es)[j]? = some v)->(∀b o,s.heap.get? b=some o->h'.get? b=some o)->Q vs { s with heap:=h',toks:=tk }):C_ (F_ prog w) A (collect (.ref S)) Q E s:=by
 have hz:=hS.size;have h7:ks.length<=7:=by obtain⟨m,mv,_,M,_⟩:=hS;exact subs_len M.mem
 obtain⟨_,_,hoS,_⟩:=id hS;have hlt:S<s.heap.objs.size:=p_ hoS;unfold collect;refine e_ (wpAny_runValue (Ju F.entry_proto_collect ?_));rw[Jg F.plain_proto_collect _];show C_ _ A.in1 (newList [] >>= fun l=>again (.builtin "list.__iadd__" ⟨[l,.ref S],[]⟩)) _ _ s;refine e_ (II ?_);refine o_ ⟨K2 F.plain_list_iadd _,Ju F.entry_list_iadd ?_⟩;rw[Jg F.plain_list_iadd _];generalize hl0:({ cls:=.type "list",data:=.seq ([]:List a_).toArray }:Obj)=l0;have hS1:SE (s.heap.push l0) S (ledOf w) ks es ep:=hS.keep fun o e=>h_ _ e;have hl1:(s.heap.push l0).get? s.heap.objs.size=some l0:=u_ _ (by rw[<-hl0];rfl);show C_ _ A.in1 (Kr (.ref s.heap.objs.size) (.ref S) (.ref s.heap.objs.size)) _ _ { s with heap:=s.heap.push l0 };unfold Kr;refine e_ (wpAny_typeOf (SE.typeIs (s:={ s with heap:=s.heap.push l0 }) hS1) ?_);have h1:K3 (.ref s.heap.objs.size) (.ref S)=false:=by simp[K3,Ir hlt]
 rw[if_neg (by rw[h1];decide)];refine e_ (Dz (s:={ s with heap:=s.heap.push l0 }) hS1 ?_);refine e_ (Ip ?_);have hT2:NL { s with heap:=(s.heap.push l0).push (kx S ks.length ep) } (.ref S) "set" := SE.typeIs (led:=ledOf w) (ks:=ks) (es:=es) (ep:=ep) (hS1.keep fun o e=>h_ _ e);unfold MU;refine e_ (wpAny_specialOf hT2 F.slot_set_len.lookup ?_);generalize hid:("set.__len__" : String)=id0
 wp_delta
 rw[show splitId id0=some ("set","__len__")from by subst hid;decide+kernel];subst hid;refine e_ (MC (b:=true) hT2 (by rw[LL];kernel_rfl) ?_);rw[if_neg (by decide)]
 dsimp only
 rw[if_pos]
 rotate_left
 .decide+kernel
 refine e_ (wpAny_typeOf hT2 ?_);refine o_ ?_;rw[if_pos]
 rotate_left
 .decide+kernel
 refine e_ (Nb ?_);have hlt2:s.heap.objs.size<(s.heap.push l0).objs.size:=by rw[IE];exact Iz _
 have hS₁:((s.heap.push l0).push (kx S ks.length ep)).get? s.heap.objs.size=some { cls:=.type "list",data:=.seq ([]:List a_).toArray }:=by rw[hl0];exact h_ _ hl1
 refine e_ ?_;show C_ _ A.in1 (updateSeq s.heap.objs.size (·.push .none) >>= fun _=>updateSeq s.heap.objs.size (·.pop)) _ _ _;refine e_ (MQ hS₁ rfl ?_);have hS₂:=Ih (Ic (·.push Value.none)) hS₁ rfl;refine MQ hS₂ rfl ?_;have hS₃:=Ih (Ic (·.pop)) hS₂ rfl;have oth:∀b o,b≠s.heap.objs.size->((s.heap.push l0).push (kx S ks.length ep)).get? b=some o ->((((s.heap.push l0).push (kx S ks.length ep)).update s.heap.objs.size (Ic (·.push Value.none))).update s.heap.objs.size (Ic (·.pop))).get? b=some o:=fun b o hb e=>(Iu _ _ (IG hb)).trans ((Iu _ _ (IG hb)).trans e);have hneI:S≠(s.heap.push l0).objs.size:=B_ (Lm hlt hlt2);have hSf:s.heap.objs.size∉[(s.heap.push l0).objs.size,S]:=by simp only[x_,J_,or_false,not_or];exact⟨B_ hlt2,Ir hlt⟩
 have hh3:A.in1.handled=none:=by simp[hh]
 refine o_ ⟨K2 F.plain_extend_loop _,codeAny_extend_loopS ((DW (prog:=prog) (w:=w) hh3 hneI ks es hz ep).toS) (by rw[HF];omega) _ hSf _ ks.length 0 _ _ _ rfl (Hy _) ⟨⟨⟨_,oth _ _ (Ir hlt2) (u_ _ rfl),rfl,?_⟩,hS1.keep fun o e=>oth _ _ (B_ hlt) (h_ _ e)⟩,Hy _⟩ hS₃ (ItemsOf.nil _) fun s' acc' c' hm hS' hacc=>?_⟩
 .have:slotOf w ks 0=0:=by unfold slotOf;split <;> rfl
  rw[this];rfl
 show C_ _ A (load s.heap.objs.size >>= _) _ _ s';refine e_ (wpAny_load hS' (o_ ?_));obtain⟨h',g',d',tk',os'⟩:=s';have eg:g'=s.gens:=hm.gens;have ed:d'=s.drawn:=hm.drawn;have eo:os'=s.os:=hm.os;subst eg;subst ed;subst eo;refine h h' tk' acc'.toList (by rw[IR];exact hacc.1) (fun j v e=>hacc.2 j v (by rw[HQ]at e;exact e)) fun b o e=>?_;have hb:b<s.heap.objs.size:=p_ e;refine hm.heap b o ?_ (oth b o (B_ hb) (h_ _ (h_ _ e)));simp only[x_,J_,or_false,not_or];exact⟨B_ hb,B_ (Lm hb hlt2)⟩
end
theorem EQ{vs vs':List a_}(p:vs.Perm vs'):∀{ns:List Int},IV vs ns->∃ns',IV vs' ns'/\ns'.Perm ns:=by induction p with
|nil=>intro ns h;exact⟨ns,h,KB _⟩
|cons x _ ih=>intro ns h;cases h with
 |cons n t h=>obtain⟨ns',a,b⟩:=ih h;exact⟨_,.cons n t a,b.cons _⟩
|swap x y l=>intro ns h;cases h with
 |cons n t h=>cases h with
  |cons n' t' h=>exact⟨_,.cons n' t' (.cons n t h),List.Perm.swap _ _ _⟩
|trans _ _ ih1 ih2=>intro ns h;obtain⟨n1,a,b⟩:=ih1 h;obtain⟨n2,c,d⟩:=ih2 a;exact⟨n2,c,d.trans b⟩
theorem vX:∀{l:List (Int×a_)}{ks:List Nat},l.map (·.1)=ks.map (fun k:Nat=>(k:Int))->(∀e∈l,∃t,e.2=.int e.1 t)->IV (l.map (·.2)) (ks.map fun k:Nat=>(k:Int))
|[],[],_,_=>.nil
|[],_::_,h,_=>by simp at h
|_::_,[],h,_=>by simp at h
|e::l,k::ks,h,hv=>by
  rw[y_,y_]at h;injection h with h1 h2
  obtain⟨t,ht⟩:=hv e c_;rw[y_,y_,ht,h1];exact .cons _ t (vX h2 fun x hx=>hv x (f_ _ hx))
section
variable{prog:z_}{w:Ht}{A:HA}{E:a_->g_->Prop}{s:g_}{S:Addr}{ks:List Nat}{es:Array (Int×a_)}{ep:Nat}
theorem sorted_set{Q:a_->g_->Prop}(hh:A.handled=none)(hS:SE s.heap S (ledOf w) ks es ep)(h:∀(D:Addr)(h':Heap)(tk c:Nat)(out:Array a_)(ns':List Int),s.heap.get? D=none->h'.get? D=some { cls:=.type "list",data:=.seq out c }->IV out.toList ns'->ns'.Perm (ks.map fun k:Nat=>(k:Int))->ns'.Pairwise (·<=·)->(∀b o,s.heap.get? b=some o->h'.get? b=some o)->Q (.ref D) { s with heap:=h',toks:=tk }):C_ (F_ prog w) A (call (.builtin "sorted") [.ref S]) Q E s:=by
 have h7:ks.length<=7:=by obtain⟨m,mv,_,M,_⟩:=hS;exact subs_len M.mem
 have hE:Es es ks:=by obtain⟨_,_,_,_,e⟩:=hS;exact e
 obtain⟨_,_,hoS,_⟩:=id hS;have hlt:S<s.heap.objs.size:=p_ hoS;refine KI kind_sorted plain_sorted entry_sorted (args_sorted1 _) ?_;unfold JJ.«sorted»;refine e_ (m:=checkCount "sorted" 1 1 _) (o_ ?_);refine e_ (F7 (by simp[hh]) hS fun h1 tk vs hl hv kp=>?_);have ev:vs=db w S ep es:=by
  have ho:=(nr w S ep es).length_eq;rw[m_]at ho;have ho':(db w S ep es).length=ks.length:=by rw[ho];simpa using hE.size
  refine JA fun j=>?_;by_cases hj:j<vs.length
  .rw[j_ hj];exact(hv j _ (j_ hj)).symm
  .rw[HL (by omega),HL (by omega)]
 obtain⟨ns,hI,hp⟩:=EQ (nr w S ep es).symm (vX hE.keys hE.vals);rw[<-ev]at hI;have hn1:h1.get? h1.objs.size=none:=Ke (q_ _);refine e_ (LY ?_);have hoL:(h1.push (Jo "list" vs.toArray 0)).get? h1.objs.size=some (Jo "list" vs.toArray 0):=u_ _ rfl;show C_ _ _ _ _ _ { s with heap:=h1.push (Jo "list" vs.toArray 0),toks:=tk };refine e_ (Ip (IB slot_list_sort ⟨_,hoL,rfl⟩ MI (list_sort_tree hoL hI (by omega) fun out ns' a1 a2 a3=>⟨_,rfl,?_⟩) (args_list_sort _)));obtain⟨e1,ho1⟩:∃e1,((h1.push (Jo "list" vs.toArray 0)).update h1.objs.size (Ic fun _=>#[])).get? h1.objs.size=some (Jo "list" #[] e1):=⟨_,Kl hoL (fun _=>#[])⟩
 have ho2:((((h1.push (Jo "list" vs.toArray 0)).update h1.objs.size (Ic fun _=>#[])).push (Jo "tuple" vs.toArray 0)).push (Jo "list" #[] 0)).get? h1.objs.size=some (Jo "list" #[] e1):=h_ _ (h_ _ ho1);have ho3:=Kl ho2 (fun _=>out);refine o_ ⟨_,rfl,h h1.objs.size (sortedHeap (h1.push (Jo "list" vs.toArray 0)) h1.objs.size vs out) tk _ out ns' ?_ ho3 a1 (a2.trans hp) a3 fun b o e=>?_⟩
 .cases z:s.heap.get? h1.objs.size with
 |none=>rfl
 |some o=>rw[kp _ o z]at hn1;cases hn1
 .have e1:=kp b o e;have hb:h1.objs.size≠b:=Ir (p_ e1);unfold sortedHeap;rw[Iu _ _ hb];refine h_ _ (h_ _ ?_);rw[Iu _ _ hb];exact h_ _ e1
end
end HS
namespace DL
open PySem PySem.Spec PyProof.Rows L2
def cU(ns:List Nat):List V:=ns.map fun k:Nat=>V.int (k:Int)
def lW(X:Cx):List V->Hp->VK->Prop:=fun xs H Q=>∃p ns,xs=[.ref p]/\aL X.K H p (cU ns)/\(∀k∈ns,k<7)/\∀l,H l=none->Q (.ref l) (upd H l (.lst (cU (ns.foldl HS.stp []))))
theorem xU:∀{ns:List Nat}{its:List a_},ai (cU ns) its->its.length=ns.length/\∀(i:Nat)(v:a_),its[i]? = some v->∃t,v=.int (ns.getD i 0:Nat) t
|[],_,r=>by cases r;exact⟨rfl,fun i v e=>by simp at e⟩
|k::ns,_,r=>by cases r with
 |@cons _ u _ us r1 t=>
   obtain⟨h1,h2⟩:=xU t;obtain⟨t',rfl⟩:=(show ∃t,u=Value.int (k:Int) t from r1)
   refine⟨congrArg (· + 1) h1,fun i v e=>?_⟩;cases i with
  |zero=>rw[List.getElem?_cons_zero]at e;cases e;exact⟨t',rfl⟩
  |succ i=>exact h2 i v (by simpa using e)
theorem xE:∀{out:List a_}{ns:List Nat},IV out (ns.map fun k:Nat=>(k:Int))->ai (cU ns) out
|_,[],h=>by cases h;exact .nil
|_,k::ns,h=>by cases h with
 |cons _ t h=>exact .cons ⟨t,rfl⟩ (xE h)
theorem zE:(HS.subs.all fun ks=>decide (ks.Pairwise (·<=·)))=true:=by decide+kernel
section
variable{X:Cx}{g:GE}{m:List Md}{a:Expr}{t:TA}{fl:ag->Res (List D)}{pos p pos2 p2:Pos}
theorem FU(hc:X.calm=true)(hg:Gl X "sorted")(hm:X.mg "sorted" = none)(hg2:Gl X "set")(hm2:X.mg "set" = none)(ha:PA X [a] t)(he:l_ [.Call (.Name "set" p2) [a] [] pos2] X.env=(false,eval (.Call (.Name "set" p2) [a] [] pos2) X.env)::l_ [] X.env:=by rfl)(he2:l_ [a] X.env=(false,eval a X.env)::l_ [] X.env:=by rfl):PE X (.Call (.Name "sorted" p) [.Call (.Name "set" p2) [a] [] pos2] [] pos) (lU (lW X) t):=by
 intro pz s σ H Q I h;have hh:=I.ok.hd hc;refine Js (ja I hg hm boot_sorted ?_ (by decide) (by decide));refine J8 ?_ he rfl;rw[he];show C_ _ _ (spliced ((false,eval (.Call (.Name "set" p2) [a] [] pos2) X.env)::backTo pos (l_ [] X.env))) _ _ s;refine L5 (aF (Q:=fun u s1=>∃(S:Addr)(ns:List Nat)(es:Array (Int×a_))(ep:Nat)(H1:Hp),u=.ref S/\Inv X pz σ H1 s1/\HS.SE s1.heap S (HS.ledOf X.w) (ns.foldl HS.stp []) es ep/\∀l,H1 l=none->Q (.ref l) (upd H1 l (.lst (cU (ns.foldl HS.stp []))))) ?_ ?_)
 .refine Js (ja I hg2 hm2 boot_set ?_ (by decide) (by decide));refine IU (aF (ha pos2 pz s σ H _ I h) fun us s1 ⟨vs,H1,I1,r1,q1⟩=>?_) he2 rfl;obtain⟨b,ns,rfl,hq,h7,q⟩:=q1;obtain⟨u,rfl,rx⟩:=L2.bA r1;cases rx;obtain⟨its,rv,pl,hz⟩:=I1.list hq;obtain⟨l1,l2⟩:=xU rv;refine HS.call_set (ns:=ns) hh pl.isList (by simpa using l1.symm) (fun i v e=>?_) fun h' tk hS kp=>?_
  .rw[LB]at e;have hi:i<ns.length:=by rw[<-l1];exact(i_.mp e).1
   refine⟨?_,l2 i v e⟩;rw[s_,j_ hi];exact h7 _ (JK hi)
  .obtain⟨es,ep,mm,mv,ho,M,e⟩:=hS;exact⟨_,ns,es,ep,H1,rfl,I1.kept kp,⟨mm,mv,ho,M,e⟩,q⟩
 .rintro u s1 ⟨S,ns,es,ep,H1,rfl,I1,hS,q⟩
  refine Mf ?_;have hmem:ns.foldl HS.stp []∈HS.subs:=by obtain⟨_,_,_,M,_⟩:=hS;exact M.mem
  refine HS.sorted_set hh hS fun D h' tk c out ns' hn ho hI hp hs kp=>?_;have hs2:(ns.foldl HS.stp []).Pairwise (·<=·):=of_decide_eq_true (E_.mp zE _ hmem);have e:=mN hp hs (Jh.mpr (hs2.imp fun h=>Int.ofNat_le.mpr h));rw[e]at hI;have rv:=xE hI;have hL:D≠X.env.locals:=fun z=>by obtain⟨m',hm',_⟩:=I1.loc;obtain⟨o,_,_,hg',_⟩:=hm';rw[z,hg']at hn;cases hn
  have hH:H1 D=none:=by cases z:H1 D with
  |none=>rfl
  |some u=>exact absurd hn (bq.isS (I1.hok D u z))
  have l7:=HS.subs_len hmem;refine⟨.ref D,_,Inv.laidN I1 hn hL (fun b o _ e=>kp b o e) (fun m ⟨o,es,ep,e,z⟩=>⟨o,es,ep,kp _ _ e,z⟩) (by simpa using ho) rv (by unfold cU;rw[m_,HF];omega) tk,rfl,q D hH⟩
def gZ:List D->Option (List Nat)
|[]=>some []
|.int i::ds=>if 0<=i/\i<7 then(gZ ds).map (i.toNat::·)else none
|_=>none
def mM:List D->Option D
|[.lst ds]=>(gZ ds).map fun ns=>.lst ((ns.foldl HS.stp []).map fun k:Nat=>D.int (k:Int))
|_=>none
theorem vQ{K:W.Frag}{G:GH}{H:Hp}(gk:aC K G H):∀{ds:List D}{xs:List V}{ns:List Nat},aV K G xs ds->gZ ds=some ns->xs=cU ns/\∀k∈ns,k<7
|[],_,_,r,e=>by cases r;cases e;exact⟨rfl,fun _ h=>(nomatch h)⟩
|d::ds,_,ns,r,e=>by cases r with
 |@cons x _ xs _ r1 t=>
  unfold gZ at e;split at e
  .rename_i q;cases q
  .rename_i i ds' q;cases q;split at e
   .rename_i hi;cases ek:gZ ds with
   |none=>rw[ek]at e;cases e
   |some ns'=>
     rw[ek]at e;cases e;obtain⟨h1,h2⟩:=vQ gk t ek;have:=r1.int gk;subst this;refine⟨?_,fun k hk=>?_⟩
     .rw[h1];show V.int i::cU ns'=V.int ((i.toNat:Nat):Int)::cU ns';rw[LS hi.1]
     .rcases x_.mp hk with rfl|hk
      .omega
      .exact h2 k hk
   .cases e
  .cases e
theorem uL{K:W.Frag}{G:GH}:∀ns:List Nat,aV K G (cU ns) (ns.map fun k:Nat=>D.int (k:Int))
|[]=>.nil
|k::ns=>.cons (.scl (.int _)) (uL ns)
theorem EE(hc:X.calm=true)(hg:Gl X "sorted")(hm:X.mg "sorted" = none)(hg2:Gl X "set")(hm2:X.mg "set" = none)(ha:fY X g m [a] fl)(he:l_ [.Call (.Name "set" p2) [a] [] pos2] X.env=(false,eval (.Call (.Name "set" p2) [a] [] pos2) X.env)::l_ [] X.env:=by rfl)(he2:l_ [a] X.env=(false,eval a X.env)::l_ [] X.env:=by rfl):SO X g m (.Call (.Name "sorted" p) [.Call (.Name "set" p2) [a] [] pos2] [] pos) (fC fl mM):=by
 refine mK (R:=lW X) ?_ (FU hc hg hm hg2 hm2 ha he he2);intro G H vs ds d Q gk rs e q;unfold mM at e;split at e
 .rename_i zs;cases ek:gZ zs with
 |none=>rw[ek]at e;cases e
 |some ns=>rw[ek]at e;cases e;cases rs with
  |cons r1 t=>cases t;obtain⟨b,xs,rfl,hs,r2⟩:=r1.lst gk;obtain⟨rfl,h7⟩:=vQ gk r2 ek;exact⟨b,ns,rfl,hs,h7,fun l hl=>q l G _ (Grow.new gk hl _) hl ⟨gk.isN hl,.lst bM (uL _)⟩⟩
 .cases e
end
end DL
namespace DL
open PySem PySem.Spec PyProof.Rows L2 PySem.W PySem.Calls
def rO(K:W.Frag)(nm:Str)(c:Addr):Bool:=K.all fun e=>match e.2.data with
|.cls cd=>cd.name != nm || e.1==c
|_=>true
structure CF(K:W.Frag)(nm:Str)(c:Addr)(bm:List a_):Prop where
 xa:XA K c bm
 xn:XN K nm c
 un:rO K nm c=true
theorem CF.eq{K:W.Frag}{nm:Str}{c C:Addr}{bm:List a_}(f:CF K nm c bm)(h:XN K nm C):C=c:=XN.uniq h f.un
end DL
namespace DL
open PySem PySem.Spec PyProof.Rows L2 PySem.W PySem.Calls PySem.Builtin PySem.Builtin.Str
end DL
section
namespace L2
open PySem PySem.Spec PyProof.Rows
theorem dh{sc:JC}{x:Str}(h:(match sc.names.lookup x with|some .local=>true|some .cell=>true|_=>false)=true):fO sc x:=by
 revert h;unfold fO;split <;> intro h
 .exact .inl (by assumption)
 .exact .inr (by assumption)
 .cases h
theorem bZ{N P:List Str}{sc:JC}(h:(decide (sc.kind=.function) && ! sc.isCoroutine && ! sc.isGenerator&&decide N.Nodup&&decide (N.take P.length=P)&&(P.all fun x=>match sc.names.lookup x with|some .local=>true|some .cell=>true|_=>false)&&sc.names.all fun y=>decide (y.2≠.free))=true:=by decide+kernel):FnScope N P sc:=by simp only[Hs,decide_eq_true_eq,Bool.not_eq_true',E_]at h;obtain⟨⟨⟨⟨⟨⟨a,b⟩,c⟩,d⟩,e⟩,f⟩,k⟩:=h;exact⟨a,b,c,d,e,fun x hx=>dh (f x hx),k⟩
end L2
namespace DL
open PySem PySem.Spec PyProof.Rows L2
section
variable{X:Cx}{g:GE}{m mb ms:List Md}{e a b:Expr}{es:List Expr}{f fa fb:FE}{x:Str}{p pos pos':Pos}{ro:Bool}{fl:ag->Res (List D)}{k:Nat}{ps:List Str}{F:List D->Res D}
theorem bE(h:SE X g m e f):SB X g m e f:=SE.toB h
theorem iB{i:Int}{j:Nat}:SB X g m (.Constant (.int i) j pos) fun _=>.ok (.int i):=bE tZ
theorem xB(hu:X.A.units+1<Jl)(ha:SB X g m a fa)(hb:SB X g m b fb)(hs:m4 b:=by intro _ _;rfl):SB X g m (.Subscript a b pos) (f2 fa fb aK):=bE (fZ hu ha hb hs)
theorem bP(i:Nat)(hN:X.N.Nodup)(he:SE X g m e f)(hi:X.N[i]? = some x:=by rfl)(hx:fO X.env.scope x:=by exact dh rfl)(hs:J7 e (some (.Name x pos')) pos.line X.env=pure false:=by rfl)(hf:X.fn x=true\/X.env.scope.names.lookup x=some .local:=by first|exact .inl rfl|exact .inr rfl|assumption):SS X g ro mb m (.Assign [.Name x pos'] e pos) (am m i f) (m.set i .sh):=As i hN hi hx he hs hf
theorem bI(i:Nat)(hN:X.N.Nodup)(hi:X.N[i]? = some x:=by rfl)(hx:fO X.env.scope x:=by exact dh rfl)(hf:X.fn x=true\/X.env.scope.names.lookup x=some .local:=by first|exact .inl rfl|exact .inr rfl|assumption):SG X g m (.Name x pos) (aG i) (m.set i .sh):=BC i hN hi hx hf
theorem bz(c:Callee X.prog X.w X.K X.mg X.base x ps [] k false ms F)(ha:fL X g m (e::es) ms fl)(hr:Room k X.A:=by exact Room.mono ‹_› (by decide))(hg:Gl X x:=by rfl)(hdb:(x==("__debug__" : Str))=false:=by decide)(he:l_ (e::es) X.env=(false,eval e X.env)::l_ es X.env:=by rfl)(hpl:(backTo pos (l_ es X.env)).any (·.1)=false:=by rfl):SE X g m (.Call (.Name x p) (e::es) [] pos) (aJ fl [] F):=vA (dds:=[]) c hr ha (by simp) hg .nil .nil hdb he hpl
end
theorem cm{P:z_}{w:Ht}{K:W.Frag}{mg:Str->Option a_}{base:Heap}{x:Str}{st:Stmt}{N ps:List Str}{k:Nat}{ro:Bool}{ms:List Md}{fs:FS}{m':List Md}(A:DefAt K mg x st)(S:FnScope N ps (az st))(hbody:∀(f:Addr)(cdv:a_)(A:HA)(outer:List Env)(s:g_)(H:Hp)(g:GE)(E:XK),Room k (A.deeper (JW x (az st) s.heap.objs.size f cdv))->(A.deeper (JW x (az st) s.heap.objs.size f cdv)).units+1<Jl ->dU (aR bB P w K mg base N x (az st) f cdv A outer s H E).nox g ro [] (gP N.length ms) (c6 st) fs m')(hms:ms.length=ps.length:=by rfl)(hb:∀(kV doc pm:a_)(an:Option Addr)(cdv ct:a_)(us:List a_),us.length=ps.length->K9 (W.fnOf x x (eZ st) (c6 st) (az st) .none kV doc pm an cdv ct) ⟨us,[]⟩=pure (ps.zip us):=by intro _ _ _ _ _ _ us hl;rcases us with _|⟨_,_|⟨_,_|⟨_,_|⟨_,_|⟨_,_|⟨_,_⟩⟩⟩⟩⟩⟩ <;> first|(exfalso;revert hl;simp;done)|kernel_rfl):Callee P w K mg base x ps [] (k+1) ro ms fun ds=>aD ro (fs (aS N.length ds)):=Bv A S hms hb fun f cdv A outer s H g E hr=>hbody f cdv A outer s H g E hr (jP hr)
end DL
end
section
namespace Rg
theorem jh{α:Type}[DecidableEq α]:∀{l m:List α},l.Nodup->(∀x∈l,x∈m)->l.length<=m.length
|[],_,_,_=>Hy _
|a::l,m,hn,hs=>by
  have hn':=Hu.mp hn;have h1:=jh (l:=l) (m:=m.erase a) hn'.2 fun x hx=>by
   have hxa:x≠a:=by rintro rfl;exact hn'.1 hx
   exact(JG hxa).mpr (hs x (f_ _ hx))
  have ha:a∈m:=hs a c_;rw[List.length_erase_of_mem ha]at h1;have:=Jt ha;simp only[IA];omega
theorem qw{α:Type}(p:α->Bool)(l:List α):(l.filter p).length+(l.filter fun x=>! p x).length=l.length:=by induction l with
|nil=>rfl
|cons a l ih=>simp only[HW];cases p a <;> simp <;> omega
theorem lu{α:Type}{p:α->Bool}{l:List α}(h:l.Nodup):(l.filter p).Nodup:=List.Pairwise.filter p h
structure S where
 line:List Nat
 things:List Nat
section
variable(W:Nat->List Nat)(O:Nat->Option Nat)
def dR(row things:List Nat):Nat:=(row.find? fun x=>decide (x∈things)).getD 0
def fg(s:S)(h:Nat):Nat:=dR (W h) s.things
def pt(s:S)(x:Nat):Nat:=(s.line.find? fun h=>decide (O h=some x)).getD (s.line.headD 0)
def nxt(s:S)(h:Nat):Nat:=pt O s (fg W s h)
def minus(s:S)(C:List Nat):S:=⟨s.line.filter fun h=>decide (h∉C),s.things.filter fun x=>decide (x∉C.map (fg W s))⟩
def it{α:Type}(f:α->α):Nat->α->α
|0,x=>x
|n+1,x=>it f n (f x)
theorem cM{α:Type}(f:α->α):∀(a b:Nat)(x:α),it f (a+b) x=it f b (it f a x)
|0,b,x=>by rw[Lu];rfl
|a+1,b,x=>by rw[Nat.add_right_comm];exact cM f a b (f x)
theorem d7{α:Type}(f:α->α)(n:Nat)(x:α):it f (n+1) x=f (it f n x):=cM f n 1 x
theorem jW{α:Type}(f:α->α){p:Nat}{x:α}(h:it f p x=x):∀k,it f (p*k) x=x
|0=>rfl
|k+1=>by rw[Nat.mul_succ,cM,jW f h k,h]
structure Ok(s:S):Prop where
 nl:s.line.Nodup
 nt:s.things.Nodup
 le:s.line.length<=s.things.length
 row:∀h∈s.line,∀x∈s.things,x∈W h
 inj:∀h k x,O h=some x->O k=some x->h=k
 own:∀h∈s.line,∀x,O h=some x->x∈s.things
structure Cyc(s:S)(C:List Nat):Prop where
 sub:∀h∈C,h∈s.line
 cl:∀h∈C,nxt W O s h∈C
 per:∀h∈C,∃k,it (nxt W O s) (k+1) h=h
variable{W O}
theorem Dk{row things:List Nat}(h:∃x∈row,x∈things):dR row things∈things:=by unfold dR;cases e:row.find? fun x=>decide (x∈things)with
|none=>obtain⟨x,h1,h2⟩:=h;have:=KF.mp e x h1;simp[h2]at this
|some x=>have:=MR e;simpa using this
variable{s:S}
theorem Ok.some_thing(k:Ok W O s){h:Nat}(hh:h∈s.line):∃x∈W h,x∈s.things:=by have h1:=Jt hh;have h2:0<s.things.length:=A_ h1 k.le;obtain⟨x,hx⟩:=List.exists_mem_of_length_pos h2;exact⟨x,k.row h hh x hx,hx⟩
theorem Ok.tgt_mem(k:Ok W O s){h:Nat}(hh:h∈s.line):fg W s h∈s.things:=Dk (k.some_thing hh)
theorem Ce{x:Nat}(h:s.line≠[]):pt O s x∈s.line:=by unfold pt;cases e:s.line.find? fun h=>decide (O h=some x)with
|none=>cases q:s.line with
 |nil=>exact absurd q h
 |cons a l=>simp[List.headD]
|some y=>exact List.mem_of_find?_eq_some e
theorem uT(k:Ok W O s){h x:Nat}(hh:h∈s.line)(ho:O h=some x):pt O s x=h:=by unfold pt;cases e:s.line.find? fun h=>decide (O h=some x)with
|none=>have:=KF.mp e h hh;simp[ho]at this
|some y=>have:=MR e;simp only[decide_eq_true_eq]at this;exact k.inj y h x this ho
theorem j2{h:Nat}(hl:s.line≠[]):nxt W O s h∈s.line:=Ce hl
theorem Cyc.it_mem{C:List Nat}(c:Cyc W O s C){h:Nat}(hh:h∈C):∀n,it (nxt W O s) n h∈C:=by
 intro n
 induction n generalizing h with
|zero=>exact hh
|succ n ih=>exact ih (c.cl h hh)
theorem CZ{α:Type}{f:α->α}{x y:α}{a b:Nat}(hx:it f (a+1) x=x)(hy:it f (b+1) y=y)(e:f x=f y):x=y:=by
 have h1:=jW f hx (b+1);have h2:=jW f hy (a+1);rw[Nat.mul_comm]at h2;have h3:(a+1)*(b+1)=1+(a*b+a+b):=by rw[Od,Nat.mul_add];omega
 rw[h3,cM]at h1 h2;have e1:it f 1 x=it f 1 y:=e;rw[e1]at h1;rw[<-h1,h2]
theorem Cyc.out{C E:List Nat}(c:Cyc W O s C)(e:Cyc W O s E){h:Nat}(hc:h∈C)(he:h∉E):nxt W O s h∉E:=by intro z;obtain⟨k,hk⟩:=c.per h hc;exact he (by rw[<-hk];exact e.it_mem z k)
theorem AC{C E:List Nat}(c:Cyc W O s C)(e:Cyc W O s E){h k:Nat}(hc:h∈C)(he:k∈E)(q:fg W s h=fg W s k):h=k:=by obtain⟨a,ha⟩:=c.per h hc;obtain⟨b,hb⟩:=e.per k he;exact CZ ha hb (by unfold nxt;rw[q])
theorem zX(k:Ok W O s){C:List Nat}(c:Cyc W O s C):Ok W O (minus W s C) where
 nl:=lu k.nl
 nt:=lu k.nt
 le:=by
  have h1:=qw (fun h=>decide (h∉C)) s.line;have h2:=qw (fun x=>decide (x∉C.map (fg W s))) s.things;have h3:(s.things.filter fun x=>! decide (x∉C.map (fg W s))).length<=((s.line.filter fun h=>! decide (h∉C)).map (fg W s)).length:=by refine jh (lu k.nt) fun x hx=>?_;obtain⟨_,hx⟩:=HC.mp hx;simp only[decide_not,Bool.not_not,decide_eq_true_eq]at hx;obtain⟨h,h1,h2⟩:=w_.mp hx;exact w_.mpr ⟨h,HC.mpr ⟨c.sub h h1,by simpa using h1⟩,h2⟩
  rw[m_]at h3;have:=k.le;show(s.line.filter _).length<=(s.things.filter _).length;omega
 row:=fun h hh x hx=>k.row h (HC.mp hh).1 x (HC.mp hx).1
 inj:=k.inj
 own:=fun h hh x hx=>by obtain⟨h1,h2⟩:=HC.mp hh;simp only[decide_eq_true_eq]at h2;refine HC.mpr ⟨k.own h h1 x hx,?_⟩;simp only[decide_eq_true_eq];intro z;obtain⟨b,b1,b2⟩:=w_.mp z;have:=c.cl b b1;unfold nxt at this;rw[b2,uT k h1 hx]at this;exact h2 this
def less(E C:List Nat):List Nat:=E.filter fun h=>decide (h∉C)
theorem EL{p q:Nat->Bool}{l:List Nat}(h:∀x∈l,p x=q x):l.filter p=l.filter q:=by induction l with
|nil=>rfl
|cons a l ih=>rw[HW,HW,h a c_,ih fun x hx=>h x (f_ _ hx)]
inductive TTC(W:Nat->List Nat)(O:Nat->Option Nat)(a:Nat->Nat):S->Prop where
 |nil {s:S}:s.line=[]->TTC W O a s
 |step {s:S} (C:List Nat):Cyc W O s C->(∀h∈C,a h=fg W s h)->TTC W O a (minus W s C)->TTC W O a s
end
end Rg
end
section
namespace Rg
section
variable{W:Nat->List Nat}{O:Nat->Option Nat}{s:S}{a:Nat->Nat}
theorem pe{f:Nat->Nat}{l:List Nat}(hcl:∀h∈l,f h∈l){x:Nat}(hx:x∈l):∃i j,i<j/\j<=l.length/\it f i x=it f j x:=by
 have mem:∀i,it f i x∈l:=by
  intro i
  induction i with
 |zero=>exact hx
 |succ i ih=>rw[d7];exact hcl _ ih
 by_cases hn:((r_ (l.length+1)).map fun i=>it f i x).Nodup
 .have:=jh hn (m:=l) fun y hy=>by obtain⟨i,_,rfl⟩:=w_.mp hy;exact mem i
  simp at this;omega
 .apply JN;intro h;apply hn;rw[IZ]at *;rw[Jh];refine NO (R:=fun i j=>i<j) (fun hi hj hij e=>?_) List.pairwise_lt_range;exact h ⟨_,_,hij,by have:=D_.mp hj;omega,e⟩
theorem mR{P:Nat->Prop}:(∃n,P n)->∃n,P n/\∀k,k<n->¬ P k:=by
 rintro⟨n,hn⟩
 induction n using Nat.strongRecOn with
|_ n ih=>
  by_cases h:∃k,k<n/\P k
  .obtain⟨k,h1,h2⟩:=h;exact ih k h1 h2
  .exact⟨n,hn,fun k hk hp=>h ⟨k,hk,hp⟩⟩
theorem pD{α:Type}(f:α->α)(a b:Nat)(x:α):it f a (it f b x)=it f b (it f a x):=by rw[<-cM,<-cM,N8]
theorem yf{f:Nat->Nat}{l:List Nat}(hcl:∀h∈l,f h∈l)(hne:l≠[]):∃z p,z∈l/\0<p/\p<=l.length/\it f p z=z/\∀i,0<i->i<p->z<it f i z:=by
 have mem:∀x∈l,∀i,it f i x∈l:=by
  intro x hx i
  induction i with
 |zero=>exact hx
 |succ i ih=>rw[d7];exact hcl _ ih
 obtain⟨x,hx⟩:=JO l hne;obtain⟨i,j,hij,_,e⟩:=pe hcl hx;obtain⟨z,⟨hz,k,hk⟩,hmin⟩:=mR (P:=fun z=>z∈l/\∃k,it f (k+1) z=z) ⟨it f i x,mem x hx i,j-i-1,by rw[<-cM,show i+(j-i-1+1)=j by omega];exact e.symm⟩;obtain⟨p,hp,hpm⟩:=mR (P:=fun p=>it f (p+1) z=z) ⟨k,hk⟩;have ge:∀i,z<=it f i z:=fun i=>by have:=hmin (it f i z);apply JN;intro h;exact this (by omega) ⟨mem z hz i,p,by rw[pD,hp]⟩
 have ne:∀i,0<i->i<p+1->it f i z≠z:=fun i h1 h2 q=>hpm (i-1) (by omega) (by rw[show i-1+1=i by omega];exact q);refine⟨z,p+1,hz,Nat.succ_pos _,?_,hp,fun i h1 h2=>by have:=ge i;have:=ne i h1 h2;omega⟩;obtain⟨i,j,hij,hj,e⟩:=pe hcl hz;apply JN;intro h;have:it f (p+1-j+i) z=z:=by
  have h1:it f (p+1-j) (it f j z)=z:=by rw[<-cM,show j+(p+1-j)=p+1 by omega];exact hp
  rw[<-e,<-cM]at h1;rw[N8];exact h1
 exact ne _ (by omega) (by omega) this
def eT(f:Nat->Nat)(n first:Nat):Nat->List Nat->Nat->Option (List Nat)
|0,_,_=>none
|k+1,ring,hand=>if first<hand/\ring.length<n then eT f n first k (ring++[hand]) (f hand)else if hand=first then some ring else none
def fu(f:Nat->Nat)(n first:Nat):Option (List Nat):=eT f n first (n+1) [first] (f first)
def b7(f:Nat->Nat)(x n:Nat):List Nat:=(r_ n).map fun i=>it f i x
theorem pK(f:Nat->Nat)(x n:Nat):b7 f x (n+1)=b7 f x n++[it f n x]:=by unfold b7;rw[Ly,HD];rfl
theorem mT(f:Nat->Nat)(x n:Nat):(b7 f x n).length=n:=by simp[b7]
theorem Fz{f:Nat->Nat}{n first:Nat}:∀{k i:Nat}{r:List Nat},eT f n first k (b7 f first i) (it f i first)=some r->∃j,i<=j/\r=b7 f first j/\it f j first=first:=by
 intro k
 induction k with
|zero=>intro i r h;cases h
|succ k ih=>
  intro i r h;unfold eT at h;split at h
  .rw[<-pK,<-d7 f]at h;obtain⟨j,h1,h2⟩:=ih h;exact⟨j,by omega,h2⟩
  .split at h
   .rename_i e;cases h;exact⟨i,q_ _,rfl,e⟩
   .cases h
theorem yy{f:Nat->Nat}{n first:Nat}{r:List Nat}(h:fu f n first=some r):∃j,0<j/\r=b7 f first j/\it f j first=first:=by
 have h':eT f n first (n+1) (b7 f first 1) (it f 1 first)=some r:=h
 obtain⟨j,h1,h2⟩:=Fz h';exact⟨j,by omega,h2⟩
theorem FY{f:Nat->Nat}{n z p:Nat}(hp:p<=n)(he:it f p z=z)(hg:∀i,0<i->i<p->z<it f i z):∀{k i:Nat},0<i->i<=p->p<k+i->eT f n z k (b7 f z i) (it f i z)=some (b7 f z p):=by
 intro k
 induction k with
|zero=>intro i h1 h2 h3;omega
|succ k ih=>
  intro i h1 h2 h3;unfold eT;by_cases hi:i=p
  .subst hi;rw[if_neg (by rw[he];omega),if_pos he]
  .rw[if_pos ⟨hg i h1 (by omega),by rw[mT];omega⟩,<-pK,<-d7 f];exact ih (by omega) (by omega) (by omega)
theorem yQ{f:Nat->Nat}{n z p:Nat}(h0:0<p)(hp:p<=n)(he:it f p z=z)(hg:∀i,0<i->i<p->z<it f i z):fu f n z=some (b7 f z p):=by show eT f n z (n+1) (b7 f z 1) (it f 1 z)=_;exact FY hp he hg (by omega) h0 (by omega)
def dX(W:Nat->List Nat)(O:Nat->Option Nat)(s:S):List (List Nat):=s.line.filterMap fun h=>fu (nxt W O s) s.line.length h
theorem ww{C:List Nat}(hC:∀h,h∈C->∃r∈dX W O s,h∈r)(hC':∀r∈dX W O s,∀h∈r,h∈C):Cyc W O s C:=by
 have one:∀r∈dX W O s,∃x j,x∈s.line/\0<j/\r=b7 (nxt W O s) x j/\it (nxt W O s) j x=x:=fun r hr=>by obtain⟨x,h1,h2⟩:=HP.mp hr;obtain⟨j,h3,h4,h5⟩:=yy h2;exact⟨x,j,h1,h3,h4,h5⟩
 have hm:∀x∈s.line,∀i,it (nxt W O s) i x∈s.line:=by
  intro x hx i
  induction i with
 |zero=>exact hx
 |succ i ih=>rw[d7];exact j2 (Ib hx)
 refine⟨fun h hh=>?_,fun h hh=>?_,fun h hh=>?_⟩
 .obtain⟨r,hr,h1⟩:=hC h hh;obtain⟨x,j,hx,hj,rfl,he⟩:=one r hr;obtain⟨i,_,rfl⟩:=w_.mp h1;exact hm x hx i
 .obtain⟨r,hr,h1⟩:=hC h hh;obtain⟨x,j,hx,hj,rfl,he⟩:=one r hr;obtain⟨i,hi,rfl⟩:=w_.mp h1;have hi:=D_.mp hi;refine hC' _ hr _ ?_;rw[<-d7 (nxt W O s)];by_cases q:i+1=j
  .rw[q,he];exact w_.mpr ⟨0,D_.mpr hj,rfl⟩
  .exact w_.mpr ⟨i+1,D_.mpr (by omega),rfl⟩
 .obtain⟨r,hr,h1⟩:=hC h hh;obtain⟨x,j,hx,hj,rfl,he⟩:=one r hr;obtain⟨i,hi,rfl⟩:=w_.mp h1;exact⟨j-1,by rw[show j-1+1=j by omega,pD,he]⟩
theorem Fu(hne:s.line≠[]):dX W O s≠[]:=by obtain⟨z,p,h1,h2,h3,h4,h5⟩:=yf (f:=nxt W O s) (l:=s.line) (fun h hh=>j2 hne) hne;exact Ib (HP.mpr ⟨z,h1,yQ h2 h3 h4 h5⟩)
def gz(W:Nat->List Nat)(O:Nat->Option Nat)(s:S):List Nat:=(dX W O s).flatten
theorem wH:Cyc W O s (gz W O s):=ww (fun h hh=>Io.mp hh) (fun r hr h hh=>Io.mpr ⟨r,hr,hh⟩)
theorem wv{f:Nat->Nat}{n x:Nat}{r:List Nat}(h:fu f n x=some r):r≠[]:=by obtain⟨j,h1,rfl,_⟩:=yy h;intro z;have:=mT f x j;rw[z]at this;simp at this;omega
theorem BD(hne:s.line≠[]):gz W O s≠[]:=by have h:=Fu (W:=W) (O:=O) hne;cases q:dX W O s with
|nil=>exact absurd q h
|cons r t=>
  have hr:r∈dX W O s:=by rw[q];exact c_
  obtain⟨x,_,h2⟩:=HP.mp hr;unfold gz;rw[q,JB];intro z;exact wv h2 (List.append_eq_nil_iff.mp z).1
end
end Rg
end
section
namespace Rg
section
variable{W W':Nat->List Nat}{O:Nat->Option Nat}{s:S}{a b:Nat->Nat}
theorem xm{l:List Nat}{h:Nat}(hn:l.Nodup):l.erase h=l.filter fun x=>decide (x≠h):=by induction l with
|nil=>rfl
|cons b l ih=>
  have hn':=Hu.mp hn;by_cases q:b=h
  .subst q;rw[List.erase_cons_head,HW,if_neg (by simp)];symm;rw[LU];intro x hx;have:x≠b:=by rintro rfl;exact hn'.1 hx
   simpa using this
  .rw[LM (by simpa using q),HW,if_pos (by simpa using q),ih hn'.2]
theorem kF:∀{C l:List Nat},l.Nodup->C.foldl (fun l h=>l.erase h) l=l.filter fun x=>decide (x∉C)
|[],l,_=>by symm;simp[LU]
|h::C,l,hn=>by rw[IP,kF (by rw[xm hn];exact lu hn),xm hn,List.filter_filter];refine EL fun x _=>?_;by_cases q:x=h <;> by_cases z:x∈C <;> simp[q,z]
end
end Rg
end
section
namespace Rg
end Rg
end
section
namespace Rg
section
variable{W:Nat->List Nat}{O:Nat->Option Nat}{s:S}{a b:Nat->Nat}
theorem Cyc.pre{C:List Nat}(c:Cyc W O s C){h:Nat}(hh:h∈C):∃l∈C,nxt W O s l=h:=by obtain⟨k,e⟩:=c.per h hh;rw[d7]at e;exact⟨_,c.it_mem hh k,e⟩
end
end Rg
end
section
namespace Rg
section
variable{W:Nat->List Nat}{O:Nat->Option Nat}{s:S}{a:Nat->Nat}
structure Chain(W:Nat->List Nat)(O:Nat->Option Nat)(s:S)(A:List Nat):Prop where
 nd:A.Nodup
 sub:∀h∈A,h∈s.line
 hd:∀h l,A=h::l->s.line.headD 0=h
 nx:∀(i:Nat) h l,A[i]? = some h->A[i+1]? = some l->O l=some (fg W s h)
variable{A:List Nat}
theorem Chain.at(c:Chain W O s A){i h:Nat}(e:A[i]? = some h):h∈A:=IF e
theorem Chain.nxt(c:Chain W O s A)(k:Ok W O s){i h l:Nat}(e1:A[i]? = some h)(e2:A[i+1]? = some l):Rg.nxt W O s h=l:=uT k (c.sub l (c.at e2)) (c.nx i h l e1 e2)
theorem Chain.apart(c:Chain W O s A){i j h l:Nat}(e1:A[i]? = some h)(e2:A[j]? = some l)(e:h=l):i=j:=by
 subst e;have h1:=(i_.mp e1)
 have h2:=(i_.mp e2)
 obtain⟨b1,q1⟩:=h1;obtain⟨b2,q2⟩:=h2;have:=JM.mp c.nd;rcases Nat.lt_trichotomy i j with z|z|z
 .exact absurd (q1.trans q2.symm) (this i j b1 b2 z)
 .exact z
 .exact absurd (q2.trans q1.symm) (this j i b2 b1 z)
theorem Chain.take(c:Chain W O s A){s':S}(i:Nat)(hl:∀(j:Nat) h,j<i->A[j]? = some h->h∈s'.line)(hh:∀h l,A=h::l->0<i->s'.line.headD 0=h)(ht:∀(j:Nat) h l,j+1<i->A[j]? = some h->A[j+1]? = some l->fg W s' h=fg W s h):Chain W O s' (A.take i):=by
 refine⟨c.nd.sublist (Mg _ _),fun h hm=>?_,fun h l e=>?_,fun j h l e1 e2=>?_⟩
 .obtain⟨j,hj⟩:=List.getElem?_of_mem hm;rw[Ma]at hj;split at hj
  .rename_i q;exact hl j h q hj
  .cases hj
 .cases i with
 |zero=>cases e
 |succ i=>cases A with
  |nil=>cases e
  |cons b t=>cases e;exact hh _ _ rfl (by omega)
 .rw[Ma]at e1 e2;split at e1
  .split at e2
   .rename_i q1 q2;rw[ht j h l q2 e1 e2];exact c.nx j h l e1 e2
   .cases e2
  .cases e1
end
end Rg
end
section
namespace Rg
theorem DJ{f:Nat->Nat}{n first:Nat}:∀{k i:Nat}{r:List Nat},(∀t,0<t->t<i->first<it f t first)->eT f n first k (b7 f first i) (it f i first)=some r->∃j,i<=j/\r=b7 f first j/\it f j first=first/\∀t,0<t->t<j->first<it f t first:=by
 intro k
 induction k with
|zero=>intro i r _ h;cases h
|succ k ih=>
  intro i r hg h;unfold eT at h;by_cases c:first<it f i first/\(b7 f first i).length<n
  .rw[if_pos c]at h;have e1:b7 f first i++[it f i first]=b7 f first (i+1):=(pK f first i).symm
   have e2:f (it f i first)=it f (i+1) first:=(d7 f i first).symm
   rw[e1,e2]at h;obtain⟨j,h1,h2⟩:=ih (i:=i+1) (fun t t0 ti=>by
    by_cases q:t=i
    .subst q;exact c.1
    .exact hg t t0 (by omega)) h
   exact⟨j,by omega,h2⟩
  .rw[if_neg c]at h;by_cases e:it f i first=first
   .rw[if_pos e]at h;cases h;exact⟨i,q_ _,rfl,e,hg⟩
   .rw[if_neg e]at h;cases h
theorem nA{f:Nat->Nat}{n x:Nat}{r:List Nat}(h:fu f n x=some r):∃j,0<j/\r=b7 f x j/\it f j x=x/\∀t,0<t->t<j->x<it f t x:=by have h':eT f n x (n+1) (b7 f x 1) (it f 1 x)=some r:=h;obtain⟨j,h1,h2⟩:=DJ (fun t h1 h2=>by omega) h';exact⟨j,by omega,h2⟩
theorem EK{f:Nat->Nat}{x j:Nat}(e:it f j x=x)(hg:∀t,0<t->t<j->x<it f t x):(b7 f x j).Nodup:=by
 unfold b7;rw[IZ,Jh];have hp:∀p q:Nat,p<q->q<j->it f p x≠it f q x:=by
  intro p q hpq hq z;have h1:it f (p+(j-q)) x=x:=by rw[cM,z,<-cM,show q+(j-q)=j by omega];exact e
  have:=hg (p+(j-q)) (by omega) (by omega);omega
 refine JM.mpr fun i l hi hl hil=>?_;simp only[List.getElem_range];simp at hl;exact hp i l hil hl
theorem Bj{f:Nat->Nat}{x j:Nat}(hj:0<j)(e:it f j x=x)(t:Nat):it f t x=it f (t%j) x:=by conv=>lhs;rw[<-MS t j,cM,jW f e]
theorem yi{f:Nat->Nat}{x j y t:Nat}(hj:0<j)(e:it f j x=x)(hg:∀t,0<t->t<j->x<it f t x)(h:it f t x=y):x<=y:=by
 rw[Bj hj e]at h;by_cases q:t%j=0
 .rw[q]at h;have:x=y:=h;omega
 .have:=hg (t%j) (by omega) (Ka _ hj);omega
theorem Gc{f:Nat->Nat}{n x y w:Nat}{r u:List Nat}(hr:fu f n x=some r)(hu:fu f n y=some u)(h1:w∈r)(h2:w∈u):x=y:=by
 obtain⟨j,j0,rfl,je,jg⟩:=nA hr;obtain⟨l,l0,rfl,le,lg⟩:=nA hu;obtain⟨p,hp,e1⟩:=w_.mp h1;obtain⟨q,hq,e2⟩:=w_.mp h2;have hp:=D_.mp hp;have hq:=D_.mp hq;have a1:it f (p+(l-q)) x=y:=by rw[cM,e1,<-e2,<-cM,show q+(l-q)=l by omega];exact le
 have a2:it f (q+(j-p)) y=x:=by rw[cM,e2,<-e1,<-cM,show p+(j-p)=j by omega];exact je
 have:=yi j0 je jg a1;have:=yi l0 le lg a2;omega
theorem mY{f:Nat->Nat}{n:Nat}:∀{l:List Nat},l.Nodup->(l.filterMap fun h=>fu f n h).flatten.Nodup
|[],_=>List.nodup_nil
|x::l,h=>by have hn:=Hu.mp h;have ih:=mY (f:=f) (n:=n) hn.2;rw[Iw];cases e:fu f n x with
 |none=>exact ih
 |some r=>
   rw[JB];obtain⟨j,j0,hr,je,jg⟩:=nA e;refine Ig.mpr ⟨by rw[hr];exact EK je jg,ih,fun a ha b hb=>?_⟩
   rintro rfl
   obtain⟨u,u1,u2⟩:=Io.mp hb;obtain⟨y,y1,y2⟩:=HP.mp u1;have:=Gc e y2 ha u2;subst this;exact hn.1 y1
end Rg
end
section
namespace Rg
theorem xu{α:Type}[DecidableEq α]:∀{l m:List α},l.Nodup->m.Nodup->(∀x,x∈l↔x∈m)->l.Perm m
|[],m,_,_,h=>by cases m with
 |nil=>exact .nil
 |cons a m=>exact absurd ((h a).mpr c_) (fun z=>nomatch z)
|a::l,m,hl,hm,h=>by
  have ha:a∈m:=(h a).mp c_;have hl':=Hu.mp hl;refine(List.Perm.cons a (xu hl'.2 (hm.erase a) fun x=>?_)).trans (List.perm_cons_erase ha).symm;constructor
  .intro hx;have hne:x≠a:=by rintro rfl;exact hl'.1 hx
   exact(JG hne).mpr ((h x).mp (f_ _ hx))
  .intro hx;obtain⟨h1,h2⟩:=(List.Nodup.mem_erase_iff hm).mp hx;exact(x_.mp ((h x).mpr h2)).resolve_left h1
end Rg
end
section
namespace Rg
structure Bij(p q:Nat->Nat):Prop where
 l:∀x,q (p x)=x
 r:∀x,p (q x)=x
section
variable{p q:Nat->Nat}
theorem Bij.inj(b:Bij p q){x y:Nat}(h:p x=p y):x=y:=by rw[<-b.l x,h,b.l]
theorem Bij.mem(b:Bij p q){l:List Nat}(x:Nat):p x∈l.map p↔x∈l:=by refine⟨fun h=>?_,fun h=>w_.mpr ⟨x,h,rfl⟩⟩;obtain⟨y,h1,h2⟩:=w_.mp h;exact b.inj h2▸h1
end
structure Ren(p q u v:Nat->Nat)(W W':Nat->List Nat)(O O':Nat->Option Nat):Prop where
 b:Bij p q
 c:Bij u v
 row:∀h,W' (p h)=(W h).map u
 own:∀h,O' (p h)=(O h).map u
structure RS(p u:Nat->Nat)(s s':S):Prop where
 line:s'.line=s.line.map p
 th:∀x,u x∈s'.things↔x∈s.things
section
variable{p q u v:Nat->Nat}{W W':Nat->List Nat}{O O':Nat->Option Nat}{s s':S}{a:Nat->Nat}
theorem RS.mem(R:Ren p q u v W W' O O')(r:RS p u s s')(h:Nat):p h∈s'.line↔h∈s.line:=by rw[r.line];exact R.b.mem h
theorem uK{f:Nat->Nat}{z j:Nat}(hj:0<j)(e:it f j z=z)(i:Nat):it f i z∈b7 f z j:=by
 refine w_.mpr ⟨i%j,D_.mpr (Ka _ hj),?_⟩;have h:=MS i j;have h2:it f (j*(i/j)+i%j) z=it f (i%j) z:=by rw[cM,jW f e]
 rw[h]at h2;exact h2.symm
theorem Du{h:Nat}:h∈gz W O s↔h∈s.line/\∃k,it (nxt W O s) (k+1) h=h:=by
 constructor
 .exact fun hh=>⟨wH.sub h hh,wH.per h hh⟩
 .rintro⟨hl,k,e⟩
  have hm:∀i,it (nxt W O s) i h∈s.line:=by
   intro i
   induction i with
  |zero=>exact hl
  |succ i ih=>rw[d7];exact j2 (Ib hl)
  let C:=s.line.filter fun x=>decide (x∈b7 (nxt W O s) h (k+1));have hC:∀i,it (nxt W O s) i h∈C:=fun i=>HC.mpr ⟨hm i,decide_eq_true (uK (by omega) e i)⟩;have hC':∀x∈C,∃i,i<k+1/\it (nxt W O s) i h=x:=fun x hx=>by obtain⟨i,h1,h2⟩:=w_.mp (of_decide_eq_true (HC.mp hx).2);exact⟨i,D_.mp h1,h2⟩
  obtain⟨z,j,h1,h2,h3,h4,h5⟩:=yf (f:=nxt W O s) (l:=C) (fun x hx=>by obtain⟨i,_,rfl⟩:=hC' x hx;rw[<-d7 (nxt W O s)];exact hC _) (Ib (hC 0));have hz:z∈s.line:=(HC.mp h1).1;refine Io.mpr ⟨b7 (nxt W O s) z j,HP.mpr ⟨z,hz,yQ h2 (HZ h3 (J6 _ _)) h4 h5⟩,?_⟩;obtain⟨i,hi,e2⟩:=hC' z h1;have:it (nxt W O s) (k+1-i) z=h:=by rw[<-e2,<-cM,show i+(k+1-i)=k+1 by omega,e]
  rw[<-this];exact uK h2 h4 _
end
end Rg
end
namespace Law
open PySem PySem.Spec PyProof.Rows L2 DL
abbrev gv(i:Nat):DL.FE:=fun r=>DL.dm r i
abbrev ci(i:Int):DL.FE:=fun _=>.ok (.int i)
abbrev q0:List DL.Md:=[.bw,.bw]
abbrev aX:List DL.Md:=[.sh,.sh,.sh,.sh,.sh,.bw,.ow,.sh,.sh]
abbrev bD:List DL.Md:=[.bw,.bw,.sh,.sh]
abbrev b4:List DL.Md:=[.bw,.bw,.bw,.bw]
abbrev cv:List DL.Md:=[.bw,.bw,.bw,.bw,.sh,.sh]
abbrev cC:List DL.Md:=[.bw,.bw,.bw,.bw,.ow,.ow,.sh,.sh,.sh,.sh]
abbrev cS:List DL.Md:=[.sh,.bw,.bw,.ow,.sh,.sh]
abbrev dg:List DL.Md:=[.bw,.sh,.sh,.sh,.sh]
abbrev dO:List DL.Md:=[.bw,.bw,.bw,.sh]
abbrev dN:List DL.Md:=[.bw,.bw,.sh,.sh,.sh,.ow,.sh,.sh,.sh]
abbrev dM:List DL.Md:=[.bw,.bw,.sh]
abbrev dL:List DL.Md:=[.sh,.sh,.sh,.sh,.sh,.sh,.sh]
abbrev eD:List DL.Md:=[.sh,.bw,.bw,.ow,.sh]
abbrev eB:List DL.Md:=[.bw,.bw,.bw,.bw,.ow,.sh,.sh,.sh]
abbrev fI:List DL.Md:=[.bw,.bw,.ow,.sh,.sh]
abbrev fH:List DL.Md:=[.bw,.bw,.sh,.sh,.sh,.sh,.sh,.sh,.sh]
abbrev fG:List DL.Md:=[.bw,.bw,.bw,.bw,.bw,.sh,.ow,.sh]
abbrev gx:List DL.Md:=[.sh,.bw,.ow,.sh]
abbrev gw:List DL.Md:=[.bw,.bw,.bw,.bw,.ow,.ow,.sh,.sh]
abbrev gu:List DL.Md:=[.sh,.sh,.sh,.sh,.sh,.sh,.sh,.sh,.sh]
abbrev h9:List DL.Md:=[.bw,.bw,.bw,.bw,.sh,.sh,.sh,.sh]
abbrev hZ:List DL.Md:=[.sh,.sh,.sh,.sh,.sh,.bw,.sh,.sh,.sh]
abbrev hX:List DL.Md:=[.bw,.bw,.bw,.bw,.bw,.sh,.sh,.sh]
abbrev jw:List DL.Md:=[.bw,.ow,.sh,.sh,.sh]
abbrev jv:List DL.Md:=[.bw,.bw,.sh,.ow,.sh,.ow,.sh,.sh,.sh]
abbrev ju:List DL.Md:=[.bw,.bw,.sh,.ow,.ow,.ow,.sh,.sh,.sh]
abbrev ma:List DL.Md:=[.bw,.bw,.bw,.bw,.ow,.ow,.sh,.ow]
abbrev l9:List DL.Md:=[.bw,.bw,.sh,.sh,.ow,.ow,.sh,.sh,.sh]
theorem tu{α:Type}(us:List α)(h:us.length=2):∃a0 a1,us=[a0,a1]:=by match us,h with
|[_,_],_=>exact⟨_,_,rfl⟩
theorem tv{α:Type}(us:List α)(h:us.length=3):∃a0 a1 a2,us=[a0,a1,a2]:=by match us,h with
|[_,_,_],_=>exact⟨_,_,_,rfl⟩
def bY(i:Nat):Stmt:=K4.main.body.getD i (.Pass ⟨0,0,0,0⟩)
structure Txt(K:W.Frag)(mg:Str->Option a_):Prop where
 b_len:mg "len" = none
 b_range:mg "range" = none
 b_tuple:mg "tuple" = none
 b_list:mg "list" = none
 b_isinstance:mg "isinstance" = none
 b_bool:mg "bool" = none
 b_int:mg "int" = none
 b_enumerate:mg "enumerate" = none
 b_sorted:mg "sorted" = none
 b_all:mg "all" = none
 b_set:mg "set" = none
abbrev qh:Stmt:=bY 21
abbrev yA:List Str:=["_law_script","_law_k","_law_cell_here","_law_stirred"]
abbrev nV:List Str:=["_law_script","_law_k"]
theorem nN:FnScope yA nV (az qh):=bZ
def nY:FS:=(aa (am bD 2 (ci 0)) (aa (ck bD (aO (f2 (gv 1) (fC (aj (gv 0) af) lenD) ic)) (aa (am bD 2 (f2 (f2 (gv 0) (gv 1) aK) (f2 (ci 10) (ci 60) gy) bc)) ax) ax) (aa (ck bD (dq (aO (f2 (fC (aj (gv 0) af) lenD) (ci 0) kl)) (aO (f2 (f2 (f2 (gv 0) (ci 0) aK) (ci 2) bc) (ci 0) eqD))) (aa (ar bD (gv 2)) ax) ax) (aa (am bD 3 (f2 (f2 (f2 (f2 (f2 (f2 (f2 (gv 2) (f2 (f2 (ci 7) (gv 1) cj) (gv 1) cj) addA) (f2 (ci 13) (gv 1) cj) addA) (ci 5) addA) (ci 48271) cj) (ci 2147483647) bc) (ci 69621) cj) (ci 1000000007) bc)) (aa (ar bD (f2 (f2 (f2 (f2 (f2 (gv 3) (ci 1) addA) (ci 40692) cj) (ci 2147483629) bc) (ci 39373) cj) (ci 999999937) bc)) ax)))))
def g8:List D->Res D:=fun ds=>aD false (nY (aS yA.length ds))
variable{P:z_}{w:Ht}{K:W.Frag}{mg:Str->Option a_}{base:Heap}
theorem DB(T:Txt K mg)(A:DefAt K mg "_law_cell" qh):Callee P w K mg base "_law_cell" nV [] 1 false q0 g8:=
 cm (m':=bD) A nN fun f cdv A outer s H g E hr hu1=>have hu64:=hr.units;(al (bP 2 nN.nd tZ)
   (al (bj (js (ae 1) (bE (dw (by rfl) T.b_len (aZ (ae 0) a9)))) (al (bP 2 nN.nd (f8 (xB hu1 (ae 0) (ae 1)) (bE (Ar iB iB))))
   ay)
   ay)
   (al (bj (SW.toQ (uB (l8 (bE (dw (by rfl) T.b_len (aZ (ae 0) a9))) iB) (uU (dJ hu64 (bE (f8 (xB hu1 (ae 0) iB) iB)) iB)))) (al (bf (v_ 2))
   ay)
   ay)
   (al (bP 3 nN.nd (f8 (bE (iW (bE (f8 (bE (iW (bE (gl (bE (gl (bE (gl (ae 2) (bE (iW (bE (iW iB (ae 1))) (ae 1))))) (bE (iW iB (ae 1))))) iB)) iB)) iB)) iB)) iB))
   (al (bf (f8 (bE (iW (bE (f8 (bE (iW (bE (gl (ae 3) iB)) iB)) iB)) iB)) iB))
   ay)))))
abbrev qj:Stmt:=bY 24
abbrev yC:List Str:=["_law_cell_here","_law_n","_law_m","_law_owns_here","_law_hand","_law_thing"]
abbrev qL:List Str:=["_law_cell_here","_law_n","_law_m"]
theorem lJ:FnScope yC qL (az qj):=bZ
abbrev re:FS:=(aa (am cS 5 (f2 (gv 0) (f2 (gv 2) (ci 1) addA) bc)) (aa (am cS 0 (f2 (gv 0) (f2 (gv 2) (ci 1) addA) g3)) (aa (ck cS (dP (aO (f2 (gv 5) (gv 2) eqD)) (aO (f2 (gv 5) (gv 3) fh))) (aa (cg "list" cS 3 (aj (fun _=>Res.ok D.non) af) appD) ax) (aa (cg "list" cS 3 (aj (gv 5) af) appD) ax)) ax)))
def qF:FS:=(aa (am [.sh,.bw,.bw,.sh,.sh,.sh] 3 (fW af)) (aa (cA cS (cF cu (aj (gv 1) af)) (aG 4) re) (aa (ar cS (fC (aj (gv 3) af) tupD)) ax)))
def nQ:List D->Res D:=fun ds=>aD false (qF (aS yC.length ds))
theorem DD(T:Txt K mg)(A:DefAt K mg "_law_owns" qj):Callee P w K mg base "_law_owns" qL [] 1 false [.sh,.bw,.bw] nQ:=
 cm (m':=cS) A lJ fun f cdv A outer s H g E hr hu1=>have hu64:=hr.units;(al (eY 3 lJ.nd (by rfl) (dh rfl) (i4 da))
   (al (iV Hv rfl (j6 (by rfl) T.b_range (aZ (ae 1) a9)) (bI 4 lJ.nd) (al (bP 5 lJ.nd (f8 (ae 0) (bE (gl (ae 2) iB))))
   (al (bP 0 lJ.nd (mV (ae 0) (bE (gl (ae 2) iB))))
   (al (bj (SW.toQ (df (dJ hu64 (ae 5) (ae 2)) (i6 (hW hu1 (ae 5) (ae 3))))) (al (g0 3 rfl Hw HX HY iO kD (by rfl) (c8 rfl) (dy fq da))
   ay)
   (al (g0 3 rfl Hw HX HY iO kD (by rfl) (c8 rfl) (dy (v_ 5) da))
   ay))
   ay))))
   (al (bf (nb (by rfl) T.b_tuple (aZ (ae 3) a9)))
   ay)))
abbrev pU:Stmt:=bY 22
abbrev yp:List Str:=["_law_cell_here","_law_m","_law_row_here","_law_thing"]
abbrev nG:List Str:=["_law_cell_here","_law_m"]
theorem nX:FnScope yp nG (az pU):=bZ
abbrev yU:FS:=(aa (cg "list" gx 2 (aj (f2 (gv 0) (f2 (gv 3) (ci 1) addA) bc) (aj (gv 3) af)) insD) (aa (am gx 0 (f2 (gv 0) (f2 (gv 3) (ci 1) addA) g3)) ax))
def qo:FS:=(aa (am [.sh,.bw,.sh,.sh] 2 (fW af)) (aa (cA gx (cF cu (aj (gv 1) af)) (aG 3) yU) (aa (ar gx (fC (aj (gv 2) af) tupD)) ax)))
def ji:List D->Res D:=fun ds=>aD false (qo (aS yp.length ds))
theorem CL(T:Txt K mg)(A:DefAt K mg "_law_row" pU):Callee P w K mg base "_law_row" nG [] 1 false [.sh,.bw] ji:=
 cm (m':=gx) A nX fun f cdv A outer s H g E hr hu1=>(al (eY 2 nX.nd (by rfl) (dh rfl) (i4 da))
   (al (iV Hv rfl (j6 (by rfl) T.b_range (aZ (ae 1) a9)) (bI 3 nX.nd) (al (g0 2 rfl Hw KZ PySem.F.type_list_insert EC Bh (by rfl) (c8 rfl) (dy (f8 (ae 0) (bE (gl (ae 3) iB))) (dy (v_ 3) da)))
   (al (bP 0 nX.nd (mV (ae 0) (bE (gl (ae 3) iB))))
   ay)))
   (al (bf (nb (by rfl) T.b_tuple (aZ (ae 2) a9)))
   ay)))
abbrev lK:Stmt:=bY 23
abbrev oi:List Str:=["_law_script","_law_at","_law_n","_law_m"]
abbrev rh:List Str:=["_law_script","_law_at","_law_n","_law_m"]
theorem zg:FnScope oi rh (az lK):=bZ
def rC:FS:=(aa (ar b4 (fC (aj (cL 1 [3,0,1] (cF cu (aj (gv 2) af)) (aG 0) (fun _=>Res.ok true) (aJ (aj (aJ (aj (gv 2) (aj (f2 (gv 3) (gv 0) addA) af)) [] g8) (aj (gv 1) af)) [] ji)) af) tupD)) ax)
def og:List D->Res D:=fun ds=>aD false (rC (aS oi.length ds))
theorem D1(T:Txt K mg)(A:DefAt K mg "_law_wishes" lK)(c__law_cell:Callee P w K mg base "_law_cell" nV [] 1 false q0 g8)(c__law_row:Callee P w K mg base "_law_row" nG [] 1 false [.sh,.bw] ji):Callee P w K mg base "_law_wishes" rh [] 2 false b4 og:=
 cm (m':=b4) A zg fun f cdv A outer s H g E hr hu1=>(al (bf (nb (by rfl) T.b_tuple (aZ (SO.toB (kL (X:=(aR bB P w K mg base oi "_law_wishes" (az lK) f cdv A outer s H E).nox) (N':=["_law_hand","_law_m","_law_script","_law_at"]) (nl:=1) (cap:=[3,0,1]) zg.nd rfl (fB (osc:=(az lK)) (ON:=oi) rfl rfl (by decide+kernel)) (im.toC (j6 (by rfl) T.b_range (aZ (ae 2) a9))) (fun _ _ _ _ _ _=>(bI 0 (show IQ (["_law_hand","_law_m","_law_script","_law_at"]:List Str)by decide+kernel))) (fw (by decide)) (fun _ _ _ _ _ _=>kP) (fun _ _ _ _ _ _=>(bz c__law_row (eL (bz c__law_cell (ah (ae 2) (ah (bE (gl (ae 3) (ae 0))) ba))) (ah (ae 1) ba)))))) a9)))
   ay)
abbrev rq:Stmt:=bY 27
abbrev za:List Str:=["_law_cell_here","_law_n"]
abbrev rL:List Str:=["_law_cell_here","_law_n"]
theorem GO:FnScope za rL (az rq):=bZ
def qZ:FS:=(aa (ck q0 (aO (f2 (f2 (gv 0) (ci 3) bc) (ci 0) eqD)) (aa (ar q0 (fun _=>Res.ok D.non)) ax) ax) (aa (ar q0 (fC (aj (aJ (aj (f2 (gv 0) (ci 3) g3) (aj (gv 1) af)) [] ji) af) gI)) ax))
def n0:List D->Res D:=fun ds=>aD false (qZ (aS za.length ds))
theorem E5(T:Txt K mg)(A:DefAt K mg "_law_order_by" rq)(c__law_row:Callee P w K mg base "_law_row" nG [] 1 false [.sh,.bw] ji):Callee P w K mg base "_law_order_by" rL [] 2 false q0 n0:=
 cm (m':=q0) A GO fun f cdv A outer s H g E hr hu1=>have hu64:=hr.units;(al (bj (dJ hu64 (bE (f8 (ae 0) iB)) iB) (al (bf fq)
   ay)
   ay)
   (al (bf (SO.toE (kN (by rfl) T.b_list (aZ (bE (bz c__law_row (eL (mV (ae 0) iB) (ah (ae 1) ba)))) a9))))
   ay))
abbrev qR:Stmt:=bY 29
abbrev yV:List Str:=["_law_script","_law_cell_here","_law_n","_law_m","_law_owns_here"]
abbrev qA:List Str:=["_law_script"]
theorem lD:FnScope yV qA (az qR):=bZ
def qx:FS:=(aa (am dg 1 (aJ (aj (gv 0) (aj (ci 1) af)) [] g8)) (aa (am dg 2 (f2 (ci 1) (f2 (gv 1) (ci 7) bc) addA)) (aa (am dg 3 (f2 (gv 2) (f2 (f2 (gv 1) (ci 7) g3) (f2 (ci 9) (gv 2) gs) bc) addA)) (aa (am dg 4 (aJ (aj (aJ (aj (gv 0) (aj (ci 2) af)) [] g8) (aj (gv 2) (aj (gv 3) af))) [] nQ)) (aa (ar dg (jz (aj (aJ (aj (gv 0) (aj (ci 4) (aj (gv 2) (aj (gv 3) af)))) [] og) (aj (gv 4) (aj (aJ (aj (aJ (aj (gv 0) (aj (ci 3) af)) [] g8) (aj (gv 2) af)) [] n0) af))))) ax)))))
def lH:List D->Res D:=fun ds=>aD false (qx (aS yV.length ds))
theorem D7(T:Txt K mg)(A:DefAt K mg "_law_scene" qR)(c__law_cell:Callee P w K mg base "_law_cell" nV [] 1 false q0 g8)(c__law_owns:Callee P w K mg base "_law_owns" qL [] 1 false [.sh,.bw,.bw] nQ)(c__law_order_by:Callee P w K mg base "_law_order_by" rL [] 2 false q0 n0)(c__law_wishes:Callee P w K mg base "_law_wishes" rh [] 2 false b4 og):Callee P w K mg base "_law_scene" qA [] 3 false [Md.bw] lH:=
 cm (m':=dg) A lD fun f cdv A outer s H g E hr hu1=>(al (bP 1 lD.nd (bz c__law_cell (ah (ae 0) (ah iB ba))))
   (al (bP 2 lD.nd (gl iB (bE (f8 (ae 1) iB))))
   (al (bP 3 lD.nd (gl (ae 2) (bE (f8 (bE (mV (ae 1) iB)) (bE (t5 iB (ae 2)))))))
   (al (bP 4 lD.nd (bz c__law_owns (eL (bz c__law_cell (ah (ae 0) (ah iB ba))) (ah (ae 2) (ah (ae 3) ba)))))
   (al (bf (oM (dy (bz c__law_wishes (ah (ae 0) (ah iB (ah (ae 2) (ah (ae 3) ba))))) (dy (v_ 4) (dy (bz c__law_order_by (ah (bE (bz c__law_cell (ah (ae 0) (ah iB ba)))) (ah (ae 2) ba))) da)))))
   ay)))))
abbrev pW:Stmt:=bY 4
abbrev yr:List Str:=["value"]
abbrev qr:List Str:=["value"]
theorem F0:FnScope yr qr (az pW):=bZ
def E7:FS:=(aa (ar [Md.bw] (dc (f1 (gv 0) (cX "int")) (hJ (f1 (gv 0) (cX "bool"))))) ax)
def nE:List D->Res D:=fun ds=>aD false (E7 (aS yr.length ds))
theorem CN(T:Txt K mg)(A:DefAt K mg "is_whole" pW):Callee P w K mg base "is_whole" qr [] 1 false [Md.bw] nE:=
 cm (m':=[Md.bw]) A F0 fun f cdv A outer s H g E hr hu1=>(al (bf (kB (ir "int" "int" rfl (vL _) (by rfl) T.b_isinstance (by rfl) T.b_int (ae 0)) (jS (t4 (ir "bool" "bool" rfl (wL _) (by rfl) T.b_isinstance (by rfl) T.b_bool (ae 0))))))
   ay)
abbrev pV:Stmt:=bY 5
abbrev yq:List Str:=["value","bound"]
abbrev qq:List Str:=["value","bound"]
theorem FZ:FnScope yq qq (az pV):=bZ
def qp:FS:=(aa (ar q0 (dc (aJ (aj (gv 0) af) [] nE) (kQ (ci 0) (gv 0) (gv 1) su ic))) ax)
def ly:List D->Res D:=fun ds=>aD false (qp (aS yq.length ds))
theorem CM(T:Txt K mg)(A:DefAt K mg "is_below" pV)(c_is_whole:Callee P w K mg base "is_whole" qr [] 1 false [Md.bw] nE):Callee P w K mg base "is_below" qq [] 2 false q0 ly:=
 cm (m':=q0) A FZ fun f cdv A outer s H g E hr hu1=>(al (bf (kB (bz c_is_whole (ah (ae 0) ba)) (jS (DM AQ tf AM AN iB (ae 0) (ae 1)))))
   ay)
abbrev qQ:Stmt:=bY 6
abbrev yL:List Str:=["numbers","bound","ahead","place","number"]
abbrev rj:List Str:=["numbers","bound"]
theorem oj:FnScope yL rj (az qQ):=bZ
abbrev q9:FS:=(aa (ck fI (dP (bT (bH (aJ (aj (gv 4) (aj (gv 1) af)) [] ly))) (aO (f2 (gv 4) (gv 2) fh))) (aa (ar fI (gv 3)) ax) ax) (aa (putF fI 2 (gv 4) (fun _=>Res.ok (D.bl true))) ax))
def rc:FS:=(aa (am [.bw,.bw,.sh,.sh,.sh] 2 (fun _=>Res.ok (D.dic []))) (aa (cA fI (mo (gv 0)) (iT (d6 (aG 3) (d6 (aG 4) iD))) q9) (aa (ar fI (fC (aj (gv 0) af) lenD)) ax)))
def oh:List D->Res D:=fun ds=>aD false (rc (aS yL.length ds))
theorem D2(T:Txt K mg)(A:DefAt K mg "first_wrong" qQ)(c_is_below:Callee P w K mg base "is_below" qq [] 2 false q0 ly):Callee P w K mg base "first_wrong" rj [] 3 false q0 oh:=
 cm (m':=fI) A oj fun f cdv A outer s H g E hr hu1=>(al (eY 2 oj.nd (by rfl) (dh rfl) kM)
   (al (i7 Hv rfl (Db (by rfl) T.b_enumerate (jm 0)) (mJ rfl (g4 (bI 3 oj.nd) (g4 (bI 4 oj.nd) mI))) (al (bj (SW.toQ (df (gb (eU (bE (bz c_is_below (ah (ae 4) (ah (ae 1) ba)))))) (i6 (hW hu1 (ae 4) (ae 2))))) (al (bf (v_ 3))
   ay)
   ay)
   (al (jT 2 hu1 rfl (by rfl) (c8 rfl) (ae 4) de)
   ay)))
   (al (bf (dw (by rfl) T.b_len (aZ (ae 0) a9)))
   ay)))
abbrev qT:Stmt:=bY 7
abbrev yX:List Str:=["numbers","bound"]
abbrev qC:List Str:=["numbers","bound"]
theorem GG:FnScope yX qC (az qT):=bZ
def qy:FS:=(aa (ar q0 (f2 (aJ (aj (gv 0) (aj (gv 1) af)) [] oh) (fC (aj (gv 0) af) lenD) eqD)) ax)
def nK:List D->Res D:=fun ds=>aD false (qy (aS yX.length ds))
theorem D9(T:Txt K mg)(A:DefAt K mg "are_unlike" qT)(c_first_wrong:Callee P w K mg base "first_wrong" rj [] 3 false q0 oh):Callee P w K mg base "are_unlike" qC [] 4 false q0 nK:=
 cm (m':=q0) A GG fun f cdv A outer s H g E hr hu1=>have hu64:=hr.units;(al (bf (fE hu64 (bE (bz c_first_wrong (ah (ae 0) (ah (ae 1) ba)))) (bE (dw (by rfl) T.b_len (aZ (ae 0) a9)))))
   ay)
abbrev rA:Stmt:=bY 8
abbrev zb:List Str:=["numbers","bound"]
abbrev rM:List Str:=["numbers","bound"]
theorem GU:FnScope zb rM (az rA):=bZ
def q8:FS:=(aa (ar q0 (dc (f2 (fC (aj (gv 0) af) lenD) (gv 1) eqD) (aJ (aj (gv 0) (aj (gv 1) af)) [] nK))) ax)
def n4:List D->Res D:=fun ds=>aD false (q8 (aS zb.length ds))
theorem E6(T:Txt K mg)(A:DefAt K mg "has_each_once" rA)(c_are_unlike:Callee P w K mg base "are_unlike" qC [] 4 false q0 nK):Callee P w K mg base "has_each_once" rM [] 5 false q0 n4:=
 cm (m':=q0) A GU fun f cdv A outer s H g E hr hu1=>have hu64:=hr.units;(al (bf (kB (fE hu64 (bE (dw (by rfl) T.b_len (aZ (ae 0) a9))) (ae 1)) (jS (bz c_are_unlike (ah (ae 0) (ah (ae 1) ba))))))
   ay)
abbrev pX:Stmt:=bY 10
abbrev yt:List Str:=["wishes","order"]
abbrev lz:List Str:=["wishes","order"]
theorem F1:FnScope yt lz (az pX):=bZ
def ke:FS:=(aa (ck q0 (aO (f2 (gv 1) (fun _=>Res.ok D.non) iS)) (aa (ar q0 (fC (aj (fC (aj (gv 0) af) lenD) af) gJ)) ax) ax) (aa (ck q0 (bT (bH (aJ (aj (gv 1) (aj (fC (aj (gv 0) af) lenD) af)) [] n4))) (aa (fun _=>Out.stuck) ax) ax) (aa (ar q0 (fC (aj (gv 1) af) gI)) ax)))
def gS:List D->Res D:=fun ds=>aD false (ke (aS yt.length ds))
theorem CO(T:Txt K mg)(A:DefAtD K mg "order_of" pX [Value.none])(c_has_each_once:Callee P w K mg base "has_each_once" rM [] 5 false q0 n4):Callee P w K mg base "order_of" lz [] 6 false q0 gS:=by
 refine pE (ds:=[]) (k:=5) (fs:=ke) (m':=q0) A F1 rfl 2 rfl (fun _ _ _ _ _ _ _ us hl=>by obtain⟨u0,u1,rfl⟩:=tu us hl;exact⟨_,rfl,rfl⟩) fun f cdv A outer s H g E hr=>?_;have hu1:=jP hr;have hu64:=hr.units;exact(al (bj (jt (ae 1) (bE fq)) (al (bf (SO.toE (j4 rfl (by rfl) T.b_list (by rfl) T.b_range (aZ (bE (dw (by rfl) T.b_len (aZ (ae 0) a9))) a9))))
   ay)
   ay)
   (al (bj (gb (eU (bE (bz c_has_each_once (ah (ae 1) (ah (bE (dw (by rfl) T.b_len (aZ (ae 0) a9))) ba)))))) (al Cr
   ay)
   ay)
   (al (bf (SO.toE (kN (by rfl) T.b_list (aZ (ae 1) a9))))
   ay)))
abbrev lv:Stmt:=bY 12
abbrev nS:List Str:=["row","things"]
abbrev qN:List Str:=["row","things"]
theorem yS:FnScope nS qN (az lv):=bZ
def qH:FS:=(aa (ar q0 (f2 (cL 1 [1] (aI bN (gv 0)) (aG 0) (aO (f2 (gv 0) (gv 1) fh)) (gv 0)) (ci 0) aK)) ax)
def lx:List D->Res D:=fun ds=>aD false (qH (aS nS.length ds))
theorem DF(T:Txt K mg)(A:DefAt K mg "best_left" lv):Callee P w K mg base "best_left" qN [] 1 false q0 lx:=
 cm (m':=q0) A yS fun f cdv A outer s H g E hr hu1=>(al (bf (fZ hu1 (SO.toB (kL (X:=(aR bB P w K mg base nS "best_left" (az lv) f cdv A outer s H E).nox) (N':=["thing","things"]) (nl:=1) (cap:=[1]) yS.nd rfl (fB (osc:=(az lv)) (ON:=nS) rfl rfl (by decide+kernel)) (eV (ae 0)) (fun _ _ _ _ _ _=>(bI 0 (show IQ (["thing","things"]:List Str)by decide+kernel))) (fw (by decide)) (fun _ _ _ _ _ _=>(iH (hW hu1 (ae 0) (ae 1)))) (fun _ _ _ _ _ _=>(v_ 0)))) iB))
   ay)
abbrev qU:Stmt:=bY 13
abbrev yY:List Str:=["owns","line","thing","hand"]
abbrev qD:List Str:=["owns","line","thing"]
theorem yO:FnScope yY qD (az qU):=bZ
abbrev lF:FS:=(aa (ck dO (aO (f2 (f2 (gv 0) (gv 3) aK) (gv 2) eqD)) (aa (ar dO (gv 3)) ax) ax) ax)
def qz:FS:=(aa (cA dO (aI bN (gv 1)) (aG 3) lF) (aa (ar dO (fun _=>Res.ok D.non)) ax))
def nM:List D->Res D:=fun ds=>aD false (qz (aS yY.length ds))
theorem Ea(T:Txt K mg)(A:DefAt K mg "owner_left" qU):Callee P w K mg base "owner_left" qD [] 1 false [.bw,.bw,.bw] nM:=
 cm (m':=dO) A yO fun f cdv A outer s H g E hr hu1=>have hu64:=hr.units;(al (pb Hv rfl (eV (ae 1)) (fun _=>(bI 3 yO.nd)) (fun _=>(al (bj (dJ hu64 (xB hu1 (ae 0) (ae 3)) (ae 2)) (al (bf (v_ 3))
   ay)
   ay)
   ay)))
   (al (bf fq)
   ay))
abbrev qX:Stmt:=bY 16
abbrev zm:List Str:=["owns","line","thing","owner"]
abbrev rK:List Str:=["owns","line","thing"]
theorem zj:FnScope zm rK (az qX):=bZ
def rH:FS:=(aa (am dO 3 (aJ (aj (gv 0) (aj (gv 1) (aj (gv 2) af))) [] nM)) (aa (ar dO (iU (aO (f2 (gv 3) (fun _=>Res.ok D.non) iS)) (f2 (gv 1) (ci 0) aK) (gv 3))) ax))
def lN:List D->Res D:=fun ds=>aD false (rH (aS zm.length ds))
theorem Ft(T:Txt K mg)(A:DefAt K mg "hand_pointed_at" qX)(c_owner_left:Callee P w K mg base "owner_left" qD [] 1 false [.bw,.bw,.bw] nM):Callee P w K mg base "hand_pointed_at" rK [] 2 false [.bw,.bw,.bw] lN:=
 cm (m':=dO) A zj fun f cdv A outer s H g E hr hu1=>(al (bP 3 zj.nd (bz c_owner_left (ah (ae 0) (ah (ae 1) (ah (ae 2) ba)))))
   (al (bf (tY (jt (ae 3) (bE fq)) (fZ hu1 (ae 1) iB) (v_ 3)))
   ay))
abbrev ql:Stmt:=bY 17
abbrev yE:List Str:=["first","targets","behind","ring","hand"]
abbrev qO:List Str:=["first","targets","behind"]
theorem nO:FnScope yE qO (az ql):=bZ
abbrev rm:FQ:=(dq (aO (f2 (gv 4) (gv 0) kl)) (aO (f2 (fC (aj (gv 3) af) lenD) (fC (aj (gv 1) af) lenD) ic)))
abbrev yJ:FS:=(aa (cg "list" eD 3 (aj (jz (aj (gv 4) (aj (f2 (gv 1) (gv 4) aK) af))) af) appD) (aa (am eD 4 (f2 (gv 2) (gv 4) aK)) ax))
def qI:FS:=(aa (am [.sh,.bw,.bw,.sh,.sh] 3 (fW (aj (jz (aj (gv 0) (aj (f2 (gv 1) (gv 0) aK) af))) af))) (aa (am eD 4 (f2 (gv 2) (gv 0) aK)) (aa (en eD rm yJ 64) (aa (ar eD (iU (aO (f2 (gv 4) (gv 0) eqD)) (fC (aj (gv 3) af) tupD) (fun _=>Res.ok D.non))) ax))))
def nR:List D->Res D:=fun ds=>aD false (qI (aS yE.length ds))
theorem DG(T:Txt K mg)(A:DefAt K mg "ring_from" ql):Callee P w K mg base "ring_from" qO [] 1 false [.sh,.bw,.bw] nR:=
 cm (m':=eD) A nO fun f cdv A outer s H g E hr hu1=>have hu64:=hr.units;(al (eY 3 nO.nd (by rfl) (dh rfl) (i4 (dy (oM (dy (v_ 0) (dy (fZ hu1 (ae 1) (ae 0)) da))) da)))
   (al (bP 4 nO.nd (fZ hu1 (ae 2) (ae 0)))
   (al (pj 64 Hv (SW.toQ (uB (l8 (ae 4) (ae 0)) (uU (js (bE (dw (by rfl) T.b_len (aZ (ae 3) a9))) (bE (dw (by rfl) T.b_len (aZ (ae 1) a9))))))) (al (g0 3 rfl Hw HX HY iO kD (by rfl) (c8 rfl) (dy (oM (dy (v_ 4) (dy (fZ hu1 (ae 1) (ae 4)) da))) da))
   (al (bP 4 nO.nd (fZ hu1 (ae 2) (ae 4)))
   ay)))
   (al (bf (tY (dJ hu64 (ae 4) (ae 0)) (nb (by rfl) T.b_tuple (aZ (ae 3) a9)) fq))
   ay))))
abbrev jk:Stmt:=bY 18
abbrev kh:List Str:=["wishes","owns","line","things","targets","behind","hand","walks"]
abbrev lM:List Str:=["wishes","owns","line","things"]
theorem ki:FnScope kh lM (az jk):=bZ
abbrev zi:FS:=(aa (putF gw 4 (gv 6) (aJ (aj (f2 (gv 0) (gv 6) aK) (aj (gv 3) af)) [] lx)) (aa (putF gw 5 (gv 6) (aJ (aj (gv 1) (aj (gv 2) (aj (f2 (gv 4) (gv 6) aK) af))) [] lN)) ax))
def rE:FS:=(aa (am h9 4 (fun _=>Res.ok (D.dic []))) (aa (am eB 5 (fun _=>Res.ok (D.dic []))) (aa (cA gw (aI bN (gv 2)) (aG 6) zi) (aa (am gw 7 (cL 1 [4,5] (aI bN (gv 2)) (aG 0) (fun _=>Res.ok true) (aJ (aj (gv 0) (aj (gv 1) (aj (gv 2) af))) [] nR))) (aa (ar ma (fC (aj (cL 1 [] (aI bN (gv 7)) (aG 0) (aO (f2 (gv 0) (fun _=>Res.ok D.non) cW)) (gv 0)) af) kC)) ax)))))
def iQ:List D->Res D:=fun ds=>aD true (rE (aS kh.length ds))
theorem FP(T:Txt K mg)(A:DefAt K mg "rings_of_round" jk)(c_best_left:Callee P w K mg base "best_left" qN [] 1 false q0 lx)(c_hand_pointed_at:Callee P w K mg base "hand_pointed_at" rK [] 2 false [.bw,.bw,.bw] lN)(c_ring_from:Callee P w K mg base "ring_from" qO [] 1 false [.sh,.bw,.bw] nR):Callee P w K mg base "rings_of_round" lM [] 3 true b4 iQ:=
 cm (m':=ma) A ki fun f cdv A outer s H g E hr hu1=>(al (eY 4 ki.nd (by rfl) (dh rfl) kM)
   (al (eY 5 ki.nd (by rfl) (dh rfl) kM)
   (al (i7 Hv rfl (jV (jm 2)) (bI 6 ki.nd) (al (jT 4 hu1 rfl (by rfl) (c8 rfl) (ae 6) (bz c_best_left (ah (xB hu1 (ae 0) (ae 6)) (ah (ae 3) ba))))
   (al (jT 5 hu1 rfl (by rfl) (c8 rfl) (ae 6) (bz c_hand_pointed_at (ah (ae 1) (ah (ae 2) (ah (xB hu1 (ae 4) (ae 6)) ba)))))
   ay)))
   (al (iP 7 (X:=(aR bB P w K mg base kh "rings_of_round" (az jk) f cdv A outer s H E).nox) (m:=gw) (N':=["hand","targets","behind"]) (nl:=1) (cap:=[4,5]) ki.nd rfl (by rfl) (by rfl) (fB (osc:=(az jk)) (ON:=kh) rfl rfl (by decide+kernel)) (eV (ae 2)) (fun _ _ _ _ _ _=>(bI 0 (show IQ (["hand","targets","behind"]:List Str)by decide+kernel))) (fw (by decide)) (fun _ _ _ _ _ _=>kP) (fun _ _ _ _ _ _=>(bz c_ring_from (eL (v_ 0) (ah (ae 1) (ah (ae 2) ba))))))
   (al (pc (wS hr (by rfl) T.b_sorted (aZ (SO.toB (kL (X:=(aR bB P w K mg base kh "rings_of_round" (az jk) f cdv A outer s H E).nox) (N':=["ring"]) (nl:=1) (cap:=[]) ki.nd rfl (fB (osc:=(az jk)) (ON:=kh) rfl rfl (by decide+kernel)) (eV (ae 7)) (fun _ _ _ _ _ _=>(bI 0 (show IQ (["ring"]:List Str)by decide+kernel))) (fw (by decide)) (fun _ _ _ _ _ _=>(iH (uC (ae 0) (bE fq)))) (fun _ _ _ _ _ _=>(v_ 0)))) a9)))
   ay)))))
abbrev pH:Stmt:=bY 14
abbrev xc:List Str:=["rings","got","ring","hand","thing"]
abbrev k8:List Str:=["rings"]
theorem ll:FnScope xc k8 (az pH):=bZ
abbrev ym:FS:=(aa (putF jw 1 (gv 3) (gv 4)) ax)
abbrev yn:FS:=(aa (cA jw (aI bN (gv 2)) (iT (d6 (aG 3) (d6 (aG 4) iD))) ym) ax)
def pI:FS:=(aa (am dg 1 (fun _=>Res.ok (D.dic []))) (aa (cA jw (aI bN (gv 0)) (aG 2) yn) (aa (ar dg (gv 1)) ax)))
def iL:List D->Res D:=fun ds=>aD false (pI (aS xc.length ds))
theorem AX(T:Txt K mg)(A:DefAt K mg "got_in" pH):Callee P w K mg base "got_in" k8 [] 1 false [Md.bw] iL:=
 cm (m':=dg) A ll fun f cdv A outer s H g E hr hu1=>(al (eY 1 ll.nd (by rfl) (dh rfl) kM)
   (al (i7 Hv rfl (jV (jm 0)) (bI 2 ll.nd) (al (iV Hv rfl (oP (v_ 2)) (mJ rfl (g4 (bI 3 ll.nd) (g4 (bI 4 ll.nd) mI))) (al (jT 1 hu1 rfl (by rfl) (c8 rfl) (ae 3) (v_ 4))
   ay))
   ay))
   (al (mL 1 rfl (bf (v_ 1)))
   ay)))
abbrev qm:Stmt:=bY 9
abbrev yF:List Str:=["wishes"]
abbrev lL:List Str:=["wishes"]
theorem Gn:FnScope yF lL (az qm):=bZ
def qJ:FS:=(aa (ar [Md.bw] (fC (aj (f2 (gv 0) (ci 0) aK) af) lenD)) ax)
def iR:List D->Res D:=fun ds=>aD false (qJ (aS yF.length ds))
theorem DH(T:Txt K mg)(A:DefAt K mg "things_in" qm):Callee P w K mg base "things_in" lL [] 1 false [Md.bw] iR:=
 cm (m':=[Md.bw]) A Gn fun f cdv A outer s H g E hr hu1=>(al (bf (dw (by rfl) T.b_len (aZ (xB hu1 (ae 0) iB) a9)))
   ay)
abbrev fU:Stmt:=bY 19
abbrev gQ:List Str:=["wishes","owns","order","line","things","told","rings","got","taken"]
abbrev nh:List Str:=["wishes","owns","order"]
theorem dB:FnScope gQ nh (az fU):=bZ
abbrev yu:FQ:=(bH (gv 3))
abbrev yo:FS:=(aa (am dN 6 (aJ (aj (gv 0) (aj (gv 1) (aj (gv 3) (aj (gv 4) af)))) [] iQ)) (aa (am dN 7 (aJ (aj (gv 6) af) [] iL)) (aa (am dN 8 (f1 (gv 7) kA)) (aa (am dN 3 (cL 1 [7] (aI bN (gv 3)) (aG 0) (aO (f2 (gv 0) (gv 1) bX)) (gv 0))) (aa (am jv 4 (cL 1 [8] (aI bN (gv 4)) (aG 0) (aO (f2 (gv 0) (gv 1) bX)) (gv 0))) (aa (cg "list" ju 5 (aj (gv 6) af) appD) ax))))))
def k6:FS:=(aa (am fH 3 (aJ (aj (gv 0) (aj (gv 2) af)) [] gS)) (aa (am fH 4 (fC (aj (aJ (aj (gv 0) af) [] iR) af) gJ)) (aa (am fH 5 (fW af)) (aa (en dN yu yo 64) (aa (ar fH (gv 5)) ax)))))
def k7:List D->Res D:=fun ds=>aD false (k6 (aS gQ.length ds))
theorem AY(T:Txt K mg)(A:DefAtD K mg "rounds" fU [Value.none])(c_order_of:Callee P w K mg base "order_of" lz [] 6 false q0 gS)(c_things_in:Callee P w K mg base "things_in" lL [] 1 false [Md.bw] iR)(c_rings_of_round:Callee P w K mg base "rings_of_round" lM [] 3 true b4 iQ)(c_got_in:Callee P w K mg base "got_in" k8 [] 1 false [Md.bw] iL):Callee P w K mg base "rounds" nh [] 7 false dM k7:=by
 refine pE (ds:=[]) (k:=6) (fs:=k6) (m':=fH) A dB rfl 3 rfl (fun _ _ _ _ _ _ _ us hl=>by obtain⟨u0,u1,u2,rfl⟩:=tv us hl;exact⟨_,rfl,rfl⟩) fun f cdv A outer s H g E hr=>?_;have hu1:=jP hr;have hu64:=hr.units;exact(al (bP 3 dB.nd (bz c_order_of (ah (ae 0) (ah (ae 2) ba))))
   (al (bP 4 dB.nd (SO.toE (j4 rfl (by rfl) T.b_list (by rfl) T.b_range (aZ (bE (bz c_things_in (ah (ae 0) ba))) a9))))
   (al (eY 5 dB.nd (by rfl) (dh rfl) (i4 da))
   (al (pj 64 Hv (eU (ae 3)) (j9 (m':=l9) 4 (j9 (m':=ju) 3 (al (bP 6 dB.nd (wf (dds:=[]) c_rings_of_round (hr.mono (by decide)) (ah (ae 0) (ah (ae 1) (ah (ae 3) (ah (ae 4) ba))))))
   (al (bP 7 dB.nd (bz c_got_in (ah (ae 6) ba)))
   (al (bP 8 dB.nd (SO.toE (oX rfl (by rfl) T.b_list (ae 7))))
   (al (iP 3 (X:=(aR bB P w K mg base gQ "rounds" (az fU) f cdv A outer s H E).nox) (m:=dN) (N':=["hand","got"]) (nl:=1) (cap:=[7]) dB.nd rfl (by rfl) (by rfl) (fB (osc:=(az fU)) (ON:=gQ) rfl rfl (by decide+kernel)) (eV (ae 3)) (fun _ _ _ _ _ _=>(bI 0 (show IQ (["hand","got"]:List Str)by decide+kernel))) (fw (by decide)) (fun _ _ _ _ _ _=>(iH (i5 hu1 (ae 0) (ae 1)))) (fun _ _ _ _ _ _=>(v_ 0)))
   (al (iP 4 (X:=(aR bB P w K mg base gQ "rounds" (az fU) f cdv A outer s H E).nox) (m:=jv) (N':=["thing","taken"]) (nl:=1) (cap:=[8]) dB.nd rfl (by rfl) (by rfl) (fB (osc:=(az fU)) (ON:=gQ) rfl rfl (by decide+kernel)) (eV (ae 4)) (fun _ _ _ _ _ _=>(bI 0 (show IQ (["thing","taken"]:List Str)by decide+kernel))) (fw (by decide)) (fun _ _ _ _ _ _=>(iH (i5 hu1 (ae 0) (ae 1)))) (fun _ _ _ _ _ _=>(v_ 0)))
   (al (g0 5 rfl Hw HX HY iO kD (by rfl) (c8 rfl) (dy (v_ 6) da))
   ay)))))) rfl) rfl))
   (al (mL 5 rfl (bf (v_ 5)))
   ay)))))
theorem BR(T:Txt K mg)(A:DefAtD K mg "rounds" fU [Value.none])(c_order_of:Callee P w K mg base "order_of" lz [] 6 false q0 gS)(c_things_in:Callee P w K mg base "things_in" lL [] 1 false [Md.bw] iR)(c_rings_of_round:Callee P w K mg base "rings_of_round" lM [] 3 true b4 iQ)(c_got_in:Callee P w K mg base "got_in" k8 [] 1 false [Md.bw] iL):Callee P w K mg base "rounds" nh [Value.none] 7 false dM k7:=by
 refine pE (ds:=[Value.none]) (k:=6) (fs:=k6) (m':=fH) A dB rfl 2 rfl (fun _ _ _ _ _ _ _ us hl=>by obtain⟨u0,u1,rfl⟩:=tu us hl;exact⟨_,rfl,rfl⟩) fun f cdv A outer s H g E hr=>?_;have hu1:=jP hr;have hu64:=hr.units;exact(al (bP 3 dB.nd (bz c_order_of (ah (ae 0) (ah (ae 2) ba))))
   (al (bP 4 dB.nd (SO.toE (j4 rfl (by rfl) T.b_list (by rfl) T.b_range (aZ (bE (bz c_things_in (ah (ae 0) ba))) a9))))
   (al (eY 5 dB.nd (by rfl) (dh rfl) (i4 da))
   (al (pj 64 Hv (eU (ae 3)) (j9 (m':=l9) 4 (j9 (m':=ju) 3 (al (bP 6 dB.nd (wf (dds:=[]) c_rings_of_round (hr.mono (by decide)) (ah (ae 0) (ah (ae 1) (ah (ae 3) (ah (ae 4) ba))))))
   (al (bP 7 dB.nd (bz c_got_in (ah (ae 6) ba)))
   (al (bP 8 dB.nd (SO.toE (oX rfl (by rfl) T.b_list (ae 7))))
   (al (iP 3 (X:=(aR bB P w K mg base gQ "rounds" (az fU) f cdv A outer s H E).nox) (m:=dN) (N':=["hand","got"]) (nl:=1) (cap:=[7]) dB.nd rfl (by rfl) (by rfl) (fB (osc:=(az fU)) (ON:=gQ) rfl rfl (by decide+kernel)) (eV (ae 3)) (fun _ _ _ _ _ _=>(bI 0 (show IQ (["hand","got"]:List Str)by decide+kernel))) (fw (by decide)) (fun _ _ _ _ _ _=>(iH (i5 hu1 (ae 0) (ae 1)))) (fun _ _ _ _ _ _=>(v_ 0)))
   (al (iP 4 (X:=(aR bB P w K mg base gQ "rounds" (az fU) f cdv A outer s H E).nox) (m:=jv) (N':=["thing","taken"]) (nl:=1) (cap:=[8]) dB.nd rfl (by rfl) (by rfl) (fB (osc:=(az fU)) (ON:=gQ) rfl rfl (by decide+kernel)) (eV (ae 4)) (fun _ _ _ _ _ _=>(bI 0 (show IQ (["thing","taken"]:List Str)by decide+kernel))) (fw (by decide)) (fun _ _ _ _ _ _=>(iH (i5 hu1 (ae 0) (ae 1)))) (fun _ _ _ _ _ _=>(v_ 0)))
   (al (g0 5 rfl Hw HX HY iO kD (by rfl) (c8 rfl) (dy (v_ 6) da))
   ay)))))) rfl) rfl))
   (al (mL 5 rfl (bf (v_ 5)))
   ay)))))
abbrev jj:Stmt:=bY 19
abbrev kg:List Str:=["wishes","owns","order","line","things","told","rings","got","taken"]
abbrev qt:List Str:=["wishes","owns","order"]
theorem g9:FnScope kg qt (az jj):=bZ
abbrev qE:FQ:=(bH (gv 3))
def nC:ag->Option (List (List D)):=(eF (am gu 3 (aJ (aj (gv 0) (aj (gv 2) af)) [] gS)) (eF (am gu 4 (fC (aj (aJ (aj (gv 0) af) [] iR) af) gJ)) (mO (sr 5) (oH (fA qE (d4 (ca (am hZ 6 (eG (aJ (aj (gv 0) (aj (gv 1) (aj (gv 3) (aj (gv 4) af)))) [] iQ)))) (d4 (ca (am aX 7 (aJ (aj (gv 6) af) [] iL))) (d4 (ca (am aX 8 (f1 (gv 7) kA))) (d4 (ca (am aX 3 (cL 1 [7] (aI bN (gv 3)) (aG 0) (aO (f2 (gv 0) (gv 1) bX)) (gv 0)))) (d4 (ca (am aX 4 (cL 1 [8] (aI bN (gv 4)) (aG 0) (aO (f2 (gv 0) (gv 1) bX)) (gv 0)))) (d4 (dS 6) (fun r w=>some (r,w)))))))) 64) An))))
def nF:List D->Option (List (List D)):=fun ds=>nC (aS kg.length ds)
theorem CP(T:Txt K mg)(A:DefAtD K mg "rounds" jj [Value.none])(c_order_of:Callee P w K mg base "order_of" lz [] 6 false q0 gS)(c_things_in:Callee P w K mg base "things_in" lL [] 1 false [Md.bw] iR)(c_rings_of_round:Callee P w K mg base "rings_of_round" lM [] 3 true b4 iQ)(c_got_in:Callee P w K mg base "got_in" k8 [] 1 false [Md.bw] iL):CalleeR P w K mg base "rounds" qt 7 [.sh,.sh,.sh] nF:=by
 refine EA (k:=6) (F:=nC) A g9 rfl (fun _ _ _ _ _ _ _ us hl=>by obtain⟨u0,u1,u2,rfl⟩:=tv us hl;exact⟨_,rfl,rfl⟩) fun f cdv A outer s H g E hr=>?_;have hu1:=jP hr;have hu64:=hr.units;exact(wm (ro:=false) (mb:=[]) (bP 3 g9.nd (bz c_order_of (ah (ae 0) (ah (ae 2) ba))))
   (wm (ro:=false) (mb:=[]) (bP 4 g9.nd (SO.toE (j4 rfl (by rfl) T.b_list (by rfl) T.b_range (aZ (bE (bz c_things_in (ah (ae 0) ba))) a9))))
   (DR (Cs 5 (m:=gu) (by decide) g9.nd (by rfl) (dh rfl))
   (Fo (DK 64 Hv (fun _=>(eU (ae 3))) (j8 (kG (ro:=false) (mb:=hZ) (m:=hZ) (m':=aX) (fun _=>(eY 6 g9.nd (by rfl) (dh rfl) (wj (dds:=[]) c_rings_of_round (hr.mono (by decide)) (ah (ae 0) (ah (ae 1) (ah (ae 3) (ah (ae 4) ba))))))) (by rfl)) (j8 (kG (ro:=false) (mb:=aX) (m:=aX) (m':=aX) (fun _=>(bP 7 g9.nd (bz c_got_in (ah (ae 6) ba)))) (by rfl)) (j8 (kG (ro:=false) (mb:=aX) (m:=aX) (m':=aX) (fun _=>(bP 8 g9.nd (SO.toE (oX rfl (by rfl) T.b_list (ae 7))))) (by rfl)) (j8 (kG (ro:=false) (mb:=aX) (m:=aX) (m':=aX) (fun _=>(w9 3 (iP 3 (X:=(aR bB P w K mg base kg "rounds" (az jj) f cdv A outer s H E).nox) (m:=aX) (N':=["hand","got"]) (nl:=1) (cap:=[7]) g9.nd rfl (by rfl) (by rfl) (fB (osc:=(az jj)) (ON:=kg) rfl rfl (by decide+kernel)) (eV (ae 3)) (fun _ _ _ _ _ _=>(bI 0 (show IQ (["hand","got"]:List Str)by decide+kernel))) (fw (by decide)) (fun _ _ _ _ _ _=>(iH (i5 hu1 (ae 0) (ae 1)))) (fun _ _ _ _ _ _=>(v_ 0))) rfl)) (by rfl)) (j8 (kG (ro:=false) (mb:=aX) (m:=aX) (m':=aX) (fun _=>(w9 4 (iP 4 (X:=(aR bB P w K mg base kg "rounds" (az jj) f cdv A outer s H E).nox) (m:=aX) (N':=["thing","taken"]) (nl:=1) (cap:=[8]) g9.nd rfl (by rfl) (by rfl) (fB (osc:=(az jj)) (ON:=kg) rfl rfl (by decide+kernel)) (eV (ae 4)) (fun _ _ _ _ _ _=>(bI 0 (show IQ (["thing","taken"]:List Str)by decide+kernel))) (fw (by decide)) (fun _ _ _ _ _ _=>(iH (i5 hu1 (ae 0) (ae 1)))) (fun _ _ _ _ _ _=>(v_ 0))) rfl)) (by rfl)) (j8 (Cp 6 (by decide) (by rfl) (kr (by decide)) (by rfl) (by rfl) (c8 rfl) (by rfl) (c8 rfl)) Cw)))))) (by rfl))
   (CA (by rfl) (by rfl) (c8 rfl))))))
abbrev qi:Stmt:=bY 28
abbrev yB:List Str:=["_law_order","_law_n"]
abbrev qK:List Str:=["_law_order","_law_n"]
theorem Gm:FnScope yB qK (az qi):=bZ
def qW:FS:=(aa (ck q0 (aO (f2 (gv 0) (fun _=>Res.ok D.non) iS)) (aa (ar q0 (fC (aj (gv 1) af) gJ)) ax) ax) (aa (ar q0 (fC (aj (gv 0) af) gI)) ax))
def nP:List D->Res D:=fun ds=>aD true (qW (aS yB.length ds))
theorem DC(T:Txt K mg)(A:DefAt K mg "_law_line" qi):Callee P w K mg base "_law_line" qK [] 1 true q0 nP:=
 cm (m':=q0) A Gm fun f cdv A outer s H g E hr hu1=>(al (bj (jt (ae 0) (bE fq)) (al (pc (j4 rfl (by rfl) T.b_list (by rfl) T.b_range (aZ (ae 1) a9)))
   ay)
   ay)
   (al (pc (kN (by rfl) T.b_list (aZ (ae 0) a9)))
   ay))
abbrev qg:Stmt:=bY 25
abbrev yz:List Str:=["_law_row_here","_law_left","_law_thing"]
abbrev nU:List Str:=["_law_row_here","_law_left"]
theorem yR:FnScope yz nU (az qg):=bZ
abbrev lC:FS:=(aa (ck dM (aO (f2 (gv 2) (gv 1) fh)) (aa (ar dM (gv 2)) ax) ax) ax)
def qV:FS:=(aa (cA dM (aI bN (gv 0)) (aG 2) lC) (aa (ar dM (fun _=>Res.ok D.non)) ax))
def kb:List D->Res D:=fun ds=>aD false (qV (aS yz.length ds))
theorem DA(T:Txt K mg)(A:DefAt K mg "_law_best" qg):Callee P w K mg base "_law_best" nU [] 1 false q0 kb:=
 cm (m':=dM) A yR fun f cdv A outer s H g E hr hu1=>(al (pb Hv rfl (eV (ae 0)) (fun _=>(bI 2 yR.nd)) (fun _=>(al (bj (hW hu1 (ae 2) (ae 1)) (al (bf (v_ 2))
   ay)
   ay)
   ay)))
   (al (bf fq)
   ay))
abbrev qP:Stmt:=bY 30
abbrev yK:List Str:=["_law_wishes_here","_law_owns_here","_law_line_here","_law_things","_law_points_here","_law_hand","_law_thing","_law_other"]
abbrev rf:List Str:=["_law_wishes_here","_law_owns_here","_law_line_here","_law_things"]
theorem lG:FnScope yK rf (az qP):=bZ
abbrev y0:FS:=(aa (ck eB (aO (f2 (f2 (gv 1) (gv 7) aK) (gv 6) eqD)) (aa (putF eB 4 (gv 5) (gv 7)) ax) ax) ax)
abbrev y4:FS:=(aa (am eB 6 (aJ (aj (f2 (gv 0) (gv 5) aK) (aj (gv 3) af)) [] kb)) (aa (putF eB 4 (gv 5) (f2 (gv 2) (ci 0) aK)) (aa (cA eB (aI bN (gv 2)) (aG 7) y0) ax)))
def rB:FS:=(aa (am h9 4 (fun _=>Res.ok (D.dic []))) (aa (cA eB (aI bN (gv 2)) (aG 5) y4) (aa (ar h9 (gv 4)) ax)))
def om:List D->Res D:=fun ds=>aD false (rB (aS yK.length ds))
theorem DZ(T:Txt K mg)(A:DefAt K mg "_law_points" qP)(c__law_best:Callee P w K mg base "_law_best" nU [] 1 false q0 kb):Callee P w K mg base "_law_points" rf [] 2 false b4 om:=
 cm (m':=h9) A lG fun f cdv A outer s H g E hr hu1=>have hu64:=hr.units;(al (eY 4 lG.nd (by rfl) (dh rfl) kM)
   (al (i7 Hv rfl (jV (jm 2)) (bI 5 lG.nd) (al (bP 6 lG.nd (bz c__law_best (ah (xB hu1 (ae 0) (ae 5)) (ah (ae 3) ba))))
   (al (jT 4 hu1 rfl (by rfl) (c8 rfl) (ae 5) (fZ hu1 (ae 2) iB))
   (al (i7 Hv rfl (jV (jm 2)) (bI 7 lG.nd) (al (bj (dJ hu64 (xB hu1 (ae 1) (ae 7)) (ae 6)) (al (jT 4 hu1 rfl (by rfl) (c8 rfl) (ae 5) (v_ 7))
   ay)
   ay)
   ay))
   ay))))
   (al (mL 4 rfl (bf (v_ 4)))
   ay)))
abbrev qS:Stmt:=bY 26
abbrev yW:List Str:=["_law_found"]
abbrev qB:List Str:=["_law_found"]
theorem GF:FnScope yW qB (az qS):=bZ
def F4:FS:=(aa (ar [Md.bw] (dc (f1 (gv 0) (cX "int")) (hJ (f1 (gv 0) (cX "bool"))))) ax)
def lI:List D->Res D:=fun ds=>aD false (F4 (aS yW.length ds))
theorem D8(T:Txt K mg)(A:DefAt K mg "_law_whole" qS):Callee P w K mg base "_law_whole" qB [] 1 false [Md.bw] lI:=
 cm (m':=[Md.bw]) A GF fun f cdv A outer s H g E hr hu1=>(al (bf (kB (ir "int" "int" rfl (vL _) (by rfl) T.b_isinstance (by rfl) T.b_int (ae 0)) (jS (t4 (ir "bool" "bool" rfl (wL _) (by rfl) T.b_isinstance (by rfl) T.b_bool (ae 0))))))
   ay)
abbrev lP:Stmt:=bY 32
abbrev n8:List Str:=["_law_ring","_law_wishes_here","_law_things","_law_points_here","_law_k","_law_pair"]
abbrev rF:List Str:=["_law_ring","_law_wishes_here","_law_things","_law_points_here"]
theorem oq:FnScope n8 rF (az lP):=bZ
abbrev zh:FS:=(aa (am cv 5 (f2 (gv 0) (gv 4) aK)) (aa (ck cv (dP (bT (bH (f1 (gv 5) (cX "tuple")))) (dP (aO (f2 (fC (aj (gv 5) af) lenD) (ci 2) neD)) (dP (bT (bH (aJ (aj (f2 (gv 5) (ci 0) aK) af) [] lI))) (bT (bH (aJ (aj (f2 (gv 5) (ci 1) aK) af) [] lI)))))) (aa (ar cv (fun _=>Res.ok (D.bl false))) ax) ax) (aa (ck cv (dP (aO (f2 (f2 (gv 5) (ci 0) aK) (gv 3) bX)) (aO (f2 (f2 (gv 5) (ci 1) aK) (aJ (aj (f2 (gv 1) (f2 (gv 5) (ci 0) aK) aK) (aj (gv 2) af)) [] kb) neD))) (aa (ar cv (fun _=>Res.ok (D.bl false))) ax) ax) (aa (ck cv (aO (f2 (f2 (gv 5) (ci 0) aK) (f2 (f2 (gv 0) (ci 0) aK) (ci 0) aK) ic)) (aa (ar cv (fun _=>Res.ok (D.bl false))) ax) ax) ax))))
def rD:FS:=(aa (ck cv (dP (bT (bH (f1 (gv 0) (cX "tuple")))) (aO (f2 (fC (aj (gv 0) af) lenD) (ci 0) eqD))) (aa (ar cv (fun _=>Res.ok (D.bl false))) ax) ax) (aa (cA cv (cF cu (aj (fC (aj (gv 0) af) lenD) af)) (aG 4) zh) (aa (ar cv (fC (aj (cL 1 [3,0] (cF cu (aj (fC (aj (gv 0) af) lenD) af)) (aG 0) (fun _=>Res.ok true) (f2 (f2 (gv 1) (f2 (f2 (gv 2) (f2 (gv 0) (ci 1) gs) aK) (ci 0) aK) aK) (f2 (f2 (gv 2) (gv 0) aK) (ci 0) aK) eqD)) af) allD)) ax)))
def n6:List D->Res D:=fun ds=>aD false (rD (aS n8.length ds))
theorem FO(T:Txt K mg)(A:DefAt K mg "_law_ring_well" lP)(c__law_whole:Callee P w K mg base "_law_whole" qB [] 1 false [Md.bw] lI)(c__law_best:Callee P w K mg base "_law_best" nU [] 1 false q0 kb):Callee P w K mg base "_law_ring_well" rF [] 2 false b4 n6:=
 cm (m':=cv) A oq fun f cdv A outer s H g E hr hu1=>have hu64:=hr.units;(al (bj (SW.toQ (df (gb (eU (bE (ir "tuple" "tuple" rfl (xN _) (by rfl) T.b_isinstance (by rfl) T.b_tuple (ae 0))))) (i6 (dJ hu64 (bE (dw (by rfl) T.b_len (aZ (ae 0) a9))) iB)))) (al (bf de)
   ay)
   ay)
   (al (iV Hv rfl (j6 (by rfl) T.b_range (aZ (bE (dw (by rfl) T.b_len (aZ (ae 0) a9))) a9)) (bI 4 oq.nd) (al (bP 5 oq.nd (fZ hu1 (ae 0) (ae 4)))
   (al (bj (SW.toQ (df (gb (eU (bE (ir "tuple" "tuple" rfl (xN _) (by rfl) T.b_isinstance (by rfl) T.b_tuple (ae 5))))) (df (jq hu64 (bE (dw (by rfl) T.b_len (aZ (ae 5) a9))) iB) (df (gb (eU (bE (bz c__law_whole (ah (xB hu1 (ae 5) iB) ba))))) (i6 (gb (eU (bE (bz c__law_whole (ah (xB hu1 (ae 5) iB) ba)))))))))) (al (bf de)
   ay)
   ay)
   (al (bj (SW.toQ (df (i5 hu1 (xB hu1 (ae 5) iB) (ae 3)) (i6 (jq hu64 (xB hu1 (ae 5) iB) (bE (bz c__law_best (ah (xB hu1 (ae 1) (xB hu1 (ae 5) iB)) (ah (ae 2) ba)))))))) (al (bf de)
   ay)
   ay)
   (al (bj (js (xB hu1 (ae 5) iB) (xB hu1 (xB hu1 (ae 0) iB) iB)) (al (bf de)
   ay)
   ay)
   ay)))))
   (al (bf (Ao rfl (by rfl) T.b_all (aZ (SO.toB (kL (X:=(aR bB P w K mg base n8 "_law_ring_well" (az lP) f cdv A outer s H E).nox) (N':=["_law_k","_law_points_here","_law_ring"]) (nl:=1) (cap:=[3,0]) oq.nd rfl (fB (osc:=(az lP)) (ON:=n8) rfl rfl (by decide+kernel)) (im.toC (j6 (by rfl) T.b_range (aZ (bE (dw (by rfl) T.b_len (aZ (ae 0) a9))) a9))) (fun _ _ _ _ _ _=>(bI 0 (show IQ (["_law_k","_law_points_here","_law_ring"]:List Str)by decide+kernel))) (fw (by decide)) (fun _ _ _ _ _ _=>kP) (fun _ _ _ _ _ _=>(fE hu64 (xB hu1 (ae 1) (xB hu1 (xB hu1 (ae 2) (bE (t5 (ae 0) iB))) iB)) (xB hu1 (xB hu1 (ae 2) (ae 0)) iB))))) a9)))
   ay)))
abbrev lE:Stmt:=bY 31
abbrev n5:List Str:=["_law_points_here","_law_line_here","_law_hands","_law_step"]
abbrev ra:List Str:=["_law_points_here","_law_line_here"]
theorem n9:FnScope n5 ra (az lE):=bZ
abbrev zl:FS:=(aa (am bD 2 (cL 1 [0] (aI bN (gv 2)) (aG 0) (fun _=>Res.ok true) (f2 (gv 1) (gv 0) aK))) ax)
def qY:FS:=(aa (am bD 2 (fC (aj (gv 1) af) gI)) (aa (cA bD (aI bN (gv 1)) (aG 3) zl) (aa (ar bD (fC (aj (gv 2) af) mM)) ax)))
def nZ:List D->Res D:=fun ds=>aD false (qY (aS n5.length ds))
theorem E4(T:Txt K mg)(A:DefAt K mg "_law_on_rings" lE):Callee P w K mg base "_law_on_rings" ra [] 1 false q0 nZ:=
 cm (m':=bD) A n9 fun f cdv A outer s H g E hr hu1=>(al (bP 2 n9.nd (SO.toE (kN (by rfl) T.b_list (aZ (ae 1) a9))))
   (al (pb Hv rfl (eV (ae 1)) (fun _=>(bI 3 n9.nd)) (fun _=>(j9 (m':=[.bw,.bw,.ow,.sh]) 2 (al (iP 2 (X:=(aR bB P w K mg base n5 "_law_on_rings" (az lE) f cdv A outer s H E).nox) (m:=bD) (N':=["_law_hand","_law_points_here"]) (nl:=1) (cap:=[0]) n9.nd rfl (by rfl) (by rfl) (fB (osc:=(az lE)) (ON:=n5) rfl rfl (by decide+kernel)) (eV (ae 2)) (fun _ _ _ _ _ _=>(bI 0 (show IQ (["_law_hand","_law_points_here"]:List Str)by decide+kernel))) (fw (by decide)) (fun _ _ _ _ _ _=>kP) (fun _ _ _ _ _ _=>(fZ hu1 (ae 1) (ae 0))))
   ay) rfl)))
   (al (bf (SO.toE (EE rfl (by rfl) T.b_sorted (by rfl) T.b_set (aZ (ae 2) a9))))
   ay)))
abbrev lQ:Stmt:=bY 33
abbrev on:List Str:=["_law_rings","_law_wishes_here","_law_owns_here","_law_line_here","_law_things","_law_points_here","_law_hands","_law_ring"]
abbrev rJ:List Str:=["_law_rings","_law_wishes_here","_law_owns_here","_law_line_here","_law_things"]
theorem lO:FnScope on rJ (az lQ):=bZ
abbrev zk:FS:=(aa (ck fG (bT (bH (aJ (aj (gv 7) (aj (gv 1) (aj (gv 4) (aj (gv 5) af)))) [] n6))) (aa (ar fG (fun _=>Res.ok (D.bl false))) ax) ax) (aa (cg "list" fG 6 (aj (cL 1 [] (aI bN (gv 7)) (aG 0) (fun _=>Res.ok true) (f2 (gv 0) (ci 0) aK)) af) extD) ax))
def rG:FS:=(aa (am hX 5 (aJ (aj (gv 1) (aj (gv 2) (aj (gv 3) (aj (gv 4) af)))) [] om)) (aa (ck hX (bT (bH (f1 (gv 0) (cX "list")))) (aa (ar hX (fun _=>Res.ok (D.bl false))) ax) ax) (aa (am hX 6 (fW af)) (aa (cA fG (aI bN (gv 0)) (aG 7) zk) (aa (ar fG (dc (f2 (fC (aj (gv 6) af) mZ) (aJ (aj (gv 5) (aj (gv 3) af)) [] nZ) eqD) (f2 (gv 0) (fC (aj (gv 0) af) kC) eqD))) ax)))))
def oa:List D->Res D:=fun ds=>aD false (rG (aS on.length ds))
theorem Fs(T:Txt K mg)(A:DefAt K mg "_law_round_well" lQ)(c__law_points:Callee P w K mg base "_law_points" rf [] 2 false b4 om)(c__law_ring_well:Callee P w K mg base "_law_ring_well" rF [] 2 false b4 n6)(c__law_on_rings:Callee P w K mg base "_law_on_rings" ra [] 1 false q0 nZ):Callee P w K mg base "_law_round_well" rJ [] 3 false [.bw,.bw,.bw,.bw,.bw] oa:=
 cm (m':=fG) A lO fun f cdv A outer s H g E hr hu1=>have hu64:=hr.units;(al (bP 5 lO.nd (bz c__law_points (ah (ae 1) (ah (ae 2) (ah (ae 3) (ah (ae 4) ba))))))
   (al (bj (gb (eU (bE (ir "list" "list" rfl (wM _) (by rfl) T.b_isinstance (by rfl) T.b_list (ae 0))))) (al (bf de)
   ay)
   ay)
   (al (eY 6 lO.nd (by rfl) (dh rfl) (i4 da))
   (al (i7 Hv rfl (jV (jm 0)) (bI 7 lO.nd) (al (bj (gb (eU (bE (bz c__law_ring_well (ah (ae 7) (ah (ae 1) (ah (ae 4) (ah (ae 5) ba)))))))) (al (bf de)
   ay)
   ay)
   (al (g0 6 rfl Hw PySem.F.slot_list_extend PySem.F.type_list_extend FN Ag (by rfl) (c8 rfl) (dy (SO.toE (kL (X:=(aR bB P w K mg base on "_law_round_well" (az lQ) f cdv A outer s H E).nox) (N':=["_law_pair"]) (nl:=1) (cap:=[]) lO.nd rfl (fB (osc:=(az lQ)) (ON:=on) rfl rfl (by decide+kernel)) (eV (ae 7)) (fun _ _ _ _ _ _=>(bI 0 (show IQ (["_law_pair"]:List Str)by decide+kernel))) (fw (by decide)) (fun _ _ _ _ _ _=>kP) (fun _ _ _ _ _ _=>(fZ hu1 (ae 0) iB)))) da))
   ay)))
   (al (bf (kB (fE hu64 (SO.toB (EF hr (by rfl) T.b_sorted (aZ (ae 6) a9))) (bE (bz c__law_on_rings (ah (ae 5) (ah (ae 3) ba))))) (jS (fE hu64 (ae 0) (SO.toB (wS hr (by rfl) T.b_sorted (aZ (ae 0) a9)))))))
   ay)))))
abbrev qk:Stmt:=bY 34
abbrev yD:List Str:=["_law_found","_law_wishes_here","_law_owns_here","_law_order","_law_line_here","_law_things","_law_rings","_law_ring","_law_hand","_law_thing"]
abbrev qM:List Str:=["_law_found","_law_wishes_here","_law_owns_here","_law_order"]
theorem jl:FnScope yD qM (az qk):=bZ
abbrev yG:FS:=(aa (cg "list" cC 4 (aj (gv 8) af) remD) (aa (cg "list" cC 5 (aj (gv 9) af) remD) ax))
abbrev yH:FS:=(aa (cA cC (aI bN (gv 7)) (iT (d6 (aG 8) (d6 (aG 9) iD))) yG) ax)
abbrev yI:FS:=(aa (ck cC (dP (aO (f2 (fC (aj (gv 4) af) lenD) (ci 0) eqD)) (bT (bH (aJ (aj (gv 6) (aj (gv 1) (aj (gv 2) (aj (gv 4) (aj (gv 5) af))))) [] oa)))) (aa (ar cC (fun _=>Res.ok (D.bl false))) ax) ax) (aa (cA cC (aI bN (gv 6)) (aG 7) yH) ax))
def qG:FS:=(aa (am [.bw,.bw,.bw,.bw,.sh,.sh,.sh,.sh,.sh,.sh] 4 (eG (aJ (aj (gv 3) (aj (fC (aj (gv 1) af) lenD) af)) [] nP))) (aa (am [.bw,.bw,.bw,.bw,.ow,.sh,.sh,.sh,.sh,.sh] 5 (fC (aj (fC (aj (f2 (gv 1) (ci 0) aK) af) lenD) af) gJ)) (aa (ck cC (bT (bH (f1 (gv 0) (cX "list")))) (aa (ar cC (fun _=>Res.ok (D.bl false))) ax) ax) (aa (cA cC (aI bN (gv 0)) (aG 6) yI) (aa (ar cC (f2 (fC (aj (gv 4) af) lenD) (ci 0) eqD)) ax)))))
def lw:List D->Res D:=fun ds=>aD false (qG (aS yD.length ds))
theorem DE(T:Txt K mg)(A:DefAt K mg "_law_well" qk)(c__law_line:Callee P w K mg base "_law_line" qK [] 1 true q0 nP)(c__law_round_well:Callee P w K mg base "_law_round_well" rJ [] 3 false [.bw,.bw,.bw,.bw,.bw] oa):Callee P w K mg base "_law_well" qM [] 4 false b4 lw:=
 cm (m':=cC) A jl fun f cdv A outer s H g E hr hu1=>have hu64:=hr.units;(al (eY 4 jl.nd (by rfl) (dh rfl) (wj (dds:=[]) c__law_line (hr.mono (by decide)) (ah (ae 3) (ah (bE (dw (by rfl) T.b_len (aZ (ae 1) a9))) ba))))
   (al (eY 5 jl.nd (by rfl) (dh rfl) (j4 rfl (by rfl) T.b_list (by rfl) T.b_range (aZ (bE (dw (by rfl) T.b_len (aZ (xB hu1 (ae 1) iB) a9))) a9)))
   (al (bj (gb (eU (bE (ir "list" "list" rfl (wM _) (by rfl) T.b_isinstance (by rfl) T.b_list (ae 0))))) (al (bf de)
   ay)
   ay)
   (al (i7 Hv rfl (jV (jm 0)) (bI 6 jl.nd) (al (bj (SW.toQ (df (dJ hu64 (bE (dw (by rfl) T.b_len (aZ (ae 4) a9))) iB) (i6 (gb (eU (bE (bz c__law_round_well (ah (ae 6) (ah (ae 1) (ah (ae 2) (ah (ae 4) (ah (ae 5) ba)))))))))))) (al (bf de)
   ay)
   ay)
   (al (iV Hv rfl (oP (v_ 6)) (bI 7 jl.nd) (al (iV Hv rfl (oP (v_ 7)) (mJ rfl (g4 (bI 8 jl.nd) (g4 (bI 9 jl.nd) mI))) (al (g0 4 rfl Hw JQ K5 xT uW (by rfl) (c8 rfl) (dy (v_ 8) da))
   (al (g0 5 rfl Hw JQ K5 xT uW (by rfl) (c8 rfl) (dy (v_ 9) da))
   ay)))
   ay))
   ay)))
   (al (bf (fE hu64 (bE (dw (by rfl) T.b_len (aZ (ae 4) a9))) iB))
   ay)))))
abbrev oS:Stmt:=bY 35
abbrev sM:List Str:=["_law_script","_law_wishes_here","_law_owns_here","_law_order","_law_given","_law_again","_law_found"]
abbrev sN:List Str:=["_law_script"]
theorem iJ:FnScope sM sN (az oS):=bZ
abbrev vK:FS:=(ko (kY 6 (aj (gv 1) (aj (gv 2) (aj (gv 4) af))) nF) (mh 6 (dP (aO (f2 (gv 4) (gv 3) neD)) (bT (bH (aJ (aj (gv 6) (aj (gv 1) (aj (gv 2) (aj (gv 3) af)))) [] lw)))) (jL (gB (ci 0)) (jL (gD (fW af)) (sS 6 ax)))))
def mE:FS:=(aa (jD dL (aJ (aj (gv 0) af) [] lH) (iT (d6 (aG 1) (d6 (aG 2) (d6 (aG 3) iD))))) (aa (am dL 4 (fun _=>Res.ok D.non)) (aa (ck dL (aO (f2 (gv 3) (fun _=>Res.ok D.non) cW)) (aa (am dL 4 (fC (aj (gv 3) af) gI)) ax) ax) (aa (cA dL (cF cu (aj (ci 2) af)) (aG 5) vK) (aa (ar dL (jn (f2 (gv 3) (fun _=>Res.ok D.non) cW) (aJ (aj (aJ (aj (gv 1) (aj (gv 2) af)) [D.non] k7) (aj (gv 1) (aj (gv 2) (aj (fun _=>Res.ok D.non) af)))) [] lw))) ax)))))
def oE:List D->Res D:=fun ds=>aD false (mE (aS sM.length ds))
theorem zB(T:Txt K mg){fa:Addr}{fd:Iy}(A:Fun K "law" "law" oS fa fd)(c__law_scene:Callee P w K mg base "_law_scene" qA [] 3 false [Md.bw] lH)(c__law_well:Callee P w K mg base "_law_well" qM [] 4 false b4 lw)(c_rounds_r:CalleeR P w K mg base "rounds" qt 7 [.sh,.sh,.sh] nF)(c_rounds':Callee P w K mg base "rounds" nh [Value.none] 7 false dM k7):FnOk P w K mg base bB 8 fa fd sN (fV K false [Md.sh] oE):=by
 refine vE (k:=7) (fs:=mE) (m':=dL) A iJ rfl fun cdv A outer s H g E hr=>?_;have hu1:=jP hr;have hu64:=hr.units;exact(al (Ap (bz c__law_scene (ah (ae 0) ba)) (mJ rfl (g4 (bI 1 iJ.nd) (g4 (bI 2 iJ.nd) (g4 (bI 3 iJ.nd) mI)))))
   (al (bP 4 iJ.nd fq)
   (al (bj (uC (ae 3) (bE fq)) (al (bP 4 iJ.nd (SO.toE (kN (by rfl) T.b_list (aZ (ae 3) a9))))
   ay)
   ay)
   (al (iV Hv rfl (j6 (by rfl) T.b_range (aZ iB a9)) (bI 5 iJ.nd) (j9 (m':=[.sh,.sh,.sh,.sh,.sh,.sh,.ow]) 6 (Ca (i:=6) (by rfl) (Fk 6 (m:=dL) (by decide) iJ.nd (by rfl) (dh rfl) c_rounds_r (hr.mono (by decide)) (eL (v_ 1) (eL (v_ 2) (eL (v_ 4) ba))))
   (Cy (kr (by decide)) (fun _=>(SW.toQ (df (jq hu64 (ae 4) (ae 3)) (i6 (gb (eU (bE (bz c__law_well (ah (ae 6) (ah (ae 1) (ah (ae 2) (ah (ae 3) ba))))))))))))
   (xw (by rfl) (B5 (by rfl) (kr (by decide)) (by rfl) (c8 rfl) (fun _=>iB))
   (xw (by rfl) (Co (by rfl) (kr (by decide)) (by rfl) (c8 rfl) (fun _=>(i4 da)))
   (DP ay (kr (by decide))))))) rfl))
   (al (bf (sg (Aq (ae 3) (bE fq)) (jS (bz c__law_well (ah (bE (vA (dvs:=[.non]) (dds:=[D.non]) c_rounds' (hr.mono (by decide)) (ah (ae 1) (ah (ae 2) ba)) (hd:=.cons rfl .nil) (hsc:=.cons .non .nil))) (ah (ae 1) (ah (ae 2) (ah (bE fq) ba))))))))
   ay)))))
end Law
namespace Law
open PySem L2 DL
abbrev nD(k:Nat):D:=.int (k:Int)
abbrev LN(l:List Nat):D:=.lst (l.map nD)
abbrev TN(l:List Nat):D:=.tup (l.map nD)
def oD:Option Nat->D
|none=>.non
|some k=>nD k
abbrev WD(rz:List (List Nat)):D:=.tup (rz.map TN)
abbrev OD(oz:List (Option Nat)):D:=.tup (oz.map oD)
theorem eu{ds:List D}(h:ds.length<=1000):sz ds=some ds:=Au (HZ h (by rw[HF];decide))
@[simp] theorem addA_int(a b:Int):addA (.int a) (.int b)=some (.int (a+b)):=rfl
theorem De{a b:Int}(h:eS a b):cj (.int a) (.int b)=some (.int (a*b)):=by rw[cj,intsC_int,if_pos h]
theorem vO{a b:Int}(h:0<b):bc (.int a) (.int b)=some (.int (a%b)):=by rw[bc,intsC_int,if_pos h]
theorem Ds{a b:Int}(h:fQ a b):g3 (.int a) (.int b)=some (.int (a/b)):=by rw[g3,intsC_int,if_pos h]
theorem av{s1 s2:FS}{r r':ag}(h:s1 r=.nx r'):aa s1 s2 r=s2 r':=by unfold aa;rw[h]
theorem bg{s1 s2:FS}{r:ag}{d:D}(h:s1 r=.rt d):aa s1 s2 r=.rt d:=by unfold aa;rw[h]
theorem bp{m:List Md}{i:Nat}{f:FE}{r:ag}{d:D}(h:f r=.ok d):am m i f r=.nx (r.set i (some d)):=by unfold am;rw[h];rfl
theorem bR{m:List Md}{f:FE}{r:ag}{d:D}(h:f r=.ok d):ar m f r=.rt d:=by unfold ar;rw[h];rfl
theorem jQ{m:List Md}{p:FQ}{s1 s2:FS}{r:ag}{b:Bool}(h:p r=.ok b):ck m p s1 s2 r=if b=true then s1 r else s2 r:=by unfold ck;rw[h];rfl
theorem dj{m:List Md}{p:FQ}{s1 s2:FS}{r:ag}(h:p r=.ok true):ck m p s1 s2 r=s1 r:=by rw[jQ h,if_pos rfl]
theorem bK{m:List Md}{p:FQ}{s1 s2:FS}{r:ag}(h:p r=.ok false):ck m p s1 s2 r=s2 r:=by rw[jQ h,if_neg d_]
theorem sX{p:FQ}{f f':FE}{r:ag}(h:p r=.ok true):iU p f f' r=f r:=by unfold iU;rw[h];rfl
theorem sW{p:FQ}{f f':FE}{r:ag}(h:p r=.ok false):iU p f f' r=f' r:=by unfold iU;rw[h];rfl
theorem oV{fl:ag->Res (List D)}{r:ag}{ds:List D}(h:fl r=.ok ds)(hl:ds.length<=1000):jz fl r=.ok (.tup ds):=by unfold jz;rw[h,bind_ok,eu hl];rfl
theorem jY{fl:ag->Res (List D)}{r:ag}{ds:List D}(h:fl r=.ok ds)(hl:ds.length<=1000):fW fl r=.ok (.lst ds):=by unfold fW;rw[h,bind_ok,eu hl];rfl
theorem m5{ds:List D}{d:D}(h:ds.length<=1000):appD (.lst ds) [d]=some (.lst (ds++[d])):=by show(if ds.length<sizeLine then some (D.lst (ds++[d]))else none)=_;rw[if_pos (by rw[HF];omega)]
theorem bv{fl:ag->Res (List D)}{dds zs:List D}{F:List D->Res D}{r:ag}{d:D}(h1:fl r=.ok zs)(h2:F (zs++dds)=.ok d):aJ fl dds F r=.ok d:=by unfold aJ;rw[h1,bind_ok,h2];rfl
theorem jO{f:FE}{k:D->Option D}{r:ag}{a d:D}(h1:f r=.ok a)(h2:k a=some d):f1 f k r=.ok d:=by unfold f1;rw[h1,bind_ok,h2];rfl
theorem aw{f f':FE}{k:D->D->Option D}{r:ag}{a b d:D}(h1:f r=.ok a)(h2:f' r=.ok b)(h3:k a b=some d):f2 f f' k r=.ok d:=by unfold f2;rw[h1,bind_ok,h2,bind_ok,h3];rfl
theorem bC{fl:ag->Res (List D)}{k:List D->Option D}{r:ag}{ds:List D}{d:D}(h1:fl r=.ok ds)(h2:k ds=some d):fC fl k r=.ok d:=by unfold fC;rw[h1,bind_ok,h2];rfl
theorem ak{f:FE}{fl:ag->Res (List D)}{r:ag}{d:D}{ds:List D}(h1:f r=.ok d)(h2:fl r=.ok ds):aj f fl r=.ok (d::ds):=by unfold aj;rw[h1,bind_ok,h2];rfl
theorem aq{r:ag}:af r=.ok []:=rfl
theorem bV{f:FE}{r:ag}{b:Bool}(h:f r=.ok (.bl b)):aO f r=.ok b:=by unfold aO;rw[h];rfl
theorem eh{f:FE}{r:ag}{d:D}{b:Bool}(h:f r=.ok d)(h2:fD d=some b):bH f r=.ok b:=by unfold bH;rw[h,bind_ok,h2];rfl
theorem gj{p:FQ}{r:ag}{b:Bool}(h:p r=.ok b):bT p r=.ok (! b):=by unfold bT;rw[h];rfl
theorem oG{p q:FQ}{r:ag}(h:p r=.ok true):dq p q r=q r:=by unfold dq;rw[h];rfl
theorem sO{p q:FQ}{r:ag}(h:p r=.ok false):dq p q r=.ok false:=by unfold dq;rw[h];rfl
theorem so{p q:FQ}{r:ag}(h:p r=.ok true):dP p q r=.ok true:=by unfold dP;rw[h];rfl
theorem cT{p q:FQ}{r:ag}(h:p r=.ok false):dP p q r=q r:=by unfold dP;rw[h];rfl
theorem o7{f f':FE}{r:ag}(h:f r=.ok (.bl true)):dc f f' r=f' r:=by unfold dc;rw[h];rfl
theorem dD{m:List Md}{fi:FI}{ft:FT}{b:FS}{r:ag}{ds:List D}(h:fi r=.ok ds):cA m fi ft b r=aA ft b ds r:=by unfold cA;rw[h];rfl
theorem g5{f:FE}{r:ag}{d:D}{ds:List D}(h:f r=.ok d)(h2:bN d=some ds):aI bN f r=.ok ds:=by unfold aI;rw[h,bind_ok,h2];rfl
theorem dI{ft:FT}{b:FS}{r:ag}:aA ft b [] r=.nx r:=by unfold aA;rfl
theorem dz{ft:FT}{b:FS}{r r1 r':ag}{d:D}{ds:List D}(h1:ft d r=some r1)(h2:b r1=.nx r'):aA ft b (d::ds) r=aA ft b ds r':=by
 conv=>lhs;unfold aA
 simp only[h1,h2]
theorem vF{ft:FT}{b:FS}{r r1:ag}{d v:D}{ds:List D}(h1:ft d r=some r1)(h2:b r1=.rt v):aA ft b (d::ds) r=.rt v:=by
 conv=>lhs;unfold aA
 simp only[h1,h2]
theorem wn{m:List Md}{p:FQ}{b:FS}{n:Nat}{r:ag}(h:p r=.ok false):en m p b (n+1) r=.nx r:=by unfold en;rw[h];rfl
theorem wo{m:List Md}{p:FQ}{b:FS}{n:Nat}{r r':ag}(h:p r=.ok true)(h2:b r=.nx r'):en m p b (n+1) r=en m p b n r':=by
 conv=>lhs;unfold en
 rw[h,onE_ok,if_pos rfl,h2]
theorem iF{T:String}{m:List Md}{i:Nat}{fl:ag->Res (List D)}{mk:D->List D->Option D}{r:ag}{d d':D}{ds:List D}(h1:r[i]? = some (some d))(h2:ou T d=true)(h3:fl r=.ok ds)(h4:mk d ds=some d'):cg T m i fl mk r=.nx (r.set i (some d')):=by unfold cg;rw[h1];simp only[h2,if_true,h3,onE_ok,h4]
theorem jZ{m:List Md}{i:Nat}{fk fv:FE}{r:ag}{d k v d':D}(h1:r[i]? = some (some d))(h2:fv r=.ok v)(h3:fk r=.ok k)(h4:cO d k v=some d'):DL.putF m i fk fv r=.nx (r.set i (some d')):=by unfold DL.putF;rw[h2,onE_ok];simp only[h1,h3,onE_ok,h4]
theorem BX{fa fb fc:FE}{k k':D->D->Option D}{r:ag}{x y w d:D}(h1:fa r=.ok x)(h2:fb r=.ok y)(h3:k x y=some (.bl true))(h4:fc r=.ok w)(h5:k' y w=some d):kQ fa fb fc k k' r=.ok d:=by unfold kQ;rw[h1,bind_ok,h2,bind_ok,h3,opt_some,bind_ok];show(fc r).bind _=_;rw[h4,bind_ok,h5];rfl
theorem EY{ft:FT}{q:FQ}{fe:FE}{r0:ag}:d9 ft q fe r0 []=.ok []:=by unfold d9;rfl
theorem x3{ft:FT}{q:FQ}{fe:FE}{r0:ag}{α:Type}(e:α->D)(keep:α->Bool)(g:α->D):∀(l:List α),(∀a∈l,∃r1,ft (e a) r0=some r1/\q r1=.ok (keep a)/\(keep a=true->fe r1=.ok (g a)))->d9 ft q fe r0 (l.map e)=.ok ((l.filter keep).map g)
|[],_=>EY
|a::l,h=>by
  obtain⟨r1,h1,h2,h3⟩:=h a c_;have ih:=x3 (ft:=ft) (q:=q) (fe:=fe) (r0:=r0) e keep g l fun b hb=>h b (f_ _ hb);rw[y_]
  conv=>lhs;unfold d9
  rw[h1,opt_some,bind_ok,h2,bind_ok];cases k:keep a with
 |true=>rw[if_pos rfl,h3 k,bind_ok,ih,bind_ok,HW,if_pos k];rfl
 |false=>rw[if_neg d_,ih,HW,if_neg (by rw[k];exact d_)]
theorem g7{nl:Nat}{cap:List Nat}{fi:FI}{ft:FT}{q:FQ}{fe:FE}{r:ag}{α:Type}{l:List α}(e:α->D)(keep:α->Bool)(g:α->D)(h1:fi r=.ok (l.map e))(hl:l.length<=1000)(h:∀a∈l,∃r1,ft (e a) (aU nl cap r)=some r1/\q r1=.ok (keep a)/\(keep a=true->fe r1=.ok (g a))):cL nl cap fi ft q fe r=.ok (.lst ((l.filter keep).map g)):=by unfold cL;rw[h1,bind_ok,eu (by simpa using hl),opt_some,bind_ok,x3 e keep g l h,noXL_ok,bind_ok]
theorem zW(k:Nat):su (.int 0) (nD k)=some (.bl true):=by show some (D.bl (decide ((0:Int)<=(k:Int))))=_;rw[decide_eq_true (KG k)]
theorem mS(a b:Nat):ic (nD a) (nD b)=some (.bl (decide (a<b))):=by show some (D.bl (decide ((a:Int)<(b:Int))))=_;simp only[N9]
theorem tH(a b:Nat):kl (nD a) (nD b)=some (.bl (decide (b<a))):=by show some (D.bl (decide ((b:Int)<(a:Int))))=_;simp only[N9]
theorem iA(a b:Nat):eqD (nD a) (nD b)=some (.bl (decide (a=b))):=by
 unfold eqD;rw[eqB_int];show some (D.bl ((a:Int)==(b:Int)))=_;have:((a:Int)==(b:Int))=decide (a=b):=by rw[HE,beq_iff_eq,decide_eq_true_iff];exact Jx
 rw[this]
theorem tw(a b:Nat):neD (nD a) (nD b)=some (.bl (! decide (a=b))):=by
 unfold neD;rw[eqB_int];show some (D.bl (!((a:Int)==(b:Int))))=_;have:((a:Int)==(b:Int))=decide (a=b):=by rw[HE,beq_iff_eq,decide_eq_true_iff];exact Jx
 rw[this]
theorem cf{B:FS}{n:Nat}{ds:List D}{d:D}(h:B (aS n ds)=.rt d):aD false (B (aS n ds))=.ok d:=by rw[h];rfl
abbrev kI(k:Nat):au:=Sum.inl (k:Int)
theorem vI(kvs:List (Nat×D))(k:Nat):b9 (kvs.map fun p=>(kI p.1,p.2)) (kI k)=decide (k∈kvs.map (·.1)):=by
 unfold b9;rw[Kp,HE,Kb,decide_eq_true_iff,w_];constructor
 .rintro⟨p,h1,h2⟩
  refine⟨p,h1,?_⟩;simp only[Jn,decide_eq_true_eq]at h2;have:((p.1:Nat):Int)=(k:Int):=MD h2;exact Int.ofNat.inj this
 .rintro⟨p,h1,rfl⟩
  exact⟨p,h1,by simp⟩
theorem Ei(kvs:List (Nat×D))(k:Nat)(d:D)(h:k∉kvs.map (·.1)):cD (kvs.map fun p=>(kI p.1,p.2)) (kI k) d=(kvs++[(k,d)]).map fun p=>(kI p.1,p.2):=by unfold cD;have e:((kvs.map fun p=>(kI p.1,p.2)).any fun kv=>decide (kv.1=kI k))=decide (k∈kvs.map (·.1)):=vI kvs k;rw[e,decide_eq_false h,if_neg d_,HD];rfl
@[simp] theorem e_seq(s1 s2:FS)(r:ag):aa s1 s2 r=(match s1 r with|.nx r'=>s2 r'|o=>o):=rfl
@[simp] theorem e_skip(r:ag):ax r=.nx r:=rfl
@[simp] theorem e_set(m:List Md)(i:Nat)(f:FE)(r:ag):am m i f r=eJ m r (f r) fun d=>.nx (r.set i (some d)):=rfl
@[simp] theorem e_ret(m:List Md)(f:FE)(r:ag):ar m f r=eJ m r (f r) fun d=>.rt d:=rfl
@[simp] theorem e_if(m:List Md)(p:FQ)(s1 s2:FS)(r:ag):ck m p s1 s2 r=eJ m r (p r) fun c=>if c=true then s1 r else s2 r:=rfl
@[simp] theorem e_getV(r:ag)(i:Nat):dm r i=(match r[i]? with|some (some d)=>.ok d|_=>.stuck):=rfl
@[simp] theorem e_f1(f:FE)(k:D->Option D)(r:ag):f1 f k r=(f r).bind fun d=>bO (k d):=rfl
@[simp] theorem e_f2(f f':FE)(k:D->D->Option D)(r:ag):f2 f f' k r=(f r).bind fun a=>(f' r).bind fun b=>bO (k a b):=rfl
@[simp] theorem e_fC(fl:ag->Res (List D))(k:List D->Option D)(r:ag):fC fl k r=(fl r).bind fun ds=>bO (k ds):=rfl
@[simp] theorem e_lN(r:ag):af r=.ok []:=rfl
@[simp] theorem e_lC(f:FE)(fl:ag->Res (List D))(r:ag):aj f fl r=(f r).bind fun d=>(fl r).bind fun ds=>.ok (d::ds):=rfl
@[simp] theorem e_test(f:FE)(r:ag):aO f r=(f r).bind fun d=>bO (gC d):=rfl
@[simp] theorem e_tru(f:FE)(r:ag):bH f r=(f r).bind fun d=>bO (fD d):=rfl
@[simp] theorem e_not(p:FQ)(r:ag):bT p r=(p r).bind fun c=>.ok (! c):=rfl
@[simp] theorem e_and(p q:FQ)(r:ag):dq p q r=(p r).bind fun c=>if c=true then q r else .ok false:=rfl
@[simp] theorem e_or(p q:FQ)(r:ag):dP p q r=(p r).bind fun c=>if c=true then .ok true else q r:=rfl
@[simp] theorem e_vand(f f':FE)(r:ag):dc f f' r=(f r).bind fun d=>(bO (gC d)).bind fun c=>if c=true then f' r else .ok (.bl false):=rfl
@[simp] theorem e_vor(f f':FE)(r:ag):jn f f' r=(f r).bind fun d=>(bO (gC d)).bind fun c=>if c=true then .ok (.bl true)else f' r:=rfl
@[simp] theorem e_vnot(f:FE)(r:ag):hJ f r=(f r).bind fun d=>(bO (gC d)).bind fun c=>.ok (.bl (! c)):=rfl
@[simp] theorem e_fIf(p:FQ)(f f':FE)(r:ag):iU p f f' r=(p r).bind fun c=>if c=true then f r else f' r:=rfl
@[simp] theorem e_call(fl:ag->Res (List D))(dds:List D)(F:List D->Res D)(r:ag):aJ fl dds F r=(fl r).bind fun ds=>kj (F (ds++dds)):=rfl
@[simp] theorem e_asB(b:Bool):gC (.bl b)=some b:=rfl
@[simp] theorem e_truB(b:Bool):fD (.bl b)=some b:=rfl
@[simp] theorem e_truL(ds:List D):fD (.lst ds)=some (! ds.isEmpty):=rfl
@[simp] theorem e_loop(m:List Md)(fi:FI)(ft:FT)(b:FS)(r:ag):cA m fi ft b r=eJ m r (fi r) fun ds=>aA ft b ds r:=rfl
@[simp] theorem e_fSeq(k:D->Option (List D))(f:FE)(r:ag):aI k f r=(f r).bind fun d=>bO (k d):=rfl
@[simp] theorem e_asL(ds:List D):bN (.lst ds)=some ds:=rfl
@[simp] theorem e_asT(ds:List D):bN (.tup ds)=some ds:=rfl
@[simp] theorem e_mkT(fl:ag->Res (List D))(r:ag):jz fl r=(fl r).bind fun ds=>(bO (sz ds)).bind fun ds=>.ok (.tup ds):=rfl
@[simp] theorem e_mkL(fl:ag->Res (List D))(r:ag):fW fl r=(fl r).bind fun ds=>(bO (sz ds)).bind fun ds=>.ok (.lst ds):=rfl
@[simp] theorem e_sz0:sz []=some []:=eu (by simp)
@[simp] theorem e_sz1(a:D):sz [a]=some [a]:=eu (by simp)
@[simp] theorem e_sz2(a b:D):sz [a,b]=some [a,b]:=eu (by simp)
@[simp] theorem e_sz3(a b c:D):sz [a,b,c]=some [a,b,c]:=eu (by simp)
@[simp] theorem e_lenL(ds:List D):lenD [.lst ds]=some (.int ds.length):=rfl
@[simp] theorem e_lenT(ds:List D):lenD [.tup ds]=some (.int ds.length):=rfl
@[simp] theorem e_lenK(ds:List (au×D)):lenD [.dic ds]=some (.int ds.length):=rfl
@[simp] theorem e_tupL(ds:List D):tupD [.lst ds]=some (.tup ds):=rfl
@[simp] theorem e_listL(ds:List D):gI [.lst ds]=some (.lst ds):=rfl
@[simp] theorem e_listT(ds:List D):gI [.tup ds]=some (.lst ds):=rfl
@[simp] theorem e_isNN:iS .non .non=some (.bl true):=rfl
@[simp] theorem e_isLN(ds:List D):iS (.lst ds) .non=some (.bl false):=rfl
@[simp] theorem e_isn1:cW .non .non=some (.bl false):=rfl
@[simp] theorem e_isn2(i:Int):cW (.int i) .non=some (.bl true):=rfl
@[simp] theorem e_isn3(ds:List D):cW (.tup ds) .non=some (.bl true):=rfl
@[simp] theorem e_valsD(kvs:List (au×D)):kA (.dic kvs)=some (.lst (kvs.map (·.2))):=rfl
theorem iy{ds:List D}{i:Nat}{d:D}(h:ds[i]? = some d):aK (.tup ds) (nD i)=some d:=by have hl:i<ds.length:=(i_.mp h).1;show c9 ds (i:Int)=some d;unfold c9 d8;rw[if_pos (KG i),if_pos (by omega)];simpa using h
theorem tt{ds:List D}{i:Nat}{d:D}(h:ds[i]? = some d):aK (.lst ds) (nD i)=some d:=by have hl:i<ds.length:=(i_.mp h).1;show c9 ds (i:Int)=some d;unfold c9 d8;rw[if_pos (KG i),if_pos (by omega)];simpa using h
@[simp] theorem ixA_L0(d:D)(ds:List D):aK (.lst (d::ds)) (.int 0)=some d:=tt (i:=0) rfl
@[simp] theorem ixA_T0(d:D)(ds:List D):aK (.tup (d::ds)) (.int 0)=some d:=iy (i:=0) rfl
theorem zV{kvs:List (au×D)}{k:Nat}{d:D}(h:aY kvs (kI k)=some d):aK (.dic kvs) (nD k)=some d:=h
theorem mq(l:List Nat)(k:Nat):(l.map nD).any (fun y=>cG y (nD k))=decide (k∈l):=by
 rw[Kp,HE,Kb,decide_eq_true_iff];constructor
 .rintro⟨x,h1,h2⟩
  have:(((x:Nat):Int)==(k:Int))=true:=h2;have:=Jx.mp (Kt this);subst this;exact h1
 .intro h;exact⟨k,h,by show(((k:Nat):Int)==(k:Int))=true;simp⟩
theorem sY(l:List Nat):(l.map nD).all cy=true:=by rw[E_];intro x hx;obtain⟨k,_,rfl⟩:=w_.mp hx;rfl
theorem tm(l:List Nat)(k:Nat):fh (nD k) (LN l)=some (.bl (decide (k∈l))):=by show(if cy (nD k)=true/\(l.map nD).all cy=true then some ((l.map nD).any fun y=>cG y (nD k))else none).map D.bl=_;rw[if_pos ⟨rfl,sY l⟩,mq];rfl
theorem By(l:List Nat)(k:Nat):bX (nD k) (LN l)=some (.bl (! decide (k∈l))):=by show(if cy (nD k)=true/\(l.map nD).all cy=true then some ((l.map nD).any fun y=>cG y (nD k))else none).map (fun b=>D.bl (! b))=_;rw[if_pos ⟨rfl,sY l⟩,mq];rfl
theorem Gh(k:Nat):nE [nD k]=.ok (.bl true):=rfl
theorem Gg(k b:Nat):ly [nD k,nD b]=.ok (.bl (decide (k<b))):=by refine cf (B:=qp) (n:=2) ?_;unfold qp;refine bg (bR ?_);rw[o7 (bv (ak (d:=nD k) rfl aq) (Gh k))];exact BX rfl rfl (zW k) rfl (mS k b)
theorem j7{α:Type}(f:α->D)(l:List α):lenD [.tup (l.map f)]=some (nD l.length):=by show some (D.int ((l.map f).length:Int))=_;rw[m_]
theorem jf{α:Type}(f:α->D)(l:List α):lenD [.lst (l.map f)]=some (nD l.length):=by show some (D.int ((l.map f).length:Int))=_;rw[m_]
theorem Ev{α:Type}(f:α->au×D)(l:List α):lenD [.dic (l.map f)]=some (nD l.length):=by show some (D.int ((l.map f).length:Int))=_;rw[m_]
theorem ni(n:Nat):eqD (nD n) (nD n)=some (.bl true):=by have e:=iA n n;rw[decide_eq_true rfl]at e;exact e
theorem uY(n:Nat):cr 0 n=(r_ n).map nD:=by unfold cr;refine Jm fun i _=>?_;show D.int (0+(i:Int))=D.int (i:Int);rw[Int.zero_add]
theorem Ez(j:Int):gJ [.int j]=if-(2^62)<=j/\j<2^62/\j.toNat<=sizeLine then some (.lst (cr 0 j.toNat))else none:=rfl
theorem kW{n:Nat}(h:n<=1000):gJ [nD n]=some (LN (r_ n)):=by
 have hs:(n:Int).toNat<=sizeLine:=by rw[HN,HF];omega
 rw[Ez,if_pos ⟨by omega,by omega,hs⟩,HN,uY]
theorem Da(j:Int):cu [.int j]=if-(2^62)<=j/\j<2^62 then some (cr 0 j.toNat)else none:=rfl
theorem j1{n:Nat}(h:n<=1000):cu [nD n]=some ((r_ n).map nD):=by rw[Da,if_pos ⟨by omega,by omega⟩,HN,uY]
theorem j5{fl:ag->Res (List D)}{k:List D->Option (List D)}{r:ag}{ds es:List D}(h1:fl r=.ok ds)(h2:k ds=some es):cF k fl r=.ok es:=by unfold cF;rw[h1,bind_ok,h2];rfl
theorem yw{p:Nat->Bool}:∀(l:List Nat),l.find? p=(l.filter p).head?
|[]=>rfl
|a::l=>by rw[Hz,HW];cases h:p a with
 |true=>simp
 |false=>simpa using yw l
theorem sT(o:Option Nat)(x:Nat):eqD (oD o) (nD x)=some (.bl (decide (o=some x))):=by cases o with
|none=>unfold eqD oD;rw[eqB_non_int];simp
|some k=>show eqD (nD k) (nD x)=_;rw[iA];simp
def own(oz:List (Option Nat))(h:Nat):Option Nat:=(oz[h]?).join
theorem uN{oz:List (Option Nat)}{h:Nat}(hh:h<oz.length):(oz.map oD)[h]? = some (oD (own oz h)):=by rw[t_,j_ hh];unfold own;rw[j_ hh];rfl
theorem yk{row:List Nat}{rest:List (List Nat)}:iR [WD (row::rest)]=.ok (nD row.length):=by refine cf (B:=qJ) (n:=1) ?_;unfold qJ;exact bg (bR (bC (ak (aw (a:=WD (row::rest)) (b:=.int 0) rfl rfl (ixA_T0 _ _)) aq) (j7 _ _)))
theorem Ep{row things:List Nat}(h:∃x∈row,x∈things)(hl:row.length<=1000):lx [TN row,LN things]=.ok (nD (Rg.dR row things)):=by
 refine cf (B:=qH) (n:=2) ?_;unfold qH;have hc:(cL 1 [1] (aI bN (gv 0)) (aG 0) (aO (f2 (gv 0) (gv 1) fh)) (gv 0)) [some (TN row),some (LN things)]=.ok (LN (row.filter fun x=>decide (x∈things))):=by
  refine g7 nD (fun x=>decide (x∈things)) nD (l:=row) rfl hl fun a _=>⟨[some (nD a),some (LN things)],rfl,?_,fun _=>rfl⟩
  exact bV (aw (a:=nD a) (b:=LN things) rfl rfl (tm _ _))
 have hb:∃t,(row.filter fun x=>decide (x∈things))=Rg.dR row things::t:=by unfold Rg.dR;rw[yw];cases e:row.filter fun x=>decide (x∈things)with
 |nil=>obtain⟨x,h1,h2⟩:=h;have:x∈row.filter fun x=>decide (x∈things):=HC.mpr ⟨h1,by simpa using h2⟩;rw[e]at this;cases this
 |cons a t=>exact⟨t,rfl⟩
 obtain⟨t,ht⟩:=hb;rw[ht]at hc;exact bg (bR (aw hc (b:=.int 0) rfl (ixA_L0 _ _)))
abbrev gK(pre:List Nat):D:=.dic ((pre.map fun k=>(k,D.bl true)).map fun p=>(kI p.1,p.2))
theorem vZ(b:Nat)(num:D):∀(suf pre:List Nat)(x y:Option D),(pre++suf).Nodup->(∀k∈suf,k<b)->(pre++suf).length<=1000 ->∃x' y',aA (iT (d6 (aG 3) (d6 (aG 4) iD))) q9 (cH pre.length (suf.map nD)) [some num,some (nD b),some (gK pre),x,y]=.nx [some num,some (nD b),some (gK (pre++suf)),x',y']
|[],pre,x,y,_,_,_=>⟨x,y,by rw[HU];exact dI⟩
|k::suf,pre,x,y,hn,hb,hl=>by
  have hk:k∉pre:=fun z=>(Ig.mp hn).2.2 k z k c_ rfl;obtain⟨x',y',ih⟩:=vZ b num suf (pre++[k]) (some (nD pre.length)) (some (nD k)) (by simpa using hn) (fun j hj=>hb j (f_ _ hj)) (by simpa using hl);refine⟨x',y',?_⟩;rw[show(pre++[k]).length=pre.length+1 by simp]at ih;rw[show pre++k::suf=(pre++[k])++suf by simp,<-ih];show aA _ _ (.tup [.int ((pre.length:Nat):Int),nD k]::cH (pre.length+1) (suf.map nD)) _=_;refine dz (r1:=[some num,some (nD b),some (gK pre),some (nD pre.length),some (nD k)]) rfl ?_;have c2:fh (nD k) (gK pre)=some (.bl false):=by
   show(some (b9 _ (kI k))).map D.bl=_;rw[vI,HR];have:decide (k∈pre.map ((fun p:Nat×D=>p.1)∘fun k=>(k,D.bl true)))=false:=by rw[decide_eq_false_iff_not];simpa[KR]using hk
   rw[this];rfl
  have c3:cO (gK pre) (nD k) (.bl true)=some (gK (pre++[k])):=by show(if _ then some (D.dic (cD _ (kI k) (.bl true)))else none)=_;rw[if_pos (by rw[m_,m_,HF];simp at hl;omega),Ei _ _ _ (by rw[HR];simpa[KR]using hk)];simp
  have c1:decide (k<b)=true:=decide_eq_true (hb k c_);unfold q9;have hif:(dP (bT (bH (aJ (aj (gv 4) (aj (gv 1) af)) [] ly))) (aO (f2 (gv 4) (gv 2) fh))) [some num,some (nD b),some (gK pre),some (nD pre.length),some (nD k)]=.ok false:=by have h0:=Gg k b;rw[c1]at h0;rw[cT (gj (eh (b:=true) (bv (ak (d:=nD k) rfl (ak (d:=nD b) rfl aq)) h0) rfl))];exact bV (aw (a:=nD k) (b:=gK pre) rfl rfl c2)
  refine(av (jQ hif)).trans ?_;exact av (jZ (d:=gK pre) (k:=nD k) rfl rfl rfl c3)
theorem GM{l:List Nat}{b:Nat}(hn:l.Nodup)(hb:∀k∈l,k<b)(hl:l.length<=1000):oh [LN l,nD b]=.ok (nD l.length):=by obtain⟨x',y',h⟩:=vZ b (LN l) l [] none none hn hb hl;refine cf (B:=rc) (n:=5) ?_;unfold rc;refine(av (r':=[some (LN l),some (nD b),some (gK []),none,none]) rfl).trans ?_;refine(av ((dD (ds:=cH 0 (l.map nD)) rfl).trans h)).trans ?_;exact bg (bR (bC (ak (d:=LN l) rfl aq) (jf _ _)))
theorem Fx{l:List Nat}{n:Nat}(hn:l.Nodup)(hb:∀k∈l,k<n)(h8:l.length<=1000):nK [LN l,nD n]=.ok (.bl true):=by refine cf (B:=qy) (n:=2) ?_;unfold qy;exact bg (bR (aw (a:=nD l.length) (b:=nD l.length) (bv (ak (d:=LN l) rfl (ak (d:=nD n) rfl aq)) (GM hn hb h8)) (bC (ak (d:=LN l) rfl aq) (jf _ _)) (ni _)))
theorem Cm{l:List Nat}{n:Nat}(hn:l.Nodup)(hb:∀k∈l,k<n)(hl:l.length=n)(h8:n<=1000):n4 [LN l,nD n]=.ok (.bl true):=by refine cf (B:=q8) (n:=2) ?_;unfold q8;subst hl;refine bg (bR ?_);rw[o7 (aw (a:=nD l.length) (b:=nD l.length) (bC (ak (d:=LN l) rfl aq) (jf _ _)) rfl (ni _))];exact bv (ak (d:=LN l) rfl (ak (d:=nD l.length) rfl aq)) (Fx hn hb h8)
theorem GB{rz:List (List Nat)}(h:rz.length<=1000):gS [WD rz,.non]=.ok (LN (r_ rz.length)):=by refine cf (B:=ke) (n:=2) ?_;unfold ke;refine bg ((jQ (b:=true) rfl).trans ?_);rw[if_pos rfl];exact bg (bR (bC (ds:=[nD rz.length]) (ak (bC (ak (d:=WD rz) rfl aq) (j7 _ _)) aq) (kW h)))
theorem Fh{rz:List (List Nat)}{l:List Nat}(hn:l.Nodup)(hb:∀k∈l,k<rz.length)(hl:l.length=rz.length)(h8:rz.length<=1000):gS [WD rz,LN l]=.ok (LN l):=by refine cf (B:=ke) (n:=2) ?_;unfold ke;refine(av (r':=[some (WD rz),some (LN l)]) ((jQ (b:=false) rfl).trans rfl)).trans ?_;refine(av (r':=[some (WD rz),some (LN l)]) ((jQ (b:=false) (gj (b:=true) (eh (bv (ak (d:=LN l) rfl (ak (bC (ak (d:=WD rz) rfl aq) (j7 _ _)) aq)) (Cm hn hb hl h8)) rfl))).trans rfl)).trans ?_;exact bg (bR (bC (ak (d:=LN l) rfl aq) rfl))
theorem wa(oz:List (Option Nat))(line:List Nat)(x:Nat):∀(l:List Nat)(y:Option D),(∀h∈l,h<oz.length) ->(match l.find? (fun h=>decide (own oz h=some x))with
  |some h=>aA (aG 3) lF (l.map nD) [some (OD oz),some (LN line),some (nD x),y]=.rt (nD h)
  |none=>∃y',aA (aG 3) lF (l.map nD) [some (OD oz),some (LN line),some (nD x),y]=.nx [some (OD oz),some (LN line),some (nD x),y'])
|[],y,_=>⟨y,dI⟩
|h::l,y,hl=>by have c:(aO (f2 (f2 (gv 0) (gv 3) aK) (gv 2) eqD)) [some (OD oz),some (LN line),some (nD x),some (nD h)]=.ok (decide (own oz h=some x)):=bV (aw (aw (a:=OD oz) (b:=nD h) rfl rfl (iy (uN (hl h c_)))) (b:=nD x) rfl (sT _ _));rw[Hz];cases e:decide (own oz h=some x)with
 |true=>rw[e]at c;refine vF (r1:=[some (OD oz),some (LN line),some (nD x),some (nD h)]) rfl ?_;exact bg ((dj c).trans (bg (bR (d:=nD h) rfl)))
 |false=>rw[e]at c;have ih:=wa oz line x l (some (nD h)) fun k hk=>hl k (f_ _ hk);have st:aA (aG 3) lF ((h::l).map nD) [some (OD oz),some (LN line),some (nD x),y]=aA (aG 3) lF (l.map nD) [some (OD oz),some (LN line),some (nD x),some (nD h)]:=dz (r1:=[some (OD oz),some (LN line),some (nD x),some (nD h)]) rfl ((av (bK c)).trans rfl);rw[st];exact ih
theorem Fi{oz:List (Option Nat)}{line:List Nat}{x:Nat}(hl:∀h∈line,h<oz.length):nM [OD oz,LN line,nD x]=.ok (oD (line.find? fun h=>decide (own oz h=some x))):=by refine cf (B:=qz) (n:=4) ?_;unfold qz;have h:=wa oz line x line none hl;cases e:line.find? fun h=>decide (own oz h=some x)with
|some k=>rw[e]at h;exact bg ((dD (ds:=line.map nD) rfl).trans h)
|none=>rw[e]at h;obtain⟨y',h⟩:=h;exact(av ((dD (ds:=line.map nD) rfl).trans h)).trans (bg (bR (d:=.non) rfl))
theorem zT(o:Option Nat):iS (oD o) .non=some (.bl (decide (o=none))):=by cases o <;> rfl
theorem Fv{oz:List (Option Nat)}{line:List Nat}{x:Nat}(hl:∀h∈line,h<oz.length)(hne:line≠[]):lN [OD oz,LN line,nD x]=.ok (nD ((line.find? fun h=>decide (own oz h=some x)).getD (line.headD 0))):=by refine cf (B:=rH) (n:=4) ?_;unfold rH;refine(av (bp (bv (ak (d:=OD oz) rfl (ak (d:=LN line) rfl (ak (d:=nD x) rfl aq))) (Fi hl)))).trans ?_;refine bg (bR ?_);have c:=bV (aw (f:=gv 3) (f':=fun _=>Res.ok D.non) (r:=[some (OD oz),some (LN line),some (nD x),some (oD (line.find? fun h=>decide (own oz h=some x)))]) rfl rfl (zT (line.find? fun h=>decide (own oz h=some x))));cases e:line.find? fun h=>decide (own oz h=some x)with
|some k=>rw[e,decide_eq_false (by simp)]at c;exact(sW c).trans rfl
|none=>rw[e,decide_eq_true rfl]at c;refine(sX c).trans ?_;cases line with
 |nil=>exact absurd rfl hne
 |cons a l=>exact aw (a:=LN (a::l)) (b:=.int 0) rfl rfl (ixA_L0 _ _)
abbrev KD(kvs:List (Nat×Nat)):D:=.dic (kvs.map fun p=>(kI p.1,nD p.2))
abbrev FD(l:List Nat)(f:Nat->Nat):List (Nat×Nat):=l.map fun h=>(h,f h)
theorem o4{a b:Nat}(h:kI a=kI b):a=b:=Jx.mp (MD h)
theorem xL:∀{kvs:List (Nat×Nat)}{h:Nat}{f:Nat->Nat},(∀p∈kvs,p.2=f p.1)->h∈kvs.map (·.1)->aY (kvs.map fun p=>(kI p.1,nD p.2)) (kI h)=some (nD (f h))
|[],_,_,_,hh=>by cases hh
|p::kvs,h,f,hf,hh=>by
  by_cases e:p.1=h
  .have:=hf p c_;subst e;simp[aY,Hz,this]
  .have hne:¬ kI p.1=kI h:=fun z=>e (o4 z);have hh':h∈kvs.map (·.1):=by
    rcases x_.mp hh with z|z
    .exact absurd z.symm e
    .exact z
   have ih:=xL (f:=f) (fun q hq=>hf q (f_ _ hq)) hh';have e1:aY ((p::kvs).map fun p=>(kI p.1,nD p.2)) (kI h)=aY (kvs.map fun p=>(kI p.1,nD p.2)) (kI h):=by simp only[aY,y_,Hz];rw[decide_eq_false hne]
   rw[e1];exact ih
theorem kU(l:List Nat)(f:Nat->Nat):(FD l f).map (·.1)=l:=by simp[FD,KR]
theorem i9{l:List Nat}{f:Nat->Nat}{h:Nat}(hh:h∈l):aK (KD (FD l f)) (nD h)=some (nD (f h)):=zV (xL (f:=f) (fun p hp=>by obtain⟨x,_,rfl⟩:=w_.mp hp;rfl) (by rw[kU];exact hh))
def putN(kvs:List (Nat×Nat))(k v:Nat):List (Nat×Nat):=if k∈kvs.map (·.1)then kvs.map fun p=>if p.1=k then(p.1,v)else p else kvs++[(k,v)]
theorem jA(kvs:List (Nat×Nat))(k:Nat):((kvs.map fun p=>(kI p.1,nD p.2)).any fun kv=>decide (kv.1=kI k))=decide (k∈kvs.map (·.1)):=by
 rw[Kp,HE,Kb,decide_eq_true_iff,w_];constructor
 .rintro⟨p,h1,h2⟩
  simp only[Jn,decide_eq_true_eq]at h2;exact⟨p,h1,o4 h2⟩
 .rintro⟨p,h1,rfl⟩
  exact⟨p,h1,by simp⟩
theorem Cg(kvs:List (Nat×Nat))(k v:Nat):cD (kvs.map fun p=>(kI p.1,nD p.2)) (kI k) (nD v)=(putN kvs k v).map fun p=>(kI p.1,nD p.2):=by
 unfold cD putN;rw[jA];by_cases h:k∈kvs.map (·.1)
 .rw[decide_eq_true h,if_pos rfl,if_pos h,HR,HR];refine Jm fun p _=>?_;simp only[Jn];by_cases e:p.1=k
  .rw[if_pos (by rw[e]),if_pos e]
  .rw[if_neg (fun z=>e (o4 z)),if_neg e]
 .rw[decide_eq_false h,if_neg d_,if_neg h,HD];rfl
theorem Fd(kvs:List (Nat×Nat))(k v j:Nat):j∈(putN kvs k v).map (·.1)↔j∈kvs.map (·.1)\/j=k:=by
 unfold putN;by_cases h:k∈kvs.map (·.1)
 .rw[if_pos h,HR];have:((fun p:Nat×Nat=>p.1)∘fun p=>if p.1=k then(p.1,v)else p)=fun p=>p.1:=by funext p;simp only[Jn];split <;> rfl
  rw[this];constructor
  .exact .inl
  .rintro(z|rfl)
   .exact z
   .exact h
 .rw[if_neg h];simp
theorem Ej{kvs:List (Nat×Nat)}{k v:Nat}{f:Nat->Nat}(h:∀p∈kvs,p.2=f p.1)(hv:v=f k):∀p∈putN kvs k v,p.2=f p.1:=by
 intro p hp;unfold putN at hp;split at hp
 .obtain⟨q,h1,rfl⟩:=w_.mp hp;split
  .rename_i e;simp only;rw[e];exact hv
  .exact h q h1
 .rcases IJ.mp hp with z|z
  .exact h p z
  .rw[HB.mp z];exact hv
theorem kH{kvs:List (Nat×Nat)}{k v:Nat}(hl:kvs.length<=1000):cO (KD kvs) (nD k) (nD v)=some (KD (putN kvs k v)):=by show(if (kvs.map fun p=>(kI p.1,nD p.2)).length<sizeLine then some (D.dic (cD _ (kI k) (nD v)))else none)=_;rw[if_pos (by rw[m_,HF];omega),Cg]
structure GI(t:Nat->Nat)(kvs:List (Nat×Nat))(L:List Nat):Prop where
 nd:(kvs.map (·.1)).Nodup
 val:∀p∈kvs,p.2=t p.1
 key:∀h,h∈kvs.map (·.1)↔h∈L
theorem C5{kvs:List (Nat×Nat)}{k v:Nat}(h:(kvs.map (·.1)).Nodup):((putN kvs k v).map (·.1)).Nodup:=by
 unfold putN;split
 .rw[HR];have:((fun p:Nat×Nat=>p.1)∘fun p=>if p.1=k then(p.1,v)else p)=fun p=>p.1:=by funext p;simp only[Jn];split <;> rfl
  rw[this];exact h
 .rename_i hk;rw[HD];refine Ig.mpr ⟨h,by simp,fun a ha b hb=>?_⟩;simp at hb
  rintro rfl
  exact hk (hb▸ha)
theorem GI.put{t:Nat->Nat}{kvs:List (Nat×Nat)}{L:List Nat}(g:GI t kvs L)(k:Nat):GI t (putN kvs k (t k)) (L++[k]):=⟨C5 g.nd,Ej g.val rfl,fun h=>by rw[Fd,g.key];simp⟩
theorem GI.len{t:Nat->Nat}{kvs:List (Nat×Nat)}{L line:List Nat}(g:GI t kvs L)(hs:∀h∈L,h∈line):kvs.length<=line.length:=by have:=Rg.jh (m:=line) g.nd fun h hh=>hs h ((g.key h).mp hh);simpa using this
theorem GI.congr{t t':Nat->Nat}{kvs:List (Nat×Nat)}{L:List Nat}(g:GI t kvs L)(h:∀x∈L,t' x=t x):GI t' kvs L:=⟨g.nd,fun p hp=>by rw[g.val p hp,h p.1 ((g.key _).mp (w_.mpr ⟨p,hp,rfl⟩))],g.key⟩
theorem GI.mem{t:Nat->Nat}{kvs:List (Nat×Nat)}{L M:List Nat}(g:GI t kvs L)(h:∀x,x∈L↔x∈M):GI t kvs M:=⟨g.nd,g.val,fun x=>(g.key x).trans (h x)⟩
theorem GI.nil(t:Nat->Nat):GI t [] []:=⟨by simp,fun _ hp=>(nomatch hp),fun h=>by simp⟩
theorem p0{α:Type}(l:List α):l.filter (fun _=>true)=l:=List.filter_eq_self.mpr fun _ _=>rfl
theorem GI.full{t:Nat->Nat}{kvs:List (Nat×Nat)}{L:List Nat}{n:Nat}(g:GI t kvs L)(h:∀x,x∈L↔x<n):kvs.length=n:=by have h1:=g.len (line:=r_ n) fun x hx=>D_.mpr ((h x).mp hx);have h2:=Rg.jh (l:=r_ n) (m:=kvs.map (·.1)) Kc fun x hx=>(g.key x).mpr ((h x).mpr (D_.mp hx));simp at h1 h2;omega
def Wr(rz:List (List Nat))(h:Nat):List Nat:=(rz[h]?).getD []
theorem o9{rz:List (List Nat)}{h:Nat}(hh:h<rz.length):(rz.map TN)[h]? = some (TN (Wr rz h)):=by rw[t_];unfold Wr;rw[j_ hh];rfl
theorem pL{kvs:List (Nat×Nat)}{k v:Nat}(h:k∉kvs.map (·.1)):putN kvs k v=kvs++[(k,v)]:=by unfold putN;rw[if_neg h]
abbrev bh(t:Nat->Nat)(h:Nat):D:=.tup [nD h,nD (t h)]
abbrev aN(t:Nat->Nat)(ring:List Nat):D:=.tup (ring.map (bh t))
def g6(t:Nat->Nat):Option (List Nat)->D
|some ring=>aN t ring
|none=>.non
section
variable{t f:Nat->Nat}{line:List Nat}{first:Nat}(hcl:∀h∈line,f h∈line)(hn:line.length<=60)
include hcl hn
theorem C8:∀(j:Nat)(ring:List Nat)(hand:Nat),hand∈line->ring.length<=line.length->line.length<j+ring.length ->∃ring' hand',en eD rm yJ j [some (nD first),some (KD (FD line t)),some (KD (FD line f)),some (.lst (ring.map (bh t))),some (nD hand)]=.nx [some (nD first),some (KD (FD line t)),some (KD (FD line f)),some (.lst (ring'.map (bh t))),some (nD hand')] /\∀k,line.length<k+ring.length->Rg.eT f line.length first k ring hand=if hand'=first then some ring' else none:=by
 intro j
 induction j with
|zero=>intro ring hand _ h1 h2;omega
|succ j ih=>
  intro ring hand hh h1 h2;have c1:(aO (f2 (gv 4) (gv 0) kl)) [some (nD first),some (KD (FD line t)),some (KD (FD line f)),some (.lst (ring.map (bh t))),some (nD hand)]=.ok (decide (first<hand)):=bV (aw (a:=nD hand) (b:=nD first) rfl rfl (tH _ _));have c2:(aO (f2 (fC (aj (gv 3) af) lenD) (fC (aj (gv 1) af) lenD) ic)) [some (nD first),some (KD (FD line t)),some (KD (FD line f)),some (.lst (ring.map (bh t))),some (nD hand)]=.ok (decide (ring.length<line.length)):=by refine bV (aw (a:=nD ring.length) (b:=nD line.length) (bC (ak rfl aq) (jf _ _)) (bC (ak (d:=KD (FD line t)) rfl aq) ?_) (mS _ _));rw[Ev,m_]
  by_cases hc:first<hand/\ring.length<line.length
  .have cq:rm [some (nD first),some (KD (FD line t)),some (KD (FD line f)),some (.lst (ring.map (bh t))),some (nD hand)]=.ok true:=by rw[decide_eq_true hc.1]at c1;rw[decide_eq_true hc.2]at c2;exact(oG c1).trans c2
   obtain⟨ring',hand',i1,i2⟩:=ih (ring++[hand]) (f hand) (hcl hand hh) (by simp;omega) (by simp;omega);refine⟨ring',hand',?_,fun k hk=>?_⟩
   .rw[wo cq (r':=[some (nD first),some (KD (FD line t)),some (KD (FD line f)),some (.lst ((ring++[hand]).map (bh t))),some (nD (f hand))]) ?_]
    .exact i1
    .refine(av (iF (d:=.lst (ring.map (bh t))) (ds:=[bh t hand]) rfl rfl (ak (oV (ak (d:=nD hand) rfl (ak (aw (a:=KD (FD line t)) (b:=nD hand) rfl rfl (i9 hh)) aq)) (by simp)) aq) (m5 (by simp;omega)))).trans ?_;refine(av (bp (d:=nD (f hand)) (aw (a:=KD (FD line f)) (b:=nD hand) rfl rfl (i9 hh)))).trans ?_;show Out.nx [_,_,_,some (D.lst (ring.map (bh t)++[bh t hand])),_]=_;rw[HD];rfl
   .cases k with
   |zero=>omega
   |succ k=>unfold Rg.eT;rw[if_pos hc];exact i2 k (by simp;omega)
  .refine⟨ring,hand,wn ?_,fun k hk=>?_⟩
   .by_cases hc1:first<hand
    .rw[decide_eq_true hc1]at c1;rw[decide_eq_false (fun z=>hc ⟨hc1,z⟩)]at c2;exact(oG c1).trans c2
    .rw[decide_eq_false hc1]at c1;exact sO c1
   .cases k with
   |zero=>omega
   |succ k=>unfold Rg.eT;rw[if_neg hc]
theorem Et(hf:first∈line):nR [nD first,KD (FD line t),KD (FD line f)]=.ok (g6 t (Rg.fu f line.length first)):=by
 refine cf (B:=qI) (n:=5) ?_;unfold qI;have hpos:=Jt hf;obtain⟨ring',hand',h1,h2⟩:=C8 (t:=t) (first:=first) hcl hn 64 [first] (f first) (hcl first hf) (by show 1<=_;omega) (by simp;omega);refine(av (bp (d:=.lst ([first].map (bh t))) (jY (ak (oV (ak (d:=nD first) rfl (ak (aw (a:=KD (FD line t)) (b:=nD first) rfl rfl (i9 hf)) aq)) (by simp)) aq) (by simp)))).trans ?_;refine(av (bp (d:=nD (f first)) (aw (a:=KD (FD line f)) (b:=nD first) rfl rfl (i9 hf)))).trans ?_;refine(av h1).trans ?_;have hr:Rg.fu f line.length first=if hand'=first then some ring' else none:=h2 _ (by simp;omega)
 rw[hr];have c:=bV (aw (f:=gv 4) (f':=gv 0) (r:=[some (nD first),some (KD (FD line t)),some (KD (FD line f)),some (.lst (ring'.map (bh t))),some (nD hand')]) (a:=nD hand') (b:=nD first) rfl rfl (iA hand' first));by_cases e:hand'=first
 .rw[decide_eq_true e]at c;rw[if_pos e];exact bg (bR ((sX c).trans (bC (ak (d:=.lst (ring'.map (bh t))) rfl aq) rfl)))
 .rw[decide_eq_false e]at c;rw[if_neg e];exact bg (bR ((sW c).trans rfl))
end
theorem wA{B:FS}{n:Nat}{ds:List D}{d:D}(h:B (aS n ds)=.rt d):aD true (B (aS n ds))=.ok d:=by rw[h];rfl
structure Snd(rz:List (List Nat))(oz:List (Option Nat))(s:Rg.S):Prop where
 ok:Rg.Ok (Wr rz) (own oz) s
 inr:∀h∈s.line,h<rz.length
 ino:∀h∈s.line,h<oz.length
 wid:∀h∈s.line,(Wr rz h).length<=1000
 nl:s.line.length<=60
 nt:s.things.length<=60
section
variable{rz:List (List Nat)}{oz:List (Option Nat)}{s:Rg.S}
theorem Snd.tg(S:Snd rz oz s){h:Nat}(hh:h∈s.line):lx [TN (Wr rz h),LN s.things]=.ok (nD (Rg.fg (Wr rz) s h)):=Ep (S.ok.some_thing hh) (S.wid h hh)
theorem Snd.pts(S:Snd rz oz s){x h:Nat}(hh:h∈s.line):lN [OD oz,LN s.line,nD x]=.ok (nD (Rg.pt (own oz) s x)):=Fv S.ino (Ib hh)
abbrev tS(rz:List (List Nat))(s:Rg.S):Nat->Nat:=Rg.fg (Wr rz) s
abbrev fS(rz:List (List Nat))(oz:List (Option Nat))(s:Rg.S):Nat->Nat:=Rg.nxt (Wr rz) (own oz) s
theorem wx(S:Snd rz oz s):∀(suf pre:List Nat)(y:Option D),pre++suf=s.line ->
  ∃y',aA (aG 6) zi (suf.map nD) [some (WD rz),some (OD oz),some (LN s.line),some (LN s.things),some (KD (FD pre (tS rz s))),some (KD (FD pre (fS rz oz s))),y,none]
   = .nx [some (WD rz),some (OD oz),some (LN s.line),some (LN s.things),some (KD (FD s.line (tS rz s))),some (KD (FD s.line (fS rz oz s))),y',none]
|[],pre,y,e=>⟨y,by rw[HU]at e;rw[e];exact dI⟩
|h::suf,pre,y,e=>by
  obtain⟨y',ih⟩:=wx S suf (pre++[h]) (some (nD h)) (by simpa using e);have hh:h∈s.line:=by rw[<-e];simp
  have hn:=S.ok.nl;rw[<-e]at hn;have hk:h∉pre:=fun z=>(Ig.mp hn).2.2 h z h c_ rfl;have hpl:pre.length<=1000:=by have:=S.nl;rw[<-e]at this;simp at this;omega
  refine⟨y',?_⟩;rw[<-ih];refine dz (r1:=[some (WD rz),some (OD oz),some (LN s.line),some (LN s.things),some (KD (FD pre (tS rz s))),some (KD (FD pre (fS rz oz s))),some (nD h),none]) rfl ?_;have c1:cO (KD (FD pre (tS rz s))) (nD h) (nD (tS rz s h))=some (KD (FD (pre++[h]) (tS rz s))):=by rw[kH (by simpa using hpl),pL (by rw[kU];exact hk)];unfold FD;rw[HD];rfl
  have c2:cO (KD (FD pre (fS rz oz s))) (nD h) (nD (fS rz oz s h))=some (KD (FD (pre++[h]) (fS rz oz s))):=by rw[kH (by simpa using hpl),pL (by rw[kU];exact hk)];unfold FD;rw[HD];rfl
  refine(av (jZ (d:=KD (FD pre (tS rz s))) (k:=nD h) (v:=nD (tS rz s h)) rfl (bv (ak (aw (a:=WD rz) (b:=nD h) rfl rfl (iy (o9 (S.inr h hh)))) (ak (d:=LN s.things) rfl aq)) (S.tg hh)) rfl c1)).trans ?_;refine(av (jZ (d:=KD (FD pre (fS rz oz s))) (k:=nD h) (v:=nD (fS rz oz s h)) rfl (bv (ak (d:=OD oz) rfl (ak (d:=LN s.line) rfl (ak (aw (a:=KD (FD (pre++[h]) (tS rz s))) (b:=nD h) rfl rfl (i9 (by simp))) aq))) (S.pts hh)) rfl c2)).trans ?_;rfl
theorem pB{α:Type}(t:Nat->Nat)(f:α->Option (List Nat)):∀(l:List α),(((l.map f).filter NP).map (g6 t))=(l.filterMap f).map (aN t)
|[]=>rfl
|a::l=>by rw[y_,HW,Iw];cases e:f a with
 |none=>simpa using pB t f l
 |some r=>simpa[g6]using pB t f l
theorem F9(t:Nat->Nat)(h:Nat):iE (bh t h)=some [(h:Int),(t h:Int)]:=rfl
theorem xA(t:Nat->Nat):∀(ring:List Nat),gL (ring.map (bh t))=some (ring.map fun h:Nat=>[(h:Int),(t h:Int)])
|[]=>rfl
|h::ring=>by show(iE (bh t h)).bind _=_;rw[F9,xA t ring];rfl
def cV(t:Nat->Nat)(r:List Nat):List (List Int):=r.map fun h:Nat=>[(h:Int),(t h:Int)]
def jE(t:Nat->Nat)(rs:List (List Nat)):Prop:=rs.Pairwise fun a b=>b8 (cV t b) (cV t a)=false
theorem wJ{t:Nat->Nat}:∀{a b:List Nat},cV t a=cV t b->a=b
|[],[],_=>rfl
|[],_::_,h=>nomatch h
|_::_,[],h=>nomatch h
|x::a,y::b,h=>by
  unfold cV at h;rw[y_,y_]at h;injection h with h1 h2
  injection h1 with h3 _
  have:=wJ (t:=t) h2;rw[this,Jx.mp h3]
theorem BN{t:Nat->Nat}{R U:List (List Nat)}(p:R.Perm U)(h1:jE t R)(h2:jE t U):R=U:=ze (fun a b x y=>wJ (xQ _ _ y x)) p h1 h2
theorem xY(t:Nat->Nat):∀(rs:List (List Nat)),(∀r∈rs,r≠[])->iI (rs.map (aN t))=some (rs.map (cV t))
|[],_=>rfl
|r::rs,h=>by have e:=xY t rs fun x hx=>h x (f_ _ hx);have hr:=h r c_;cases r with
 |nil=>exact absurd rfl hr
 |cons a r=>show(gL ((a::r).map (bh t))).bind _=_;rw[xA,e];rfl
theorem qb{α β:Type}(f:α->β){l:List α}{i:Nat}(h:i<l.length)(x:β)(y:α):(l.map f).getD i x=f (l.getD i y):=by simp[List.getD,j_ h]
theorem yl(t:Nat->Nat)(rs:List (List Nat))(h:∀r∈rs,r≠[])(hl:rs.length<64):∃rs':List (List Nat),rs'.Perm rs/\jE t rs'/\kC [.lst (rs.map (aN t))]=some (.lst (rs'.map (aN t))):=by
 let c:Nat->Nat->Bool:=fun i j=>bJ ((rs.map (cV t)).getD i []) ((rs.map (cV t)).getD j []);refine⟨(fT rs.length c).map fun i=>rs.getD i [],?_,?_,?_⟩
 .refine((qf rs.length c).map fun i=>rs.getD i []).trans ?_;have e2:(r_ rs.length).map (fun i=>rs.getD i [])=rs:=by
   refine JA fun i=>?_;rw[t_];by_cases hi:i<rs.length
   .rw[IT hi];simp[j_ hi]
   .rw[HL (by simp;omega),HL (by omega)];rfl
  rw[e2]
 .unfold jE;rw[Jh];have:=Go (n:=rs.length) (c:=c) (fun i j=>by show bJ _ _=true->bJ _ _=false;rw[jd,jd];exact xR _ _) (fun i j k=>by show bJ _ _=false->bJ _ _=false->bJ _ _=false;rw[jd,jd,jd];exact yh _ _ _);refine this.imp_of_mem fun{i j} hi hj h=>?_;have h:bJ ((rs.map (cV t)).getD j []) ((rs.map (cV t)).getD i [])=false:=h;rw[qb _ (lB hj) [] [],qb _ (lB hi) [] [],jd]at h;exact h
 .show(iI (rs.map (aN t))).bind _=_;rw[xY t rs h];show(if _ then _ else _)=_;rw[if_pos (by rw[m_];exact hl)];unfold iu;rw[HR,m_];congr 2;refine Jm fun i hi=>?_;exact qb (aN t) (lB hi) .non []
theorem xF{W:Nat->List Nat}{O:Nat->Option Nat}:∀r∈Rg.dX W O s,r≠[]:=by intro r hr;obtain⟨x,_,h2⟩:=HP.mp hr;exact Rg.wv h2
theorem Dy(t:Nat->Nat)(o:Option (List Nat)):cW (g6 t o) .non=some (.bl o.isSome):=by cases o <;> rfl
theorem xI(S:Snd rz oz s):∃rs:List (List Nat),rs.Perm (Rg.dX (Wr rz) (own oz) s)/\jE (tS rz s) rs/\iQ [WD rz,OD oz,LN s.line,LN s.things]=.ok (.lst (rs.map (aN (tS rz s)))):=by
 obtain⟨y',hloop⟩:=wx S s.line [] none rfl;have hcl:∀h∈s.line,fS rz oz s h∈s.line:=fun h hh=>Rg.j2 (Ib hh);have hlen:(Rg.dX (Wr rz) (own oz) s).length<=s.line.length:=K6 _ _;obtain⟨rs',hp,hu,hs⟩:=yl (tS rz s) (Rg.dX (Wr rz) (own oz) s) xF (by have:=S.nl;omega);refine⟨rs',hp,hu,wA (B:=rE) (n:=8) ?_⟩;unfold rE;refine(av (r':=[some (WD rz),some (OD oz),some (LN s.line),some (LN s.things),some (KD (FD [] (tS rz s))),none,none,none]) rfl).trans ?_;refine(av (r':=[some (WD rz),some (OD oz),some (LN s.line),some (LN s.things),some (KD (FD [] (tS rz s))),some (KD (FD [] (fS rz oz s))),none,none]) rfl).trans ?_;refine(av ((dD (ds:=s.line.map nD) rfl).trans hloop)).trans ?_;refine(av (bp (g7 (l:=s.line) nD (fun _=>true) (fun h=>g6 (tS rz s) (Rg.fu (fS rz oz s) s.line.length h)) rfl (by have:=S.nl;omega) fun h hh=>⟨[some (nD h),some (KD (FD s.line (tS rz s))),some (KD (FD s.line (fS rz oz s)))],rfl,rfl,fun _=>bv (ak (d:=nD h) rfl (ak (d:=KD (FD s.line (tS rz s))) rfl (ak (d:=KD (FD s.line (fS rz oz s))) rfl aq))) (Et hcl S.nl hh)⟩))).trans ?_;rw[p0];refine bg (bR (bC (ak (g7 (l:=s.line.map (Rg.fu (fS rz oz s) s.line.length)) (g6 (tS rz s)) NP (g6 (tS rz s)) ?_ (by have:=S.nl;simp;omega) fun o _=>⟨[some (g6 (tS rz s) o)],rfl,bV (aw (a:=g6 (tS rz s) o) (b:=.non) rfl rfl (Dy _ _)),fun _=>rfl⟩) aq) ?_))
 .rw[HR];rfl
 .rw[pB];exact hs
theorem tF{t:Nat->Nat}{line:List Nat}(hl:line.length<=60)(rg d:D):∀(ring L:List Nat)(kvs:List (Nat×Nat))(x y:Option D),GI t kvs L->(∀h∈L++ring,h∈line) ->∃kvs' x' y',GI t kvs' (L++ring)/\aA (iT (d6 (aG 3) (d6 (aG 4) iD))) ym (ring.map (bh t)) [some rg,some (KD kvs),some d,x,y]=.nx [some rg,some (KD kvs'),some d,x',y']
|[],L,kvs,x,y,g,hs=>⟨kvs,x,y,by rw[HU];exact g,dI⟩
|h::ring,L,kvs,x,y,g,hs=>by obtain⟨kvs',x',y',g',ih⟩:=tF hl rg d ring (L++[h]) (putN kvs h (t h)) (some (nD h)) (some (nD (t h))) (g.put h) (by simpa using hs);refine⟨kvs',x',y',by simpa using g',?_⟩;rw[<-ih];have hk:=g.len (line:=line) fun x hx=>hs x (H_ _ hx);exact dz (r1:=[some rg,some (KD kvs),some d,some (nD h),some (nD (t h))]) rfl (av (jZ (d:=KD kvs) (k:=nD h) (v:=nD (t h)) rfl rfl rfl (kH (by omega))))
theorem vH{t:Nat->Nat}{line:List Nat}(hl:line.length<=60)(rg:D):∀(rs:List (List Nat))(L:List Nat)(kvs:List (Nat×Nat))(z x y:Option D),GI t kvs L->(∀h∈L++rs.flatten,h∈line) ->∃kvs' z' x' y',GI t kvs' (L++rs.flatten)/\aA (aG 2) yn (rs.map (aN t)) [some rg,some (KD kvs),z,x,y]=.nx [some rg,some (KD kvs'),z',x',y']
|[],L,kvs,z,x,y,g,hs=>⟨kvs,z,x,y,by simpa using g,dI⟩
|r::rs,L,kvs,z,x,y,g,hs=>by
  obtain⟨kvs1,x1,y1,g1,h1⟩:=tF hl rg (aN t r) r L kvs x y g fun h hh=>hs h (by
   rw[JB];rcases IJ.mp hh with q|q
   .exact H_ _ q
   .exact Hx _ (H_ _ q))
  obtain⟨kvs',z',x',y',g',ih⟩:=vH hl rg rs (L++r) kvs1 (some (aN t r)) x1 y1 g1 (by rw[Je];simpa using hs);refine⟨kvs',z',x',y',by rw[Je]at g';simpa using g',?_⟩;rw[<-ih];exact dz (r1:=[some rg,some (KD kvs),some (aN t r),x,y]) rfl (av ((dD (ds:=r.map (bh t)) rfl).trans h1))
theorem wz{t:Nat->Nat}{line:List Nat}{rs:List (List Nat)}(hl:line.length<=60)(hs:∀h∈rs.flatten,h∈line):∃kvs,GI t kvs rs.flatten/\iL [.lst (rs.map (aN t))]=.ok (KD kvs):=by obtain⟨kvs',z',x',y',g',h⟩:=vH hl (.lst (rs.map (aN t))) rs [] [] none none none ⟨by simp,fun _ hp=>(nomatch hp),fun h=>by simp⟩ (by simpa using hs);refine⟨kvs',by simpa using g',cf (B:=pI) (n:=5) ?_⟩;unfold pI;refine(av (r':=[some (.lst (rs.map (aN t))),some (KD []),none,none,none]) rfl).trans ?_;refine(av ((dD (ds:=rs.map (aN t)) rfl).trans h)).trans ?_;exact bg (bR (d:=KD kvs') rfl)
end
section
variable{rz:List (List Nat)}{oz:List (Option Nat)}
inductive Ch(rz:List (List Nat))(oz:List (Option Nat)):Rg.S->List (List (List Nat)×Rg.S)->Prop where
 |nil {s:Rg.S}:s.line=[]->Ch rz oz s []
 |cons {s:Rg.S} {rs:List (List Nat)} {l:List (List (List Nat)×Rg.S)}:s.line≠[]->jE (tS rz s) rs->rs.Perm (Rg.dX (Wr rz) (own oz) s)->Ch rz oz (Rg.minus (Wr rz) s rs.flatten) l->Ch rz oz s ((rs,s)::l)
abbrev c5(rz:List (List Nat))(p:List (List Nat)×Rg.S):D:=.lst (p.1.map (aN (tS rz p.2)))
theorem lf{s:Rg.S}{rs:List (List Nat)}(hp:rs.Perm (Rg.dX (Wr rz) (own oz) s)):Rg.Cyc (Wr rz) (own oz) s rs.flatten:=Rg.ww (fun h hh=>by obtain⟨r,h1,h2⟩:=Io.mp hh;exact⟨r,hp.mem_iff.mp h1,h2⟩) (fun r hr h hh=>Io.mpr ⟨r,hp.mem_iff.mpr hr,hh⟩)
theorem Snd.minus{s:Rg.S}(S:Snd rz oz s){C:List Nat}(c:Rg.Cyc (Wr rz) (own oz) s C):Snd rz oz (Rg.minus (Wr rz) s C) where
 ok:=Rg.zX S.ok c
 inr:=fun h hh=>S.inr h (HC.mp hh).1
 ino:=fun h hh=>S.ino h (HC.mp hh).1
 wid:=fun h hh=>S.wid h (HC.mp hh).1
 nl:=HZ (J6 _ _) S.nl
 nt:=HZ (J6 _ _) S.nt
theorem wP{s:Rg.S}{C:List Nat}(c:Rg.Cyc (Wr rz) (own oz) s C)(hne:C≠[]):(Rg.minus (Wr rz) s C).line.length<s.line.length:=by obtain⟨x,hx⟩:=JO _ hne;have:=Rg.qw (fun h=>decide (h∉C)) s.line;have h3:0<(s.line.filter fun h=>! decide (h∉C)).length:=Jt (HC.mpr ⟨c.sub x hx,by simpa using hx⟩);show(s.line.filter _).length<_;omega
theorem yP{s:Rg.S}{rs:List (List Nat)}(hp:rs.Perm (Rg.dX (Wr rz) (own oz) s))(hne:s.line≠[]):rs.flatten≠[]:=by obtain⟨x,hx⟩:=JO _ (Rg.BD (W:=Wr rz) (O:=own oz) hne);obtain⟨r,h1,h2⟩:=Io.mp hx;exact Ib (Io.mpr ⟨r,hp.mem_iff.mpr h1,h2⟩)
theorem tx{kvs:List (Nat×Nat)}{L:List Nat}{t:Nat->Nat}(g:GI t kvs L)(h:Nat):bX (nD h) (KD kvs)=some (.bl (decide (h∉L))):=by
 show(some (b9 _ (kI h))).map (fun b=>D.bl (! b))=_;have e:b9 (kvs.map fun p=>(kI p.1,nD p.2)) (kI h)=decide (h∈kvs.map (·.1)):=jA kvs h;rw[e];have:decide (h∈kvs.map (·.1))=decide (h∈L):=by rw[decide_eq_decide];exact g.key h
 rw[this];show some (D.bl (! decide (h∈L)))=_;rw[decide_not]
theorem GI.vals{kvs:List (Nat×Nat)}{L:List Nat}{t:Nat->Nat}(g:GI t kvs L)(x:Nat):x∈kvs.map (·.2)↔x∈L.map t:=by
 constructor
 .intro hx;obtain⟨p,h1,rfl⟩:=w_.mp hx;exact w_.mpr ⟨p.1,(g.key _).mp (w_.mpr ⟨p,h1,rfl⟩),(g.val p h1).symm⟩
 .intro hx;obtain⟨h,h1,rfl⟩:=w_.mp hx;obtain⟨p,h2,rfl⟩:=w_.mp ((g.key h).mpr h1);exact w_.mpr ⟨p,h2,g.val p h2⟩
theorem tz{kvs:List (Nat×Nat)}{L:List Nat}{t:Nat->Nat}(g:GI t kvs L)(x:Nat):bX (nD x) (LN (kvs.map (·.2)))=some (.bl (decide (x∉L.map t))):=by rw[By,decide_not];congr 3;rw[decide_eq_decide];exact g.vals x
theorem C7(od:D):∀(j:Nat)(s:Rg.S)(told:List D)(x y z:Option D),Snd rz oz s->s.line.length<j->told.length+s.line.length<=60 ->
  ∃(s':Rg.S)(l:List (List (List Nat)×Rg.S))(x' y' z':Option D),Ch rz oz s l/\l.length<=s.line.length /\
   en dN yu yo j [some (WD rz),some (OD oz),some od,some (LN s.line),some (LN s.things),some (.lst told),x,y,z]
    = .nx [some (WD rz),some (OD oz),some od,some (LN s'.line),some (LN s'.things),some (.lst (told++l.map (c5 rz))),x',y',z']:=by
 intro j
 induction j with
|zero=>intro s told x y z _ h;omega
|succ j ih=>
  intro s told x y z S hj ht;by_cases hne:s.line=[]
  .refine⟨s,[],x,y,z,.nil hne,Hy _,?_⟩;rw[Kn,HU];refine wn (eh (d:=LN s.line) rfl ?_);rw[hne];rfl
  .obtain⟨rs,hp,hu,hr⟩:=xI S;have c:=lf hp;obtain⟨kvs,g,hg⟩:=wz (t:=tS rz s) S.nl c.sub;have hlt:=wP c (yP hp hne);obtain⟨s',l,x',y',z',h1,h2,h3⟩:=ih (Rg.minus (Wr rz) s rs.flatten) (told++[c5 rz (rs,s)]) (some (c5 rz (rs,s))) (some (KD kvs)) (some (LN (kvs.map (·.2)))) (S.minus c) (by omega) (by simp;omega);refine⟨s',(rs,s)::l,x',y',z',.cons hne hu hp h1,by simp;omega,?_⟩;rw[Je]at h3;rw[y_];refine Oc (wo (eh (b:=true) (d:=LN s.line) rfl ?_) ?_) h3
   .cases q:s.line with
   |nil=>exact absurd q hne
   |cons a t=>rfl
   .refine(av (bp (bv (ak (d:=WD rz) rfl (ak (d:=OD oz) rfl (ak (d:=LN s.line) rfl (ak (d:=LN s.things) rfl aq)))) hr))).trans ?_;refine(av (bp (bv (ak (d:=.lst (rs.map (aN (tS rz s)))) rfl aq) hg))).trans ?_;refine(av (bp (d:=LN (kvs.map (·.2))) (jO (a:=KD kvs) rfl ?_))).trans ?_
    .rw[e_valsD,HR];show some (D.lst _)=some (D.lst ((kvs.map (·.2)).map nD));rw[HR];rfl
    refine(av (bp (g7 (l:=s.line) nD (fun h=>decide (h∉rs.flatten)) nD rfl (by have:=S.nl;omega) fun h hh=>⟨[some (nD h),some (KD kvs)],rfl,bV (aw (a:=nD h) (b:=KD kvs) rfl rfl (tx g h)),fun _=>rfl⟩))).trans ?_;refine(av (bp (g7 (l:=s.things) nD (fun x=>decide (x∉rs.flatten.map (tS rz s))) nD rfl (by have:=S.nt;omega) fun h hh=>⟨[some (nD h),some (LN (kvs.map (·.2)))],rfl,bV (aw (a:=nD h) (b:=LN (kvs.map (·.2))) rfl rfl (tz g h)),fun _=>rfl⟩))).trans ?_;refine(av (iF (d:=.lst told) (ds:=[c5 rz (rs,s)]) rfl rfl (ak (d:=c5 rz (rs,s)) rfl aq) (m5 (by omega)))).trans ?_;rfl
def ap:Option (List Nat)->D
|none=>.non
|some l=>LN l
def s0(rz:List (List Nat))(o:Option (List Nat)):Rg.S:=⟨o.getD (r_ rz.length),r_ (rz.headD []).length⟩
theorem yj{o:Option (List Nat)}(ho:∀l,o=some l->l.Nodup/\(∀k∈l,k<rz.length)/\l.length=rz.length)(h8:rz.length<=60):gS [WD rz,ap o]=.ok (LN (s0 rz o).line):=by cases o with
|none=>exact GB (by omega)
|some l=>obtain⟨h1,h2,h3⟩:=ho l rfl;exact Fh h1 h2 h3 (by omega)
theorem Fw{o:Option (List Nat)}(ho:∀l,o=some l->l.Nodup/\(∀k∈l,k<rz.length)/\l.length=rz.length)(hr:rz≠[])(h8:rz.length<=60)(S:Snd rz oz (s0 rz o)):∃l,Ch rz oz (s0 rz o) l/\l.length<=60/\k7 [WD rz,OD oz,ap o]=.ok (.lst (l.map (c5 rz))):=by obtain⟨s',l,x',y',z',h1,h2,h3⟩:=C7 (rz:=rz) (oz:=oz) (ap o) 64 (s0 rz o) [] none none none S (by have:=S.nl;omega) (by have:=S.nl;simp;omega);refine⟨l,h1,by have:=S.nl;omega,cf (B:=k6) (n:=9) ?_⟩;unfold k6;cases rz with
|nil=>exact absurd rfl hr
|cons row rest=>refine(av (bp (bv (ak (d:=WD (row::rest)) rfl (ak (d:=ap o) rfl aq)) (yj ho h8)))).trans ?_;refine(av (bp (d:=LN (s0 (row::rest) o).things) (bC (ak (bv (ak (d:=WD (row::rest)) rfl aq) yk) aq) (kW (by have:=S.nt;unfold s0 at this;simp at this;omega))))).trans ?_;refine(av (bp (d:=.lst []) (jY aq (by simp)))).trans ?_;refine(av h3).trans ?_;exact bg (bR (d:=.lst (l.map (c5 (row::rest)))) rfl)
theorem gA{f:FS}{r r':ag}{w:List (List D)}(h:f r=.nx r'):ca f r w=some (r',w):=by unfold ca;rw[h]
theorem seq2{f1 f2:cz}{r r':ag}{w w':List (List D)}(h:f1 r w=some (r',w')):d4 f1 f2 r w=f2 r' w':=by unfold d4;rw[h];rfl
theorem BU{j:Nat}{r:ag}{w:List (List D)}{ds:List D}(h:r[j]? = some (some (.lst ds)))(hl:w.length<=1000):dS j r w=some (r.set j none,w++[ds]):=by unfold dS;rw[h];simp only[if_pos (show w.length<sizeLine by rw[HF];omega)]
theorem DY{p:FQ}{b:cz}{n:Nat}{r r':ag}{w w':List (List D)}(h:p r=.ok true)(h2:b r w=some (r',w')):fA p b (n+1) r w=fA p b n r' w':=by
 conv=>lhs;unfold fA
 rw[h];simp only[h2,Lc]
theorem DX{p:FQ}{b:cz}{n:Nat}{r:ag}{w:List (List D)}(h:p r=.ok false):fA p b (n+1) r w=some (r,w):=by unfold fA;rw[h]
theorem uO{f:FE}{r:ag}{ds:List D}(h:f r=.ok (.lst ds)):eG f r=.ok (.lst ds):=by unfold eG;rw[h];rfl
abbrev bW(rz:List (List Nat))(p:List (List Nat)×Rg.S):List D:=p.1.map (aN (tS rz p.2))
abbrev sQ:cz:=(d4 (ca (am hZ 6 (eG (aJ (aj (gv 0) (aj (gv 1) (aj (gv 3) (aj (gv 4) af)))) [] iQ)))) (d4 (ca (am aX 7 (aJ (aj (gv 6) af) [] iL))) (d4 (ca (am aX 8 (f1 (gv 7) kA))) (d4 (ca (am aX 3 (cL 1 [7] (aI bN (gv 3)) (aG 0) (aO (f2 (gv 0) (gv 1) bX)) (gv 0)))) (d4 (ca (am aX 4 (cL 1 [8] (aI bN (gv 4)) (aG 0) (aO (f2 (gv 0) (gv 1) bX)) (gv 0)))) (d4 (dS 6) (fun r w=>some (r,w))))))))
theorem En(od:D):∀(j:Nat)(s:Rg.S)(w:List (List D))(y z:Option D),Snd rz oz s->s.line.length<j->w.length+s.line.length<=60 ->
  ∃(s':Rg.S)(l:List (List (List Nat)×Rg.S))(y' z':Option D),Ch rz oz s l/\l.length<=s.line.length /\
   fA qE sQ j [some (WD rz),some (OD oz),some od,some (LN s.line),some (LN s.things),none,none,y,z] w
    = some ([some (WD rz),some (OD oz),some od,some (LN s'.line),some (LN s'.things),none,none,y',z'],w++l.map (bW rz)):=by
 intro j
 induction j with
|zero=>intro s w y z _ h;omega
|succ j ih=>
  intro s w y z S hj ht;by_cases hne:s.line=[]
  .refine⟨s,[],y,z,.nil hne,Hy _,?_⟩;rw[Kn,HU];refine DX (eh (d:=LN s.line) rfl ?_);rw[hne];rfl
  .obtain⟨rs,hp,hu,hr⟩:=xI S;have c:=lf hp;obtain⟨kvs,g,hg⟩:=wz (t:=tS rz s) S.nl c.sub;have hlt:=wP c (yP hp hne);obtain⟨s',l,y',z',h1,h2,h3⟩:=ih (Rg.minus (Wr rz) s rs.flatten) (w++[bW rz (rs,s)]) (some (KD kvs)) (some (LN (kvs.map (·.2)))) (S.minus c) (by omega) (by simp;omega);refine⟨s',(rs,s)::l,y',z',.cons hne hu hp h1,by simp;omega,?_⟩;rw[Je]at h3;rw[y_];refine Oc (DY (eh (b:=true) (d:=LN s.line) rfl ?_) ?_) h3
   .cases q:s.line with
   |nil=>exact absurd q hne
   |cons a t=>rfl
   .refine(seq2 (gA (bp (uO (bv (ak (d:=WD rz) rfl (ak (d:=OD oz) rfl (ak (d:=LN s.line) rfl (ak (d:=LN s.things) rfl aq)))) hr))))).trans ?_;refine(seq2 (gA (bp (bv (ak (d:=.lst (rs.map (aN (tS rz s)))) rfl aq) hg)))).trans ?_;refine(seq2 (gA (bp (d:=LN (kvs.map (·.2))) (jO (a:=KD kvs) rfl ?_)))).trans ?_
    .rw[e_valsD,HR];show some (D.lst _)=some (D.lst ((kvs.map (·.2)).map nD));rw[HR];rfl
    refine(seq2 (gA (bp (g7 (l:=s.line) nD (fun h=>decide (h∉rs.flatten)) nD rfl (by have:=S.nl;omega) fun h hh=>⟨[some (nD h),some (KD kvs)],rfl,bV (aw (a:=nD h) (b:=KD kvs) rfl rfl (tx g h)),fun _=>rfl⟩)))).trans ?_;refine(seq2 (gA (bp (g7 (l:=s.things) nD (fun x=>decide (x∉rs.flatten.map (tS rz s))) nD rfl (by have:=S.nt;omega) fun h hh=>⟨[some (nD h),some (LN (kvs.map (·.2)))],rfl,bV (aw (a:=nD h) (b:=LN (kvs.map (·.2))) rfl rfl (tz g h)),fun _=>rfl⟩)))).trans ?_;exact seq2 (BU (ds:=bW rz (rs,s)) rfl (by omega))
theorem Gk{o:Option (List Nat)}(ho:∀l,o=some l->l.Nodup/\(∀k∈l,k<rz.length)/\l.length=rz.length)(hr:rz≠[])(h8:rz.length<=60)(S:Snd rz oz (s0 rz o)):∃l,Ch rz oz (s0 rz o) l/\l.length<=60/\nF [WD rz,OD oz,ap o]=some (l.map (bW rz)):=by obtain⟨s',l,y',z',h1,h2,h3⟩:=En (rz:=rz) (oz:=oz) (ap o) 64 (s0 rz o) [] none none S (by have:=S.nl;omega) (by have:=S.nl;simp;omega);refine⟨l,h1,by have:=S.nl;omega,?_⟩;show nC [some (WD rz),some (OD oz),some (ap o),none,none,none,none,none,none]=_;cases rz with
|nil=>exact absurd rfl hr
|cons row rest=>have e1:(am gu 3 (aJ (aj (gv 0) (aj (gv 2) af)) [] gS)) [some (WD (row::rest)),some (OD oz),some (ap o),none,none,none,none,none,none]=.nx [some (WD (row::rest)),some (OD oz),some (ap o),some (LN (s0 (row::rest) o).line),none,none,none,none,none]:=bp (bv (ak (d:=WD (row::rest)) rfl (ak (d:=ap o) rfl aq)) (yj ho h8));have e2:(am gu 4 (fC (aj (aJ (aj (gv 0) af) [] iR) af) gJ)) [some (WD (row::rest)),some (OD oz),some (ap o),some (LN (s0 (row::rest) o).line),none,none,none,none,none]=.nx [some (WD (row::rest)),some (OD oz),some (ap o),some (LN (s0 (row::rest) o).line),some (LN (s0 (row::rest) o).things),none,none,none,none]:=bp (d:=LN (s0 (row::rest) o).things) (bC (ak (bv (ak (d:=WD (row::rest)) rfl aq) yk) aq) (kW (by have:=S.nt;unfold s0 at this;simp at this;omega)));unfold nC eF;rw[e1];show eF _ _ _=_;unfold eF;rw[e2];show mO _ _ _=_;unfold mO oH;show Option.bind (fA qE sQ 64 [some (WD (row::rest)),some (OD oz),some (ap o),some (LN (s0 (row::rest) o).line),some (LN (s0 (row::rest) o).things),none,none,none,none] []) _=_;rw[h3];rfl
end
theorem kK{a b:Nat}(h:0<b):bc (nD a) (nD b)=some (nD (a%b)):=by rw[vO (by omega:(0:Int)<(b:Int))];show some (D.int _)=some (D.int _);rw[Int.natCast_emod]
theorem nc{a b:Nat}(h:0<b)(h2:b<1000):g3 (nD a) (nD b)=some (nD (a/b)):=by rw[Ds (⟨by omega,by omega⟩:fQ (a:Int) (b:Int))];show some (D.int _)=some (D.int _);rw[Int.natCast_ediv]
theorem jb(a b:Nat):addA (nD a) (nD b)=some (nD (a+b)):=by rw[addA_int];show some (D.int _)=some (D.int _);rw[Int.natCast_add]
section
variable{f f':FE}{r:ag}
theorem jN{b:Int}(h:∃i:Int,f r=.ok (.int i))(h':f' r=.ok (.int b))(hb:0<b):∃c:Nat,f2 f f' bc r=.ok (nD c):=by obtain⟨i,hi⟩:=h;refine⟨(i%b).toNat,aw hi h' ?_⟩;rw[vO hb];show some (D.int _)=some (D.int _);rw[LS (Int.emod_nonneg _ (by omega))]
theorem zt(h:∃c:Nat,f r=.ok (nD c)):∃i:Int,f r=.ok (.int i):=let⟨c,e⟩:=h;⟨c,e⟩
theorem i8{b:Int}(h:∃i:Int,f r=.ok (.int i))(h':f' r=.ok (.int b))(hb : -(2^64)<b/\b<2^64):∃i:Int,f2 f f' cj r=.ok (.int i):=by obtain⟨i,hi⟩:=h;exact⟨i*b,aw hi h' (De (.inr hb))⟩
theorem mH(h:∃i:Int,f r=.ok (.int i))(h':∃i:Int,f' r=.ok (.int i)):∃i:Int,f2 f f' addA r=.ok (.int i):=by obtain⟨i,hi⟩:=h;obtain⟨j,hj⟩:=h';exact⟨i+j,aw hi hj rfl⟩
end
theorem sV{m:List Md}{i:Nat}{f:FE}{s2:FS}{r:ag}(h:∃c:Nat,f r=.ok (nD c))(k:∀c:Nat,∃d:Nat,s2 (r.set i (some (nD c)))=.rt (nD d)):∃d:Nat,aa (am m i f) s2 r=.rt (nD d):=by obtain⟨c,hc⟩:=h;obtain⟨d,hd⟩:=k c;exact⟨d,(av (bp hc)).trans hd⟩
abbrev IN(ns:List Int):D:=.lst (ns.map .int)
theorem nw(ns:List Int)(k:Nat)(hk:k<=1000):∃c:Nat,g8 [IN ns,nD k]=.ok (nD c):=by
 suffices h:∃c:Nat,nY (aS 4 [IN ns,nD k])=.rt (nD c)by obtain⟨c,hc⟩:=h;exact⟨c,cf (B:=nY) (n:=4) hc⟩
 unfold nY;have st:aa (am bD 2 (ci 0))=aa (am bD 2 (fun _=>Res.ok (nD 0))):=rfl;rw[st];refine sV ⟨0,rfl⟩ fun c1=>?_;show ∃d:Nat,aa _ _ [some (IN ns),some (nD k),some (nD c1),none]=_;have key:∃c2:Nat,(ck bD (aO (f2 (gv 1) (fC (aj (gv 0) af) lenD) ic)) (aa (am bD 2 (f2 (f2 (gv 0) (gv 1) aK) (f2 (ci 10) (ci 60) gy) bc)) ax) ax) [some (IN ns),some (nD k),some (nD c1),none]=.nx [some (IN ns),some (nD k),some (nD c2),none]:=by
  have t:=bV (aw (f:=gv 1) (r:=[some (IN ns),some (nD k),some (nD c1),none]) (a:=nD k) rfl (bC (ak (f:=gv 0) (d:=IN ns) rfl aq) (jf _ _)) (mS k ns.length));by_cases hlt:k<ns.length
  .rw[decide_eq_true hlt]at t;have hx:(ns.map D.int)[k]? = some (.int ns[k]):=by rw[t_,j_ hlt];rfl
   have hp:gy (.int 10) (.int 60)=some (.int (10^60)):=by show iw fP _ _ _=_;rw[intsC_int,if_pos (by unfold fP;decide)];rfl
   obtain⟨c2,h2⟩:=jN (f:=f2 (gv 0) (gv 1) aK) (f':=f2 (ci 10) (ci 60) gy) (r:=[some (IN ns),some (nD k),some (nD c1),none]) ⟨ns[k],aw (a:=IN ns) (b:=nD k) rfl rfl (tt hx)⟩ (aw rfl rfl hp) (by decide);exact⟨c2,(dj t).trans ((av (bp h2)).trans rfl)⟩
  .rw[decide_eq_false hlt]at t;exact⟨c1,(bK t).trans rfl⟩
 obtain⟨c2,h2⟩:=key;rw[av h2];have kq:∃b,(dq (aO (f2 (fC (aj (gv 0) af) lenD) (ci 0) kl)) (aO (f2 (f2 (f2 (gv 0) (ci 0) aK) (ci 2) bc) (ci 0) eqD))) [some (IN ns),some (nD k),some (nD c2),none]=.ok b:=by have t:=bV (aw (f:=fC (aj (gv 0) af) lenD) (f':=fun _=>Res.ok (D.int 0)) (r:=[some (IN ns),some (nD k),some (nD c2),none]) (b:=nD 0) (bC (ak (d:=IN ns) rfl aq) (jf _ _)) rfl (tH ns.length 0));cases ns with
 |nil=>exact⟨false,sO t⟩
 |cons a ns=>rw[decide_eq_true (by simp)]at t;obtain⟨c3,h3⟩:=jN (f:=f2 (gv 0) (ci 0) aK) (f':=fun _=>Res.ok (D.int 2)) (r:=[some (IN (a::ns)),some (nD k),some (nD c2),none]) ⟨a,aw (a:=IN (a::ns)) (b:=.int 0) rfl rfl (ixA_L0 _ _)⟩ rfl (by decide);exact⟨_,(oG t).trans (bV (aw h3 (b:=nD 0) rfl (iA c3 0)))⟩
 obtain⟨b,hb⟩:=kq;cases b with
|true=>exact⟨c2,bg ((dj hb).trans (bg (bR (d:=nD c2) rfl)))⟩
|false=>rw[av ((bK (s2:=ax) hb).trans (e_skip _))];refine sV (jN (i8 (zt (jN (i8 (mH (mH (mH ⟨(c2:Int),rfl⟩ (i8 (b:=(k:Int)) (i8 (b:=(k:Int)) ⟨7,rfl⟩ rfl (by omega)) rfl (by omega))) (i8 (b:=(k:Int)) ⟨13,rfl⟩ rfl (by omega))) ⟨5,rfl⟩) rfl (by decide)) rfl (by decide))) rfl (by decide)) rfl (by decide)) fun c3=>?_;obtain⟨c4,h4⟩:=jN (f:=(f2 (f2 (f2 (f2 (gv 3) (ci 1) addA) (ci 40692) cj) (ci 2147483629) bc) (ci 39373) cj)) (f':=fun _=>Res.ok (D.int 999999937)) (r:=[some (IN ns),some (nD k),some (nD c2),some (nD c3)]) (i8 (zt (jN (i8 (mH ⟨(c3:Int),rfl⟩ ⟨1,rfl⟩) rfl (by decide)) rfl (by decide))) rfl (by decide)) rfl (by decide);exact⟨c4,bg (bR h4)⟩
theorem Dx{row:List Nat}{i:Int}{x:Nat}:bG (row.map nD) i (nD x)=(bG row i x).map nD:=by unfold bG;rw[m_,HD,y_,LZ,L0]
theorem EO{row:List Nat}{i:Int}{x:Nat}:(bG row i x).Perm (x::row):=by unfold bG;refine List.perm_middle.trans ?_;rw[List.take_append_drop]
theorem wY(m:Nat):∀(j i c:Nat)(row:List Nat)(x:Option D),row.Perm (r_ i)->i+j<=60 ->∃(c':Nat)(row':List Nat)(x':Option D),row'.Perm (r_ (i+j))/\aA (aG 3) yU ((LK i j).map nD) [some (nD c),some (nD m),some (LN row),x]=.nx [some (nD c'),some (nD m),some (LN row'),x']
|0,i,c,row,x,hp,_=>⟨c,row,x,hp,dI⟩
|j+1,i,c,row,x,hp,hl=>by
  have hlen:row.length=i:=by rw[hp.length_eq];simp
  obtain⟨c',row',x',h1,h2⟩:=wY m j (i+1) (c/(i+1)) (bG row ((c%(i+1):Nat):Int) i) (some (nD i)) (by refine EO.trans ?_;rw[Ly];exact(List.Perm.cons i hp).trans (List.perm_append_singleton i _).symm) (by omega);refine⟨c',row',x',by rw[show i+(j+1)=i+1+j by omega];exact h1,?_⟩;rw[<-h2];have hmod:c%(i+1)<i+1:=Ka _ (by omega);refine dz (r1:=[some (nD c),some (nD m),some (LN row),some (nD i)]) rfl ?_;refine(av (iF (d:=LN row) (ds:=[nD (c%(i+1)),nD i]) (d':=LN (bG row ((c%(i+1):Nat):Int) i)) rfl rfl (ak (aw (a:=nD c) (b:=nD (i+1)) rfl (aw (a:=nD i) (b:=nD 1) rfl rfl (jb i 1)) (kK (by omega))) (ak (d:=nD i) rfl aq)) ?_)).trans ?_
  .show(if _ then some (D.lst (bG _ _ _))else none)=_;rw[if_pos ⟨by rw[m_,HF];omega,by omega,by omega⟩,Dx]
  .exact av (bp (d:=nD (c/(i+1))) (aw (a:=nD c) (b:=nD (i+1)) rfl (aw (a:=nD i) (b:=nD 1) rfl rfl (jb i 1)) (nc (by omega) (by omega))))
theorem wB(c m:Nat)(hm:m<=60):∃row:List Nat,row.Perm (r_ m)/\ji [nD c,nD m]=.ok (TN row):=by obtain⟨c',row',x',h1,h2⟩:=wY m m 0 c [] none (by simp) (by omega);rw[Lu]at h1;rw[<-Kf]at h2;refine⟨row',h1,cf (B:=qo) (n:=4) ?_⟩;unfold qo;refine(av (bp (d:=LN []) (jY aq (by simp)))).trans ?_;refine(av ((dD (ds:=(r_ m).map nD) (j5 (ak (d:=nD m) rfl aq) (j1 (by omega)))).trans h2)).trans ?_;exact bg (bR (bC (ak (d:=LN row') rfl aq) rfl))
theorem Fy(ns:List Int)(at' n m:Nat)(ha:at'<=60)(hn:n<=60)(hm:m<=60):∃rz:List (List Nat),rz.length=n/\(∀row∈rz,row.Perm (r_ m))/\og [IN ns,nD at',nD n,nD m]=.ok (WD rz):=by
 have h:∀h:Nat,∃row:List Nat,h<=60->row.Perm (r_ m)/\∃c:Nat,g8 [IN ns,nD (at'+h)]=.ok (nD c)/\ji [nD c,nD m]=.ok (TN row):=by
  intro h;by_cases hh:h<=60
  .obtain⟨c,hc⟩:=nw ns (at'+h) (by omega);obtain⟨row,h1,h2⟩:=wB c m hm;exact⟨row,fun _=>⟨h1,c,hc,h2⟩⟩
  .exact⟨[],fun z=>absurd z hh⟩
 obtain⟨g,hg⟩:=Classical.axiomOfChoice h;refine⟨(r_ n).map g,by simp,fun row hr=>?_,cf (B:=rC) (n:=4) ?_⟩
 .obtain⟨i,hi,rfl⟩:=w_.mp hr;exact(hg i (by have:=D_.mp hi;omega)).1
 .unfold rC;refine bg (bR (bC (ak (g7 (l:=r_ n) nD (fun _=>true) (fun h=>TN (g h)) (j5 (ak (d:=nD n) rfl aq) (j1 (by omega))) (by simp;omega) fun h hh=>⟨[some (nD h),some (nD m),some (IN ns),some (nD at')],rfl,rfl,fun _=>?_⟩) aq) ?_))
  .obtain⟨_,c,h1,h2⟩:=hg h (by have:=D_.mp hh;omega);exact bv (ak (bv (ak (d:=IN ns) rfl (ak (aw (a:=nD at') (b:=nD h) rfl rfl (jb at' h)) aq)) h1) (ak (d:=nD m) rfl aq)) h2
  .rw[p0,e_tupL];show some (D.tup _)=some (D.tup _);rw[HR];rfl
structure Own(oz:List (Option Nat))(m:Nat):Prop where
 lt:∀x,some x∈oz->x<m
 inj:∀h k x,own oz h=some x->own oz k=some x->h=k
theorem pF{oz:List (Option Nat)}{h x:Nat}(e:own oz h=some x):some x∈oz/\h<oz.length:=by unfold own at e;cases q:oz[h]? with
|none=>rw[q]at e;cases e
|some o=>rw[q]at e;have:o=some x:=e;subst this;exact⟨IF q,(i_.mp q).1⟩
theorem wD{oz:List (Option Nat)}{o:Option Nat}{h:Nat}:own (oz++[o]) h=if h<oz.length then own oz h else if h=oz.length then o else none:=by
 unfold own;by_cases q:h<oz.length
 .rw[if_pos q,HG q]
 .rw[if_neg q,IY (by omega)];by_cases z:h=oz.length
  .subst z;simp
  .rw[if_neg z,HL (by simp;omega)];rfl
theorem Own.app_none{oz:List (Option Nat)}{m:Nat}(w:Own oz m):Own (oz++[none]) m where
 lt:=fun x hx=>w.lt x (by simpa using hx)
 inj:=fun h k x h1 h2=>by
  rw[wD]at h1 h2;have f:∀h,(if h<oz.length then own oz h else if h=oz.length then none else none)=some x->own oz h=some x:=by
   intro h e;split at e
   .exact e
   .split at e <;> cases e
  exact w.inj h k x (f h h1) (f k h2)
theorem Own.app_some{oz:List (Option Nat)}{m t:Nat}(w:Own oz m)(ht:t<m)(hn:some t∉oz):Own (oz++[some t]) m where
 lt:=fun x hx=>by
  rcases IJ.mp hx with z|z
  .exact w.lt x z
  .simp at z;omega
 inj:=fun h k x h1 h2=>by
  rw[wD]at h1 h2;split at h1 <;> split at h2
  .exact w.inj h k x h1 h2
  .split at h2
   .cases h2;exact absurd (pF h1).1 hn
   .cases h2
  .split at h1
   .cases h1;exact absurd (pF h2).1 hn
   .cases h1
  .split at h1
   .split at h2
    .omega
    .cases h2
   .cases h1
theorem sE(l:List (Option Nat))(k:Nat):(l.map oD).any (fun y=>cG y (nD k))=decide (some k∈l):=by
 rw[Kp,HE,Kb,decide_eq_true_iff];constructor
 .rintro⟨x,h1,h2⟩
  cases x with
 |none=>cases h2
 |some x=>have:(((x:Nat):Int)==(k:Int))=true:=h2;have:=Jx.mp (Kt this);subst this;exact h1
 .intro h;exact⟨some k,h,by show(((k:Nat):Int)==(k:Int))=true;simp⟩
theorem zN(l:List (Option Nat)):(l.map oD).all cy=true:=by rw[E_];intro x hx;obtain⟨k,_,rfl⟩:=w_.mp hx;cases k <;> rfl
theorem zR(l:List (Option Nat))(k:Nat):fh (nD k) (.lst (l.map oD))=some (.bl (decide (some k∈l))):=by show(if cy (nD k)=true/\(l.map oD).all cy=true then some ((l.map oD).any fun y=>cG y (nD k))else none).map D.bl=_;rw[if_pos ⟨rfl,zN l⟩,sE];rfl
structure Scene(rz:List (List Nat))(oz:List (Option Nat))(o:Option (List Nat))(n m:Nat):Prop where
 n1:1<=n
 n7:n<=7
 nm:n<=m
 m8:m<=8
 rl:rz.length=n
 rp:∀row∈rz,row.Perm (r_ m)
 ow:Own oz m
 ol:oz.length=n
 op:∀l,o=some l->l.Perm (r_ n)
theorem Gi(c n:Nat)(hn:n<=60):∃o:Option (List Nat),(∀l,o=some l->l.Perm (r_ n))/\n0 [nD c,nD n]=.ok (ap o):=by
 have t:=bV (aw (f:=f2 (gv 0) (ci 3) bc) (f':=fun _=>Res.ok (D.int 0)) (r:=[some (nD c),some (nD n)]) (a:=nD (c%3)) (b:=nD 0) (aw (a:=nD c) (b:=nD 3) rfl rfl (kK (by decide))) rfl (iA (c%3) 0));by_cases q:c%3=0
 .rw[decide_eq_true q]at t;refine⟨none,fun l hl=>(nomatch hl),cf (B:=qZ) (n:=2) ?_⟩;exact bg ((dj t).trans (bg (bR (d:=.non) rfl)))
 .rw[decide_eq_false q]at t;obtain⟨row,h1,h2⟩:=wB (c/3) n hn;refine⟨some row,fun l hl=>by cases hl;exact h1,cf (B:=qZ) (n:=2) ?_⟩;refine(av (bK t)).trans ?_;exact bg (bR (bC (ak (bv (ak (aw (a:=nD c) (b:=nD 3) rfl rfl (nc (by decide) (by decide))) (ak (d:=nD n) rfl aq)) h2) aq) rfl))
theorem wC(n m:Nat)(hm:m<=60):∀(l:List Nat)(c:Nat)(oz:List (Option Nat))(x y:Option D),Own oz m->oz.length+l.length<=60 ->∃(c':Nat)(owns':List (Option Nat))(x' y':Option D),Own owns' m/\owns'.length=oz.length+l.length/\aA (aG 4) re (l.map nD) [some (nD c),some (nD n),some (nD m),some (.lst (oz.map oD)),x,y]=.nx [some (nD c'),some (nD n),some (nD m),some (.lst (owns'.map oD)),x',y']
|[],c,oz,x,y,w,_=>⟨c,oz,x,y,w,rfl,dI⟩
|h::l,c,oz,x,y,w,hl=>by
  have hmod:c%(m+1)<m+1:=Ka _ (by omega);have step:∃o,Own (oz++[o]) m/\re [some (nD c),some (nD n),some (nD m),some (.lst (oz.map oD)),some (nD h),y]=.nx [some (nD (c/(m+1))),some (nD n),some (nD m),some (.lst ((oz++[o]).map oD)),some (nD h),some (nD (c%(m+1)))]:=by
   have t1:=bV (aw (f:=gv 5) (f':=gv 2) (r:=[some (nD (c/(m+1))),some (nD n),some (nD m),some (.lst (oz.map oD)),some (nD h),some (nD (c%(m+1)))]) (a:=nD (c%(m+1))) (b:=nD m) rfl rfl (iA (c%(m+1)) m));have t2:=bV (aw (f:=gv 5) (f':=gv 3) (r:=[some (nD (c/(m+1))),some (nD n),some (nD m),some (.lst (oz.map oD)),some (nD h),some (nD (c%(m+1)))]) (a:=nD (c%(m+1))) (b:=.lst (oz.map oD)) rfl rfl (zR oz (c%(m+1))));have pre:∀s2:FS,aa (am cS 5 (f2 (gv 0) (f2 (gv 2) (ci 1) addA) bc)) (aa (am cS 0 (f2 (gv 0) (f2 (gv 2) (ci 1) addA) g3)) s2) [some (nD c),some (nD n),some (nD m),some (.lst (oz.map oD)),some (nD h),y]=s2 [some (nD (c/(m+1))),some (nD n),some (nD m),some (.lst (oz.map oD)),some (nD h),some (nD (c%(m+1)))]:=by intro s2;refine(av (bp (d:=nD (c%(m+1))) (aw (a:=nD c) (b:=nD (m+1)) rfl (aw (a:=nD m) (b:=nD 1) rfl rfl (jb m 1)) (kK (by omega))))).trans ?_;exact av (bp (d:=nD (c/(m+1))) (aw (a:=nD c) (b:=nD (m+1)) rfl (aw (a:=nD m) (b:=nD 1) rfl rfl (jb m 1)) (nc (by omega) (by omega))))
   have hlo:(oz.map oD).length<=1000:=by rw[m_];omega
   by_cases q:c%(m+1)=m\/some (c%(m+1))∈oz
   .refine⟨none,w.app_none,(pre _).trans ((av ((dj ?_).trans (av (iF (d:=.lst (oz.map oD)) (ds:=[.non]) rfl rfl (ak (d:=.non) rfl aq) (m5 hlo))))).trans ?_)⟩
    .by_cases z:c%(m+1)=m
     .rw[decide_eq_true z]at t1;exact so t1
     .rw[decide_eq_false z]at t1;rw[decide_eq_true (q.resolve_left z)]at t2;exact(cT t1).trans t2
    .show Out.nx [_,_,_,some (D.lst (oz.map oD++[.non])),_,_]=_;rw[HD];rfl
   .have z1:¬ c%(m+1)=m:=fun z=>q (.inl z);have z2:some (c%(m+1))∉oz:=fun z=>q (.inr z);rw[decide_eq_false z1]at t1;rw[decide_eq_false z2]at t2;refine⟨some (c%(m+1)),w.app_some (by omega) z2,(pre _).trans ((av ((bK ((cT t1).trans t2)).trans (av (iF (d:=.lst (oz.map oD)) (ds:=[nD (c%(m+1))]) rfl rfl (ak (d:=nD (c%(m+1))) rfl aq) (m5 hlo))))).trans ?_)⟩;show Out.nx [_,_,_,some (D.lst (oz.map oD++[nD (c%(m+1))])),_,_]=_;rw[HD];rfl
  obtain⟨o,w',hs⟩:=step;obtain⟨c',owns',x',y',h1,h2,h3⟩:=wC n m hm l (c/(m+1)) (oz++[o]) (some (nD h)) (some (nD (c%(m+1)))) w' (by simp at hl ⊢;omega);refine⟨c',owns',x',y',h1,by rw[h2];simp;omega,?_⟩;rw[<-h3];exact dz (r1:=[some (nD c),some (nD n),some (nD m),some (.lst (oz.map oD)),some (nD h),y]) rfl hs
theorem Er(c n m:Nat)(hn:n<=60)(hm:m<=60):∃oz:List (Option Nat),Own oz m/\oz.length=n/\nQ [nD c,nD n,nD m]=.ok (OD oz):=by obtain⟨c',owns',x',y',h1,h2,h3⟩:=wC n m hm (r_ n) c [] none none ⟨fun x hx=>(nomatch hx),fun h k x e=>by unfold own at e;simp at e⟩ (by simp;omega);refine⟨owns',h1,by rw[h2];simp,cf (B:=qF) (n:=6) ?_⟩;unfold qF;refine(av (bp (d:=.lst []) (jY aq (by simp)))).trans ?_;refine(av ((dD (ds:=(r_ n).map nD) (j5 (ak (d:=nD n) rfl aq) (j1 (by omega)))).trans h3)).trans ?_;exact bg (bR (bC (ak (d:=.lst (owns'.map oD)) rfl aq) rfl))
theorem Fj(ns:List Int):∃rz oz o n m,Scene rz oz o n m/\lH [IN ns]=.ok (.tup [WD rz,OD oz,ap o]):=by
 obtain⟨c1,h1⟩:=nw ns 1 (by decide);obtain⟨c2,h2⟩:=nw ns 2 (by decide);obtain⟨c3,h3⟩:=nw ns 3 (by decide);have hn:c1%7<7:=Ka _ (by decide);have hm:c1/7%(9-(1+c1%7))<9-(1+c1%7):=Ka _ (by omega);obtain⟨oz,w1,w2,w3⟩:=Er c2 (1+c1%7) (1+c1%7+c1/7%(9-(1+c1%7))) (by omega) (by omega);obtain⟨rz,r1,r2,r3⟩:=Fy ns 4 (1+c1%7) (1+c1%7+c1/7%(9-(1+c1%7))) (by omega) (by omega) (by omega);obtain⟨o,o1,o2⟩:=Gi c3 (1+c1%7) (by omega);refine⟨rz,oz,o,_,_,⟨by omega,by omega,by omega,by omega,r1,r2,w1,w2,o1⟩,cf (B:=qx) (n:=5) ?_⟩;unfold qx;have hsub:gs (.int 9) (nD (1+c1%7))=some (nD (9-(1+c1%7))):=by
  have e:(9:Int)-((1+c1%7:Nat):Int)=((9-(1+c1%7):Nat):Int):=by omega
  show some (D.int ((9:Int)-((1+c1%7:Nat):Int)))=some (D.int _);rw[e]
 refine(av (bp (bv (ak (d:=IN ns) rfl (ak (d:=nD 1) rfl aq)) h1))).trans ?_;refine(av (bp (d:=nD (1+c1%7)) (aw (a:=nD 1) (b:=nD (c1%7)) rfl (aw (a:=nD c1) (b:=nD 7) rfl rfl (kK (by decide))) (jb _ _)))).trans ?_;refine(av (bp (d:=nD (1+c1%7+c1/7%(9-(1+c1%7)))) (aw (a:=nD (1+c1%7)) (b:=nD (c1/7%(9-(1+c1%7)))) rfl (aw (a:=nD (c1/7)) (b:=nD (9-(1+c1%7))) (aw (a:=nD c1) (b:=nD 7) rfl rfl (nc (by decide) (by decide))) (aw (a:=.int 9) (b:=nD (1+c1%7)) rfl rfl hsub) (kK (by omega))) (jb _ _)))).trans ?_;refine(av (bp (bv (ak (bv (ak (d:=IN ns) rfl (ak (d:=nD 2) rfl aq)) h2) (ak (d:=nD (1+c1%7)) rfl (ak (d:=nD (1+c1%7+c1/7%(9-(1+c1%7)))) rfl aq))) w3))).trans ?_;exact bg (bR (oV (ak (bv (ak (d:=IN ns) rfl (ak (d:=nD 4) rfl (ak (d:=nD (1+c1%7)) rfl (ak (d:=nD (1+c1%7+c1/7%(9-(1+c1%7)))) rfl aq)))) r3) (ak (d:=OD oz) rfl (ak (bv (ak (bv (ak (d:=IN ns) rfl (ak (d:=nD 3) rfl aq)) h3) (ak (d:=nD (1+c1%7)) rfl aq)) o2) aq))) (by simp)))
end Law
namespace Law
open PySem PyProof.Rows L2 DL
theorem zK(a b:Nat):cG (nD a) (nD b)=decide (a=b):=by show(((a:Nat):Int)==(b:Int))=_;rw[HE,beq_iff_eq,decide_eq_true_iff];exact Jx
theorem vY(k:Nat):∀l:List Nat,k∈l->iC (nD k) (l.map nD)=some (l.idxOf k)
|[],h=>by cases h
|a::l,h=>by
  show(if cG (nD a) (nD k)=true then some 0 else(iC (nD k) (l.map nD)).map (· + 1))=_;rw[zK];by_cases e:a=k
  .rw[if_pos (by simpa using e)];subst e;simp
  .rw[if_neg (by simpa using e),vY k l ((x_.mp h).resolve_left fun z=>e z.symm)];have hf:(a==k)=false:=by simpa using e
   rw[MT,hf];rfl
theorem vW(k:Nat):∀l:List Nat,(l.map nD).eraseIdx (l.idxOf k)=(l.erase k).map nD
|[]=>rfl
|a::l=>by
  by_cases e:a=k
  .subst e;simp
  .rw[MT,LM (by simpa using e)];have:(a==k)=false:=by simpa using e
   rw[this];show nD a::(l.map nD).eraseIdx (l.idxOf k)=_;rw[vW k l];rfl
theorem uV{k:Nat}{l:List Nat}(h:k∈l):remD (LN l) [nD k]=some (LN (l.erase k)):=by show(if (l.map nD).all isInt=true then(iC (nD k) (l.map nD)).map fun j=>D.lst ((l.map nD).eraseIdx j)else none)=_;rw[if_pos (by rw[E_];intro x hx;obtain⟨y,_,rfl⟩:=w_.mp hx;rfl),vY k l h];show some (D.lst _)=some (D.lst _);rw[vW]
section
variable{rz:List (List Nat)}{oz:List (Option Nat)}{o:Option (List Nat)}{n m:Nat}
theorem Scene.ne(S:Scene rz oz o n m):rz≠[]:=by
 rintro rfl
 have:=S.rl;have:=S.n1;simp at *;omega
theorem Scene.row(S:Scene rz oz o n m){h:Nat}(hh:h<n):(Wr rz h).Perm (r_ m):=by unfold Wr;rw[j_ (by rw[S.rl];exact hh)];exact S.rp _ (JK _)
theorem Scene.row0(S:Scene rz oz o n m):(rz.headD []).length=m:=by cases rz with
|nil=>exact absurd rfl S.ne
|cons r t=>rw[List.headD_cons,(S.rp r c_).length_eq];simp
theorem Scene.line_perm(S:Scene rz oz o n m):(s0 rz o).line.Perm (r_ n):=by unfold s0;cases o with
|none=>rw[S.rl];exact KB _
|some l=>exact S.op l rfl
theorem Scene.mem(S:Scene rz oz o n m){h:Nat}:h∈(s0 rz o).line↔h<n:=by rw[S.line_perm.mem_iff];exact List.mem_range
theorem Scene.things(S:Scene rz oz o n m):(s0 rz o).things=r_ m:=by unfold s0;rw[S.row0]
theorem Scene.ok(S:Scene rz oz o n m):Rg.Ok (Wr rz) (own oz) (s0 rz o) where
 nl:=S.line_perm.nodup_iff.mpr Kc
 nt:=by rw[S.things];exact Kc
 le:=by rw[S.things,S.line_perm.length_eq];simp;exact S.nm
 row:=fun h hh x hx=>by rw[S.things]at hx;exact(S.row (S.mem.mp hh)).mem_iff.mpr hx
 inj:=S.ow.inj
 own:=fun h hh x hx=>by rw[S.things];exact D_.mpr (S.ow.lt x (pF hx).1)
theorem Scene.snd(S:Scene rz oz o n m):Snd rz oz (s0 rz o) where
 ok:=S.ok
 inr:=fun h hh=>by rw[S.rl];exact S.mem.mp hh
 ino:=fun h hh=>by rw[S.ol];exact S.mem.mp hh
 wid:=fun h hh=>by have:=(S.row (S.mem.mp hh)).length_eq;have:=S.m8;simp at *;omega
 nl:=by have:=S.line_perm.length_eq;have:=S.n7;simp at *;omega
 nt:=by rw[S.things];have:=S.m8;simp;omega
theorem Scene.ord(S:Scene rz oz o n m):∀l,o=some l->l.Nodup/\(∀k∈l,k<rz.length)/\l.length=rz.length:=by
 intro l hl;have p:=S.op l hl;refine⟨p.nodup_iff.mpr Kc,fun k hk=>?_,?_⟩
 .rw[S.rl];exact D_.mp (p.mem_iff.mp hk)
 .rw[p.length_eq,S.rl];simp
end
theorem x4:∀l l':List Nat,Jk (zc6 (l.map nD)) (zc6 (l'.map nD))=decide (l=l')
|[],[]=>by simp[zc6,Jk]
|[],k::l=>by simp[zc6,Jk]
|k::l,[]=>by simp[zc6,Jk]
|k::l,k'::l'=>by have ih:=x4 l l';simp only[y_,zc6,aH,Jk,JF,ih];rw[HE];simp;omega
theorem t6{l:List Nat}{k:Nat}:∀d∈l.map nD,bu k d:=by intro d hd;obtain⟨x,_,rfl⟩:=w_.mp hd;cases k <;> trivial
theorem vC(l l':List Nat):dF (LN l) (LN l')=some (decide (l=l')):=by rw[xl rfl (kR.mpr t6) (kR.mpr t6)];unfold jB;simp only[aH,JF,x4]
theorem Ae(l l':List Nat):eqD (LN l) (LN l')=some (.bl (decide (l=l'))):=by unfold eqD;rw[vC];rfl
theorem zJ(l:List Nat):dF (LN l) (LN l)=some true:=by rw[vC,decide_eq_true rfl]
theorem AJ(l:List Nat):neD (LN l) (LN l)=some (.bl false):=by unfold neD;rw[zJ];rfl
theorem AG{f f':FE}{r:ag}(h:f r=.ok (.bl true)):jn f f' r=.ok (.bl true):=by unfold jn;rw[h];rfl
theorem AF{f f':FE}{r:ag}(h:f r=.ok (.bl false)):jn f f' r=f' r:=by unfold jn;rw[h];rfl
theorem pN{nl:Nat}{cap:List Nat}{fi:FI}{ft:FT}{fe:FE}{r:ag}{α:Type}{l:List α}(e:α->D)(g:α->D)(h1:fi r=.ok (l.map e))(hl:l.length<=1000)(h:∀a∈l,∃r1,ft (e a) (aU nl cap r)=some r1/\fe r1=.ok (g a)):cL nl cap fi ft (fun _=>Res.ok true) fe r=.ok (.lst (l.map g)):=by
 have:=g7 (q:=fun _=>Res.ok true) e (fun _=>true) g h1 hl fun a ha=>by obtain⟨r1,q1,q2⟩:=h a ha;exact⟨r1,q1,rfl,fun _=>q2⟩
 rw[this,p0]
theorem vM(row things:List Nat)(fst:D):∀(l:List Nat)(y:Option D),(match l.find? (fun h=>decide (h∈things))with
  |some h=>aA (aG 2) lC (l.map nD) [some fst,some (LN things),y]=.rt (nD h)
  |none=>∃y',aA (aG 2) lC (l.map nD) [some fst,some (LN things),y]=.nx [some fst,some (LN things),y'])
|[],y=>⟨y,dI⟩
|h::l,y=>by have c:(aO (f2 (gv 2) (gv 1) fh)) [some fst,some (LN things),some (nD h)]=.ok (decide (h∈things)):=bV (aw (a:=nD h) (b:=LN things) rfl rfl (tm _ _));rw[Hz];cases e:decide (h∈things)with
 |true=>rw[e]at c;refine vF (r1:=[some fst,some (LN things),some (nD h)]) rfl ?_;exact bg ((dj c).trans (bg (bR (d:=nD h) rfl)))
 |false=>rw[e]at c;have ih:=vM row things fst l (some (nD h));have st:aA (aG 2) lC ((h::l).map nD) [some fst,some (LN things),y]=aA (aG 2) lC (l.map nD) [some fst,some (LN things),some (nD h)]:=dz (r1:=[some fst,some (LN things),some (nD h)]) rfl ((av (bK c)).trans rfl);rw[st];exact ih
theorem xH{row things:List Nat}(h:∃x∈row,x∈things):kb [TN row,LN things]=.ok (nD (Rg.dR row things)):=by refine cf (B:=qV) (n:=3) ?_;unfold qV;have hl:=vM row things (TN row) row none;unfold Rg.dR;cases e:row.find? fun x=>decide (x∈things)with
|none=>obtain⟨x,h1,h2⟩:=h;have:=KF.mp e x h1;simp[h2]at this
|some k=>rw[e]at hl;exact bg ((dD (ds:=row.map nD) rfl).trans hl)
end Law
section
namespace Rg
section
variable{W:Nat->List Nat}{O:Nat->Option Nat}{s:S}
theorem AH{y:Nat}:y∈s.line.map (it (nxt W O s) s.line.length)↔y∈gz W O s:=by
 have cl:∀h∈s.line,nxt W O s h∈s.line:=fun h hh=>j2 (Ib hh);have clI:∀(k:Nat){h:Nat},h∈s.line->it (nxt W O s) k h∈s.line:=fun k=>by induction k with
 |zero=>intro h hh;exact hh
 |succ k ih=>intro h hh;rw[d7];exact cl _ (ih hh)
 rw[Du];constructor
 .intro hy;obtain⟨h,hh,rfl⟩:=w_.mp hy;obtain⟨i,j,hij,hj,e⟩:=pe cl hh;refine⟨clI _ hh,j-i-1,?_⟩;have e1:it (nxt W O s) (j-i-1+1) (it (nxt W O s) i h)=it (nxt W O s) i h:=by rw[<-cM,show i+(j-i-1+1)=j by omega,e]
  have e2:it (nxt W O s) s.line.length h=it (nxt W O s) (s.line.length-i) (it (nxt W O s) i h):=by rw[<-cM];congr 1;omega
  rw[e2,pD,e1]
 .rintro⟨hl,k,e⟩
  refine w_.mpr ⟨it (nxt W O s) (k*s.line.length) y,clI _ hl,?_⟩;rw[<-cM];have:=jW (nxt W O s) e s.line.length;rw[show k*s.line.length+s.line.length=(k+1)*s.line.length by rw[Od,Nat.one_mul]];exact this
end
end Rg
namespace Law
open PySem PyProof.Rows L2 DL
theorem mem_ins{k x:Nat}:∀{l:List Nat},x∈HS.ins k l↔x=k\/x∈l
|[]=>by simp[HS.ins]
|a::l=>by
  unfold HS.ins;split
  .simp
  .rw[x_,mem_ins (l:=l),x_];constructor
   .rintro(h|h|h)
    .exact .inr (.inl h)
    .exact .inl h
    .exact .inr (.inr h)
   .rintro(h|h|h)
    .exact .inr (.inl h)
    .exact .inl h
    .exact .inr (.inr h)
theorem vJ{k:Nat}:∀{l:List Nat},l.Pairwise (· < ·)->k∉l->(HS.ins k l).Pairwise (· < ·)
|[],_,_=>by unfold HS.ins;simp
|a::l,h,hk=>by
  have h':=HV.mp h;unfold HS.ins;split
  .rename_i hlt;refine HV.mpr ⟨fun x hx=>?_,h⟩;rcases x_.mp hx with rfl|hx
   .exact hlt
   .exact Lm hlt (h'.1 x hx)
  .rename_i hge;have hne:k≠a:=fun z=>hk (by rw[z];exact c_);refine HV.mpr ⟨fun x hx=>?_,vJ h'.2 fun z=>hk (f_ _ z)⟩;rcases mem_ins.mp hx with rfl|hx
   .omega
   .exact h'.1 x hx
theorem xz:∀(l ks:List Nat),ks.Pairwise (· < ·)->(l.foldl HS.stp ks).Pairwise (· < ·)/\∀x,x∈l.foldl HS.stp ks↔x∈ks\/x∈l
|[],ks,h=>⟨h,fun x=>by simp⟩
|k::l,ks,h=>by
  rw[IP];have h1:(HS.stp ks k).Pairwise (· < ·):=by
   unfold HS.stp;split
   .exact h
   .rename_i hk;exact vJ h hk
  have h2:∀x,x∈HS.stp ks k↔x∈ks\/x=k:=fun x=>by
   unfold HS.stp;split
   .rename_i hk;constructor
    .exact .inl
    .rintro(z|rfl)
     .exact z
     .exact hk
   .rw[mem_ins];exact Or.comm
  obtain⟨a,b⟩:=xz l (HS.stp ks k) h1;refine⟨a,fun x=>?_⟩;rw[b,h2,x_,or_assoc]
theorem vP:∀{l:List Nat},(∀x∈l,x<7)->gZ (l.map nD)=some l
|[],_=>rfl
|k::l,h=>by have hk:=h k c_;have ih:=vP (l:=l) fun x hx=>h x (f_ _ hx);show(if (0:Int)<=(k:Int)/\((k:Nat):Int)<7 then(gZ (l.map nD)).map ((((k:Nat):Int)).toNat::·)else none)=_;rw[if_pos ⟨by omega,by omega⟩,ih,HN];rfl
theorem Ct{l:List Nat}(h:∀x∈l,x<7):mM [LN l]=some (LN (l.foldl HS.stp [])):=by show(gZ (l.map nD)).map _=_;rw[vP h];rfl
theorem xf:∀l:List Nat,gM (l.map nD)=some (l.map fun k:Nat=>(k:Int))
|[]=>rfl
|k::l=>by show(gM (l.map nD)).map _=_;rw[xf l];rfl
theorem Fm{a b:List Nat}(ha:a.Nodup)(hl:a.length<64)(hm:∀x,x∈a↔x∈b):mZ [LN a]=some (LN (b.foldl HS.stp [])):=by
 obtain⟨u,v⟩:=xz b [] List.Pairwise.nil;have nd:(b.foldl HS.stp []).Nodup:=u.imp fun h=>B_ h;have hp:a.Perm (b.foldl HS.stp []):=Rg.xu ha nd fun x=>by rw[v,hm];simp
 have e:cP (a.map fun k:Nat=>(k:Int))=(b.foldl HS.stp []).map fun k:Nat=>(k:Int):=by refine mN ((pT _).trans (hp.map _)) (pr _) ?_;exact Jh.mpr (u.imp fun h=>by omega)
 show(gM (a.map nD)).bind _=_;rw[xf];show(if (a.map fun k:Nat=>(k:Int)).length<64 then _ else _)=_;rw[if_pos (by rw[m_];exact hl),e,HR];rfl
section
variable{rz:List (List Nat)}{oz:List (Option Nat)}{s:Rg.S}
theorem vU{f:Nat->Nat}{line:List Nat}(hcl:∀h∈line,f h∈line)(hl:line.length<=60):∀(l:List Nat)(k:Nat)(y:Option D),∃y',aA (aG 3) zl (l.map nD) [some (KD (FD line f)),some (LN line),some (LN (line.map (Rg.it f k))),y]=.nx [some (KD (FD line f)),some (LN line),some (LN (line.map (Rg.it f (k+l.length)))),y']
|[],k,y=>⟨y,dI⟩
|x::l,k,y=>by
  obtain⟨y',ih⟩:=vU hcl hl l (k+1) (some (nD x));refine⟨y',?_⟩;rw[y_,IA,show k+(l.length+1)=k+1+l.length by omega,<-ih];refine dz (r1:=[some (KD (FD line f)),some (LN line),some (LN (line.map (Rg.it f k))),some (nD x)]) rfl ?_;have clI:∀(k:Nat){h:Nat},h∈line->Rg.it f k h∈line:=fun k=>by induction k with
  |zero=>intro h hh;exact hh
  |succ k ih=>intro h hh;rw[Rg.d7];exact hcl _ (ih hh)
  have hc:=pN (nl:=1) (cap:=[0]) (fi:=aI bN (gv 2)) (ft:=aG 0) (fe:=f2 (gv 1) (gv 0) aK) (r:=[some (KD (FD line f)),some (LN line),some (LN (line.map (Rg.it f k))),some (nD x)]) (l:=line) (fun h=>nD (Rg.it f k h)) (fun h=>nD (Rg.it f (k+1) h)) (by refine g5 (d:=LN (line.map (Rg.it f k))) rfl ?_;show some _=some _;rw[HR];rfl) (by omega) fun h hh=>⟨[some (nD (Rg.it f k h)),some (KD (FD line f))],rfl,aw (a:=KD (FD line f)) (b:=nD (Rg.it f k h)) rfl rfl (by rw[i9 (clI k hh),Rg.d7])⟩
  refine av (bp (hc.trans ?_));show Res.ok (D.lst _)=Res.ok (D.lst (List.map nD _));rw[HR];rfl
theorem FX{f:Nat->Nat}{line:List Nat}(hcl:∀h∈line,f h∈line)(h7:∀h∈line,h<7)(hl:line.length<=60):nZ [KD (FD line f),LN line]=.ok (LN ((line.map (Rg.it f line.length)).foldl HS.stp [])):=by
 obtain⟨y',e⟩:=vU hcl hl line 0 none;have clI:∀(k:Nat){h:Nat},h∈line->Rg.it f k h∈line:=fun k=>by induction k with
 |zero=>intro h hh;exact hh
 |succ k ih=>intro h hh;rw[Rg.d7];exact hcl _ (ih hh)
 have e0:line.map (Rg.it f 0)=line:=by have:Rg.it f 0=id:=rfl;rw[this,Oe]
 rw[e0,Lu]at e;refine cf (B:=qY) (n:=4) ?_;unfold qY;refine(av (bp (d:=LN line) (bC (ak (d:=LN line) rfl aq) (e_listL _)))).trans ?_;refine(av ((dD (g5 (d:=LN line) rfl rfl)).trans e)).trans ?_;exact bg (bR (bC (ak (d:=LN (line.map (Rg.it f line.length))) rfl aq) (Ct fun x hx=>by obtain⟨h,hh,rfl⟩:=w_.mp hx;exact h7 _ (clI _ hh))))
end
end Law
end
namespace Law
open PySem PyProof.Rows L2 DL
theorem xO{p:Nat->Bool}:∀{l:List Nat}(acc:Nat),l.Nodup->(∀x∈l,∀y∈l,p x=true->p y=true->x=y)->l.foldl (fun a o=>if p o=true then o else a) acc=(l.find? p).getD acc
|[],acc,_,_=>rfl
|o::l,acc,hn,hu=>by have hn':=Hu.mp hn;rw[IP,Hz];cases z:p o with
 |true=>
   rw[if_pos rfl];have no:∀x∈l,p x=false:=fun x hx=>by cases y:p x with
   |false=>rfl
   |true=>have:=hu o c_ x (f_ _ hx) z y;subst this;exact absurd hx hn'.1
   have:∀(l:List Nat)(acc:Nat),(∀x∈l,p x=false)->l.foldl (fun a o=>if p o=true then o else a) acc=acc:=fun l=>by induction l with
   |nil=>intro acc _;rfl
   |cons a l ih=>intro acc h;rw[IP,if_neg (by rw[h a c_];exact d_)];exact ih acc fun x hx=>h x (f_ _ hx)
   rw[this l o no];rfl
 |false=>rw[if_neg d_];exact xO acc hn'.2 fun x hx y hy=>hu x (f_ _ hx) y (f_ _ hy)
section
variable{rz:List (List Nat)}{oz:List (Option Nat)}{s:Rg.S}
theorem Fe{pre:List Nat}{f:Nat->Nat}{h a o:Nat}(hk:h∉pre):putN (FD pre f++[(h,a)]) h o=FD pre f++[(h,o)]:=by
 unfold putN;rw[if_pos (by simp),HD];congr 1
 .refine(Jm fun p hp=>?_).trans (Oe _);obtain⟨x,hx,rfl⟩:=w_.mp hp;have:x≠h:=fun z=>hk (z▸hx);exact if_neg this
 .simp
theorem uA(S:Snd rz oz s){pre:List Nat}{f:Nat->Nat}{h x:Nat}(hk:h∉pre)(hpl:pre.length<=900):∀(l:List Nat)(a:Nat)(y:Option D),(∀o∈l,o∈s.line) ->∃y',aA (aG 7) y0 (l.map nD) [some (WD rz),some (OD oz),some (LN s.line),some (LN s.things),some (KD (FD pre f++[(h,a)])),some (nD h),some (nD x),y]=.nx [some (WD rz),some (OD oz),some (LN s.line),some (LN s.things),some (KD (FD pre f++[(h,l.foldl (fun a o=>if decide (own oz o=some x)=true then o else a) a)])),some (nD h),some (nD x),y']
|[],a,y,_=>⟨y,dI⟩
|o::l,a,y,hl=>by have ho:=S.ino o (hl o c_);have t:aO (f2 (f2 (gv 1) (gv 7) aK) (gv 6) eqD) [some (WD rz),some (OD oz),some (LN s.line),some (LN s.things),some (KD (FD pre f++[(h,a)])),some (nD h),some (nD x),some (nD o)]=.ok (decide (own oz o=some x)):=bV (aw (b:=nD x) (aw (a:=OD oz) (b:=nD o) rfl rfl (iy (uN ho))) rfl (sT _ _));obtain⟨y',ih⟩:=uA S hk hpl l (if decide (own oz o=some x)=true then o else a) (some (nD o)) fun z hz=>hl z (f_ _ hz);refine⟨y',?_⟩;rw[y_,IP,<-ih];refine dz (r1:=[some (WD rz),some (OD oz),some (LN s.line),some (LN s.things),some (KD (FD pre f++[(h,a)])),some (nD h),some (nD x),some (nD o)]) rfl ?_;cases z:decide (own oz o=some x)with
 |true=>
   rw[z]at t;rw[if_pos rfl];have c1:cO (KD (FD pre f++[(h,a)])) (nD h) (nD o)=some (KD (FD pre f++[(h,o)])):=by rw[kH (by simp;omega),Fe hk]
   exact av ((dj t).trans (av (jZ (d:=KD (FD pre f++[(h,a)])) (k:=nD h) (v:=nD o) rfl rfl rfl c1)))
 |false=>rw[z]at t;rw[if_neg d_];exact av ((bK t).trans (e_skip _))
theorem uS(S:Snd rz oz s):∀(suf pre:List Nat)(y5 y6 y7:Option D),pre++suf=s.line ->∃y5' y6' y7',aA (aG 5) y4 (suf.map nD) [some (WD rz),some (OD oz),some (LN s.line),some (LN s.things),some (KD (FD pre (fS rz oz s))),y5,y6,y7]=.nx [some (WD rz),some (OD oz),some (LN s.line),some (LN s.things),some (KD (FD s.line (fS rz oz s))),y5',y6',y7']
|[],pre,y5,y6,y7,e=>⟨y5,y6,y7,by rw[HU]at e;rw[e];exact dI⟩
|h::suf,pre,y5,y6,y7,e=>by
  have hh:h∈s.line:=by rw[<-e];simp
  have hn:=S.ok.nl;rw[<-e]at hn;have hk:h∉pre:=fun z=>(Ig.mp hn).2.2 h z h c_ rfl;have hpl:pre.length<=60:=by have:=S.nl;rw[<-e]at this;simp at this;omega
  obtain⟨y7',e7⟩:=uA S (f:=fS rz oz s) (x:=tS rz s h) hk (by omega) s.line (s.line.headD 0) y7 fun o ho=>ho;have ef:s.line.foldl (fun a o=>if decide (own oz o=some (tS rz s h))=true then o else a) (s.line.headD 0)=fS rz oz s h:=by rw[xO _ S.ok.nl fun x hx y hy h1 h2=>S.ok.inj x y _ (of_decide_eq_true h1) (of_decide_eq_true h2)];rfl
  rw[ef]at e7;obtain⟨z5,z6,z7,ih⟩:=uS S suf (pre++[h]) (some (nD h)) (some (nD (tS rz s h))) y7' (by simpa using e);refine⟨z5,z6,z7,?_⟩;rw[<-ih,y_];refine dz (r1:=[some (WD rz),some (OD oz),some (LN s.line),some (LN s.things),some (KD (FD pre (fS rz oz s))),some (nD h),y6,y7]) rfl ?_;refine(av (bp (d:=nD (tS rz s h)) (bv (ak (aw (a:=WD rz) (b:=nD h) rfl rfl (iy (o9 (S.inr h hh)))) (ak (d:=LN s.things) rfl aq)) (xH (S.ok.some_thing hh))))).trans ?_;have c0:aK (LN s.line) (.int 0)=some (nD (s.line.headD 0)):=by cases q:s.line with
  |nil=>rw[q]at hh;cases hh
  |cons a t=>exact ixA_L0 _ _
  have c1:cO (KD (FD pre (fS rz oz s))) (nD h) (nD (s.line.headD 0))=some (KD (FD pre (fS rz oz s)++[(h,s.line.headD 0)])):=by rw[kH (by simp;omega),pL (by rw[kU];exact hk)]
  refine(av (jZ (d:=KD (FD pre (fS rz oz s))) (k:=nD h) (v:=nD (s.line.headD 0)) rfl (aw (a:=LN s.line) (b:=.int 0) rfl rfl c0) rfl c1)).trans ?_;refine(av ((dD (g5 (d:=LN s.line) rfl rfl)).trans e7)).trans ?_;have:FD (pre++[h]) (fS rz oz s)=FD pre (fS rz oz s)++[(h,fS rz oz s h)]:=by unfold FD;rw[HD];rfl
  rw[this];rfl
theorem Gd(S:Snd rz oz s):om [WD rz,OD oz,LN s.line,LN s.things]=.ok (KD (FD s.line (fS rz oz s))):=by obtain⟨a,b,c,e⟩:=uS S s.line [] none none none rfl;refine cf (B:=rB) (n:=8) ?_;unfold rB;refine(av (r':=[some (WD rz),some (OD oz),some (LN s.line),some (LN s.things),some (KD []),none,none,none]) rfl).trans ?_;refine(av ((dD (g5 (d:=LN s.line) rfl rfl)).trans e)).trans ?_;exact bg (bR (d:=KD (FD s.line (fS rz oz s))) rfl)
structure Rg1(f:Nat->Nat)(line r:List Nat):Prop where
 x:∃x j,0<j/\j<=60/\r=Rg.b7 f x j/\Rg.it f j x=x/\∀t,t<j->x<=Rg.it f t x
 sub:∀h∈r,h∈line
theorem oY{f:Nat->Nat}{x j k:Nat}(h:k<j):(Rg.b7 f x j)[k]? = some (Rg.it f k x):=by unfold Rg.b7;rw[t_,IT h];rfl
theorem wp(k:Nat):lI [nD k]=.ok (.bl true):=rfl
theorem Gj(S:Snd rz oz s){r:List Nat}(R:Rg1 (fS rz oz s) s.line r):n6 [aN (tS rz s) r,WD rz,LN s.things,KD (FD s.line (fS rz oz s))]=.ok (.bl true):=by
 obtain⟨x,j,j0,j60,er,per,mR⟩:=R.x;have hmem:∀k,k<j->Rg.it (fS rz oz s) k x∈s.line:=fun k hk=>R.sub _ (by rw[er];exact IF (oY hk));have hlen:r.length=j:=by rw[er];exact Rg.mT _ _ _
 have hat:∀k,k<j->aK (aN (tS rz s) r) (nD k)=some (bh (tS rz s) (Rg.it (fS rz oz s) k x)):=fun k hk=>iy (by rw[t_,er,oY hk];rfl);have hl:lenD [aN (tS rz s) r]=some (nD j):=by rw[j7,hlen]
 have i0:∀h,aK (bh (tS rz s) h) (.int 0)=some (nD h):=fun h=>ixA_T0 _ _;have i1:∀h,aK (bh (tS rz s) h) (.int 1)=some (nD (tS rz s h)):=fun h=>iy (i:=1) rfl;have h00:aK (aN (tS rz s) r) (.int 0)=some (bh (tS rz s) x):=hat 0 j0;refine cf (B:=rD) (n:=6) ?_;unfold rD;refine(av ((bK ?_).trans (e_skip _))).trans ?_
 .rw[cT (gj (b:=true) (eh (jO (a:=aN (tS rz s) r) (d:=.bl true) rfl rfl) rfl))];have:=iA j 0;rw[decide_eq_false (by omega)]at this;exact bV (aw (b:=nD 0) (bC (ak (d:=aN (tS rz s) r) rfl aq) hl) rfl this)
 have lp:∀(m i:Nat)(y z:Option D),i+m=j->∃y' z',aA (aG 4) zh ((LK i m).map nD) [some (aN (tS rz s) r),some (WD rz),some (LN s.things),some (KD (FD s.line (fS rz oz s))),y,z]=.nx [some (aN (tS rz s) r),some (WD rz),some (LN s.things),some (KD (FD s.line (fS rz oz s))),y',z']:=by
  intro m
  induction m with
 |zero=>exact fun i y z _=>⟨y,z,dI⟩
 |succ m ih=>
   intro i y z hi;have hij:i<j:=by omega
   have hh:=hmem i hij;have hle:=mR i hij;have ha:=hat i hij;generalize Rg.it (fS rz oz s) i x=h at hh hle ha;obtain⟨y',z',e⟩:=ih (i+1) (some (nD i)) (some (bh (tS rz s) h)) (by omega);refine⟨y',z',?_⟩;rw[MB,y_,<-e];refine dz (r1:=[some (aN (tS rz s) r),some (WD rz),some (LN s.things),some (KD (FD s.line (fS rz oz s))),some (nD i),z]) rfl ?_;refine(av (bp (aw (a:=aN (tS rz s) r) (b:=nD i) rfl rfl ha))).trans ?_;refine(av ((bK ?_).trans (e_skip _))).trans ?_
   .rw[cT (gj (b:=true) (eh (jO (a:=bh (tS rz s) h) (d:=.bl true) rfl rfl) rfl)),cT (bV (aw (a:=nD 2) (b:=nD 2) (bC (ak (d:=bh (tS rz s) h) rfl aq) rfl) rfl (tw 2 2))),cT (gj (b:=true) (eh (bv (ak (aw (a:=bh (tS rz s) h) (b:=.int 0) rfl rfl (i0 h)) aq) (wp h)) rfl))];exact gj (b:=true) (eh (bv (ak (aw (a:=bh (tS rz s) h) (b:=.int 1) rfl rfl (i1 h)) aq) (wp _)) rfl)
   refine(av ((bK ?_).trans (e_skip _))).trans ?_
   .have nk:bX (nD h) (KD (FD s.line (fS rz oz s)))=some (.bl false):=by show(some (b9 _ (kI h))).map (fun b=>D.bl (! b))=_;have e:b9 ((FD s.line (fS rz oz s)).map fun p=>(kI p.1,nD p.2)) (kI h)=decide (h∈(FD s.line (fS rz oz s)).map (·.1)):=jA _ h;rw[e,kU,decide_eq_true hh];rfl
    rw[cT (bV (aw (b:=KD (FD s.line (fS rz oz s))) (aw (a:=bh (tS rz s) h) (b:=.int 0) rfl rfl (i0 h)) rfl nk))];have:=tw (tS rz s h) (tS rz s h);rw[decide_eq_true rfl]at this;exact bV (aw (aw (a:=bh (tS rz s) h) (b:=.int 1) rfl rfl (i1 h)) (bv (ak (aw (a:=WD rz) rfl (aw (a:=bh (tS rz s) h) (b:=.int 0) rfl rfl (i0 h)) (iy (o9 (S.inr h hh)))) (ak (d:=LN s.things) rfl aq)) (xH (S.ok.some_thing hh))) this)
   have:=mS h x;rw[decide_eq_false (by omega)]at this;exact av ((bK (bV (aw (aw (a:=bh (tS rz s) h) (b:=.int 0) rfl rfl (i0 h)) (aw (b:=.int 0) (aw (a:=aN (tS rz s) r) (b:=.int 0) rfl rfl h00) rfl (i0 x)) this))).trans (e_skip _))
 obtain⟨y',z',e⟩:=lp j 0 none none (by omega);rw[<-Kf]at e;refine(av ((dD (j5 (ak (bC (ak (d:=aN (tS rz s) r) rfl aq) hl) aq) (j1 (by omega)))).trans e)).trans ?_;have hc:=pN (nl:=1) (cap:=[3,0]) (fi:=cF cu (aj (fC (aj (gv 0) af) lenD) af)) (ft:=aG 0) (fe:=f2 (f2 (gv 1) (f2 (f2 (gv 2) (f2 (gv 0) (ci 1) gs) aK) (ci 0) aK) aK) (f2 (f2 (gv 2) (gv 0) aK) (ci 0) aK) eqD) (r:=[some (aN (tS rz s) r),some (WD rz),some (LN s.things),some (KD (FD s.line (fS rz oz s))),y',z']) (l:=r_ j) nD (fun _=>D.bl true) (j5 (ak (bC (ak (d:=aN (tS rz s) r) rfl aq) hl) aq) (j1 (by omega))) (by simp;omega) fun k hk=>⟨[some (nD k),some (KD (FD s.line (fS rz oz s))),some (aN (tS rz s) r)],rfl,by
  have hk:=D_.mp hk;obtain⟨q,hq,eq1,eq2⟩:∃q,q∈s.line/\aK (aN (tS rz s) r) (.int ((k:Int)-1))=some (bh (tS rz s) q)/\fS rz oz s q=Rg.it (fS rz oz s) k x:=by
   by_cases z:k=0
   .subst z;refine⟨Rg.it (fS rz oz s) (j-1) x,hmem _ (by omega),?_,?_⟩
    .show c9 (r.map (bh (tS rz s))) (-1)=_;unfold c9 d8;rw[if_neg (by omega),if_pos (by rw[m_,hlen];omega),m_,hlen];show(r.map (bh (tS rz s)))[((-1:Int)+(j:Int)).toNat]? = _;rw[show((-1:Int)+(j:Int)).toNat=j-1 by omega,t_,er,oY (by omega)];rfl
    .rw[<-Rg.d7 (fS rz oz s),show j-1+1=j by omega,per];rfl
   .refine⟨Rg.it (fS rz oz s) (k-1) x,hmem _ (by omega),?_,?_⟩
    .rw[show((k:Int)-1)=((k-1:Nat):Int)by omega];exact hat (k-1) (by omega)
    .rw[<-Rg.d7 (fS rz oz s),show k-1+1=k by omega]
  exact aw (a:=nD (Rg.it (fS rz oz s) k x)) (b:=nD (Rg.it (fS rz oz s) k x)) (aw (a:=KD (FD s.line (fS rz oz s))) (b:=nD q) rfl (aw (b:=.int 0) (aw (a:=aN (tS rz s) r) (b:=.int ((k:Int)-1)) rfl rfl eq1) rfl (i0 q)) (by rw[i9 hq,eq2])) (aw (b:=.int 0) (aw (a:=aN (tS rz s) r) (b:=nD k) rfl rfl (hat k hk)) rfl (i0 _)) (ni _)⟩
 refine bg (bR (bC (ak hc aq) ?_));have bls:∀l:List Nat,gY (l.map fun _=>D.bl true)=some (l.map fun _=>true):=fun l=>by induction l with
 |nil=>rfl
 |cons a l ih=>show(gY (l.map fun _=>D.bl true)).map _=_;rw[ih];rfl
 show(gY ((r_ j).map fun _=>D.bl true)).map _=_;rw[bls];show some (D.bl (((r_ j).map fun _=>true).all id))=_;have:((r_ j).map fun _=>true).all id=true:=List.all_eq_true.mpr fun b hb=>by obtain⟨_,_,rfl⟩:=w_.mp hb;rfl
 rw[this]
end
def Nm:Nat->D->Prop
|_,.int _=>True
|k+1,.tup ds=>∀d∈ds,Nm k d
|k+1,.lst ds=>∀d∈ds,Nm k d
|_,_=>False
theorem pP{k:Nat}(ih:∀d,Nm k d->JF (aH d) (aH d)=true):∀ds:List D,(∀d∈ds,Nm k d)->Jk (zc6 ds) (zc6 ds)=true
|[],_=>by simp[zc6,Jk]
|d::ds,h=>by have h1:=ih d (h d c_);have h2:=pP ih ds fun x hx=>h x (f_ _ hx);simp only[zc6,Jk,h1,h2,NK]
theorem AU:∀(k:Nat)(d:D),Nm k d->JF (aH d) (aH d)=true:=by
 intro k
 induction k with
|zero=>intro d h;cases d <;> simp_all [Nm,aH,JF]
|succ k ih=>intro d h;cases d with
 |int i=>simp[aH,JF]
 |tup ds=>simp only[aH,JF];exact pP ih ds h
 |lst ds=>simp only[aH,JF];exact pP ih ds h
 |_=>simp[Nm]at h
theorem uM:∀(k:Nat)(d:D),Nm k d->bu k d:=by
 intro k
 induction k with
|zero=>intro d h;cases d <;> simp_all [Nm,bu]
|succ k ih=>intro d h;cases d with
 |int i=>trivial
 |tup ds=>exact pq.mpr fun x hx=>ih x (h x hx)
 |lst ds=>exact kR.mpr fun x hx=>ih x (h x hx)
 |_=>simp[Nm]at h
theorem AT{d:D}(h:Nm 60 d)(hs:iX d d=false):eqD d d=some (.bl true):=by unfold eqD;rw[xl hs (uM 60 d h) (uM 60 d h)];unfold jB;rw[AU 60 d h];rfl
theorem Dh{k:Nat}(t:Nat->Nat)(h:Nat):Nm (k+1) (bh t h):=by intro d hd;simp at hd;rcases hd with rfl|rfl <;> (cases k <;> trivial)
theorem D5(t:Nat->Nat)(rs:List (List Nat)):Nm 60 (.lst (rs.map (aN t))):=by intro d hd;obtain⟨r,_,rfl⟩:=w_.mp hd;intro e he;obtain⟨h,_,rfl⟩:=w_.mp he;exact Dh t h
theorem zL{a b:List Nat}(h:a.length+b.length<=1000):extD (LN a) [LN b]=some (LN (a++b)):=by show(if (a.map nD).length+(b.map nD).length<=sizeLine then _ else _)=_;rw[if_pos (by rw[m_,m_,HF];omega)];show some (D.lst _)=some (D.lst (List.map nD _));rw[HD]
section
variable{rz:List (List Nat)}{oz:List (Option Nat)}{s:Rg.S}
theorem B2(S:Snd rz oz s){rs:List (List Nat)}(hp:rs.Perm (Rg.dX (Wr rz) (own oz) s)):∀r∈rs,Rg1 (fS rz oz s) s.line r:=fun r hr=>by
 have hm:=hp.mem_iff.mp hr;obtain⟨x,hx,e⟩:=HP.mp hm;obtain⟨j,j0,e1,e2,e3⟩:=Rg.nA e;have hsub:∀h∈r,h∈s.line:=fun h hh=>(lf hp).sub h (Io.mpr ⟨r,hr,hh⟩);have nd:r.Nodup:=by have:=Rg.mY (f:=Rg.nxt (Wr rz) (own oz) s) (n:=s.line.length) S.ok.nl;exact(List.sublist_flatten_of_mem hm).nodup this
 have hlen:=Rg.jh nd hsub;have hnl:=S.nl;have ej:r.length=j:=by rw[e1];exact Rg.mT _ _ _
 refine⟨⟨x,j,j0,by omega,e1,e2,fun t ht=>?_⟩,hsub⟩;by_cases z:t=0
 .subst z;exact q_ _
 .exact Lf (e3 t (by omega) ht)
theorem GD(S:Snd rz oz s)(h7:∀h∈s.line,h<7){rs:List (List Nat)}(hp:rs.Perm (Rg.dX (Wr rz) (own oz) s))(hu:jE (tS rz s) rs):oa [.lst (rs.map (aN (tS rz s))),WD rz,OD oz,LN s.line,LN s.things]=.ok (.bl true):=by
 have R:=B2 S hp;have nl:=S.nl;have nd:rs.flatten.Nodup:=(hp.flatten.nodup_iff).mpr (Rg.mY S.ok.nl);have hsub:∀h∈rs.flatten,h∈s.line:=(lf hp).sub;have hfl:=Rg.jh nd hsub;have hrl:rs.length<=s.line.length:=by rw[hp.length_eq];exact K6 _ _
 have hne:∀r∈rs,r≠[]:=fun r hr=>xF r (hp.mem_iff.mp hr);refine cf (B:=rG) (n:=8) ?_;unfold rG;refine(av (bp (bv (ak (d:=WD rz) rfl (ak (d:=OD oz) rfl (ak (d:=LN s.line) rfl (ak (d:=LN s.things) rfl aq)))) (Gd S)))).trans ?_;refine(av ((bK (gj (b:=true) (eh (jO (a:=.lst (rs.map (aN (tS rz s)))) (d:=.bl true) rfl rfl) rfl))).trans (e_skip _))).trans ?_;refine(av (bp (d:=LN []) (jY aq (by simp)))).trans ?_;have lp:∀(l pre:List (List Nat))(y:Option D),pre++l=rs->∃y',aA (aG 7) zk (l.map (aN (tS rz s))) [some (.lst (rs.map (aN (tS rz s)))),some (WD rz),some (OD oz),some (LN s.line),some (LN s.things),some (KD (FD s.line (fS rz oz s))),some (LN pre.flatten),y]=.nx [some (.lst (rs.map (aN (tS rz s)))),some (WD rz),some (OD oz),some (LN s.line),some (LN s.things),some (KD (FD s.line (fS rz oz s))),some (LN rs.flatten),y']:=by
  intro l
  induction l with
 |nil=>intro pre y e;rw[HU]at e;rw[e];exact⟨y,dI⟩
 |cons r l ih=>
   intro pre y e;obtain⟨y',e'⟩:=ih (pre++[r]) (some (aN (tS rz s) r)) (by simpa using e);refine⟨y',?_⟩;have hr:r∈rs:=by rw[<-e];simp
   have hlen:pre.flatten.length+r.length<=60:=by
    have:(pre++r::l).flatten.length<=60:=by rw[e];omega
    simp at this ⊢;omega
   rw[y_,<-e'];refine dz (r1:=[some (.lst (rs.map (aN (tS rz s)))),some (WD rz),some (OD oz),some (LN s.line),some (LN s.things),some (KD (FD s.line (fS rz oz s))),some (LN pre.flatten),some (aN (tS rz s) r)]) rfl ?_;refine(av ((bK (gj (b:=true) (eh (bv (ak (d:=aN (tS rz s) r) rfl (ak (d:=WD rz) rfl (ak (d:=LN s.things) rfl (ak (d:=KD (FD s.line (fS rz oz s))) rfl aq)))) (Gj S (R r hr))) rfl))).trans (e_skip _))).trans ?_;have hc:=pN (nl:=1) (cap:=[]) (fi:=aI bN (gv 7)) (ft:=aG 0) (fe:=f2 (gv 0) (ci 0) aK) (r:=[some (.lst (rs.map (aN (tS rz s)))),some (WD rz),some (OD oz),some (LN s.line),some (LN s.things),some (KD (FD s.line (fS rz oz s))),some (LN pre.flatten),some (aN (tS rz s) r)]) (l:=r) (bh (tS rz s)) nD (g5 (d:=aN (tS rz s) r) rfl rfl) (by omega) fun h _=>⟨[some (bh (tS rz s) h)],rfl,aw (a:=bh (tS rz s) h) (b:=.int 0) rfl rfl (ixA_T0 _ _)⟩
   have ef:LN (pre++[r]).flatten=LN (pre.flatten++r):=by rw[List.flatten_append];simp
   rw[ef];exact av (iF (d:=LN pre.flatten) (ds:=[LN r]) rfl rfl (ak hc aq) (zL (by omega)))
 obtain⟨y',e⟩:=lp rs [] none rfl;refine(av ((dD (g5 (d:=.lst (rs.map (aN (tS rz s)))) rfl rfl)).trans e)).trans ?_;have hcl:∀h∈s.line,fS rz oz s h∈s.line:=fun h hh=>Rg.j2 (Ib hh);have same:=Fm (a:=rs.flatten) (b:=s.line.map (Rg.it (fS rz oz s) s.line.length)) nd (by omega) fun x=>by rw[hp.flatten.mem_iff];exact(Rg.AH (W:=Wr rz) (O:=own oz) (s:=s) (y:=x)).symm
 refine bg (bR ?_);have e1:=Ae ((s.line.map (Rg.it (fS rz oz s) s.line.length)).foldl HS.stp []) ((s.line.map (Rg.it (fS rz oz s) s.line.length)).foldl HS.stp []);rw[decide_eq_true rfl]at e1;refine(o7 (aw (bC (ak (d:=LN rs.flatten) rfl aq) same) (bv (ak (d:=KD (FD s.line (fS rz oz s))) rfl (ak (d:=LN s.line) rfl aq)) (FX hcl h7 nl)) e1)).trans ?_;obtain⟨rs',p1,p2,p3⟩:=yl (tS rz s) rs hne (by omega);have:rs'=rs:=BN p1 p2 hu;rw[this]at p3;exact aw (a:=.lst (rs.map (aN (tS rz s)))) rfl (bC (ak (d:=.lst (rs.map (aN (tS rz s)))) rfl aq) p3) (AT (D5 _ _) rfl)
theorem tW{fnd od ord rg:D}{t:Nat->Nat}:∀(r L T:List Nat)(x8 x9:Option D)(rr:D),(∀h∈r,h∈L)->r.Nodup->(∀h∈r,t h∈T)->(r.map t).Nodup ->∃y8 y9,aA (iT (d6 (aG 8) (d6 (aG 9) iD))) yG (r.map (bh t)) [some fnd,some (WD rz),some od,some ord,some (LN L),some (LN T),some rg,some rr,x8,x9]=.nx [some fnd,some (WD rz),some od,some ord,some (LN (r.foldl (fun l h=>l.erase h) L)),some (LN ((r.map t).foldl (fun l h=>l.erase h) T)),some rg,some rr,y8,y9]
|[],L,T,x8,x9,rr,_,_,_,_=>⟨x8,x9,dI⟩
|h::r,L,T,x8,x9,rr,hL,hn,hT,hn2=>by have hn':=Hu.mp hn;have hn2':=Hu.mp (show(t h::r.map t).Nodup from hn2);obtain⟨y8,y9,ih⟩:=tW (fnd:=fnd) (od:=od) (ord:=ord) (rg:=rg) (t:=t) r (L.erase h) (T.erase (t h)) (some (nD h)) (some (nD (t h))) rr (fun x hx=>(JG fun z:x=h=>hn'.1 (by rw[<-z];exact hx)).mpr (hL x (f_ _ hx))) hn'.2 (fun x hx=>(JG fun z:t x=t h=>hn2'.1 (by rw[<-z];exact w_.mpr ⟨x,hx,rfl⟩)).mpr (hT x (f_ _ hx))) hn2'.2;refine⟨y8,y9,?_⟩;rw[y_,IP,y_,IP,<-ih];refine dz (r1:=[some fnd,some (WD rz),some od,some ord,some (LN L),some (LN T),some rg,some rr,some (nD h),some (nD (t h))]) rfl ?_;refine(av (iF (d:=LN L) (ds:=[nD h]) rfl rfl (ak (d:=nD h) rfl aq) (uV (hL h c_)))).trans ?_;exact av (iF (d:=LN T) (ds:=[nD (t h)]) rfl rfl (ak (d:=nD (t h)) rfl aq) (uV (hT h c_)))
theorem zd:∀{C l:List Nat}{x:Nat},l.Nodup->(x∈C.foldl (fun l h=>l.erase h) l↔x∈l/\x∉C):=fun{C l x} h=>by rw[Rg.kF h];simp[List.mem_filter]
theorem zo{C l:List Nat}(h:l.Nodup):(C.foldl (fun l h=>l.erase h) l).Nodup:=by rw[Rg.kF h];exact Rg.lu h
theorem uX{fnd od ord rg:D}{t:Nat->Nat}:∀(rs:List (List Nat))(L T:List Nat)(x7 x8 x9:Option D),(∀h∈rs.flatten,h∈L)->rs.flatten.Nodup->(∀h∈rs.flatten,t h∈T)->(rs.flatten.map t).Nodup->L.Nodup->T.Nodup ->∃y7 y8 y9,aA (aG 7) yH (rs.map (aN t)) [some fnd,some (WD rz),some od,some ord,some (LN L),some (LN T),some rg,x7,x8,x9]=.nx [some fnd,some (WD rz),some od,some ord,some (LN (rs.flatten.foldl (fun l h=>l.erase h) L)),some (LN ((rs.flatten.map t).foldl (fun l h=>l.erase h) T)),some rg,y7,y8,y9]
|[],L,T,x7,x8,x9,_,_,_,_,_,_=>⟨x7,x8,x9,dI⟩
|r::rs,L,T,x7,x8,x9,hL,hn,hT,hn2,nL,nT=>by rw[JB]at hL hn hT hn2;rw[HD]at hn2;obtain⟨n1,n2,n3⟩:=Ig.mp hn;obtain⟨k1,k2,k3⟩:=Ig.mp hn2;obtain⟨y8,y9,e1⟩:=tW (rz:=rz) (fnd:=fnd) (od:=od) (ord:=ord) (rg:=rg) (t:=t) r L T x8 x9 (aN t r) (fun h hh=>hL h (H_ _ hh)) n1 (fun h hh=>hT h (H_ _ hh)) k1;obtain⟨z7,z8,z9,ih⟩:=uX (fnd:=fnd) (od:=od) (ord:=ord) (rg:=rg) (t:=t) rs (r.foldl (fun l h=>l.erase h) L) ((r.map t).foldl (fun l h=>l.erase h) T) (some (aN t r)) y8 y9 (fun h hh=>(zd nL).mpr ⟨hL h (Hx _ hh),fun z=>n3 h z h hh rfl⟩) n2 (fun h hh=>(zd nT).mpr ⟨hT h (Hx _ hh),fun z=>k3 _ z _ (w_.mpr ⟨h,hh,rfl⟩) rfl⟩) k2 (zo nL) (zo nT);refine⟨z7,z8,z9,?_⟩;rw[JB,HD,Mr,Mr,<-ih,y_];refine dz (r1:=[some fnd,some (WD rz),some od,some ord,some (LN L),some (LN T),some rg,some (aN t r),x8,x9]) rfl ?_;exact av ((dD (g5 (d:=aN t r) rfl rfl)).trans e1)
theorem E3{fnd ord:D}:∀{s:Rg.S}{l:List (List (List Nat)×Rg.S)},Ch rz oz s l->Snd rz oz s->(∀h∈s.line,h<7)->∀(x6 x7 x8 x9:Option D),∃T y6 y7 y8 y9,aA (aG 6) yI (l.map (c5 rz)) [some fnd,some (WD rz),some (OD oz),some ord,some (LN s.line),some (LN s.things),x6,x7,x8,x9]=.nx [some fnd,some (WD rz),some (OD oz),some ord,some (LN []),some (LN T),y6,y7,y8,y9]:=by
 intro s l c
 induction c with
|@nil s h=>intro S h7 x6 x7 x8 x9;rw[h];exact⟨s.things,x6,x7,x8,x9,dI⟩
|@cons s rs l hne hu hp _ ih=>
  intro S h7 x6 x7 x8 x9;have c:=lf hp;have nd:rs.flatten.Nodup:=(hp.flatten.nodup_iff).mpr (Rg.mY S.ok.nl);have nt:(rs.flatten.map (tS rz s)).Nodup:=by rw[IZ,Jh];exact(IZ.mp nd).imp_of_mem fun{a b} ha hb hab z=>hab (Rg.AC c c ha hb z)
  obtain⟨z7,z8,z9,e1⟩:=uX (rz:=rz) (fnd:=fnd) (od:=OD oz) (ord:=ord) (rg:=c5 rz (rs,s)) (t:=tS rz s) rs s.line s.things x7 x8 x9 c.sub nd (fun h hh=>S.ok.tgt_mem (c.sub h hh)) nt S.ok.nl S.ok.nt;have el:rs.flatten.foldl (fun l h=>l.erase h) s.line=(Rg.minus (Wr rz) s rs.flatten).line:=Rg.kF S.ok.nl;have et:(rs.flatten.map (tS rz s)).foldl (fun l h=>l.erase h) s.things=(Rg.minus (Wr rz) s rs.flatten).things:=Rg.kF S.ok.nt;rw[el,et]at e1;obtain⟨T,y6,y7,y8,y9,e2⟩:=ih (S.minus c) (fun h hh=>h7 h (HC.mp hh).1) (some (c5 rz (rs,s))) z7 z8 z9;refine⟨T,y6,y7,y8,y9,?_⟩;rw[y_,<-e2];refine dz (r1:=[some fnd,some (WD rz),some (OD oz),some ord,some (LN s.line),some (LN s.things),some (c5 rz (rs,s)),x7,x8,x9]) rfl ?_;refine(av ((bK ?_).trans (e_skip _))).trans ?_
  .have:=iA s.line.length 0;rw[decide_eq_false (fun z=>hne (Kg z))]at this;rw[cT (bV (aw (b:=nD 0) (bC (ak (d:=LN s.line) rfl aq) (jf nD s.line)) rfl this))];exact gj (b:=true) (eh (bv (ak (d:=c5 rz (rs,s)) rfl (ak (d:=WD rz) rfl (ak (d:=OD oz) rfl (ak (d:=LN s.line) rfl (ak (d:=LN s.things) rfl aq))))) (GD S h7 hp hu)) rfl)
  exact av ((dD (g5 (d:=c5 rz (rs,s)) rfl rfl)).trans e1)
end
section
variable{rz:List (List Nat)}{oz:List (Option Nat)}{o:Option (List Nat)}{n m:Nat}
theorem Fg(S:Scene rz oz o n m):nP [ap o,nD rz.length]=.ok (LN (s0 rz o).line):=by
 have h60:rz.length<=60:=by have:=S.rl;have:=S.n7;omega
 refine wA (B:=qW) (n:=2) ?_;unfold qW;cases o with
|none=>refine bg ((dj (bV (aw (a:=.non) (b:=.non) rfl rfl rfl))).trans (bg (bR (bC (ak (d:=nD rz.length) rfl aq) (kW (by omega))))))
|some l=>refine(av ((bK (bV (aw (a:=LN l) (b:=.non) rfl rfl rfl))).trans (e_skip _))).trans ?_;exact bg (bR (bC (ak (d:=LN l) rfl aq) (e_listL _)))
theorem w6(S:Scene rz oz o n m){l:List (List (List Nat)×Rg.S)}(c:Ch rz oz (s0 rz o) l):lw [.lst (l.map (c5 rz)),WD rz,OD oz,ap o]=.ok (.bl true):=by
 have hn:=S.n7;obtain⟨T,y6,y7,y8,y9,e⟩:=E3 (fnd:=.lst (l.map (c5 rz))) (ord:=ap o) c S.snd (fun h hh=>by have:=S.mem.mp hh;omega) none none none none;refine cf (B:=qG) (n:=10) ?_;unfold qG;refine(av (bp (uO (bv (ak (d:=ap o) rfl (ak (d:=nD rz.length) (bC (ak (d:=WD rz) rfl aq) (j7 TN rz)) aq)) (Fg S))))).trans ?_;have t0:lenD [TN (rz.headD [])]=some (nD (rz.headD []).length):=j7 nD _;have i0:aK (WD rz) (.int 0)=some (TN (rz.headD [])):=by cases rz with
 |nil=>exact absurd rfl S.ne
 |cons r t=>exact ixA_T0 _ _
 have hm8:=S.m8;refine(av (bp (d:=LN (s0 rz o).things) (bC (ak (bC (ak (aw (a:=WD rz) (b:=.int 0) rfl rfl i0) aq) t0) aq) (kW (by rw[S.row0];omega))))).trans ?_;refine(av ((bK (gj (b:=true) (eh (jO (a:=.lst (l.map (c5 rz))) (d:=.bl true) rfl rfl) rfl))).trans (e_skip _))).trans ?_;refine(av ((dD (g5 (d:=.lst (l.map (c5 rz))) rfl rfl)).trans e)).trans ?_;exact bg (bR (aw (a:=nD 0) (b:=nD 0) (bC (ak (d:=LN []) rfl aq) rfl) rfl (ni 0)))
theorem Bx(o:Option (List Nat)):neD (ap o) (ap o)=some (.bl false):=by cases o with
|none=>unfold neD;show(dF .non .non).map _=_;rw[eqB_non_non];rfl
|some l=>exact AJ l
theorem Df{i:Nat}{fl:ag->Res (List D)}{G:List D->Option (List (List D))}{F:FM}{r:ag}{ds:List D}{w:List (List D)}(h1:fl r=.ok ds)(h2:G ds=some w):ko (kY i fl G) F r=F (r.set i none) w:=by unfold ko kY;rw[h1];simp only[h2,Ij]
theorem mr{f1:cz}{F:FM}{r r':ag}{w w':List (List D)}(h:f1 r w=some (r',w')):jL f1 F r w=F r' w':=by unfold jL;rw[h]
theorem BF{i:Nat}{q:FQ}{F:FM}{r:ag}{w:List (List D)}(h:q (ig i r w)=.ok false):mh i q F r w=F r w:=by unfold mh;rw[h]
theorem wN(S:Scene rz oz o n m){sc:D}(x5 x6:Option D):∃y6,vK [some sc,some (WD rz),some (OD oz),some (ap o),some (ap o),x5,x6]=.nx [some sc,some (WD rz),some (OD oz),some (ap o),some (ap o),x5,y6]:=by
 have h60:rz.length<=60:=by have:=S.rl;have:=S.n7;omega
 obtain⟨l,c,l60,e⟩:=Gk S.ord S.ne h60 S.snd;have hne:(s0 rz o).line≠[]:=by intro z;have:=S.mem (h:=0);have h1:=S.n1;rw[z]at this;exact absurd (this.mpr (by omega)) (by simp)
 obtain⟨p,l',el⟩:∃p l',l=p::l':=by cases c with
 |nil h=>exact absurd h hne
 |cons _ _ _ _=>exact⟨_,_,rfl⟩
 have ew:D.lst ((l.map (bW rz)).map D.lst)=.lst (l.map (c5 rz)):=by rw[HR];rfl
 refine⟨some (.lst ((((l.map (bW rz)).set 0 [])++[[]]).map D.lst)),?_⟩;refine(Df (ak (d:=WD rz) rfl (ak (d:=OD oz) rfl (ak (d:=ap o) rfl aq))) e).trans ?_;refine(BF ?_).trans ?_
 .show(dP _ _) ([some sc,some (WD rz),some (OD oz),some (ap o),some (ap o),x5,some (.lst ((l.map (bW rz)).map D.lst))]:ag)=_;rw[ew];rw[cT (bV (aw (a:=ap o) (b:=ap o) rfl rfl (Bx o)))];exact gj (b:=true) (eh (bv (ak (d:=.lst (l.map (c5 rz))) rfl (ak (d:=WD rz) rfl (ak (d:=OD oz) rfl (ak (d:=ap o) rfl aq)))) (w6 S c)) rfl)
 have h1:gB (ci 0) [some sc,some (WD rz),some (OD oz),some (ap o),some (ap o),x5,none] (l.map (bW rz))=some ([some sc,some (WD rz),some (OD oz),some (ap o),some (ap o),x5,none],(l.map (bW rz)).set 0 []):=by
  have hx:d8 (l.map (bW rz)).length 0=some 0:=by unfold d8;rw[if_pos (by omega),if_pos (by rw[el,m_,IA];omega)];rfl
  have hg:(l.map (bW rz))[0]? = some (bW rz p):=by rw[el];rfl
  unfold gB;simp only[hx,hg,Lc,Ij]
 have h2:gD (fW af) [some sc,some (WD rz),some (OD oz),some (ap o),some (ap o),x5,none] ((l.map (bW rz)).set 0 [])=some ([some sc,some (WD rz),some (OD oz),some (ap o),some (ap o),x5,none],(l.map (bW rz)).set 0 []++[[]]):=by have e:fW af [some sc,some (WD rz),some (OD oz),some (ap o),some (ap o),x5,none]=.ok (.lst []):=jY aq (by simp);unfold gD;rw[e];simp only[if_pos (show((l.map (bW rz)).set 0 []).length<sizeLine by rw[IM,m_,HF];omega)]
 exact(mr h1).trans ((mr h2).trans rfl)
end
theorem main(ns:List Int)(_:ns.length<=63):oE [.lst (ns.map .int)]=.ok (.bl true):=by
 obtain⟨rz,oz,o,n,m,S,es⟩:=Fj ns;refine cf (B:=mE) (n:=7) ?_;unfold mE;have h60:rz.length<=60:=by have:=S.rl;have:=S.n7;omega
 refine(av (r':=[some (IN ns),some (WD rz),some (OD oz),some (ap o),none,none,none]) ?_).trans ?_
 .unfold jD;rw[show aJ (aj (gv 0) af) [] lH (aS 7 [.lst (ns.map .int)])=.ok (.tup [WD rz,OD oz,ap o])from bv (ak (d:=IN ns) rfl aq) es];rfl
 refine(av (r':=[some (IN ns),some (WD rz),some (OD oz),some (ap o),some .non,none,none]) rfl).trans ?_;refine(av (r':=[some (IN ns),some (WD rz),some (OD oz),some (ap o),some (ap o),none,none]) ?_).trans ?_
 .cases o with
 |none=>exact(bK (bV (aw (a:=.non) (b:=.non) rfl rfl rfl))).trans rfl
 |some l=>exact(dj (bV (aw (a:=LN l) (b:=.non) rfl rfl rfl))).trans (av (bp (bC (ak (d:=LN l) rfl aq) (e_listL _))))
 obtain⟨a6,e1⟩:=wN S (sc:=IN ns) (some (nD 0)) none;obtain⟨b6,e2⟩:=wN S (sc:=IN ns) (some (nD 1)) a6;have rg:cF cu (aj (ci 2) af) [some (IN ns),some (WD rz),some (OD oz),some (ap o),some (ap o),none,none]=.ok [nD 0,nD 1]:=j5 (ak (d:=nD 2) rfl aq) (j1 (n:=2) (by omega));refine(av ((dD rg).trans ((dz (r1:=[some (IN ns),some (WD rz),some (OD oz),some (ap o),some (ap o),some (nD 0),none]) rfl e1).trans ((dz (r1:=[some (IN ns),some (WD rz),some (OD oz),some (ap o),some (ap o),some (nD 1),a6]) rfl e2).trans dI)))).trans ?_;refine bg (bR ?_);cases o with
|some l=>exact AG (aw (a:=LN l) (b:=.non) rfl rfl rfl)
|none=>refine(AF (aw (a:=.non) (b:=.non) rfl rfl rfl)).trans ?_;obtain⟨l,c,l60,e⟩:=Fw S.ord S.ne h60 S.snd;exact bv (ak (d:=.lst (l.map (c5 rz))) (bv (ak (d:=WD rz) rfl (ak (d:=OD oz) rfl aq)) e) (ak (d:=WD rz) rfl (ak (d:=OD oz) rfl (ak (d:=.non) rfl aq)))) (w6 S c)
end Law
open PySem PySem.W PyProof.Rows
abbrev P0:=K7.prog
set_option maxRecDepth 100000 in
set_option maxHeartbeats 0 in
theorem PySem.Challenge.cw_ringtrade_k07_rounds_walked_holds : PySem.Challenge.rw_ringtrade_k07_rounds_walked.Holds := by
 w_on; o_law; k_head; (case hw=>w_witness2)
 k_fill
 refine DL.zy (l:=PySem.Challenge.rw_ringtrade_k07_rounds_walked) (k:=8) (x := "_law_script") (F:=Law.oE) rfl rfl ⟨rfl,by decide,by decide,rfl⟩ (fun w h Y=>PySem.W.kIn_of Y) Law.main ?C
 intro w mg fa h KX G hmg
 have T:Law.Txt (L2.aM KX) mg:=by
  dsimp only [L2.aM]
  refine ⟨?uj,?uk,?ul,?um,?un,?uo,?up,?uq,?ur,?ut,?uu⟩
  case uj|uk|ul|um|un|uo|up|uq|ur|ut|uu=>(refine' PySem.W.mg_none_of KX G ?_; k_is)
 have uv:DL.DefAt (L2.aM KX) mg "_law_cell" Law.qh:=by
  dsimp only [L2.aM]
  refine' DL.ce KX G ?a ?l ?c ?k
  case a|l|c|k=>k_is
 have uw:DL.DefAt (L2.aM KX) mg "_law_owns" Law.qj:=by
  dsimp only [L2.aM]
  refine' DL.ce KX G ?a ?l ?c ?k
  case a|l|c|k=>k_is
 have ux:DL.DefAt (L2.aM KX) mg "_law_row" Law.pU:=by
  dsimp only [L2.aM]
  refine' DL.ce KX G ?a ?l ?c ?k
  case a|l|c|k=>k_is
 have uy:DL.DefAt (L2.aM KX) mg "_law_wishes" Law.lK:=by
  dsimp only [L2.aM]
  refine' DL.ce KX G ?a ?l ?c ?k
  case a|l|c|k=>k_is
 have uz:DL.DefAt (L2.aM KX) mg "_law_order_by" Law.rq:=by
  dsimp only [L2.aM]
  refine' DL.ce KX G ?a ?l ?c ?k
  case a|l|c|k=>k_is
 have u0:DL.DefAt (L2.aM KX) mg "_law_scene" Law.qR:=by
  dsimp only [L2.aM]
  refine' DL.ce KX G ?a ?l ?c ?k
  case a|l|c|k=>k_is
 have u1:DL.DefAt (L2.aM KX) mg "is_whole" Law.pW:=by
  dsimp only [L2.aM]
  refine' DL.ce KX G ?a ?l ?c ?k
  case a|l|c|k=>k_is
 have u2:DL.DefAt (L2.aM KX) mg "is_below" Law.pV:=by
  dsimp only [L2.aM]
  refine' DL.ce KX G ?a ?l ?c ?k
  case a|l|c|k=>k_is
 have u3:DL.DefAt (L2.aM KX) mg "first_wrong" Law.qQ:=by
  dsimp only [L2.aM]
  refine' DL.ce KX G ?a ?l ?c ?k
  case a|l|c|k=>k_is
 have u4:DL.DefAt (L2.aM KX) mg "are_unlike" Law.qT:=by
  dsimp only [L2.aM]
  refine' DL.ce KX G ?a ?l ?c ?k
  case a|l|c|k=>k_is
 have u5:DL.DefAt (L2.aM KX) mg "has_each_once" Law.rA:=by
  dsimp only [L2.aM]
  refine' DL.ce KX G ?a ?l ?c ?k
  case a|l|c|k=>k_is
 have u6:DL.DefAtD (L2.aM KX) mg "order_of" Law.pX [Value.none]:=by
  dsimp only [L2.aM]
  refine' DL.oC KX G ?a ?l ?t ?c ?k
  case a|l|t|c|k=>k_is
 have u7:DL.DefAt (L2.aM KX) mg "best_left" Law.lv:=by
  dsimp only [L2.aM]
  refine' DL.ce KX G ?a ?l ?c ?k
  case a|l|c|k=>k_is
 have u8:DL.DefAt (L2.aM KX) mg "owner_left" Law.qU:=by
  dsimp only [L2.aM]
  refine' DL.ce KX G ?a ?l ?c ?k
  case a|l|c|k=>k_is
 have u9:DL.DefAt (L2.aM KX) mg "hand_pointed_at" Law.qX:=by
  dsimp only [L2.aM]
  refine' DL.ce KX G ?a ?l ?c ?k
  case a|l|c|k=>k_is
 have va:DL.DefAt (L2.aM KX) mg "ring_from" Law.ql:=by
  dsimp only [L2.aM]
  refine' DL.ce KX G ?a ?l ?c ?k
  case a|l|c|k=>k_is
 have vb:DL.DefAt (L2.aM KX) mg "rings_of_round" Law.jk:=by
  dsimp only [L2.aM]
  refine' DL.ce KX G ?a ?l ?c ?k
  case a|l|c|k=>k_is
 have vc:DL.DefAt (L2.aM KX) mg "got_in" Law.pH:=by
  dsimp only [L2.aM]
  refine' DL.ce KX G ?a ?l ?c ?k
  case a|l|c|k=>k_is
 have vd:DL.DefAt (L2.aM KX) mg "things_in" Law.qm:=by
  dsimp only [L2.aM]
  refine' DL.ce KX G ?a ?l ?c ?k
  case a|l|c|k=>k_is
 have ue:DL.DefAtD (L2.aM KX) mg "rounds" Law.fU [Value.none]:=by
  dsimp only [L2.aM]
  refine' DL.oC KX G ?a ?l ?t ?c ?k
  case a|l|t|c|k=>k_is
 have ve:DL.DefAtD (L2.aM KX) mg "rounds" Law.jj [Value.none]:=by
  dsimp only [L2.aM]
  refine' DL.oC KX G ?a ?l ?t ?c ?k
  case a|l|t|c|k=>k_is
 have vf:DL.DefAt (L2.aM KX) mg "_law_line" Law.qi:=by
  dsimp only [L2.aM]
  refine' DL.ce KX G ?a ?l ?c ?k
  case a|l|c|k=>k_is
 have vg:DL.DefAt (L2.aM KX) mg "_law_best" Law.qg:=by
  dsimp only [L2.aM]
  refine' DL.ce KX G ?a ?l ?c ?k
  case a|l|c|k=>k_is
 have vh:DL.DefAt (L2.aM KX) mg "_law_points" Law.qP:=by
  dsimp only [L2.aM]
  refine' DL.ce KX G ?a ?l ?c ?k
  case a|l|c|k=>k_is
 have vi:DL.DefAt (L2.aM KX) mg "_law_whole" Law.qS:=by
  dsimp only [L2.aM]
  refine' DL.ce KX G ?a ?l ?c ?k
  case a|l|c|k=>k_is
 have vj:DL.DefAt (L2.aM KX) mg "_law_ring_well" Law.lP:=by
  dsimp only [L2.aM]
  refine' DL.ce KX G ?a ?l ?c ?k
  case a|l|c|k=>k_is
 have vk:DL.DefAt (L2.aM KX) mg "_law_on_rings" Law.lE:=by
  dsimp only [L2.aM]
  refine' DL.ce KX G ?a ?l ?c ?k
  case a|l|c|k=>k_is
 have vl:DL.DefAt (L2.aM KX) mg "_law_round_well" Law.lQ:=by
  dsimp only [L2.aM]
  refine' DL.ce KX G ?a ?l ?c ?k
  case a|l|c|k=>k_is
 have vm:DL.DefAt (L2.aM KX) mg "_law_well" Law.qk:=by
  dsimp only [L2.aM]
  refine' DL.ce KX G ?a ?l ?c ?k
  case a|l|c|k=>k_is
 have vn:DL.DefAt (L2.aM KX) mg "law" Law.oS:=by
  dsimp only [L2.aM]
  refine' DL.ce KX G ?a ?l ?c ?k
  case a|l|c|k=>k_is
 refine DL.zA hmg vn (fun _ _ _ _ _ _ us hl=>match us,hl with | [_],_=>rfl) fun f fd Fn base=>?_
 have uf:=Law.DB (P:=P0) (w:=w) (base:=base) T uv
 have vo:=Law.DD (P:=P0) (w:=w) (base:=base) T uw
 have ug:=Law.CL (P:=P0) (w:=w) (base:=base) T ux
 have vp:=Law.D1 (P:=P0) (w:=w) (base:=base) T uy uf ug
 have vq:=Law.E5 (P:=P0) (w:=w) (base:=base) T uz ug
 have vr:=Law.D7 (P:=P0) (w:=w) (base:=base) T u0 uf vo vq vp
 have vs:=Law.CN (P:=P0) (w:=w) (base:=base) T u1
 have vt:=Law.CM (P:=P0) (w:=w) (base:=base) T u2 vs
 have vu:=Law.D2 (P:=P0) (w:=w) (base:=base) T u3 vt
 have vv:=Law.D9 (P:=P0) (w:=w) (base:=base) T u4 vu
 have vw:=Law.E6 (P:=P0) (w:=w) (base:=base) T u5 vv
 have ua:=Law.CO (P:=P0) (w:=w) (base:=base) T u6 vw
 have vx:=Law.DF (P:=P0) (w:=w) (base:=base) T u7
 have vy:=Law.Ea (P:=P0) (w:=w) (base:=base) T u8
 have vz:=Law.Ft (P:=P0) (w:=w) (base:=base) T u9 vy
 have v0:=Law.DG (P:=P0) (w:=w) (base:=base) T va
 have ub:=Law.FP (P:=P0) (w:=w) (base:=base) T vb vx vz v0
 have uc:=Law.AX (P:=P0) (w:=w) (base:=base) T vc
 have ud:=Law.DH (P:=P0) (w:=w) (base:=base) T vd
 have uh:=Law.AY (P:=P0) (w:=w) (base:=base) T ue ua ud ub uc
 have uh':=Law.BR (P:=P0) (w:=w) (base:=base) T ue ua ud ub uc
 have v1:=Law.CP (P:=P0) (w:=w) (base:=base) T ve ua ud ub uc
 have v2:=Law.DC (P:=P0) (w:=w) (base:=base) T vf
 have ui:=Law.DA (P:=P0) (w:=w) (base:=base) T vg
 have v3:=Law.DZ (P:=P0) (w:=w) (base:=base) T vh ui
 have v4:=Law.D8 (P:=P0) (w:=w) (base:=base) T vi
 have v5:=Law.FO (P:=P0) (w:=w) (base:=base) T vj v4 ui
 have v6:=Law.E4 (P:=P0) (w:=w) (base:=base) T vk
 have v7:=Law.Fs (P:=P0) (w:=w) (base:=base) T vl v3 v5 v6
 have v8:=Law.DE (P:=P0) (w:=w) (base:=base) T vm v2 v7
 exact Law.zB T Fn vr v8 v1 uh'
end
