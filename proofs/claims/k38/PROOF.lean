import PyProof.Rows.All
import Wide.All
import OpenK.AllK
import Wide.FinOn
import Lean
import PyProof.EqAt
import PyProof.EqKinds
import PyProof.TupleCall
import PyProof.Rows.SetFrom
import KE.KSortTup
import PyProof.Draws
import PyProof.EnumMake
import PyProof.ListRange
import PyProof.Rows.EnumRows
import PyProof.SetRoads
import PyProof.Rows.MinMaxN
import PyProof.Rows.MaxTwoN
import PyProof.ZipIter
import KE.LcSums
import PyProof.TupleKey
import PyProof.InstSpecial
import PySem.Challenge.RW_ringtrade_k38_tables_parted
noncomputable section
open PySem renaming Value->a_,wpAny_bind->c_,Shared->e_,starEach->k_,wpAny_pure->s_,Program->u_,wpAny->B_,model->Gy,World->Gz,Around->GP,wpAny_pyIter_tuple->Hc,compareOp->Hg,mainGlobals->Hr,assignEach->Hu,foldedSetIterable->Hv,wpAny_seqItems->Hx,mem_of_lookup->Hz,sizeLine_eq->HA,FuncData->HB,wpAny_field->HD,wpAny_truthy_bool->HF,wpAny_mono->HK,wpAny_holding->HN,wpAny_setField_rec->HV,wpAny_passesOwn->HZ,wpAny_pyIter_list->Ib,wpAny_setState_of->Ie,sysModules->Ig,IsPair->Ih,Scope->Ii,cLine->Ij,binaryOp->Im,scanBound->Iq,wpAny_callSpecial?_slot->Iv,SetTable->Iw,wpAny_Call_Name_kw->IA,behindInMarks->IF,NameKind->IP,bootBuiltins->IT,codeAny_mono->IU,attributeBase->Jb,holding->Je,codeAny_builtin->Jh,wpAny_pyIter_enum->Jv,ofAClassStatement->Jw,assign->Jz,PassesOwn->JA,wpAny_call_entry->JD,Builtin->JH,wpAny_updateSeq_pair->JM,letOwnedTupleGo->JQ,wpAny_loadPart'->JT,codeAny->JY,callType_new->J2,swapsWith->J6,tupleKind_room_in1->J9,wpAny_letOwnedTupleGo_enum->J_,IsZip->Ka,Keyword->Ki,wpAny_newObj_type->Kj,wpAny_standAt->Km,wpAny_comprehension_free->Kq,wpAny_onRaise->Ks,wpAny_pyNext_enum_itemD->KA,wpAny_forIn_list->KF,rawInt->KI,callerA->KR,notedBy->KS,wpAny_pyNext_enum_endD->KY,wpAny_execs_nil->K5,codeAny_of_tree->K8,weight_type_call_type->Ld,wpAny_eqIsQuiet_tuple->Lh,pyNext->Li,bindArgs->Lj,keywordEach->Ll,codeAny_call_builtin->Ln,compEnvC->Lo,carriedByValue->Lq,hashByValue->Lr,tupleKind->Lx,BindsTo->Ly,valueAt->Lz,swapsWithSole->LC,swappedStores->LD,Draws->LF,PlainAttrs->LL,wpAny_eqBool_tuple->LV,intKind->LY,standAt->L0,wpAny_assign_Name->L1,concat_meets->L5,relabel->L7,searchCouldBeSeen->L_,setRelay->Mb,wpAny_storeSet_of->Mc,noFill_tuple_add->Mi,DictEntry->Mj,check_set_init_1->Ml,wpAny_pyIter_zip->Mr,seqIndex_of->Mw,atKey->Mx,wpAny_letGo->Mz,setItem->MK,builtinsNs->ML,GenState->MM,wpAny_Name->MN,Result->MO,wpAny_call->MP,bindL->MQ,bindC->MR,backToKw->MS,call_meets->MT,call->MU,boot_len->MW,closureFor->MX,field->MZ,wpAny_rule->M0,CmpOp->NI,cellsFrom->NJ,isSubtype->NK,pyIter->NM,getItem->NO,cellOf->NR,sub_zip->NT
open List renaming getElem?_set_ne->b_,range->f_,mem_cons_of_mem->g_,getElem?_eq_some_iff->h_,mem_cons_self->i_,getElem?_set_self->l_,getElem?_eq_getElem->m_,mem_cons->n_,getElem?_map->o_,size_toArray->p_,length_map->t_,mem_singleton->y_,mem_range->z_,map_cons->A_,getElem?_append_left->C_,mem_map->D_,length_cons->E_,length_append->GB,mem_append_right->GF,getElem?_append_right->GG,mem_append_left->GJ,map_append->GM,getD_eq_getElem?_getD->GO,nodup_cons->GS,replicate->GT,getElem?_range->GU,find?_cons->GW,not_mem_nil->GZ,getElem?_replicate->Hb,mem_append->He,drop_eq_getElem_cons->Hh,Nodup->Hj,getElem?_eq_none->Hk,map_map->Hq,sum_cons->Ht,range_eq_range'->HE,nodup_append->HJ,map_congr_left->HL,nodup_range->HQ,length_replicate->HX,length->Ia,length_range->Ic,filterMap_cons->Ik,filter_cons->Ip,drop_length->Ir,lookup_cons->Is,all_eq_true->Iu,range'_succ->Iy,range_succ->IE,any_cons->IG,ext_getElem?->II,pairwise_map->IM,length_take->IV,getElem_mem->IY,length_erase_of_mem->Jc,mem_filter->Jd,append_nil->Jf,length_set->Jg,foldl_cons->Ji,mem_filterMap->Jk,getElem?_cons_succ->Jn,range'->Jp,reverse_cons->Js,zipWith->Jt,append_assoc->Ju,getElem?_zipWith->Jy,mem_of_getElem?->JL,mem_erase_of_ne->JO,forIn_cons->JS,length_zipWith->JV,length_pos_iff->JW,nodup_nil->Ke,getElem?_eq_none_iff->Kg,all_cons->Ko,getElem_inj->Ky,map_nil->KM,take_of_length_le->KU,length_pos_of_mem->K0,of_mem_zip->K6,length_nil->K7,sum_append->Lb,length_singleton->Lc,set_append_right->Lg,mem_of_mem_drop->Lv,mem_of_mem_take->Lw,getElem_of_mem->LB,find?_eq_none->LS,any_map->L8,map->Ma,length_drop->Mm,zipIdx_cons->Mp,getElem_map->Mt,any_eq_true->Mv,map_const'->MB,zipIdx_nil->ME,find?_some->MF,nil_append->MJ,forIn_nil->M5
open PySem.Heap renaming get?_push_of_some->d_,lt_size->q_,get?_push_size->r_,size_push->GX,SameBut->Jq,get?_update_self->Jx,IsTuple->J0,get?_update_other->KP,IsList->Lp,FunFrames->MV,ExtBut->N2
open Bool renaming false_ne_true->j_,false_eq_true->GC,and_eq_true->GR,eq_iff_iff->Hf,not_true->JI,and_false->Ls,and_self->ND,true_or->NP
open Nat renaming le_refl->w_,lt_of_lt_of_le->x_,ne_of_lt->F_,zero_le->GL,le_trans->GY,ne_of_gt->HC,lt_succ_of_lt->HG,lt_irrefl->HM,lt_succ_self->HP,lt_of_le_of_lt->HU,le_of_lt_succ->IJ,pow_le_pow_right->IQ,mul_pos->IR,zero_add->IW,mul_comm->IX,mod_lt->Jm,le_of_eq->Jr,dvd_mul_left->JF,dvd_trans->JJ,pow_succ->J3,add_zero->J4,zero_mul->J5,mul_le_mul->Kf,mod_eq_of_lt->KH,sub_self->KZ,le_of_succ_le_succ->K4,pow_dvd_pow->La,le_of_dvd->LG,pos_of_ne_zero->LX,le_of_lt->LZ,succ_pos->L9,succ_le_succ->Mo,le_add_right->Ms,dvd_antisymm->Mu,le_succ->My,add_mul->MA,strongRecOn->MG,mul_add_mod->MH,add_assoc->NH,gcd_comm->NU,log2_lt->N3,Coprime->N5
open Option.some renaming inj->Gw,injEq->Kh
open Int renaming natAbs_natCast->Gx,mul_assoc->GA,mul_left_comm->GD,mul_comm->GN,natCast_mul->GQ,gcd->Ho,gcd_dvd_right->HI,eq_of_mul_eq_mul_right->HW,natCast_nonneg->IB,mul_lt_mul_of_pos_right->IL,lt_of_mul_lt_mul_right->IS,natCast_add->Jj,natCast_dvd_natCast->Jo,gcd_dvd_left->JE,ofNat_inj->JK,add_mul->JP,emod_nonneg->JU,toNat_of_nonneg->JX,fdiv_eq_ediv_of_nonneg->J8,natAbs_mul->Kd,toNat_natCast->Kl,mul_ediv_cancel_left->Ku,natCast_ediv->KG,emod_lt_of_pos->LR,dvd_mul_right->Me,ofNat_lt->Mh,natCast_sub->MI,dvd_trans->NG,le_of_lt->NV,dvd_gcd->N4,sub_mul->N6
open PySem.PassesOwn renaming never->GK
open PySem.Builtin.SmallTypes renaming nextOf->GV,ownedTupleIsFree->Hl,ownedTupleHandOut->I_
open PySem.F renaming plainAttrs_list->G6,slot_list_append->Hm,type_list_append->Hn,args_tuple_add_2->Kn,slot_list_insert->Kr,entry_tuple_add->Kz,slot_tuple_add->KL
open PySem.SetTable renaming insertAt->G9,grown->Kc,advance->KB,fits->NE,fill->NF
open Classical renaming byContradiction->G_,axiomOfChoice->Ix
open PySem.SetTable.layClean renaming free->Ha
open PySem.PyData renaming canLay0->Hd,depth->Hw,eqv->Jl,canLayAll0->Kk,eqvAll->Kw,depthAll->K9
open Array renaming length_toList->Hi,getElem?_toList->HY,getD_eq_getD_getElem?->IK,getElem?_eq_getElem->IZ,getElem_mem_toList->Kt,replicate->K_,toList_extract->Lu,append_assoc->LJ,forIn_toList->LU,size_extract->LW,size_map->M8,toList->NL
open PyProof.Rows renaming callWith_type1->Hs,envOfC->JB,callWith_builtin1->JC,AllBare->JG,IntsAre->JZ,subscriptTail_builtinR->KN,firstMet->Lm,step_dedup->LQ,boot_isinstance->MD,assign_Tuple->Nk,IsTup->NY
open PySem.SetTable.probe renaming go->Hy
open False renaming elim->HR
open Ne renaming symm->H_
open Function renaming comp_apply->Il
open PySem.Builtin.Str renaming occurrences->Io
open PySem.Shared renaming heap->Iz,TypeIs->NC
open Option renaming map_some->ID,isSome_map->L6,map_none->MC,map->N9
open List.Pairwise renaming and_mem->IH
open PySem.Heap.SameBut renaming update->I0
open PySem.Builtin.Int renaming intBits->Ja,intTooBig->Lf
open PySem.Around renaming under_plainId->JN,under->KJ,under_plain->LO
open PySem.Builtin.Frozenset renaming updateFrom->JR,newClass->M6
open PySem.Calls renaming Name_function_global->J7,callWith_builtin->KQ,spliced_cons->LK,spliced_nil->L4
open PySem.Obj renaming putSet->Kb,mapSeq->KO,data_mapFields->LP
open PySem.Challenge renaming pw_ringtrade_k38_tables_parted->Kv,rw_ringtrade_k38_tables_parted->Kx
open PySem.Str renaming ofString->KW
open LawfulBEq renaming eq_of_beq->LA
open PySem.SeqAt.EqAt renaming int_str->LH,str_int->LI
open PySem.Code renaming quiet_builtin->LM,isFrame->L3,isGuard->NN,frames->NZ
open Prod renaming fst->Mf,snd->Mg,ext->M7
open PySem.Heap.IsList renaming push->Mq
open PySem.Builtin.List renaming listFitsIndex->MY
open PySem.Draws renaming list->M4
open PySem.EqNone renaming eq_none_none->M9,eq_none_bool->M_,eq_bool_none->Na,ne_none_none->Nd,ne_none_bool->Nf,ne_bool_none->Ng,eq_none_int->Np,eq_none_str->Nq,eq_int_none->Nr,eq_str_none->Nu,ne_none_int->Nw,ne_none_str->Nx,ne_int_none->Ny,ne_str_none->NA
open PySem.EqMixed renaming eq_bool_str->Nb,eq_str_bool->Nc,ne_bool_str->Ni,ne_str_bool->Nj,eq_int_str->Nt,eq_str_int->Nv,ne_int_str->Nz,ne_str_int->NB
open PyProof.Rows.LSm renaming sum_ints->Nl
open PySem.Value renaming isStrOf->No,isInt->NW
open PySem.W renaming hideAll->NQ
open PySem.SeqAt renaming shaped->NS,EqAt->N7
open Sum.inl renaming inj->NX
open ForIn renaming forIn->N1
open PySem.W.WShape renaming has->N8
open PyProof.Rows.IsTup renaming new->N_
set_option Elab.async false
set_option linter.all false
set_option maxRecDepth 100000
set_option maxHeartbeats 4000000
section
namespace L2
open PySem PySem.Spec PyProof.Rows
abbrev ap:=Sum Int Str
def jL:ap->a_->Bool
|.inl k,v=>NW k v
|.inr x,v=>No x v
def rV(w:Gz):ap->Int
|.inl k=>hashInt k
|.inr x=>hashStr w x
theorem keyIs_shape:∀{k:ap}{v:a_},jL k v=true->(∃i t,k=Sum.inl i/\v=Value.int i t)\/(∃x t,k=Sum.inr x/\v=Value.str x t)
|.inl i,v,h=>by obtain⟨t,e⟩:=Value.isInt_shape (k:=i) (v:=v) h;exact .inl ⟨i,t,rfl,e⟩
|.inr x,v,h=>by obtain⟨t,e⟩:=Value.isStrOf_shape (x:=x) (v:=v) h;exact .inr ⟨x,t,rfl,e⟩
theorem Ez(i:Int)(t:Tok):jL (.inl i) (.int i t)=true:=by simp[jL,NW]
theorem EA(x:Str)(t:Tok):jL (.inr x) (.str x t)=true:=by simp[jL,No]
theorem Af(a b:Int):decide ((Sum.inl a:ap)=Sum.inl b)=(a==b):=by
 by_cases e:a=b
 .subst e;simp
 .have h:¬ (Sum.inl a:ap)=Sum.inl b:=fun q=>e (NX q);rw[decide_eq_false h];exact(beq_eq_false_iff_ne.mpr e).symm
theorem Ai(a b:Str):decide ((Sum.inr a:ap)=Sum.inr b)=decide (a=b):=by
 by_cases e:a=b
 .subst e;simp
 .have h:¬ (Sum.inr a:ap)=Sum.inr b:=fun q=>e (Sum.inr.inj q);rw[decide_eq_false h,decide_eq_false e]
theorem Ag(a:Int)(b:Str):decide ((Sum.inl a:ap)=Sum.inr b)=false:=decide_eq_false (fun q=>nomatch q)
theorem Ah(a:Str)(b:Int):decide ((Sum.inr a:ap)=Sum.inl b)=false:=decide_eq_false (fun q=>nomatch q)
def dH(prog:u_)(w:Gz):PySem.KeyKind prog w ap where
 is:=jL
 hash:=rV w
 inj:=fun v a b ha hb=>by
  rcases keyIs_shape ha with⟨i,t,rfl,rfl⟩|⟨x,t,rfl,rfl⟩
  .rcases keyIs_shape hb with⟨j,u,rfl,e⟩|⟨y,u,rfl,e⟩
   .injection e with e1 _;rw[e1]
   .exact nomatch e
  .rcases keyIs_shape hb with⟨j,u,rfl,e⟩|⟨y,u,rfl,e⟩
   .exact nomatch e
   .injection e with e1 _;rw[e1]
 byValue:=fun k v h=>by rcases keyIs_shape h with⟨i,t,rfl,rfl⟩|⟨x,t,rfl,rfl⟩ <;> rfl
 pyHash:=fun hv h=>by
  rcases keyIs_shape hv with⟨i,t,rfl,rfl⟩|⟨x,t,rfl,rfl⟩
  .exact wpAny_pyHash_int h
  .exact wpAny_pyHash_str h
 eqBool:=fun hu hv h=>by
  rcases keyIs_shape hu with⟨i,t,rfl,rfl⟩|⟨x,t,rfl,rfl⟩
  .rcases keyIs_shape hv with⟨j,u,rfl,rfl⟩|⟨y,u,rfl,rfl⟩
   .rw[Af]at h;exact wpAny_eqBool_int h
   .rw[Ag]at h;exact LH i t y u _ _ _ _ h
  .rcases keyIs_shape hv with⟨j,u,rfl,rfl⟩|⟨y,u,rfl,rfl⟩
   .rw[Ah]at h;exact LI x t j u _ _ _ _ h
   .rw[Ai]at h;exact wpAny_eqBool_str h
 «strs»:=fun k x t v h=>by
  rcases keyIs_shape h with⟨i,u,rfl,e⟩|⟨y,u,rfl,e⟩
  .exact nomatch e
  .injection e with e1 _
   subst e1;cases v <;> rfl
theorem Fy(prog:u_)(w:Gz)(i:Int)(t:Tok):(dH prog w).is (.inl i) (.int i t)=true:=Ez i t
theorem Fz(prog:u_)(w:Gz)(x:Str)(t:Tok):(dH prog w).is (.inr x) (.str x t)=true:=EA x t
inductive V where
 |non|bl (b:Bool)|int (i:Int)|str (x:Str)|byt (b:Array UInt8)|flt (b:UInt64)|ref (a:Addr)|ty (n:String)
 deriving DecidableEq
def aj:V->a_->Prop
|.non,u=>u=Value.none
|.bl b,u=>u=Value.bool b
|.int i,u=>∃t,u=Value.int i t
|.str x,u=>∃t,u=Value.str x t
|.byt b,u=>∃t,u=Value.bytes b t
|.flt b,u=>∃t,u=Value.float b t
|.ref a,u=>u=Value.ref a
|.ty n,u=>u=Value.type n
abbrev ai:List V->List a_->Prop:=Paired aj
theorem ai.length{xs:List V}{us:List a_}(r:ai xs us):xs.length=us.length:=Paired.length r
theorem ai.get:∀{xs:List V}{us:List a_}{i:Nat}{x:V},ai xs us->xs[i]? = some x->∃u,us[i]? = some u/\aj x u
|_,_,_,_,.nil,e=>by simp at e
|_,_,0,_,.cons r _,e=>by simp at e;subst e;exact⟨_,rfl,r⟩
|_,_,i+1,x,.cons _ t,e=>by obtain⟨u,h1,h2⟩:=ai.get (i:=i) (x:=x) t (by simpa using e);exact⟨u,by simpa using h1,h2⟩
theorem ai.set{x:V}{u:a_}(r:aj x u):∀{xs:List V}{us:List a_}(i:Nat),ai xs us->ai (xs.set i x) (us.set i u)
|_,_,_,.nil=>.nil
|_,_,0,.cons _ t=>.cons r t
|_,_,i+1,.cons q t=>.cons q (ai.set r i t)
theorem ai.append{xs ys:List V}{us ws:List a_}(h:ai xs us)(h':ai ys ws):ai (xs++ys) (us++ws):=by induction h with
|nil=>exact h'
|cons r _ ih=>exact .cons r ih
theorem ai.take:∀{xs:List V}{us:List a_}(n:Nat),ai xs us->ai (xs.take n) (us.take n)
|_,_,0,_=>.nil
|_,_,_+1,.nil=>.nil
|_,_,n+1,.cons r t=>.cons r (ai.take n t)
theorem ai.drop:∀{xs:List V}{us:List a_}(n:Nat),ai xs us->ai (xs.drop n) (us.drop n)
|_,_,0,r=>r
|_,_,_+1,.nil=>.nil
|_,_,n+1,.cons _ t=>ai.drop n t
theorem ai.none_of:∀{xs:List V}{us:List a_}{i:Nat},ai xs us->xs[i]? = none->us[i]? = none:=fun{xs us i} r e=>by have h1:=r.length;have h2:xs.length<=i:=Kg.mp e;exact Kg.mpr (by omega)
def bY:Option V->Option a_->Prop
|some v,some u=>aj v u
|none,none=>True
|_,_=>False
def KV{κ:Type}:List (κ×V)->List (κ×a_)->Prop:=Paired fun(p:κ×V)(q:κ×a_)=>p.1=q.1/\aj p.2 q.2
def kV:ap->V
|.inl i=>.int i
|.inr x=>.str x
inductive HO where
 |lst (xs:List V)
 |tup (xs:List V)
 |dK (kvs:List (ap×V))|dT (kvs:List (List ap×V))
 |set (S:Int->Bool) (n:Nat)
 |ins (C dx:Addr) (fs:List (Str×V))
 |own (x:Addr)
 |xd (fs:List (Str×V))
 |met (f x:Addr)
 |rng (lo hi:Int)
 |frz (o:Obj) (u:HO)
 |tbl (ps:Array a_)
 |ext (φ:Heap->Prop)
abbrev Hp:=Addr->Option HO
def upd(H:Hp)(a:Addr)(o:HO):Hp:=fun b=>if b=a then some o else H b
theorem cj{H:Hp}{a:Addr}{o:HO}:upd H a o a=some o:=by unfold upd;rw[if_pos rfl]
theorem aN{H:Hp}{a b:Addr}{o:HO}(h:b≠a):upd H a o b=H b:=by unfold upd;rw[if_neg h]
theorem zH{H:Hp}{a b:Addr}{o u:HO}(h:H a=some o)(h':H b=some u)(d:o≠u):a≠b:=by intro e;subst e;rw[h]at h';exact d (Gw h')
theorem jk{H:Hp}{a b:Addr}{o:HO}(h:H a=some o)(h':H b=none):a≠b:=by intro e;subst e;rw[h]at h';cases h'
section
variable(P:u_)(w:Gz)
def bC(H:Hp)(h:Heap)(a:Addr):HO->Prop
|.lst xs=>xs.length<=sizeLine/\∃(its:List a_)(n:Nat),ai xs its/\h.get? a=some { cls:=.type "list",data:=.seq its.toArray n }
|.tup xs=>xs.length<=sizeLine/\∃its:List a_,ai xs its/\NY h a its.toArray/\∃o,h.get? a=some o/\o.dict=none
|.dK kvs=>kvs.length<=sizeLine/\(a==Ig)=false/\∃vs,KV kvs vs/\h.DictOf (dH P w) a vs
| .dT kvs=>kvs.length<=sizeLine/\(a == Ig)=false/\∃xs:List (List ap × Addr × a_),
   Paired (fun(p:List ap×V)(q:List ap×Addr×a_)=>p.1=q.1/\H q.2.1=some (.tup (p.1.map kV))/\aj p.2 q.2.2) kvs xs /\∃o es ep,h.get? a=some o/\o.ExactDict/\o.data=.dict es ep/\es.toList=xs.map (entryOfKey (Lx (dH P w)))/\(xs.map (·.1)).Nodup
|.set S n=>h.SetOf (LY P w) a S n
| .ins C dx fs=>H dx=some (.own a)/\fs.length<=1000/\dx≠a/\h.get? a=some (W.instObj C dx) /\
   ∃mA,h.Ns1 dx mA/\(∀f,bY (fs.lookup f) (mA f))/\PySem.Within mA (fs.map (·.1))
|.own _=>∃o,h.get? a=some o
|.xd fs=>∃mA,h.Ns1 a mA/\∀f,bY (fs.lookup f) (mA f)
|.rng lo hi=>∃t u v,h.get? a=some { cls:=.type "range",data:=.fields #[.int lo t,.int hi u,.int 1 v] }
|.frz o u=>h.get? a=some o/\bC H h a u
|.tbl ps=>h.get? a=some { cls:=.none,data:=.fields ps }
|.met f x=>h.get? a=some (W.methodObj (.ref f) (.ref x))
|.ext φ=>φ h/\(∃o,h.get? a=some o)/\∀h1 h2:Heap,φ h1->(∀o,h1.get? a=some o->h2.get? a=some o)->φ h2
def bO(H:Hp)(h:Heap):Prop:=∀a o,H a=some o->bC P w H h a o
end
section
variable{P:u_}{w:Gz}{H H':Hp}{h h':Heap}{a:Addr}{o:HO}
theorem bC.lt(x:bC P w H h a o):a<h.objs.size:=by cases o with
|lst xs=>obtain⟨_,_,_,_,e⟩:=x;exact q_ e
|tup xs=>obtain⟨_,_,_,p,_⟩:=x;exact p.lt
|dK kvs=>obtain⟨_,_,_,_,o,_,_,e,_⟩:=x;exact q_ e
|dT kvs=>obtain⟨_,_,_,_,o,_,_,e,_⟩:=x;exact q_ e
|set S n=>obtain⟨o,_,_,_,e,_⟩:=x;exact q_ e
|ins C dx fs=>obtain⟨_,_,_,e,_⟩:=x;exact q_ e
|own y=>obtain⟨_,e⟩:=x;exact q_ e
|xd fs=>obtain⟨_,⟨_,_,_,e,_⟩,_⟩:=x;exact q_ e
|rng lo hi=>obtain⟨_,_,_,e⟩:=x;exact q_ e
|frz ob u=>obtain⟨e,_⟩:=x;exact q_ e
|tbl ps=>exact q_ (show h.get? a=some _ from x)
|met f y=>exact q_ (show h.get? a=some _ from x)
|ext φ=>obtain⟨_,⟨_,e⟩,_⟩:=x;exact q_ e
theorem Paired.mapP{α β:Type}{F G:α->β->Prop}{l₁:List α}{l₂:List β}(h:Paired F l₁ l₂)(f:∀a b,F a b->G a b):Paired G l₁ l₂:=by induction h with
|nil=>exact .nil
|cons r _ ih=>exact .cons (f _ _ r) ih
theorem bC.stay(x:bC P w H h a o)(k:∀b u,(b=a\/H b=some (.own a))->h.get? b=some u->h'.get? b=some u)(ho:∀b,H b=some (.own a)->H' b=some (.own a))(ht:∀b xs,H b=some (.tup xs)->H' b=some (.tup xs)):bC P w H' h' a o:=by induction o with
|lst xs=>obtain⟨z,its,n,r,e⟩:=x;exact⟨z,its,n,r,k _ _ (.inl rfl) e⟩
|tup xs=>obtain⟨z,its,r,⟨ob,e,c⟩,ob2,e2,c2⟩:=x;exact⟨z,its,r,⟨ob,k _ _ (.inl rfl) e,c⟩,ob2,k _ _ (.inl rfl) e2,c2⟩
|dK kvs=>obtain⟨z,y,vs,r,ob,es,ep,e,c⟩:=x;exact⟨z,y,vs,r,ob,es,ep,k _ _ (.inl rfl) e,c⟩
|dT kvs=>obtain⟨z,y,xs,r,ob,es,ep,e,c⟩:=x;exact⟨z,y,xs,Paired.mapP r fun p q z=>⟨z.1,ht _ _ z.2.1,z.2.2⟩,ob,es,ep,k _ _ (.inl rfl) e,c⟩
|set S n=>obtain⟨ob,es,ep,t,e,c⟩:=x;exact⟨ob,es,ep,t,k _ _ (.inl rfl) e,c⟩
|ins C dx fs=>obtain⟨d,z,ne,e,mA,⟨od,es,ep,e2,c⟩,r⟩:=x;exact⟨ho _ d,z,ne,k _ _ (.inl rfl) e,mA,⟨od,es,ep,k _ _ (.inr d) e2,c⟩,r⟩
|own y=>obtain⟨ob,e⟩:=x;exact⟨ob,k _ _ (.inl rfl) e⟩
|xd fs=>obtain⟨mA,⟨od,es,ep,e,c⟩,r⟩:=x;exact⟨mA,⟨od,es,ep,k _ _ (.inl rfl) e,c⟩,r⟩
|rng lo hi=>obtain⟨t,u,v,e⟩:=x;exact⟨t,u,v,k _ _ (.inl rfl) e⟩
|frz ob u ih=>obtain⟨e,q⟩:=x;exact⟨k _ _ (.inl rfl) e,ih q⟩
|tbl ps=>have e:h.get? a=some { cls:=.none,data:=.fields ps }:=x;show h'.get? a=some { cls:=.none,data:=.fields ps };exact k a _ (.inl rfl) e
|met f y=>have e:h.get? a=some (W.methodObj (.ref f) (.ref y)):=x;show h'.get? a=some (W.methodObj (.ref f) (.ref y));exact k a _ (.inl rfl) e
|ext φ=>obtain⟨p,⟨o,e⟩,st⟩:=x;exact⟨st _ _ p fun o q=>k _ _ (.inl rfl) q,⟨o,k _ _ (.inl rfl) e⟩,st⟩
theorem bO.lt(x:bO P w H h)(e:H a=some o):a<h.objs.size:=(x a o e).lt
theorem bO.fresh(x:bO P w H h)(e:h.objs.size<=a):H a=none:=by cases q:H a with
|none=>rfl
|some u=>exact absurd (x_ (x.lt q) e) (HM _)
theorem bO.kept(x:bO P w H h)(k:∀b u,h.get? b=some u->h'.get? b=some u):bO P w H h':=fun a o e=>(x a o e).stay (fun b u _ q=>k b u q) (fun _ q=>q) fun _ _ q=>q
theorem bO.laid(x:bO P w H h)(k:∀b u,h.get? b=some u->h'.get? b=some u)(hp:h.objs.size<=a)(new:bC P w (upd H a o) h' a o):bO P w (upd H a o) h':=fun b u e=>by
 have hn:=x.fresh hp;by_cases hb:b=a
 .subst hb;rw[cj]at e;cases e;exact new
 .rw[aN hb]at e;exact(x b u e).stay (fun c v _ q=>k c v q) (fun c q=>by rw[aN (jk q hn)];exact q) fun c xs q=>by rw[aN (jk q hn)];exact q
end
def Rd(H:Hp)(a:Addr)(u:HO):Prop:=H a=some u\/∃o,H a=some (.frz o u)
theorem Rd.of{H:Hp}{a:Addr}{u:HO}(h:H a=some u):Rd H a u:=.inl h
theorem Rd.ok{P:u_}{w:Gz}{H:Hp}{h:Heap}{a:Addr}{u:HO}(r:Rd H a u)(x:bO P w H h):bC P w H h a u:=by
 rcases r with r|⟨o,r⟩
 .exact x a u r
 .obtain⟨_,q⟩:=x a _ r;exact q
def lU:Option HO->Prop
|some (.lst _)=>True
|some (.dK _)=>True
|some (.dT _)=>True
|some (.set _ _)=>True
|some (.ins _ _ _)=>True
|some (.ext _)=>True
|_=>False
section
variable{P:u_}{w:Gz}{H:Hp}{h h':Heap}{x e:Addr}{o':HO}
theorem bO.write(ok:bO P w H h)(mu:lU (H x))(he:e=x\/H e=some (.own x))(k:∀b u,b≠e->h.get? b=some u->h'.get? b=some u)(heo:∃u,h'.get? e=some u)(new:bC P w (upd H x o') h' x o'):bO P w (upd H x o') h':=fun b u q=>by
 have nown:∀c y,H c=some (.own y)->c≠x:=fun c y r z=>by subst z;rw[r]at mu;exact mu
 have ntup:∀c xs,H c=some (.tup xs)->c≠x:=fun c xs r z=>by subst z;rw[r]at mu;exact mu
 by_cases hb:b=x
 .subst hb;rw[cj]at q;cases q;exact new
 .rw[aN hb]at q;by_cases hbe:b=e
  .have q':H b=some (.own x):=by
    rcases he with z|z
    .exact absurd (hbe.trans z) hb
    .rw[hbe];exact z
   rw[q]at q';cases q';obtain⟨v,hv⟩:=heo;exact⟨v,by rw[hbe];exact hv⟩
  .refine(ok b u q).stay (fun c v hc r=>k c v ?_ r) (fun c r=>by rw[aN (nown c b r)];exact r) fun c xs r=>by rw[aN (ntup c xs r)];exact r
   rcases hc with rfl|hc
   .exact hbe
   .rintro rfl
    rcases he with z|z
    .exact nown c b hc z
    .rw[hc]at z;cases z;exact hb rfl
end
structure Un(fs ex:List Addr)(H H':Hp)(h h':Heap):Prop where
 keep:∀b o,h.get? b=some o->H b=none->b∉fs->b∉ex->h'.get? b=some o
 slot:∀b o,h.get? b=some o->H b=none->b∈fs->b∉ex->∃sl,h'.get? b=some { o with slots:=sl }
 free:∀b o,h.get? b=some o->H b=none->b∉ex->H' b=none
 there:∀b o,h.get? b=some o->b∉ex->∃o',h'.get? b=some o'
 tups:∀b xs,H b=some (.tup xs)->H' b=some (.tup xs)
 frzs:∀b o u,H b=some (.frz o u)->H' b=some (.frz o u)
 tbls:∀b ps,H b=some (.tbl ps)->∃more,H' b=some (.tbl (ps++more))
section
variable{fs fs' ex ex':List Addr}{H H1 H2:Hp}{h h1 h2 h':Heap}{a x e:Addr}{o:HO}
theorem Un.any(u:Un fs ex H H1 h h1){b:Addr}{ob:Obj}(q:h.get? b=some ob)(n:H b=none)(hx:b∉ex):∃sl,h1.get? b=some { ob with slots:=sl }:=by
 by_cases hb:b∈fs
 .exact u.slot b ob q n hb hx
 .exact⟨ob.slots,u.keep b ob q n hb hx⟩
theorem Un.trans(a:Un fs ex H H1 h h1)(b:Un fs ex H1 H2 h1 h2):Un fs ex H H2 h h2 where
 keep:=fun c ob q n hc hx=>b.keep c ob (a.keep c ob q n hc hx) (a.free c ob q n hx) hc hx
 slot:=fun c ob q n hc hx=>by obtain⟨sl,e1⟩:=a.slot c ob q n hc hx;obtain⟨sl',e2⟩:=b.slot c _ e1 (a.free c ob q n hx) hc hx;exact⟨sl',e2⟩
 free:=fun c ob q n hx=>by obtain⟨o',e1⟩:=a.there c ob q hx;exact b.free c o' e1 (a.free c ob q n hx) hx
 there:=fun c ob q hx=>by obtain⟨o',e1⟩:=a.there c ob q hx;exact b.there c o' e1 hx
 tups:=fun c xs q=>b.tups c xs (a.tups c xs q)
 frzs:=fun c ob xs q=>b.frzs c ob xs (a.frzs c ob xs q)
 tbls:=fun c ps q=>by obtain⟨m1,e1⟩:=a.tbls c ps q;obtain⟨m2,e2⟩:=b.tbls c _ e1;exact⟨m1++m2,by rw[e2,LJ]⟩
theorem Un.kept(k:∀b u,h.get? b=some u->h'.get? b=some u):Un fs ex H H h h':=⟨fun b ob q _ _ _=>k b ob q,fun b ob q _ _ _=>⟨ob.slots,k b ob q⟩,fun _ _ _ n _=>n,fun b ob q _=>⟨ob,k b ob q⟩,fun _ _ q=>q,fun _ _ _ q=>q,fun _ ps q=>⟨#[],by rw[q];simp⟩⟩
theorem Un.refl:Un fs ex H H h h:=Un.kept fun _ _ q=>q
theorem Un.laid(k:∀b u,h.get? b=some u->h'.get? b=some u)(hp:h.objs.size<=a)(hn:H a=none):Un fs ex H (upd H a o) h h' where
 keep:=fun b u q _ _ _=>k b u q
 slot:=fun b u q _ _ _=>⟨u.slots,k b u q⟩
 free:=fun b u q n _=>by rw[aN (F_ (x_ (q_ q) hp))];exact n
 there:=fun b u q _=>⟨u,k b u q⟩
 tups:=fun b xs q=>by rw[aN (jk q hn)];exact q
 frzs:=fun b u xs q=>by rw[aN (jk q hn)];exact q
 tbls:=fun b ps q=>⟨#[],by rw[aN (jk q hn),q];simp⟩
theorem Un.write(mu:lU (H x))(he:e=x\/H e=some (.own x))(k:∀b u,b≠e->h.get? b=some u->h'.get? b=some u)(heo:∃u,h'.get? e=some u):Un fs ex H (upd H x o) h h':=by
 have hx:∀b,H b=none->b≠x:=fun b n z=>by subst z;rw[n]at mu;exact mu
 have hb:∀b,H b=none->b≠e:=fun b n z=>by
  subst z;rcases he with r|r
  .exact hx b n r
  .rw[n]at r;cases r
 have hm:∀b u,H b=some u->¬ lU (some u)->b≠x:=fun b u q nm z=>by subst z;rw[q]at mu;exact nm mu
 refine⟨fun b u q n _ _=>k b u (hb b n) q,fun b u q n _ _=>⟨u.slots,k b u (hb b n) q⟩,fun b u q n _=>by rw[aN (hx b n)];exact n,fun b u q _=>?_,fun b xs q=>by rw[aN (hm b _ q fun z=>z)];exact q,fun b u xs q=>by rw[aN (hm b _ q fun z=>z)];exact q,fun b ps q=>⟨#[],by rw[aN (hm b _ q fun z=>z),q];simp⟩⟩;by_cases hbe:b=e
 .subst hbe;exact heo
 .exact⟨u,k b u hbe q⟩
theorem Un.mono(u:Un fs ex H H1 h h1)(hs:∀b∈fs,b∈fs')(hx:∀b∈ex,b∈ex'):Un fs' ex' H H1 h h1:=⟨fun b ob q n hb he=>u.keep b ob q n (fun z=>hb (hs b z)) fun z=>he (hx b z),fun _ _ q n _ he=>u.any q n fun z=>he (hx _ z),fun b ob q n he=>u.free b ob q n fun z=>he (hx b z),fun b ob q he=>u.there b ob q fun z=>he (hx b z),u.tups,u.frzs,u.tbls⟩
end
def trk(h:Heap)(H:Hp):List Addr:=(f_ h.objs.size).filter fun a=>(H a).isSome
def c8(h:Heap)(H:Hp):Heap:=W.hideAll h (trk h H)
theorem Ev(h:Heap)(H:Hp):(c8 h H).objs.size=h.objs.size:=W.hideAll_size _ _
theorem C8{h:Heap}{H:Hp}{b:Addr}{o:Obj}(e:h.get? b=some o)(n:H b=none):(c8 h H).get? b=some o:=W.hideAll_get _ e fun hm=>by have q:(H b).isSome=true:=(Jd.mp hm).2;rw[n]at q;simp at q
theorem BQ{h:Heap}{H:Hp}{b:Addr}{o:Obj}(e:(c8 h H).get? b=some o):h.get? b=some o/\H b=none:=by have e':h.get? b=some o:=W.of_hideAll (trk h H) e;refine⟨e',?_⟩;cases q:H b with
|none=>rfl
|some x=>have hm:b∈trk h H:=List.mem_filter.mpr ⟨z_.mpr (q_ e'),by simp[q]⟩;have z:(c8 h H).get? b=none:=W.hideAll_none (trk h H) hm;rw[z]at e;cases e
def kH(g h:Heap)(L:Addr):List (Addr×Obj):=(f_ h.objs.size).filterMap fun a=>if a=L\/(g.get? a).isSome=true then none else(h.get? a).map fun o=>(a,o)
theorem Fx{g h:Heap}{L a:Addr}{o:Obj}(h1:a≠L)(h2:g.get? a=none)(h3:h.get? a=some o):(a,o)∈kH g h L:=Jk.mpr ⟨a,z_.mpr (q_ h3),by simp[h1,h2,h3]⟩
theorem FY{g h:Heap}{L:Addr}{p:Addr×Obj}(hp:p∈kH g h L):p.1≠L/\g.get? p.1=none/\h.get? p.1=some p.2:=by
 obtain⟨b,_,e⟩:=Jk.mp hp;split at e
 .cases e
 .rename_i hn;cases q:h.get? b with
 |none=>rw[q]at e;simp at e
 |some u=>rw[q]at e;simp only[ID,Kh]at e;subst e;refine⟨fun z=>hn (.inl z),?_,q⟩;show g.get? b=none;cases r:g.get? b with
  |none=>rfl
  |some v=>exact(hn (.inr (by simp[r]))).elim
def rest(g h:Heap)(L d:Addr):List (Addr×Obj):=(kH g h L).filter fun p=>decide (p.1≠d)
theorem Dk{g h:Heap}{L:Addr}:News g L h (kH g h L):=fun p hp=>let⟨a,b,c⟩:=FY hp;⟨c,a,b⟩
structure Mod(K:W.Frag)(mg:Str->Option a_)(base:Heap):Prop where
 kin:K.In base
 glob:base.Ns Hr mg
 blt:∃mb,base.Ns ML mb/\∀x:Str,x≠"__name__"->mb x=IT x
 nolimit:base.NoLimit
structure Cx where
 prog:u_
 w:Gz
 K:W.Frag
 mg:Str->Option a_
 base:Heap
 A:GP
 N:List Str
 s₀:e_
 H₀:Hp
 env:Env
 outer:List Env
 stack:List Env
 ex:List Addr
 fn:Str->Bool
 calm:Bool
 pn:List (Addr×Obj)
 xe:a_->e_->Prop
def cL(l:List Env):List Addr:=l.filterMap (·.frame)
abbrev Cx.fs(X:Cx):List Addr:=cL X.outer
def dC(sc:Ii)(x:Str):Prop:=sc.names.lookup x=some .local\/sc.names.lookup x=some .cell\/sc.names.lookup x=some .free
def fK(sc:Ii)(x:Str):Prop:=sc.names.lookup x=some .local\/sc.names.lookup x=some .cell
theorem dN{sc:Ii}{x:Str}(h:(match sc.names.lookup x with|some .local=>true|some .cell=>true|some .free=>true|_=>false)=true):dC sc x:=by
 revert h;unfold dC;split<;>intro h
 .exact .inl (by assumption)
 .exact .inr (.inl (by assumption))
 .exact .inr (.inr (by assumption))
 .cases h
def so(env:Env)(h:Heap)(m:Str->Option a_)(x:Str)(u:a_):Prop:=(env.kindOf x=some .local/\m x=some u)\/((env.kindOf x=some .cell\/env.kindOf x=some .free)/\∃c,env.cells.lookup x=some c/\h.IsCell c (some u))
structure Cx.Ok(X:Cx):Prop where
 mod:Mod X.K X.mg X.base
 kind:X.env.scope.kind=.function
 glob:X.env.globals=Hr
 blt:X.env.builtins=ML
 above:X.s₀.heap.objs.size<=X.env.locals
 inj:∀x y c,X.env.cells.lookup x=some c->X.env.cells.lookup y=some c->x=y
 has:∀x,(X.env.kindOf x=some .cell\/X.env.kindOf x=some .free)->∃c,X.env.cells.lookup x=some c
 cab:∀x c,X.fn x=true->X.env.cells.lookup x=some c->X.s₀.heap.objs.size<=c
 hd:X.calm=true->X.A.handled=none
 frames:X.A.frames=some X.stack
 stk:X.stack=X.outer\/(X.stack=X.env::X.outer/\X.env.frame=some X.env.locals)
 exf:∀b∈X.ex,b≠X.env.locals/\∀x c,X.env.cells.lookup x=some c->c≠b
 bs:∀b o,X.base.get? b=some o->X.s₀.heap.get? b=some o/\X.H₀ b=none
 bsz:X.base.objs.size<=X.s₀.heap.objs.size
 noex:∀b o,X.base.get? b=some o->b∉X.ex
 exfs:∀b∈X.ex,b∉X.fs
 funs:X.s₀.heap.FunFrames X.base X.outer
 frf:∀b∈X.fs,X.H₀ b=none
structure Inv(X:Cx)(pz:List (Addr×Obj))(σ:List (Option V))(H:Hp)(s:e_):Prop where
 ok:X.Ok
 os:s.os=X.s₀.os
 bare:JG s.gens
 base:Un X.fs X.ex X.H₀ H X.s₀.heap s.heap
 loc:∃m,s.heap.Ns X.env.locals m/\∀(i:Nat)(x:Str)(v:V),X.N[i]? = some x->σ[i]? = some (some v)->dC X.env.scope x->∃u,aj v u/\so X.env s.heap m x u
 cell:∀x c,X.env.cells.lookup x=some c->∃v,s.heap.IsCell c v
 free:H X.env.locals=none
 freeC:∀x c,X.env.cells.lookup x=some c->H c=none
 pin:∀p∈X.pn++pz,s.heap.get? p.1=some p.2/\H p.1=none/\p.1≠X.env.locals/\p.1∉X.fs/\∀v,p.2.data≠.cell v
 hok:bO X.prog X.w H s.heap
 len:σ.length=X.N.length
section
variable{X:Cx}{pz:List (Addr×Obj)}{σ:List (Option V)}{H H':Hp}{s:e_}{h':Heap}
theorem Cx.Ok.nofr(ok:X.Ok){b:Addr}{o:Obj}(e:X.base.get? b=some o):b∉X.fs:=fun hb=>by have:=(ok.funs.mem hb).1;rw[e]at this;cases this
theorem Inv.bs(I:Inv X pz σ H s):∀b o,X.base.get? b=some o->s.heap.get? b=some o/\H b=none:=fun b o e=>⟨I.base.keep b o (I.ok.bs b o e).1 (I.ok.bs b o e).2 (I.ok.nofr e) (I.ok.noex b o e),I.base.free b o (I.ok.bs b o e).1 (I.ok.bs b o e).2 (I.ok.noex b o e)⟩
theorem Inv.bk(I:Inv X pz σ H s):∀b o,X.base.get? b=some o->s.heap.get? b=some o:=fun b o e=>(I.bs b o e).1
theorem Inv.mod(I:Inv X pz σ H s):Mod X.K X.mg X.base:=I.ok.mod
theorem Inv.kIn(I:Inv X pz σ H s):X.K.In s.heap:=I.ok.mod.kin.keeps I.bk
theorem Inv.nolimit(I:Inv X pz σ H s):s.heap.NoLimit:=I.ok.mod.nolimit.keeps I.bk
theorem Inv.fr(I:Inv X pz σ H s):∃m,Fr X.base X.env.locals s.heap m:=let⟨m,hn,_⟩:=I.loc
 ⟨m,hn,I.bk,GY I.ok.bsz I.ok.above⟩
theorem Inv.lt(I:Inv X pz σ H s):X.env.locals<s.heap.objs.size:=let⟨_,hn,_⟩:=I.loc;hn.lt
theorem Inv.sz(I:Inv X pz σ H s):X.s₀.heap.objs.size<=s.heap.objs.size:=GY I.ok.above (LZ I.lt)
theorem Inv.nofs(I:Inv X pz σ H s){a:Addr}(h:s.heap.objs.size<=a):a∉X.fs:=fun hb=>by obtain⟨_,o,ho,_⟩:=I.ok.funs.mem hb;exact absurd (x_ (q_ ho) (GY I.sz h)) (HM _)
theorem Inv.cne(I:Inv X pz σ H s):∀x c,X.env.cells.lookup x=some c->c≠X.env.locals:=fun x c e z=>by obtain⟨v,o,ho,hd⟩:=I.cell x c e;obtain⟨m,⟨o',es,ep,ho',hd',_⟩,_⟩:=I.loc;rw[z,ho']at ho;cases ho;rw[hd']at hd;cases hd
theorem Inv.funs(I:Inv X pz σ H s):s.heap.FunFrames X.base X.outer:=by
 have all:∀(l:List Env),(∀b∈cL l,b∈X.fs)->X.s₀.heap.FunFrames X.base l->s.heap.FunFrames X.base l:=by
  intro l
  induction l with
 |nil=>intro _ _;trivial
 |cons env r ih=>intro hs hl;obtain⟨hk,⟨L,o,hf,hn,ho,hd⟩,hr⟩:=hl;have hL:L∈X.fs:=hs L (by unfold cL;rw[Ik,hf];exact i_);obtain⟨sl,e⟩:=I.base.slot L o ho (I.ok.frf L hL) hL fun z=>I.ok.exfs L z hL;exact⟨hk,⟨L,_,hf,hn,e,hd⟩,ih (fun b hb=>hs b (by unfold cL;rw[Ik,hf];exact g_ _ hb)) hr⟩
 exact all X.outer (fun _ hb=>hb) I.ok.funs
theorem Inv.stack(I:Inv X pz σ H s):s.heap.FunFrames X.base X.stack:=by
 rcases I.ok.stk with e|⟨e,hf⟩
 .rw[e];exact I.funs
 .rw[e];obtain⟨m,hn,_⟩:=I.loc;refine .cons (by rw[I.ok.kind];decide) hf hn ?_ I.funs;exact Heap.get?_none_of_le (GY I.ok.bsz I.ok.above)
theorem Inv.stkSub(I:Inv X pz σ H s):∀b∈cL X.stack,b∈X.env.locals::X.fs:=fun b hb=>by
 rcases I.ok.stk with e|⟨e,hf⟩
 .rw[e]at hb;exact g_ _ hb
 .rw[e]at hb;unfold cL at hb;rw[Ik,hf]at hb;exact hb
theorem Inv.stkFree(I:Inv X pz σ H s):∀b∈cL X.stack,H b=none:=fun b hb=>by
 rcases n_.mp (I.stkSub b hb)with e|hb
 .rw[e];exact I.free
 .obtain⟨_,o,ho,_⟩:=I.ok.funs.mem hb;exact I.base.free b o ho (I.ok.frf b hb) fun z=>I.ok.exfs b z hb
theorem Inv.step{g':Array MM}{t':Nat}{d':Drawn}{ch:List Addr}(I:Inv X pz σ H s)(hch:∀b∈ch,(b∈X.ex\/X.s₀.heap.objs.size<=b)/\b≠X.env.locals/\(∀x c,X.env.cells.lookup x=some c->c≠b)/\∀p∈X.pn++pz,p.1≠b)(keep:∀b o,b≠X.env.locals->b∉X.fs->b∉ch->s.heap.get? b=some o->H b=none->h'.get? b=some o)(slot:∀b o,b≠X.env.locals->b∈X.fs->b∉ch->s.heap.get? b=some o->H b=none->∃sl,h'.get? b=some { o with slots:=sl })(free:∀b o,b∉ch->s.heap.get? b=some o->H b=none->H' b=none)(there:∀b o,b∉ch->s.heap.get? b=some o->∃o',h'.get? b=some o')(tups:∀b xs,H b=some (.tup xs)->H' b=some (.tup xs))(frzs:∀b o u,H b=some (.frz o u)->H' b=some (.frz o u))(tbls:∀b ps,H b=some (.tbl ps)->∃more,H' b=some (.tbl (ps++more)))(ns:∀m,s.heap.Ns X.env.locals m->h'.Ns X.env.locals m)(hok:bO X.prog X.w H' h')(hg:JG g'):Inv X pz σ H' { s with heap:=h',gens:=g',drawn:=d',toks:=t' }:=by
 have neL:∀b o,X.s₀.heap.get? b=some o->b≠X.env.locals:=fun b o e=>F_ (x_ (q_ e) I.ok.above);have neC:∀b o,X.s₀.heap.get? b=some o->b∉X.ex->b∉ch:=fun b o e hx hb=>by
  rcases(hch b hb).1 with z|z
  .exact hx z
  .exact absurd (x_ (q_ e) z) (HM _)
 have cellK:∀x c,X.env.cells.lookup x=some c->∀v,s.heap.IsCell c v->h'.IsCell c v:=fun x c e v ⟨o,ho,hd⟩=>by
  have nch:c∉ch:=fun z=>(hch c z).2.2.1 x c e rfl;by_cases hc:c∈X.fs
  .obtain⟨sl,q⟩:=slot c o (I.cne x c e) hc nch ho (I.freeC x c e);exact⟨_,q,hd⟩
  .exact⟨o,keep c o (I.cne x c e) hc nch ho (I.freeC x c e),hd⟩
 refine⟨I.ok,I.os,hg,⟨fun b o e n hb hx=>?_,fun b o e n hb hx=>?_,fun b o e n hx=>?_,fun b o e hx=>?_,fun b xs e=>tups b xs (I.base.tups b xs e),fun b o xs e=>frzs b o xs (I.base.frzs b o xs e),fun b ps e=>?_⟩,?_,fun x c e=>?_,?_,fun x c e=>?_,fun p hp=>?_,hok,I.len⟩
 .exact keep b o (neL b o e) hb (neC b o e hx) (I.base.keep b o e n hb hx) (I.base.free b o e n hx)
 .obtain⟨sl,e1⟩:=I.base.slot b o e n hb hx;obtain⟨sl',e2⟩:=slot b _ (neL b o e) hb (neC b o e hx) e1 (I.base.free b o e n hx);exact⟨sl',e2⟩
 .obtain⟨o',e1⟩:=I.base.there b o e hx;exact free b o' (neC b o e hx) e1 (I.base.free b o e n hx)
 .obtain⟨o',e1⟩:=I.base.there b o e hx;exact there b o' (neC b o e hx) e1
 .obtain⟨m1,e1⟩:=I.base.tbls b ps e;obtain⟨m2,e2⟩:=tbls b _ e1;exact⟨m1++m2,by rw[e2,LJ]⟩
 .obtain⟨m,hn,hl⟩:=I.loc;refine⟨m,ns m hn,fun i x v e1 e2 e3=>?_⟩;obtain⟨u,r,l⟩:=hl i x v e1 e2 e3;refine⟨u,r,?_⟩;rcases l with l|⟨k,c,e,z⟩
  .exact .inl l
  .exact .inr ⟨k,c,e,cellK x c e _ z⟩
 .obtain⟨v,z⟩:=I.cell x c e;exact⟨v,cellK x c e v z⟩
 .obtain⟨m,⟨o,_,_,ho,_⟩,_⟩:=I.loc;exact free _ o (fun z=>(hch _ z).2.1 rfl) ho I.free
 .obtain⟨v,o,ho,hd⟩:=I.cell x c e;exact free c o (fun z=>(hch c z).2.2.1 x c e rfl) ho (I.freeC x c e)
 .obtain⟨e,n,ne,nf,d⟩:=I.pin p hp;have nch:p.1∉ch:=fun z=>(hch p.1 z).2.2.2 p hp rfl;exact⟨keep p.1 p.2 ne nf nch e n,free p.1 p.2 nch e n,ne,nf,d⟩
theorem Inv.un{t':Nat}(I:Inv X pz σ H s)(u:Un X.fs [] H H' s.heap h')(hok:bO X.prog X.w H' h'):Inv X pz σ H' { s with heap:=h',toks:=t' }:=by obtain⟨m,⟨o,es,ep,ho,r⟩,_⟩:=id I.loc;obtain⟨sl,hL⟩:=u.any ho I.free (by simp);exact I.step (g':=s.gens) (d':=s.drawn) (ch:=[]) (fun _ z=>nomatch z) (fun b o _ hb _ e n=>u.keep b o e n hb (by simp)) (fun b o _ hb _ e n=>u.slot b o e n hb (by simp)) (fun b o _ e n=>u.free b o e n (by simp)) (fun b o _ e=>u.there b o e (by simp)) u.tups u.frzs u.tbls (fun m' hm=>by obtain⟨o',es',ep',ho',r'⟩:=hm;rw[ho]at ho';cases ho';exact⟨_,es',ep',hL,r'⟩) hok I.bare
theorem Inv.call{g':Array MM}{t':Nat}{d':Drawn}{ch:List Addr}(I:Inv X pz σ H s)(u:Un (cL X.stack) ch H H' s.heap h')(hok:bO X.prog X.w H' h')(hg:JG g')(hch:∀b∈ch,(b∈X.ex\/X.s₀.heap.objs.size<=b)/\b≠X.env.locals/\(∀x c,X.env.cells.lookup x=some c->c≠b)/\∀p∈X.pn++pz,p.1≠b):Inv X pz σ H' { s with heap:=h',gens:=g',drawn:=d',toks:=t' }:=by obtain⟨m,⟨o,es,ep,ho,r⟩,_⟩:=id I.loc;obtain⟨sl,hL⟩:=u.any ho I.free fun z=>(hch _ z).2.1 rfl;exact I.step (ch:=ch) hch (fun b o hL hb hc e n=>u.keep b o e n (fun z=>(n_.mp (I.stkSub b z)).elim hL hb) hc) (fun b o _ _ hc e n=>u.any e n hc) (fun b o hc e n=>u.free b o e n hc) (fun b o hc e=>u.there b o e hc) u.tups u.frzs u.tbls (fun m' hm=>by obtain⟨o',es',ep',ho',r'⟩:=hm;rw[ho]at ho';cases ho';exact⟨_,es',ep',hL,r'⟩) hok hg
theorem Inv.turned{t':Nat}{it:Addr}(I:Inv X pz σ H s)(k:∀b o,b≠it->s.heap.get? b=some o->h'.get? b=some o)(hn:H it=none)(hL:it≠X.env.locals)(h1:it∈X.ex\/X.s₀.heap.objs.size<=it)(h2:∀x c,X.env.cells.lookup x=some c->c≠it)(h3:∀p∈X.pn++pz,p.1≠it):Inv X pz σ H { s with heap:=h',toks:=t' }:=by
 have nit:∀b u,H b=some u->b≠it:=fun b u e z=>by rw[z,hn]at e;cases e
 refine I.step (g':=s.gens) (d':=s.drawn) (ch:=[it]) (fun b hb=>?_) (fun b o _ _ hc e _=>k b o (fun z=>hc (by simp[z])) e) (fun b o _ _ hc e _=>⟨o.slots,k b o (fun z=>hc (by simp[z])) e⟩) (fun _ _ _ _ n=>n)
  (fun b o hc e=>⟨o,k b o (fun z=>hc (by simp[z])) e⟩) (fun _ _ e=>e) (fun _ _ _ e=>e) (fun b ps e=>⟨#[],by rw[e];simp⟩) (fun m hm=>?_) (fun b u e=>?_) I.bare
 .have e:b=it:=by simpa using hb
  subst e;exact⟨h1,hL,h2,h3⟩
 .obtain⟨o,es,ep,ho,r⟩:=hm;exact⟨o,es,ep,k _ o (H_ hL) ho,r⟩
 .refine(I.hok b u e).stay (fun c v hc q=>k c v ?_ q) (fun _ q=>q) fun _ _ q=>q;rcases hc with z|z
  .rw[z];exact nit b u e
  .exact nit c _ z
theorem Inv.tok(I:Inv X pz σ H s)(t:Nat):Inv X pz σ H { s with toks:=t }:=I.un (h':=s.heap) (t':=t) Un.refl I.hok
theorem Inv.kept{t':Nat}(I:Inv X pz σ H s)(k:∀b u,s.heap.get? b=some u->h'.get? b=some u):Inv X pz σ H { s with heap:=h',toks:=t' }:=I.un (Un.kept k) (I.hok.kept k)
theorem Inv.laid{a:Addr}{o:HO}{t':Nat}(I:Inv X pz σ H s)(k:∀b u,s.heap.get? b=some u->h'.get? b=some u)(hp:s.heap.objs.size<=a)(new:bC X.prog X.w (upd H a o) h' a o):Inv X pz σ (upd H a o) { s with heap:=h',toks:=t' }:=I.un (Un.laid k hp (I.hok.fresh hp)) (I.hok.laid k hp new)
theorem Inv.write{x e:Addr}{o:HO}{t':Nat}(I:Inv X pz σ H s)(mu:lU (H x))(he:e=x\/H e=some (.own x))(k:∀b u,b≠e->s.heap.get? b=some u->h'.get? b=some u)(heo:∃u,h'.get? e=some u)(new:bC X.prog X.w (upd H x o) h' x o):Inv X pz σ (upd H x o) { s with heap:=h',toks:=t' }:=I.un (Un.write mu he k heo) (I.hok.write mu he k heo new)
theorem Inv.pins_of{pins':List (Addr×Obj)}(I:Inv X pz σ H s)(h:∀p∈pins',s.heap.get? p.1=some p.2/\H p.1=none/\p.1≠X.env.locals/\p.1∉X.fs/\∀v,p.2.data≠.cell v):Inv X pins' σ H s:=⟨I.ok,I.os,I.bare,I.base,I.loc,I.cell,I.free,I.freeC,fun p hp=>(He.mp hp).elim (fun z=>I.pin p (GJ _ z)) (h p),I.hok,I.len⟩
theorem w6{N:List Str}(hN:N.Nodup){i j:Nat}{x:Str}(a:N[i]? = some x)(b:N[j]? = some x):i=j:=by obtain⟨h1,e1⟩:=h_.mp a;obtain⟨h2,e2⟩:=h_.mp b;exact(Ky hN).mp (e1.trans e2.symm)
theorem xV{M:Model}{A:GP}{E:a_->e_->Prop}{i:Nat}{x:Str}{v:V}{u:a_}{Q:Unit->e_->Prop}(I:Inv X pz σ H s)(hN:X.N.Nodup)(hi:X.N[i]? = some x)(hx:fK X.env.scope x)(r:aj v u)(h:∀s',Inv X pz (σ.set i (some v)) H s'->(∃a,Jq a s.heap s'.heap/\(a=X.env.locals\/X.env.cells.lookup x=some a))->Q () s')(hf:X.fn x=true\/X.env.scope.names.lookup x=some .local:=by first|exact .inl rfl|exact .inr rfl|assumption):B_ M A (storeName X.env x u) Q E s:=by
 obtain⟨m,hn,hl⟩:=id I.loc;have hcls:(X.env.scope.kind==.class || (X.env.scope.kind==.module&&X.env.locals != X.env.globals))=false:=by rw[I.ok.kind];rfl
 have hiσ:i<σ.length:=by rw[I.len];exact(h_.mp hi).1
 have cne:=I.cne;have tracked:∀{a:Addr}{h':Heap},(∃o,s.heap.get? a=some o/\H a=none)->Jq a s.heap h'->bO X.prog X.w H h':=fun{a h'} ha hs b ob e=>by
  obtain⟨_,_,hfree⟩:=ha;refine(I.hok b ob e).stay (fun c w' hc q=>(hs.2 c ?_).trans q) (fun _ q=>q) fun _ _ q=>q
  rintro rfl
  rcases hc with rfl|hc
  .rw[hfree]at e;cases e
  .rw[hfree]at hc;cases hc
 rcases hx with hk|hk
 .refine wpAny_storeName_local hk hn (fun h' hn' hs=>?_) hcls;obtain⟨oL,_,_,hoL,_⟩:=id hn;refine h _ ⟨I.ok,I.os,I.bare,⟨fun b o e n hb hx=>?_,fun b o e n hb hx=>?_,I.base.free,fun b o e hx=>?_,I.base.tups,I.base.frzs,I.base.tbls⟩,⟨_,hn',fun j y v' e1 e2 e3=>?_⟩,fun y c e=>?_,I.free,I.freeC,fun p hp=>?_,tracked ⟨oL,hoL,I.free⟩ hs,by simpa using I.len⟩ ⟨_,hs,.inl rfl⟩
  .exact(hs.2 b (F_ (x_ (q_ e) I.ok.above))).trans (I.base.keep b o e n hb hx)
  .obtain⟨sl,e1⟩:=I.base.slot b o e n hb hx;exact⟨sl,(hs.2 b (F_ (x_ (q_ e) I.ok.above))).trans e1⟩
  .obtain⟨o',e1⟩:=I.base.there b o e hx;exact⟨o',(hs.2 b (F_ (x_ (q_ e) I.ok.above))).trans e1⟩
  .by_cases hj:j=i
   .subst hj;rw[hi]at e1;cases e1;rw[l_ hiσ]at e2;cases e2;exact⟨u,r,.inl ⟨hk,by simp⟩⟩
   .rw[b_ (H_ hj)]at e2;obtain⟨u',r',q⟩:=hl j y v' e1 e2 e3;refine⟨u',r',?_⟩;rcases q with⟨k,e⟩|⟨k,c,e,z⟩
    .refine .inl ⟨k,?_⟩;have:y≠x:=fun e=>hj (w6 hN e1 (e▸hi));simp[this,e]
    .exact .inr ⟨k,c,e,z.sameBut hs (cne y c e)⟩
  .obtain⟨w',z⟩:=I.cell y c e;exact⟨w',z.sameBut hs (cne y c e)⟩
  .obtain⟨e,n,ne,nf,d⟩:=I.pin p hp;exact⟨(hs.2 p.1 ne).trans e,n,ne,nf,d⟩
 .have hfn:X.fn x=true:=by
   rcases hf with z|z
   .exact z
   .rw[z]at hk;cases hk
  obtain⟨c,hc⟩:=I.ok.has x (.inl hk);obtain⟨w',z⟩:=I.cell x c hc;refine wpAny_storeName_cell I.ok.kind hk hc z (fun h' hc' hs=>?_);obtain⟨oc,hoc,hocd⟩:=id z;refine h { s with heap:=h' } ⟨I.ok,I.os,I.bare,⟨fun b o e n hb hx=>?_,fun b o e n hb hx=>?_,I.base.free,fun b o e hx=>?_,I.base.tups,I.base.frzs,I.base.tbls⟩,⟨m,hn.sameBut hs (H_ (cne x c hc)),fun j y v' e1 e2 e3=>?_⟩,fun y c' e=>?_,I.free,I.freeC,fun p hp=>?_,tracked ⟨oc,hoc,I.freeC x c hc⟩ hs,by simpa using I.len⟩ ⟨c,hs,.inr hc⟩
  .exact(hs.2 b (F_ (x_ (q_ e) (I.ok.cab x c hfn hc)))).trans (I.base.keep b o e n hb hx)
  .obtain⟨sl,e1⟩:=I.base.slot b o e n hb hx;exact⟨sl,(hs.2 b (F_ (x_ (q_ e) (I.ok.cab x c hfn hc)))).trans e1⟩
  .obtain⟨o',e1⟩:=I.base.there b o e hx;exact⟨o',(hs.2 b (F_ (x_ (q_ e) (I.ok.cab x c hfn hc)))).trans e1⟩
  .by_cases hj:j=i
   .subst hj;rw[hi]at e1;cases e1;rw[l_ hiσ]at e2;cases e2;exact⟨u,r,.inr ⟨.inl hk,c,hc,hc'⟩⟩
   .rw[b_ (H_ hj)]at e2;obtain⟨u',r',q⟩:=hl j y v' e1 e2 e3;refine⟨u',r',?_⟩;rcases q with q|⟨k,c',e,z'⟩
    .exact .inl q
    .refine .inr ⟨k,c',e,z'.sameBut hs ?_⟩
     rintro rfl
     exact hj (w6 hN e1 (I.ok.inj _ _ _ e hc▸hi))
  .by_cases hcc:c'=c
   .subst hcc;exact⟨_,hc'⟩
   .obtain⟨w2,z2⟩:=I.cell y c' e;exact⟨w2,z2.sameBut hs hcc⟩
  .obtain⟨e,n,ne,nf,d⟩:=I.pin p hp;refine⟨(hs.2 p.1 ?_).trans e,n,ne,nf,d⟩;intro q;rw[q,hoc]at e;have q':oc=p.2:=Gw e;exact d w' (by rw[<-q'];exact hocd)
theorem xk{M:Model}{A:GP}{E:a_->e_->Prop}{i:Nat}{x:Str}{v:V}{u:a_}{Q:Unit->e_->Prop}(I:Inv X pz σ H s)(hN:X.N.Nodup)(hi:X.N[i]? = some x)(hx:fK X.env.scope x)(r:aj v u)(h:∀s',Inv X pz (σ.set i (some v)) H s'->Q () s')(hf:X.fn x=true\/X.env.scope.names.lookup x=some .local:=by first|exact .inl rfl|exact .inr rfl|assumption):B_ M A (storeName X.env x u) Q E s:=xV I hN hi hx r (fun s' I' _=>h s' I') hf
theorem Inv.call'{s':e_}{ch:List Addr}(I:Inv X pz σ H s)(ho:s'.os=s.os)(u:Un (cL X.stack) ch H H' s.heap s'.heap)(hok:bO X.prog X.w H' s'.heap)(hg:JG s'.gens)(hch:∀b∈ch,(b∈X.ex\/X.s₀.heap.objs.size<=b)/\b≠X.env.locals/\(∀x c,X.env.cells.lookup x=some c->c≠b)/\∀p∈X.pn++pz,p.1≠b):Inv X pz σ H' s':=by obtain⟨h',g',d',t',o'⟩:=s';have e:o'=s.os:=ho;subst e;exact I.call (g':=g') (t':=t') (d':=d') u hok hg hch
end
abbrev XK:=a_->Option Addr->Hp->Prop
abbrev St:=List (Option V)
abbrev VK:=V->Hp->Prop
abbrev TE:=St->Hp->VK->Prop
abbrev TT:=St->Hp->(Bool->Hp->Prop)->Prop
abbrev TA:=St->Hp->(List V->Hp->Prop)->Prop
structure Ends where
 nx:St->Hp->Prop
 rt:VK
 bk:St->Hp->Prop:=fun _ _=>False
 ct:St->Hp->Prop:=fun _ _=>False
abbrev TS:=Ends->St->Hp->Prop
def EP(X:Cx)(pz:List (Addr×Obj))(σ:St)(Q:VK)(u:a_)(s':e_):Prop:=∃v H',Inv X pz σ H' s'/\aj v u/\Q v H'
def TP(X:Cx)(pz:List (Addr×Obj))(σ:St)(Q:Bool->Hp->Prop)(b:Bool)(s':e_):Prop:=∃H',Inv X pz σ H' s'/\Q b H'
def AP(X:Cx)(pz:List (Addr×Obj))(σ:St)(Q:List V->Hp->Prop)(us:List a_)(s':e_):Prop:=∃vs H',Inv X pz σ H' s'/\ai vs us/\Q vs H'
def SP(X:Cx)(pz:List (Addr×Obj))(D:Ends)(f:Flow)(s':e_):Prop:=match f with
|.next=>∃σ' H',Inv X pz σ' H' s'/\D.nx σ' H'
|.brk=>∃σ' H',Inv X pz σ' H' s'/\D.bk σ' H'
|.cont=>∃σ' H',Inv X pz σ' H' s'/\D.ct σ' H'
|.ret u=>∃v σ' H',Inv X pz σ' H' s'/\aj v u/\D.rt v H'
def PE(X:Cx)(e:Expr)(t:TE):Prop:=∀(pz:List (Addr×Obj))(s:e_)(σ:St)(H:Hp)(Q:VK),Inv X pz σ H s->t σ H Q->B_ (Gy X.prog X.w) X.A (eval e X.env) (EP X pz σ Q) X.xe s
def PT(X:Cx)(e:Expr)(t:TT):Prop:=∀(pz:List (Addr×Obj))(s:e_)(σ:St)(H:Hp)(Q:Bool->Hp->Prop),Inv X pz σ H s->t σ H Q->B_ (Gy X.prog X.w) X.A (isTrue e X.env (eval e X.env)) (TP X pz σ Q) X.xe s
def PW(X:Cx)(e:Expr)(t:TT):Prop:=∀(whole:Sem a_)(pz:List (Addr×Obj))(s:e_)(σ:St)(H:Hp)(Q:Bool->Hp->Prop),Inv X pz σ H s->t σ H Q->B_ (Gy X.prog X.w) X.A (isTrue e X.env whole) (TP X pz σ Q) X.xe s
theorem PW.pt{X:Cx}{e:Expr}{t:TT}(h:PW X e t):PT X e t:=h _
def PA(X:Cx)(es:List Expr)(t:TA):Prop:=∀(pos:Pos)(pz:List (Addr×Obj))(s:e_)(σ:St)(H:Hp)(Q:List V->Hp->Prop),Inv X pz σ H s->t σ H Q->B_ (Gy X.prog X.w) X.A (spliced (backTo pos (k_ es X.env))) (AP X pz σ Q) X.xe s
def PS(X:Cx)(st:Stmt)(t:TS):Prop:=∀(pz:List (Addr×Obj))(s:e_)(σ:St)(H:Hp)(D:Ends),Inv X pz σ H s->t D σ H->B_ (Gy X.prog X.w) X.A (exec st X.env) (SP X pz D) X.xe s
def cm(X:Cx)(st:List Stmt)(t:TS):Prop:=∀(pz:List (Addr×Obj))(s:e_)(σ:St)(H:Hp)(D:Ends),Inv X pz σ H s->t D σ H->B_ (Gy X.prog X.w) X.A (execs st X.env) (SP X pz D) X.xe s
theorem aE{α:Type}{t:Sem α}{Q Q':α->e_->Prop}{M:Model}{A:GP}{E:a_->e_->Prop}{s:e_}(h:B_ M A t Q E s)(hQ:∀a s,Q a s->Q' a s):B_ M A t Q' E s:=HK h hQ fun _ _ x=>x
section
variable{X:Cx}
def rn(i:Nat):TE:=fun σ H Q=>∃v,σ[i]? = some (some v)/\Q v H
def tC(v:V):TE:=fun _ H Q=>Q v H
theorem fO{i:Nat}{x:Str}{pos:Pos}(hN:X.N[i]? = some x)(hv:dC X.env.scope x)(hd:(x==("__debug__" : Str))=false:=by decide)(hcd:(x==("__classdict__" : Str))=false:=by decide):PE X (.Name x pos) (rn i):=by
 intro pz s σ H Q I h;obtain⟨v,e,h⟩:=h;obtain⟨m,hn,hl⟩:=I.loc;obtain⟨u,r,l⟩:=hl i x v hN e hv;have fin:EP X pz σ Q u s:=⟨v,H,I,r,h⟩
 rcases l with⟨hk,hm⟩|⟨hk,c,hc,hcell⟩
 .exact MN (wpAny_loadName_local I.ok.kind hk hn hm fin) hd
 .rcases hk with hk|hk
  .exact MN (wpAny_loadName_cell I.ok.kind hk hc hcell fin) hd
  .exact MN (wpAny_loadName_free I.ok.kind hk hc hcell fin hcd) hd
theorem Bp{i j pos}:PE X (.Constant (.int i) j pos) (tC (.int i)):=fun _ _ _ H _ I h=>wpAny_Constant_int ⟨.int i,H,I.tok _,⟨_,rfl⟩,h⟩
theorem zR{b j pos}:PE X (.Constant (.bool b) j pos) (tC (.bl b)):=fun _ _ _ H _ I h=>Constant_bool ⟨.bl b,H,I,rfl,h⟩
def Gl(X:Cx)(x:Str):Prop:=X.env.kindOf x=some .globalImplicit
theorem wl{E:a_->e_->Prop}{pz:List (Addr×Obj)}{s:e_}{σ:St}{H:Hp}{x:Str}{u:a_}{pos:Pos}{Q:a_->e_->Prop}(I:Inv X pz σ H s)(hg:Gl X x)(hm:X.mg x=some u)(h:Q u s)(hd:(x==("__debug__" : Str))=false:=by decide):B_ (Gy X.prog X.w) X.A (eval (.Name x pos) X.env) Q E s:=J7 I.ok.kind hg (Calls.loadGlobal_global (by rw[I.ok.glob];exact I.mod.glob.keeps I.bk) hm h) hd
theorem iH{E:a_->e_->Prop}{pz:List (Addr×Obj)}{s:e_}{σ:St}{H:Hp}{x:Str}{u:a_}{pos:Pos}{Q:a_->e_->Prop}(I:Inv X pz σ H s)(hg:Gl X x)(hm:X.mg x=none)(hv:IT x=some u)(h:Q u s)(hn:x≠"__name__" := by decide)(hd:(x==("__debug__" : Str))=false:=by decide):B_ (Gy X.prog X.w) X.A (eval (.Name x pos) X.env) Q E s:=by obtain⟨mb,h1,h2⟩:=I.mod.blt;exact J7 I.ok.kind hg (Calls.loadGlobal_builtin (by rw[I.ok.glob];exact I.mod.glob.keeps I.bk) hm (by rw[I.ok.blt];exact h1.keeps I.bk) ((h2 x hn).trans hv) h) hd
theorem B8{x:Str}{v:V}{u:a_}{pos:Pos}(hg:Gl X x)(hm:X.mg x=some u)(r:aj v u)(hd:(x==("__debug__" : Str))=false:=by decide):PE X (.Name x pos) (tC v):=fun _ _ _ H _ I h=>wl I hg hm ⟨v,H,I,r,h⟩ hd
theorem B6{x:Str}{v:V}{u:a_}{pos:Pos}(hg:Gl X x)(hm:X.mg x=none)(hv:IT x=some u)(r:aj v u)(hn:x≠"__name__" := by decide)(hd:(x==("__debug__" : Str))=false:=by decide):PE X (.Name x pos) (tC v):=fun _ _ _ H _ I h=>iH I hg hm hv ⟨v,H,I,r,h⟩ hn hd
variable{a b:Expr}{ta tb:TE}{pos:Pos}
def tB(t:TE):TT:=fun σ H Q=>t σ H fun x H1=>∃c,x=.bl c/\Q c H1
theorem BA{e:Expr}{t:TE}(h:PE X e t)(he:∀whole,isTrue e X.env whole=(do let v <-whole;L0 e.pos;Je [v] (truthy v)):=by intro _;rfl):PT X e (tB t):=by intro pz s σ H Q I hw;refine isTrue_plain (aE (h pz s σ H _ I hw) fun v s1 ⟨x,H1,I1,r1,q1⟩=>?_) (he _);obtain⟨d,rfl,q⟩:=q1;cases r1;exact HF ⟨H1,I1,q⟩
variable{tA tB':TT}{rest:List Expr}
def rJ(t u:TT):TT:=fun σ H Q=>t σ H fun c H1=>if c=true then u σ H1 Q else Q false H1
def Ga(t u:TT):TT:=fun σ H Q=>t σ H fun c H1=>if c=true then Q true H1 else u σ H1 Q
def rA(t:TT):TT:=fun σ H Q=>t σ H fun c H1=>Q (! c) H1
theorem CZ(ha:PT X a tA):PW X (.BoolOp .And [a] pos) tA:=by intro wh pz s σ H Q I h;refine isTrue_and (aE (ha pz s σ H Q I h) fun c s1 e=>?_);cases c with
|true=>exact isTrue_and_nil e
|false=>exact e
theorem uY(ha:PT X a tA):PW X (.BoolOp .Or [a] pos) tA:=by intro wh pz s σ H Q I h;refine isTrue_or (aE (ha pz s σ H Q I h) fun c s1 e=>?_);cases c with
|false=>exact isTrue_or_nil e
|true=>exact e
theorem BC(ha:PT X a tA)(hb:PW X (.BoolOp .And (b::rest) pos) tB'):PW X (.BoolOp .And (a::b::rest) pos) (rJ tA tB'):=by intro wh pz s σ H Q I h;refine isTrue_and (aE (ha pz s σ H _ I h) fun c s1 ⟨H1,I1,q1⟩=>?_);cases c with
|true=>exact hb wh pz s1 σ H1 Q I1 q1
|false=>exact⟨H1,I1,q1⟩
theorem sX(ha:PT X a tA)(hb:PW X (.BoolOp .Or (b::rest) pos) tB'):PW X (.BoolOp .Or (a::b::rest) pos) (Ga tA tB'):=by intro wh pz s σ H Q I h;refine isTrue_or (aE (ha pz s σ H _ I h) fun c s1 ⟨H1,I1,q1⟩=>?_);cases c with
|true=>exact⟨H1,I1,q1⟩
|false=>exact hb wh pz s1 σ H1 Q I1 q1
theorem Bz(ha:PT X a tA):PT X (.UnaryOp .Not a pos) (rA tA):=by intro pz s σ H Q I h;exact isTrue_not (ha pz s σ H (fun c H1=>Q (! c) H1) I h)
def zl(ta tb:TE):TE:=fun σ H Q=>ta σ H fun x H1=>∃c,x=.bl c/\if c=true then tb σ H1 Q else Q (.bl false) H1
def zr(ta:TE):TE:=fun σ H Q=>ta σ H fun x H1=>∃c,x=.bl c/\Q (.bl (! c)) H1
theorem Bs{op}{t:TE}(h:PE X a t):PE X (.BoolOp op [a] pos) t:=fun pz s σ H Q I hw=>BoolOp_one (h pz s σ H Q I hw)
theorem Bn(ha:PE X a ta)(hb:PE X (.BoolOp .And (b::rest) pos) tb):PE X (.BoolOp .And (a::b::rest) pos) (zl ta tb):=by intro pz s σ H Q I h;refine BoolOp_and (aE (ha pz s σ H _ I h) fun v s1 ⟨x,H1,I1,r1,q1⟩=>?_);obtain⟨c,rfl,q1⟩:=q1;cases r1;refine HF ?_;cases c with
|true=>exact hb pz s1 σ H1 Q I1 q1
|false=>exact⟨.bl false,H1,I1,rfl,q1⟩
theorem Br(ha:PE X a ta):PE X (.UnaryOp .Not a pos) (zr ta):=by intro pz s σ H Q I h;refine UnaryOp_ (aE (ha pz s σ H _ I h) fun v s1 ⟨x,H1,I1,r1,q1⟩=>?_);obtain⟨c,rfl,q1⟩:=q1;cases r1;exact not_of (HF ⟨.bl (! c),H1,I1,rfl,q1⟩)
def Gc(t:TT)(ta tb:TE):TE:=fun σ H Q=>t σ H fun c H1=>if c=true then ta σ H1 Q else tb σ H1 Q
theorem Eh{c:Expr}(hc:PT X c tA)(ha:PE X a ta)(hb:PE X b tb):PE X (.IfExp c a b pos) (Gc tA ta tb):=by intro pz s σ H Q I h;refine wpAny_IfExp (aE (hc pz s σ H _ I h) fun d s1 ⟨H1,I1,q1⟩=>?_);cases d with
|true=>exact ha pz s1 σ H1 Q I1 q1
|false=>exact hb pz s1 σ H1 Q I1 q1
end
def aL(K:W.Frag)(H:Hp)(a:Addr)(xs:List V):Prop:=Rd H a (.lst xs) \/∃(o:Obj)(its:Array a_)(n:Nat),K.lookup a=some o/\o.cls=.type "list"/\o.dict=none/\o.data=.seq its n/\its.size<=sizeLine/\ai xs its.toList
def bp(K:W.Frag)(H:Hp)(a:Addr)(xs:List V):Prop:=Rd H a (.tup xs) \/∃(o:Obj)(its:Array a_)(n:Nat),K.lookup a=some o/\o.cls=.type "tuple"/\o.data=.seq its n/\its.size<=sizeLine/\ai xs its.toList
def sd:a_->Option V
|.none=>some .non
|.bool b=>some (.bl b)
|.int i _=>some (.int i)
|.str x _=>some (.str x)
|.bytes b _=>some (.byt b)
|.float b _=>some (.flt b)
|.ref a=>some (.ref a)
|.type n=>some (.ty n)
|_=>none
theorem aj.abs{x:V}{u:a_}(r:aj x u):sd u=some x:=by cases x with
|non=>cases r;rfl
|bl _=>cases r;rfl
|int _=>obtain⟨t,rfl⟩:=r;rfl
|str _=>obtain⟨t,rfl⟩:=r;rfl
|byt _=>obtain⟨t,rfl⟩:=r;rfl
|flt _=>obtain⟨t,rfl⟩:=r;rfl
|ref _=>cases r;rfl
|ty _=>cases r;rfl
theorem aj.inj{x y:V}{u:a_}(r:aj x u)(q:aj y u):x=y:=Gw (r.abs.symm.trans q.abs)
theorem ai.inj{xs ys:List V}{us:List a_}(h:ai xs us)(h':ai ys us):xs=ys:=by induction h generalizing ys with
|nil=>cases h';rfl
|cons r t ih=>cases h' with
 |cons r' t'=>rw[r.inj r',ih t']
section
variable{X:Cx}{pz:List (Addr×Obj)}{σ:St}{H:Hp}{s:e_}{a:Addr}{xs ys:List V}
theorem aL.of{K:W.Frag}(h:H a=some (.lst xs)):aL K H a xs:=.inl (.inl h)
theorem bp.of{K:W.Frag}(h:H a=some (.tup xs)):bp K H a xs:=.inl (.inl h)
theorem Inv.list(I:Inv X pz σ H s)(h:aL X.K H a xs):∃its:List a_,ai xs its/\PlainL s.heap a its.toArray/\xs.length<=sizeLine:=by
 rcases h with h|⟨o,its,n,hk,hc,hd,hs,hz,r⟩
 .obtain⟨z,its,n,r,e⟩:=h.ok I.hok;exact⟨its,r,⟨_,n,e,rfl,rfl,rfl⟩,z⟩
 .refine⟨its.toList,r,⟨o,n,I.kIn a o hk,hc,hd,by simpa using hs⟩,?_⟩;have e:=r.length;simp only[Hi]at e;omega
theorem Inv.tuple(I:Inv X pz σ H s)(h:bp X.K H a xs):∃its:List a_,ai xs its/\NY s.heap a its.toArray/\xs.length<=sizeLine:=by
 rcases h with h|⟨o,its,n,hk,hc,hs,hz,r⟩
 .obtain⟨z,its,r,p,_⟩:=h.ok I.hok;exact⟨its,r,p,z⟩
 .refine⟨its.toList,r,⟨o,I.kIn a o hk,hc,n,by simpa using hs⟩,?_⟩;have e:=r.length;simp only[Hi]at e;omega
theorem Inv.list_inj(I:Inv X pz σ H s)(h:aL X.K H a xs)(h':aL X.K H a ys):xs=ys:=by
 obtain⟨its,r,⟨o,n,e,_,_,d⟩,_⟩:=I.list h;obtain⟨its',r',⟨o',n',e',_,_,d'⟩,_⟩:=I.list h';rw[e]at e';cases e';rw[d]at d';injection d' with d1 _
 have:its=its':=by simpa using congrArg NL d1
 subst this;exact r.inj r'
theorem Inv.tuple_inj(I:Inv X pz σ H s)(h:bp X.K H a xs)(h':bp X.K H a ys):xs=ys:=by
 obtain⟨its,r,⟨o,e,_,n,d⟩,_⟩:=I.tuple h;obtain⟨its',r',⟨o',e',_,n',d'⟩,_⟩:=I.tuple h';rw[e]at e';cases e';rw[d]at d';injection d' with d1 _
 have:its=its':=by simpa using congrArg NL d1
 subst this;exact r.inj r'
end
abbrev Cx.wish(X:Cx)(E:a_->e_->Prop):Cx:={ X with xe:=E }
abbrev Cx.nox(X:Cx):Cx:=X.wish fun _ _=>False
theorem Cx.Ok.wish{X:Cx}(ok:X.Ok)(E:a_->e_->Prop):(X.wish E).Ok:=⟨ok.mod,ok.kind,ok.glob,ok.blt,ok.above,ok.inj,ok.has,ok.cab,ok.hd,ok.frames,ok.stk,ok.exf,ok.bs,ok.bsz,ok.noex,ok.exfs,ok.funs,ok.frf⟩
theorem Cx.Ok.unwish{X:Cx}{E:a_->e_->Prop}(ok:(X.wish E).Ok):X.Ok:=⟨ok.mod,ok.kind,ok.glob,ok.blt,ok.above,ok.inj,ok.has,ok.cab,ok.hd,ok.frames,ok.stk,ok.exf,ok.bs,ok.bsz,ok.noex,ok.exfs,ok.funs,ok.frf⟩
section
variable{X:Cx}{pz:List (Addr×Obj)}{σ:St}{H:Hp}{s:e_}{E:a_->e_->Prop}
theorem Inv.wish(I:Inv X pz σ H s)(E:a_->e_->Prop):Inv (X.wish E) pz σ H s:=⟨I.ok.wish E,I.os,I.bare,I.base,I.loc,I.cell,I.free,I.freeC,I.pin,I.hok,I.len⟩
theorem Inv.unwish(I:Inv (X.wish E) pz σ H s):Inv X pz σ H s:=⟨I.ok.unwish,I.os,I.bare,I.base,I.loc,I.cell,I.free,I.freeC,I.pin,I.hok,I.len⟩
theorem SP.unwish{D:Ends}{f:Flow}{s':e_}(h:SP (X.wish E) pz D f s'):SP X pz D f s':=by cases f with
|next=>obtain⟨σ',H',I,q⟩:=h;exact⟨σ',H',I.unwish,q⟩
|brk=>obtain⟨σ',H',I,q⟩:=h;exact⟨σ',H',I.unwish,q⟩
|cont=>obtain⟨σ',H',I,q⟩:=h;exact⟨σ',H',I.unwish,q⟩
|ret u=>obtain⟨v,σ',H',I,r,q⟩:=h;exact⟨v,σ',H',I.unwish,r,q⟩
theorem PE.nox{e:Expr}{t:TE}(h:PE X.nox e t):PE X e t:=fun pz s σ H Q I hw=>HK (h pz s σ H Q (I.wish _) hw) (fun _ _ ⟨v,H',I',r,q⟩=>⟨v,H',I'.unwish,r,q⟩) fun _ _ z=>HR z
theorem PT.nox{e:Expr}{t:TT}(h:PT X.nox e t):PT X e t:=fun pz s σ H Q I hw=>HK (h pz s σ H Q (I.wish _) hw) (fun _ _ ⟨H',I',q⟩=>⟨H',I'.unwish,q⟩) fun _ _ z=>HR z
theorem cm.nox{st:List Stmt}{t:TS}(h:cm X.nox st t):cm X st t:=fun pz s σ H D I hw=>HK (h pz s σ H D (I.wish _) hw) (fun _ _ q=>q.unwish) fun _ _ z=>HR z
end
section
variable{X:Cx}{st:Stmt}{rest:List Stmt}{t u:TS}{e:Expr}{te:TE}{pos:Pos}
def zq:TS:=fun D σ H=>D.nx σ H
def rq(t u:TS):TS:=fun D σ H=>t { D with nx:=u D } σ H
theorem vU:cm X [] zq:=fun _ _ σ H _ I h=>K5 ⟨σ,H,I,h⟩
theorem xc(h1:PS X st t)(h2:cm X rest u):cm X (st::rest) (rq t u):=by intro pz s σ H D I h;refine wpAny_execs_cons (aE (h1 pz s σ H { D with nx:=u D } I h) fun f s1 q=>?_);cases f with
|next=>obtain⟨σ',H',I',q⟩:=q;exact h2 pz s1 σ' H' D I' q
|ret v=>exact q
|brk=>exact q
|cont=>exact q
theorem Inv.quiet{pz:List (Addr×Obj)}{σ:St}{H:Hp}{s:e_}(I:Inv X pz σ H s):interactive X.env=false:=by simp[interactive,I.ok.kind]
def zo(te:TE):TS:=fun D σ H=>te σ H fun _ H1=>D.nx σ H1
theorem pG(he:PE X e te)(hs:J6 e none pos.line X.env=pure false:=by rfl):PS X (.Expr e pos) (zo te):=by intro pz s σ H D I h;exact wpAny_Expr_any (aE (he pz s σ H _ I h) fun v s1 ⟨x,H1,I1,r1,q1⟩=>⟨σ,H1,I1,q1⟩) I.quiet hs
def rz(te:TE):TS:=fun D σ H=>te σ H D.rt
theorem oR(he:PE X e te):PS X (.Return (some e) pos) (rz te):=by intro pz s σ H D I h;exact wpAny_Return_some (aE (he pz s σ H _ I h) fun v s1 ⟨x,H1,I1,r1,q1⟩=>⟨x,σ,H1,I1,r1,q1⟩)
def rE(c:TT)(t u:TS):TS:=fun D σ H=>c σ H fun b H1=>if b=true then t D σ H1 else u D σ H1
theorem mh{c:Expr}{a b:List Stmt}{tc:TT}(hc:PT X c tc)(ha:cm X a t)(hb:cm X b u):PS X (.If c a b pos) (rE tc t u):=by intro pz s σ H D I h;refine wpAny_If (aE (hc pz s σ H _ I h) fun d s1 ⟨H1,I1,q1⟩=>?_);cases d with
|true=>exact ha pz s1 σ H1 D I1 q1
|false=>exact hb pz s1 σ H1 D I1 q1
def uQ:TS:=fun _ _ _=>False
theorem DN:PS X st uQ:=fun _ _ _ _ _ _ h=>h.elim
theorem fj{sts:List Stmt}:cm X sts uQ:=fun _ _ _ _ _ _ h=>h.elim
end
abbrev TG:=V->St->Hp->(St->Hp->Prop)->Prop
abbrev gT:=List V->St->Hp->(St->Hp->Prop)->Prop
def PG(X:Cx)(target:Expr)(t:TG):Prop:=∀(pz:List (Addr×Obj))(s:e_)(σ:St)(H:Hp)(v:V)(u:a_)(Q:St->Hp->Prop),Inv X pz σ H s->aj v u->t v σ H Q ->B_ (Gy X.prog X.w) X.A (Jz target X.env u) (fun _ s'=>∃σ' H',Inv X pz σ' H' s'/\Q σ' H') X.xe s
def gx(X:Cx)(ts:List Expr)(t:gT):Prop:=∀(pz:List (Addr×Obj))(s:e_)(σ:St)(H:Hp)(vs:List V)(us:List a_)(Q:St->Hp->Prop),Inv X pz σ H s->ai vs us->t vs σ H Q ->B_ (Gy X.prog X.w) X.A (assignInOrder ((Hu ts X.env).map (·.2)) us) (fun _ s'=>∃σ' H',Inv X pz σ' H' s'/\Q σ' H') X.xe s
abbrev iz:=V->V->V->Hp->(Hp->Prop)->Prop
def dc(X:Cx)(t:iz):Prop:=∀(pz:List (Addr×Obj))(s:e_)(σ:St)(H:Hp)(o i v:V)(ov iv u:a_)(Q:Hp->Prop),Inv X pz σ H s->aj o ov->aj i iv->aj v u->t o i v H Q ->B_ (Gy X.prog X.w) X.A (MK ov iv u) (fun _ s'=>∃H',Inv X pz σ H' s'/\Q H') X.xe s
section
variable{X:Cx}{pos:Pos}
def sH(i:Nat):TG:=fun v σ H Q=>Q (σ.set i (some v)) H
theorem vT{i:Nat}{x:Str}(hN:X.N.Nodup)(hi:X.N[i]? = some x)(hx:fK X.env.scope x)(hf:X.fn x=true\/X.env.scope.names.lookup x=some .local:=by first|exact .inl rfl|exact .inr rfl|assumption):PG X (.Name x pos) (sH i):=by intro pz s σ H v u Q I r h;exact L1 (xk I hN hi hx r (fun s' I'=>⟨_,H,I',h⟩) hf)
def r6:gT:=fun vs σ H Q=>vs=[]/\Q σ H
def Ac(t:TG)(u:gT):gT:=fun vs σ H Q=>∃v r,vs=v::r/\t v σ H fun σ' H'=>u r σ' H' Q
theorem B9:gx X [] r6:=by intro pz s σ H vs us Q I r h;obtain⟨e,h⟩:=h;subst e;cases r;exact assignInOrder_nil ⟨σ,H,I,h⟩
theorem Ei{e:Expr}{es:List Expr}{t:TG}{u:gT}(h1:PG X e t)(h2:gx X es u)(hs:(Hu (e::es) X.env).map (·.2)=Jz e X.env::(Hu es X.env).map (·.2):=by rfl):gx X (e::es) (Ac t u):=by intro pz s σ H vs us Q I r h;obtain⟨v,vr,e1,h⟩:=h;subst e1;cases r with
|cons r rr=>rw[hs];refine assignInOrder_cons (aE (h1 pz s σ H _ _ _ I r h) fun _ s1 ⟨σ1,H1,I1,q1⟩=>?_);exact h2 pz s1 σ1 H1 _ _ Q I1 rr q1
def rY(K:W.Frag)(n:Nat)(t:gT):TG:=fun v σ H Q=>∃a xs,v=.ref a/\bp K H a xs/\xs.length=n/\t xs σ H Q
theorem Bu{es:List Expr}{k:Nat}{t:gT}{n:Nat}(hc:X.calm=true)(h:gx X es t)(hn:(Hu es X.env).length=n:=by rfl)(hst:(Hu es X.env).findIdx? (·.1)=none:=by rfl):PG X (.Tuple es k pos) (rY X.K n t):=by intro pz s σ H v u Q I r hw;obtain⟨a,xs,e1,hq,hl,hw⟩:=hw;subst e1;cases r;obtain⟨its,rv,ht,hz⟩:=I.tuple hq;refine assign_Tuple_tuple (I.ok.hd hc) ht (by simp[hn,<-hl,rv.length]) hst fun h' hx=>?_;have I1:Inv X pz σ H { s with heap:=h' }:=I.kept (t':=s.toks) fun b o e=>hx b o (F_ (q_ e)) e;exact h pz _ σ H xs _ Q I1 (by simpa using rv) hw
def rZ(to ti:TE)(t:iz):TG:=fun v σ H Q=>to σ H fun o H1=>ti σ H1 fun i H2=>t o i v H2 fun H3=>Q σ H3
theorem uB{o i:Expr}{to ti:TE}{t:iz}(ho:PE X o to)(hi:PE X i ti)(hs:dc X t)(ha:∀v,Jz (.Subscript o i pos) X.env v=(do
   let ov <-Je [v] (eval o X.env);let iv <-Je [v,ov] (eval i X.env)
   L0 pos
   Je [v,ov,iv] (MK ov iv v)
   release [v,ov,iv] []):=by intro _;rfl):PG X (.Subscript o i pos) (rZ to ti t):=by intro pz s σ H v u Q I r h;rw[ha];refine c_ (HN (aE (ho pz s σ H _ I h) fun ov s1 ⟨x,H1,I1,r1,q1⟩=>?_));refine c_ (HN (aE (hi pz s1 σ H1 _ I1 q1) fun iv s2 ⟨y,H2,I2,r2,q2⟩=>?_));refine c_ (Km (c_ (HN (aE (hs pz s2 σ H2 x y v ov iv u _ I2 r1 r2 r q2) fun _ s3 ⟨H3,I3,q3⟩=>?_))));exact wpAny_release ⟨σ,H3,I3,q3⟩
def lA(te:TE)(g:TG):TS:=fun D σ H=>te σ H fun x H1=>g x σ H1 D.nx
theorem uC{tg e:Expr}{te:TE}{g:TG}(he:PE X e te)(hg:PG X tg g)(hs:LC [tg] e pos.line X.env=pure false:=by rfl)(hw:LD [tg] e X.env=pure none:=by rfl)(h1:(Hu [tg] X.env).map (·.2)=[Jz tg X.env]:=by rfl):PS X (.Assign [tg] e pos) (lA te g):=by intro pz s σ H D I h;refine wpAny_Assign_stores (aE (he pz s σ H _ I h) fun v s1 ⟨x,H1,I1,r1,q1⟩=>?_) hs hw;rw[h1];exact aE (hg pz s1 σ H1 x v _ I1 r1 q1) fun _ s2 q=>q
theorem uV{i:Nat}{x:Str}{e:Expr}{te:TE}{pos':Pos}(hN:X.N.Nodup)(hi:X.N[i]? = some x)(hx:fK X.env.scope x)(he:PE X e te)(hs:J6 e (some (.Name x pos')) pos.line X.env=pure false:=by rfl)(hf:X.fn x=true\/X.env.scope.names.lookup x=some .local:=by first|exact .inl rfl|exact .inr rfl|assumption):PS X (.Assign [.Name x pos'] e pos) (lA te (sH i)):=by intro pz s σ H D I h;refine wpAny_Assign_Name (aE (he pz s σ H _ I h) fun v s1 ⟨y,H1,I1,r1,q1⟩=>?_) hs;exact xk I1 hN hi hx r1 (fun s2 I2=>⟨_,H1,I2,q1⟩) hf
end
section
variable{X:Cx}{pos:Pos}
def Bi(c:TT)(tb:TS):TS:=fun D σ H=>∃W:Nat->St->Hp->Prop,(∃m,W m σ H)/\∀m σ H,W m σ H ->c σ H fun b H1=>if b=true then ∃N:St->Hp->Prop,(∀σ' H',N σ' H'->∃m',m'<m/\W m' σ' H')/\tb { D with nx:=N,ct:=N,bk:=D.nx } σ H1 else D.nx σ H1
theorem DO{c:Expr}{body:List Stmt}{tc:TT}{tb:TS}(hp:JA (Gy X.prog X.w) X.A X.env X.xe)(hc:PT X c tc)(hb:cm X body tb):PS X (.While c body [] pos) (Bi tc tb):=by
 intro pz s σ H D I h;obtain⟨W,⟨m0,w0⟩,turn⟩:=h;refine wpAny_While (codeAny_whileLoop (fun n s'=>∃σ' H',Inv X pz σ' H' s'/\W n σ' H') ?_ m0 ⟨σ,H,I,w0⟩)
 rintro n s1 ⟨σ1,H1,I1,w1⟩
 refine HZ hp (aE (hc pz s1 σ1 H1 _ I1 (turn n σ1 H1 w1)) fun b s2 ⟨H2,I2,q2⟩=>?_);cases b with
|true=>obtain⟨N,hN,q2⟩:=q2;rw[if_pos rfl];refine HZ hp (aE (hb pz s2 σ1 H2 _ I2 q2) fun f s3 q3=>?_);cases f with
 |next=>obtain⟨σ3,H3,I3,n3⟩:=q3;obtain⟨m',hm,w3⟩:=hN σ3 H3 n3;exact⟨m',hm,σ3,H3,I3,w3⟩
 |cont=>obtain⟨σ3,H3,I3,n3⟩:=q3;obtain⟨m',hm,w3⟩:=hN σ3 H3 n3;exact⟨m',hm,σ3,H3,I3,w3⟩
 |brk=>exact q3
 |ret v=>exact q3
|false=>rw[if_neg j_];exact K5 ⟨σ1,H2,I2,q2⟩
end
structure It where
 go:Nat->Hp->Prop
 yld:Nat->Hp->V->Hp->Prop
 stop:Nat->Hp->Prop
def cg(X:Cx)(pz:List (Addr×Obj))(H:Hp)(b:Addr):Prop:=H b=none/\b≠X.env.locals/\b∉X.fs/\(b∈X.ex\/X.s₀.heap.objs.size<=b)/\(∀x c,X.env.cells.lookup x=some c->c≠b)/\∀p∈X.pn++pz,p.1≠b
theorem Inv.fpOk{X:Cx}{pz:List (Addr×Obj)}{σ:St}{H H':Hp}{s:e_}{b:Addr}(I:Inv X pz σ H s)(hb:s.heap.objs.size<=b)(hn:H' b=none):cg X pz H' b:=by
 refine⟨hn,HC (x_ I.lt hb),I.nofs hb,.inr (GY I.sz hb),fun x c e z=>?_,fun p hp z=>?_⟩
 .obtain⟨v,q⟩:=I.cell x c e;exact absurd (x_ q.lt (by rw[z];exact hb)) (HM _)
 .exact absurd (x_ (q_ (I.pin p hp).1) (by rw[z];exact hb)) (HM _)
structure Turn(P:u_)(w:Gz)(K:W.Frag)(tg:Expr)(J:It)(fp:List Addr)(it:Addr)(tn:Nat->Heap->Prop):Prop where
 mem:it∈fp
 obj:∀i h,tn i h->∀b∈fp,∃o,h.get? b=some o/\∀v,o.data≠.cell v
 keep:∀i h h',tn i h->(∀b∈fp,∀o,h.get? b=some o->h'.get? b=some o)->tn i h'
 item:∀(X:Cx),X.prog=P->X.w=w->X.K=K->X.calm=true->∀(i:Nat)(pz:List (Addr×Obj))(s:e_)(σ:St)(H:Hp)(E:a_->e_->Prop),Inv X pz σ H s->(∀b∈fp,cg X pz H b)->tn i s.heap->J.go i H ->B_ (Gy P w) X.A (Li (.ref it)) (fun r s1=>∃u,r=some u /\B_ (Gy P w) X.A (JQ tg (.ref it) u) (fun _ s2=>∃x H',Inv X pz σ H' s2/\aj x u/\J.yld i H x H'/\tn (i+1) s2.heap/\∀b∈fp,H' b=none) E s1) E s
 done:∀(X:Cx),X.prog=P->X.w=w->X.K=K->X.calm=true->∀(i:Nat)(pz:List (Addr×Obj))(s:e_)(σ:St)(H:Hp)(E:a_->e_->Prop),Inv X pz σ H s->(∀b∈fp,cg X pz H b)->tn i s.heap->J.stop i H ->B_ (Gy P w) X.A (Li (.ref it)) (fun r s1=>r=none/\Inv X pz σ H s1) E s
 self:∀(A:GP)(i:Nat)(s:e_)(Q:a_->e_->Prop)(E:a_->e_->Prop),tn i s.heap->Q (.ref it) s->B_ (Gy P w) A (NM (.ref it)) Q E s
abbrev TI:=St->Hp->(It->Hp->Prop)->Prop
def yR(X:Cx)(pz:List (Addr×Obj))(σ:St)(tg:Expr)(R:It->Hp->Prop)(itv:a_)(s2:e_):Prop:=∃(it:Addr)(fp:List Addr)(tn:Nat->Heap->Prop)(J:It)(H':Hp),itv=.ref it/\Inv X pz σ H' s2/\Turn X.prog X.w X.K tg J fp it tn/\tn 0 s2.heap/\(∀b∈fp,cg X pz H' b)/\R J H'
def PI(X:Cx)(tg iter:Expr)(wi:TI):Prop:=∀(pz:List (Addr×Obj))(s:e_)(σ:St)(H:Hp)(R:It->Hp->Prop),Inv X pz σ H s->wi σ H R ->B_ (Gy X.prog X.w) X.A (eval iter X.env) (fun v s1=>B_ (Gy X.prog X.w) X.A (NM v) (yR X pz σ tg R) X.xe s1) X.xe s
theorem l5{M:Model}{A:GP}{E:a_->e_->Prop}{s:e_}{tg:Expr}{it:Addr}{u:a_}{o:Obj}{n:String}{vs:Array a_}{Q:Unit->e_->Prop}(ho:s.heap.get? it=some o)(hc:o.cls=.type n)(hd:o.data=.fields vs)(hn : ["enumerate","zip","dict_itemiterator","dict_reverseitemiterator","odict_iterator","itertools.zip_longest","itertools.pairwise"].contains n=false)(hQ:Q () s):B_ M A (JQ tg (.ref it) u) Q E s:=by
  unfold JQ;cases tg <;> first
    |exact s_ hQ
    |(cases u <;> first
        |exact s_ hQ
        | (refine c_ (wpAny_load ho ?_)
           rw[hc,hd];show B_ M A (if (["enumerate","zip","dict_itemiterator","dict_reverseitemiterator","odict_iterator","itertools.zip_longest","itertools.pairwise"].contains n&&vs[0]? == some (KI _))=true then _ else _) Q E s;rw[if_neg (by intro h;rw[hn,Bool.false_and]at h;cases h)];exact s_ hQ))
def lW(K:W.Frag)(a:Addr):It:=⟨fun i H=>∃xs x,aL K H a xs/\xs[i]? = some x,fun i H x H'=>H'=H/\∀xs,aL K H a xs->xs[i]? = some x,fun i H=>∃xs,aL K H a xs/\xs.length<=i⟩
def sr(K:W.Frag)(a:Addr):It:=⟨fun i H=>∃xs x,bp K H a xs/\xs[i]? = some x,fun i H x H'=>H'=H/\∀xs,bp K H a xs->xs[i]? = some x,fun i H=>∃xs,bp K H a xs/\xs.length<=i⟩
def n6(lo:Int)(n:Nat):It:=⟨fun i _=>i<n,fun i H x H'=>H'=H/\x=.int (lo+i),fun i _=>n<=i⟩
theorem E6{P:u_}{w:Gz}{K:W.Frag}{tg:Expr}(a it:Addr):Turn P w K tg (lW K a) [it] it (fun i h=>h.IsListIter it a i) where
 mem:=by simp
 obj:=fun i h st b hb=>by
  have e:b=it:=by simpa using hb
  subst e;obtain⟨o,e,c,d⟩:=st;exact⟨o,e,fun v z=>by rw[d]at z;cases z⟩
 keep:=fun i h h' st k=>st.at fun o e=>k it (by simp) o e
 item:=by intro X hP hw hK hc i pz s σ H E I hf st hg;subst hP hw hK;obtain⟨xs,x,hq,hx⟩:=hg;obtain⟨its,rv,p,hz⟩:=I.list hq;obtain⟨u,hu,ru⟩:=rv.get hx;obtain⟨f0,f1,f2,f3,f4,f5⟩:=hf it (by simp);refine wpAny_pyNext_list_item st p.isList (x:=u) (by simpa using hu) fun h' st' sb=>?_;have I1:Inv X pz σ H { s with heap:=h' }:=I.turned (t':=s.toks) (fun b o hb e=>(sb.2 b hb).trans e) f0 f1 f3 f4 f5;obtain⟨o,e,c,d⟩:=id st';exact⟨u,rfl,l5 (s:={ s with heap:=h' }) e c d (by decide) ⟨x,H,I1,ru,⟨rfl,fun ys hy=>by rw[I.list_inj hy hq];exact hx⟩,st',fun b hb=>(hf b hb).1⟩⟩
 done:=by intro X hP hw hK hc i pz s σ H E I hf st hg;subst hP hw hK;obtain⟨xs,hq,hx⟩:=hg;obtain⟨its,rv,p,hz⟩:=I.list hq;obtain⟨f0,f1,f2,f3,f4,f5⟩:=hf it (by simp);have hl:=rv.length;exact wpAny_pyNext_list_end (I.ok.hd hc) st p.isList (by simp;omega) fun h' eb=>⟨rfl,I.turned (t':=s.toks) (fun b o hb e=>eb b o hb e) f0 f1 f3 f4 f5⟩
 self:=fun _ _ _ _ _ st h=>wpAny_pyIter_listiter st h
theorem Fp{P:u_}{w:Gz}{K:W.Frag}{tg:Expr}(a it:Addr):Turn P w K tg (sr K a) [it] it (fun i h=>h.IsTupleIter it a i) where
 mem:=by simp
 obj:=fun i h st b hb=>by
  have e:b=it:=by simpa using hb
  subst e;obtain⟨o,e,c,d⟩:=st;exact⟨o,e,fun v z=>by rw[d]at z;cases z⟩
 keep:=fun i h h' st k=>st.at fun o e=>k it (by simp) o e
 item:=by intro X hP hw hK hc i pz s σ H E I hf st hg;subst hP hw hK;obtain⟨xs,x,hq,hx⟩:=hg;obtain⟨its,rv,p,hz⟩:=I.tuple hq;obtain⟨u,hu,ru⟩:=rv.get hx;obtain⟨f0,f1,f2,f3,f4,f5⟩:=hf it (by simp);refine wpAny_pyNext_tuple_item st (show s.heap.IsTuple a its.toArray from p) (x:=u) (by simpa using hu) fun h' st' sb=>?_;have I1:Inv X pz σ H { s with heap:=h' }:=I.turned (t':=s.toks) (fun b o hb e=>(sb.2 b hb).trans e) f0 f1 f3 f4 f5;obtain⟨o,e,c,d⟩:=id st';exact⟨u,rfl,l5 (s:={ s with heap:=h' }) e c d (by decide) ⟨x,H,I1,ru,⟨rfl,fun ys hy=>by rw[I.tuple_inj hy hq];exact hx⟩,st',fun b hb=>(hf b hb).1⟩⟩
 done:=by intro X hP hw hK hc i pz s σ H E I hf st hg;subst hP hw hK;obtain⟨xs,hq,hx⟩:=hg;obtain⟨its,rv,p,hz⟩:=I.tuple hq;obtain⟨f0,f1,f2,f3,f4,f5⟩:=hf it (by simp);have hl:=rv.length;exact wpAny_pyNext_tuple_end (I.ok.hd hc) st (show s.heap.IsTuple a its.toArray from p) (by simp;omega) fun h' eb=>⟨rfl,I.turned (t':=s.toks) (fun b o hb e=>eb b o hb e) f0 f1 f3 f4 f5⟩
 self:=fun _ _ _ _ _ st h=>wpAny_pyIter_tupleiter st h
theorem E1{P:u_}{w:Gz}{K:W.Frag}{tg:Expr}(it:Addr)(lo:Int)(n:Nat):Turn P w K tg (n6 lo n) [it] it (fun i h=>IsRangeIter h it (lo+(i:Nat)*1) ((n:Int)-(i:Nat)) 1) where
 mem:=by simp
 obj:=fun i h st b hb=>by
  have e:b=it:=by simpa using hb
  subst e;exact⟨_,st,fun v z=>by have z':Data.fields _=Data.cell v:=z;cases z'⟩
 keep:=fun i h h' st k=>k it (by simp) _ st
 item:=by intro X hP hw hK hc i pz s σ H E I hf st hg;subst hP hw hK;obtain⟨f0,f1,f2,f3,f4,f5⟩:=hf it (by simp);have W:=Walks.range (prog:=X.prog) (w:=X.w) (I.ok.hd hc) it lo 1 n;refine W.item i s _ _ hg st fun v h' tk hv st' kk=>?_;obtain⟨t,rfl⟩:=hv;have I1:Inv X pz σ H { s with heap:=h',toks:=tk }:=I.turned (fun b o hb e=>kk b o (by simpa using hb) e) f0 f1 f3 f4 f5;refine⟨_,rfl,l5 (s:={ s with heap:=h',toks:=tk }) (n := "range_iterator") st' rfl rfl (by decide) ⟨.int (lo+i),H,I1,⟨t,?_⟩,⟨rfl,rfl⟩,st',fun b hb=>(hf b hb).1⟩⟩;rw[Int.mul_one]
 done:=by intro X hP hw hK hc i pz s σ H E I hf st hg;subst hP hw hK;obtain⟨f0,f1,f2,f3,f4,f5⟩:=hf it (by simp);exact wpAny_pyNext_range_end (I.ok.hd hc) st (by have:n<=i:=hg;omega) fun h' eb=>⟨rfl,I.turned (t':=s.toks) (fun b o hb e=>eb b o hb e) f0 f1 f3 f4 f5⟩
 self:=fun _ _ _ _ _ st h=>wpAny_pyIter_rangeiter st h
section
variable{X:Cx}{tg:Expr}
theorem DT{pz:List (Addr×Obj)}{σ:St}{H:Hp}{s:e_}{R:It->Hp->Prop}{E:a_->e_->Prop}{lo hi:Int}{t u v:Tok}{tk:Nat}(I:Inv X pz σ H s)(h1 : -(2^62)<=lo)(h2:lo<2^62)(h3 : -(2^62)<=hi)(h4:hi<2^62)(q:R (n6 lo (hi-lo).toNat) H):B_ (Gy X.prog X.w) X.A (NM (.ref s.heap.objs.size)) (yR X pz σ tg R) E { s with heap:=s.heap.push { cls:=.type "range",data:=.fields #[.int lo t,.int hi u,.int 1 v] },toks:=tk }:=by
 refine wpAny_pyIter_range (IsRange.new ..) (small_one h1 h2 h3 h4) ?_;have I1:Inv X pz σ H { s with heap:=s.heap.push { cls:=.type "range",data:=.fields #[.int lo t,.int hi u,.int 1 v] },toks:=tk }:=I.kept fun b o e=>d_ _ e;refine⟨(s.heap.push { cls:=.type "range",data:=.fields #[.int lo t,.int hi u,.int 1 v] }).objs.size,[(s.heap.push { cls:=.type "range",data:=.fields #[.int lo t,.int hi u,.int 1 v] }).objs.size],_,_,H,rfl,I1.kept (t':=tk) fun b o e=>d_ _ e,E1 _ lo (hi-lo).toNat,?_,fun b hb=>?_,q⟩
 .have e1:lo+((0:Nat):Int)*1=lo:=by simp
  have e2:(((hi-lo).toNat:Nat):Int)-((0:Nat):Int)=Builtin.Range.rangeSize lo hi 1:=by rw[rangeSize_one];split <;> omega
  show IsRangeIter _ _ (lo+((0:Nat):Int)*1) ((((hi-lo).toNat:Nat):Int)-((0:Nat):Int)) 1;rw[e1,e2];exact r_ _ rfl
 .have e:b=(s.heap.push { cls:=.type "range",data:=.fields #[.int lo t,.int hi u,.int 1 v] }).objs.size:=by simpa using hb
  subst e;exact I1.fpOk (w_ _) (I1.hok.fresh (w_ _))
def Ad(ta:TA):TI:=fun σ H R=>ta σ H fun vs H1=>∃j:Int,vs=[.int j]/\-(2^62)<=j/\j<2^62/\R (n6 0 j.toNat) H1
theorem En{a:Expr}{ta:TA}{p pos:Pos}(hg:Gl X "range")(hm:X.mg "range" = none)(ha:PA X [a] ta)(hs:k_ [a] X.env=[(false,eval a X.env)]:=by rfl):PI X tg (.Call (.Name "range" p) [a] [] pos) (Ad ta):=by intro pz s σ H R I h;refine Call_ (iH I hg hm boot_range (Hs (aE (ha pos pz s σ H _ I h) fun us s1 ⟨vs,H1,I1,r1,q1⟩=>?_) hs rfl));obtain⟨j,e,q1,q2,q⟩:=q1;subst e;cases r1 with
|cons r rr=>cases rr;obtain⟨t,rfl⟩:=r;exact call_range_1 (DT I1 (by omega) (by omega) q1 q2 (by simpa using q))
def rF(wi:TI)(g:TG)(tb:TS):TS:=fun D σ H=>wi σ H fun J H1=>∃W:Nat->Nat->St->Hp->Prop,(∃m,W 0 m σ H1)/\∀i m σ H,W i m σ H ->(J.stop i H/\D.nx σ H)\/(J.go i H/\∃N:St->Hp->Prop,(∀σ' H',N σ' H'->∃m',m'<m/\W (i+1) m' σ' H')/\∀x H',J.yld i H x H'->g x σ H' fun σ2 H2=>tb { D with nx:=N,ct:=N,bk:=D.nx } σ2 H2)
def kA(fp:List Addr)(h:Heap):List (Addr×Obj):=fp.filterMap fun b=>(h.get? b).map fun o=>(b,o)
theorem nJ{fp:List Addr}{h:Heap}{b:Addr}{o:Obj}(hb:b∈fp)(e:h.get? b=some o):(b,o)∈kA fp h:=Jk.mpr ⟨b,hb,by rw[e];rfl⟩
theorem Ej{fp:List Addr}{h:Heap}{p:Addr×Obj}(hp:p∈kA fp h):p.1∈fp/\h.get? p.1=some p.2:=by obtain⟨b,hb,e⟩:=Jk.mp hp;cases q:h.get? b with
|none=>rw[q]at e;cases e
|some o=>rw[q]at e;have e':(b,o)=p:=Gw e;subst e';exact⟨hb,q⟩
theorem Inv.pinned{pz:List (Addr×Obj)}{σ:St}{H:Hp}{s:e_}{fp:List Addr}(I:Inv X pz σ H s)(hf:∀b∈fp,cg X pz H b)(ho:∀b∈fp,∃o,s.heap.get? b=some o/\∀v,o.data≠.cell v):Inv X (pz++kA fp s.heap) σ H s:=I.pins_of fun p hp=>(He.mp hp).elim (fun z=>I.pin p (GF _ z)) fun z=>by obtain⟨hb,e⟩:=Ej z;obtain⟨f0,f1,f2,_⟩:=hf p.1 hb;obtain⟨o,e',d⟩:=ho p.1 hb;rw[e]at e';cases e';exact⟨e,f0,f1,f2,d⟩
theorem Inv.unpinned{pz pl:List (Addr×Obj)}{σ:St}{H:Hp}{s:e_}(I:Inv X (pz++pl) σ H s):Inv X pz σ H s:=I.pins_of fun p hp=>I.pin p (GF _ (GJ _ hp))
theorem kB{iter:Expr}{body:List Stmt}{wi:TI}{g:TG}{tb:TS}{pos:Pos}(hp:JA (Gy X.prog X.w) X.A X.env X.xe)(hc:X.calm=true)(hi:PI X tg iter wi)(hg:PG X tg g)(hb:cm X body tb)(hs:∀x,Hv iter X.env x=pure x:=by intro _;rfl):PS X (.For tg iter body [] pos) (rF wi g tb):=by
 intro pz s σ H D I h;refine wpAny_For (aE (hi pz s σ H _ I h) fun v s1 h1=>aE h1 fun itv s2 h2=>?_) hs;obtain⟨it,fp,tn,J,H2,e,I2,T,st2,f2,W,⟨m0,w0⟩,turn⟩:=h2;subst e;have stat:∀{H':Hp},(∀b∈fp,H' b=none)->∀b∈fp,cg X pz H' b:=fun hn b hb=>⟨hn b hb,(f2 b hb).2⟩
 refine codeAny_forLoop_any (fun n s'=>∃i σ' H',Inv X pz σ' H' s'/\tn i s'.heap/\(∀b∈fp,H' b=none)/\W i n σ' H') ?_ m0 ⟨0,σ,H2,I2,st2,fun b hb=>(f2 b hb).1,w0⟩
 rintro n s3 ⟨i,σ3,H3,I3,st3,fr3,w3⟩
 rcases turn i n σ3 H3 w3 with⟨stop,qn⟩|⟨go,N,hN,step⟩
 .refine HZ hp (aE (T.done X rfl rfl rfl hc i pz s3 σ3 H3 X.xe I3 (stat fr3) st3 stop) fun r s4 ⟨hr,I4⟩=>?_);subst hr;exact K5 ⟨σ3,H3,I4,qn⟩
 .refine HZ hp (aE (T.item X rfl rfl rfl hc i pz s3 σ3 H3 X.xe I3 (stat fr3) st3 go) fun r s4 ⟨u,hr,h4⟩=>?_);subst hr;refine HZ hp (aE h4 fun _ s5 ⟨x,H5,I5,r5,y5,st5,fr5⟩=>?_);have I5':=I5.pinned (stat fr5) (T.obj _ _ st5);refine HZ hp (aE (hg _ s5 σ3 H5 x u _ I5' r5 (step x H5 y5)) fun _ s6 ⟨σ6,H6,I6,q6⟩=>?_);refine HZ hp (aE (hb _ s6 σ6 H6 _ I6 q6) fun f s7 q7=>?_);have again:∀{σ7:St}{H7:Hp},Inv X (pz++kA fp s5.heap) σ7 H7 s7->N σ7 H7->∃m,m<n/\∃i σ' H',Inv X pz σ' H' s7/\tn i s7.heap/\(∀b∈fp,H' b=none)/\W i m σ' H':=fun{σ7 H7} I7 n7=>by obtain⟨m',hm,w7⟩:=hN σ7 H7 n7;refine⟨m',hm,i+1,σ7,H7,I7.unpinned,T.keep _ _ _ st5 fun b hb o e=>(I7.pin (b,o) (GF _ (GF _ (nJ hb e)))).1,fun b hb=>?_,w7⟩;obtain⟨o,e,d⟩:=T.obj _ _ st5 b hb;exact(I7.pin (b,o) (GF _ (GF _ (nJ hb e)))).2.1
  cases f with
 |next=>obtain⟨σ7,H7,I7,n7⟩:=q7;exact again I7 n7
 |cont=>obtain⟨σ7,H7,I7,n7⟩:=q7;exact again I7 n7
 |brk=>obtain⟨σ7,H7,I7,q7⟩:=q7;exact⟨σ7,H7,I7.unpinned,q7⟩
 |ret v=>obtain⟨x7,σ7,H7,I7,r7,q7⟩:=q7;exact⟨x7,σ7,H7,I7.unpinned,r7,q7⟩
end
abbrev R2:=V->V->Hp->VK->Prop
def aV(X:Cx)(f:a_->a_->Sem a_)(r:R2):Prop:=∀(pz:List (Addr×Obj))(s:e_)(σ:St)(H:Hp)(x y:V)(v u:a_)(Q:VK),Inv X pz σ H s->aj x v->aj y u->r x y H Q ->B_ (Gy X.prog X.w) X.A (f v u) (EP X pz σ Q) X.xe s
def se(X:Cx)(f:a_->Sem a_)(r:V->Hp->VK->Prop):Prop:=∀(pz:List (Addr×Obj))(s:e_)(σ:St)(H:Hp)(x:V)(v:a_)(Q:VK),Inv X pz σ H s->aj x v->r x H Q ->B_ (Gy X.prog X.w) X.A (f v) (EP X pz σ Q) X.xe s
def dD(X:Cx)(f:a_)(r:List V->Hp->VK->Prop):Prop:=∀(pz:List (Addr×Obj))(s:e_)(σ:St)(H:Hp)(xs:List V)(us:List a_)(Q:VK),Inv X pz σ H s->ai xs us->r xs H Q ->B_ (Gy X.prog X.w) X.A (call f us) (EP X pz σ Q) X.xe s
def sf(X:Cx)(r:V->Hp->(Bool->Hp->Prop)->Prop):Prop:=∀(pz:List (Addr×Obj))(s:e_)(σ:St)(H:Hp)(x:V)(v:a_)(Q:Bool->Hp->Prop),Inv X pz σ H s->aj x v->r x H Q ->B_ (Gy X.prog X.w) X.A (truthy v) (TP X pz σ Q) X.xe s
def ly(r:R2)(ta tb:TE):TE:=fun σ H Q=>ta σ H fun x H1=>tb σ H1 fun y H2=>r x y H2 Q
def F9(r:V->Hp->VK->Prop)(ta:TE):TE:=fun σ H Q=>ta σ H fun x H1=>r x H1 Q
def rI(C:Int->Int->Prop)(g:Int->Int->V):R2:=fun x y H Q=>∃i j,x=.int i/\y=.int j/\C i j/\Q (g i j) H
def gO(g:Int->Int->V):R2:=fun x y H Q=>∃i j,x=.int i/\y=.int j/\Q (g i j) H
def rU(g:Int->V):V->Hp->VK->Prop:=fun x H Q=>∃i,x=.int i/\Q (g i) H
section
variable{X:Cx}{a b c:Expr}{ta tb tc:TE}{pos:Pos}
theorem jy(ha:PE X a ta)(hb:PE X b tb){pz:List (Addr×Obj)}{s:e_}{σ:St}{H:Hp}{R:V->V->Hp->Prop}(I:Inv X pz σ H s)(h:ta σ H fun x H1=>tb σ H1 fun y H2=>R x y H2){Q:a_->e_->Prop}{f:a_->a_->Sem a_}(hf:∀v u s2 x y H2,Inv X pz σ H2 s2->aj x v->aj y u->R x y H2->B_ (Gy X.prog X.w) X.A (f v u) Q X.xe s2):B_ (Gy X.prog X.w) X.A (eval a X.env) (fun v s₁=>B_ (Gy X.prog X.w) X.A (eval b X.env) (fun u s₂=>B_ (Gy X.prog X.w) X.A (f v u) Q X.xe s₂) X.xe s₁) X.xe s:=by refine aE (ha pz s σ H _ I h) fun v s1 ⟨x,H1,I1,r1,q1⟩=>?_;refine aE (hb pz s1 σ H1 _ I1 q1) fun u s2 ⟨y,H2,I2,r2,q2⟩=>?_;exact hf v u s2 x y H2 I2 r1 r2 q2
theorem zU{op:Operator}{r:R2}(ho:aV X (Im op) r)(ha:PE X a ta)(hb:PE X b tb):PE X (.BinOp a op b pos) (ly r ta tb):=by intro pz s σ H Q I h;exact wpAny_BinOp (jy ha hb I h fun v u s2 x y H2 I2 rx ry q=>ho pz s2 σ H2 x y v u Q I2 rx ry q)
theorem zV{op:UnaryOp}{r:V->Hp->VK->Prop}(ho:se X (unaryOp op) r)(ha:PE X a ta):PE X (.UnaryOp op a pos) (F9 r ta):=by intro pz s σ H Q I h;exact UnaryOp_ (aE (ha pz s σ H _ I h) fun v s1 ⟨x,H1,I1,r1,q1⟩=>ho pz s1 σ H1 x v Q I1 r1 q1)
theorem j9{f:a_->a_->Sem a_}{C:Int->Int->Prop}{g:Int->Int->Int}(rule:∀(i j:Int)(t u:Tok)(s:e_)(Q:a_->e_->Prop)(E:a_->e_->Prop),C i j->Q (.int (g i j) s.toks) { s with toks:=s.toks+1 }->B_ (Gy X.prog X.w) X.A (f (.int i t) (.int j u)) Q E s):aV X f (rI C fun i j=>.int (g i j)):=by intro pz s σ H x y v u Q I rx ry h;obtain⟨i,j,rfl,rfl,hc,q⟩:=h;obtain⟨t,rfl⟩:=rx;obtain⟨t',rfl⟩:=ry;exact rule i j t t' s _ _ hc ⟨.int (g i j),H,I.tok _,⟨_,rfl⟩,q⟩
theorem lK{f:a_->a_->Sem a_}{g:Int->Int->Int}(rule:∀(i j:Int)(t u:Tok)(s:e_)(Q:a_->e_->Prop)(E:a_->e_->Prop),Q (.int (g i j) s.toks) { s with toks:=s.toks+1 }->B_ (Gy X.prog X.w) X.A (f (.int i t) (.int j u)) Q E s):aV X f (gO fun i j=>.int (g i j)):=by intro pz s σ H x y v u Q I rx ry h;obtain⟨i,j,rfl,rfl,q⟩:=h;obtain⟨t,rfl⟩:=rx;obtain⟨t',rfl⟩:=ry;exact rule i j t t' s _ _ ⟨.int (g i j),H,I.tok _,⟨_,rfl⟩,q⟩
theorem ju{f:a_->a_->Sem a_}{g:Int->Int->Bool}(rule:∀(i j:Int)(t u:Tok)(s:e_)(Q:a_->e_->Prop)(E:a_->e_->Prop),Q (.bool (g i j)) s->B_ (Gy X.prog X.w) X.A (f (.int i t) (.int j u)) Q E s):aV X f (gO fun i j=>.bl (g i j)):=by intro pz s σ H x y v u Q I rx ry h;obtain⟨i,j,rfl,rfl,q⟩:=h;obtain⟨t,rfl⟩:=rx;obtain⟨t',rfl⟩:=ry;exact rule i j t t' s _ _ ⟨.bl (g i j),H,I,rfl,q⟩
def fH(i j:Int):Prop:=0<j/\j<1073741824
def fG(i j:Int):Prop:=0<=j/\j<=1000000/\i.natAbs<2^64
def eG(i j:Int):Prop:=(-(2^64)<i/\i<2^64)\/(-(2^64)<j/\j<2^64)
theorem eG.ok{i j:Int}(h:eG i j):IntMulOk i j:=by
 rcases h with⟨h1,h2⟩|⟨h1,h2⟩
 .exact .of_left (intBits_le_64 h1 h2)
 .exact .of_right (intBits_le_64 h1 h2)
theorem BJ:aV X (Im .Add) (gO fun i j=>.int (i+j)):=lK fun _ _ _ _ _ _ _ q=>add_int q
theorem Bm:aV X (Im .Sub) (gO fun i j=>.int (i-j)):=lK fun _ _ _ _ _ _ _ q=>sub_int q
theorem BL:aV X (Im .Mult) (rI eG fun i j=>.int (i*j)):=j9 fun _ _ _ _ _ _ _ hc q=>mul_int q hc.ok
theorem BZ:aV X (Im .FloorDiv) (rI fH fun i j=>.int (i/j)):=j9 fun i j _ _ _ _ _ hc q=>by have h1:(0:Int)<j:=hc.1;have h2:j<1073741824:=hc.2;exact floordiv_int (by omega) (by rw[J8 i (by omega)];exact q) (.inl (PyProof.noPylong_small (by omega)))
theorem BK:aV X (Im .Mod) (rI (fun _ j=>0<j) fun i j=>.int (i%j)):=j9 fun i j _ _ _ _ _ hc q=>by have h1:(0:Int)<j:=hc;exact mod_int' (by omega) (by rw[Int.fmod_eq_emod_of_nonneg i (by omega)];exact q)
theorem BM:aV X (Im .Pow) (rI fG fun i j=>.int (i^j.toNat)):=j9 fun _ _ _ _ _ _ _ hc q=>pow_int_small hc.1 hc.2.1 hc.2.2 q
theorem F8{f:a_->Sem a_}{g:Int->Int}(rule:∀(i:Int)(t:Tok)(s:e_)(Q:a_->e_->Prop)(E:a_->e_->Prop),Q (.int (g i) s.toks) { s with toks:=s.toks+1 }->B_ (Gy X.prog X.w) X.A (f (.int i t)) Q E s):se X f (rU fun i=>.int (g i)):=by intro pz s σ H x v Q I rx h;obtain⟨i,rfl,q⟩:=h;obtain⟨t,rfl⟩:=rx;exact rule i t s _ _ ⟨.int (g i),H,I.tok _,⟨_,rfl⟩,q⟩
theorem CC:se X (unaryOp .USub) (rU fun i=>.int (-i)):=F8 fun _ _ _ _ _ q=>neg_int q
end
def im:V->V->Bool
|.non,.non=>true|.non,.int _=>true|.int _,.non=>true|.non,.bl _=>true|.bl _,.non=>true|.non,.str _=>true|.str _,.non=>true
|.int _,.int _=>true|.bl _,.bl _=>true|.str _,.str _=>true|.byt _,.byt _=>true
|.int _,.str _=>true|.str _,.int _=>true|.bl _,.str _=>true|.str _,.bl _=>true
|_,_=>false
def yH:R2:=fun x y H Q=>im x y=true/\Q (.bl (decide (x=y))) H
def yF:R2:=fun x y H Q=>im x y=true/\Q (.bl (! decide (x=y))) H
theorem pj{i j:Int}:decide (V.int i=V.int j)=(i==j):=by rw[Hf];simp
theorem oM{i j:Bool}:decide (V.bl i=V.bl j)=(i==j):=by rw[Hf];simp
theorem pk{i j:Str}:decide (V.str i=V.str j)=(i==j):=by rw[Hf];simp
theorem vP{i j:Array UInt8}:decide (V.byt i=V.byt j)=(i.toList==j.toList):=by rw[Hf];cases i;cases j;simp
section
variable{X:Cx}{a b c:Expr}{ta tb tc:TE}{pos:Pos}
theorem bP{pz:List (Addr×Obj)}{σ:St}{H:Hp}{s:e_}{Q:VK}{k k':Bool}(I:Inv X pz σ H s)(q:Q (.bl k) H)(e:k=k'):EP X pz σ Q (.bool k') s:=by subst e;exact⟨.bl k,H,I,rfl,q⟩
theorem tq:aV X (Hg .Eq) yH:=by intro pz s σ H x y v u Q I rx ry h;obtain⟨hs,q⟩:=h;cases x with
|non=>cases rx;cases y with
 |non=>cases ry;exact M9 (bP I q (by simp))
 |bl j=>cases ry;exact M_ (bP I q (by simp))
 |int j=>obtain⟨t',rfl⟩:=ry;exact Np (bP I q (by simp))
 |str j=>obtain⟨t',rfl⟩:=ry;exact Nq (bP I q (by simp))
 |_=>exact absurd (show false=true from hs) j_
|bl i=>cases rx;cases y with
 |non=>cases ry;exact Na (bP I q (by simp))
 |bl j=>cases ry;exact eq_bool (bP I q oM)
 |str j=>obtain⟨t',rfl⟩:=ry;exact Nb (bP I q (by simp))
 |_=>exact absurd (show false=true from hs) j_
|int i=>obtain⟨t,rfl⟩:=rx;cases y with
 |non=>cases ry;exact Nr (bP I q (by simp))
 |int j=>obtain⟨t',rfl⟩:=ry;exact eq_int (bP I q pj)
 |str j=>obtain⟨t',rfl⟩:=ry;exact Nt (bP I q (by simp))
 |_=>exact absurd (show false=true from hs) j_
|str i=>obtain⟨t,rfl⟩:=rx;cases y with
 |non=>cases ry;exact Nu (bP I q (by simp))
 |bl j=>cases ry;exact Nc (bP I q (by simp))
 |int j=>obtain⟨t',rfl⟩:=ry;exact Nv (bP I q (by simp))
 |str j=>obtain⟨t',rfl⟩:=ry;exact eq_str (bP I q pk)
 |_=>exact absurd (show false=true from hs) j_
|byt i=>obtain⟨t,rfl⟩:=rx;cases y with
 |byt j=>obtain⟨t',rfl⟩:=ry;exact W.eq_bytes (bP I q vP)
 |_=>exact absurd (show false=true from hs) j_
|_=>cases y <;> exact absurd (show false=true from hs) j_
theorem zO:aV X (Hg .NotEq) yF:=by intro pz s σ H x y v u Q I rx ry h;obtain⟨hs,q⟩:=h;cases x with
|non=>cases rx;cases y with
 |non=>cases ry;exact Nd (bP I q (by simp))
 |bl j=>cases ry;exact Nf (bP I q (by simp))
 |int j=>obtain⟨t',rfl⟩:=ry;exact Nw (bP I q (by simp))
 |str j=>obtain⟨t',rfl⟩:=ry;exact Nx (bP I q (by simp))
 |_=>exact absurd (show false=true from hs) j_
|bl i=>cases rx;cases y with
 |non=>cases ry;exact Ng (bP I q (by simp))
 |bl j=>cases ry;exact ne_bool (bP I q (congrArg not oM))
 |str j=>obtain⟨t',rfl⟩:=ry;exact Ni (bP I q (by simp))
 |_=>exact absurd (show false=true from hs) j_
|int i=>obtain⟨t,rfl⟩:=rx;cases y with
 |non=>cases ry;exact Ny (bP I q (by simp))
 |int j=>obtain⟨t',rfl⟩:=ry;exact ne_int (bP I q (congrArg not pj))
 |str j=>obtain⟨t',rfl⟩:=ry;exact Nz (bP I q (by simp))
 |_=>exact absurd (show false=true from hs) j_
|str i=>obtain⟨t,rfl⟩:=rx;cases y with
 |non=>cases ry;exact NA (bP I q (by simp))
 |bl j=>cases ry;exact Nj (bP I q (by simp))
 |int j=>obtain⟨t',rfl⟩:=ry;exact NB (bP I q (by simp))
 |str j=>obtain⟨t',rfl⟩:=ry;exact ne_str (bP I q (congrArg not pk))
 |_=>exact absurd (show false=true from hs) j_
|byt i=>obtain⟨t,rfl⟩:=rx;cases y with
 |byt j=>obtain⟨t',rfl⟩:=ry;exact W.ne_bytes (bP I q (congrArg not vP))
 |_=>exact absurd (show false=true from hs) j_
|_=>cases y <;> exact absurd (show false=true from hs) j_
theorem og:aV X (Hg .Lt) (gO fun i j=>.bl (decide (i<j))):=ju fun _ _ _ _ _ _ _ q=>lt_int q
theorem mr:aV X (Hg .LtE) (gO fun i j=>.bl (decide (i<=j))):=ju fun _ _ _ _ _ _ _ q=>le_int q
theorem tt:aV X (Hg .Gt) (gO fun i j=>.bl (decide (j<i))):=ju fun _ _ _ _ _ _ _ q=>gt_int q
theorem aV.or{f:a_->a_->Sem a_}{r r':R2}(h:aV X f r)(h':aV X f r'):aV X f (fun x y H Q=>r x y H Q\/r' x y H Q):=by
 intro pz s σ H x y v u Q I rx ry q;rcases q with q|q
 .exact h pz s σ H x y v u Q I rx ry q
 .exact h' pz s σ H x y v u Q I rx ry q
theorem iK(b:Expr){op:NI}(h:op≠.In:=by decide)(h2:op≠.NotIn:=by decide):IF op b=false:=by
 have e1:(op==CmpOp.In)=false:=by cases op <;> first|rfl|exact absurd rfl h
 have e2:(op==CmpOp.NotIn)=false:=by cases op <;> first|rfl|exact absurd rfl h2
 cases b <;> simp[IF,e1,e2]
theorem B7{op:NI}{r:R2}(ho:aV X (Hg op) r)(ha:PE X a ta)(hb:PE X b tb)(hm:IF op b=false):PE X (.Compare a [op] [b] pos) (ly r ta tb):=by intro pz s σ H Q I h;exact wpAny_Compare1 (jy ha hb I h fun v u s2 x y H2 I2 rx ry q=>ho pz s2 σ H2 x y v u Q I2 rx ry q) hm
def sV(t:TE):TT:=fun σ H Q=>t σ H fun x H'=>∃k,x=.bl k/\Q k H'
theorem CY{op:NI}{r:R2}(ho:aV X (Hg op) r)(ha:PE X a ta)(hb:PE X b tb)(hm:IF op b=false):PT X (.Compare a [op] [b] pos) (sV (ly r ta tb)):=by intro pz s σ H Q I h;refine wpAny_isTrue_Compare1 (aE (ha pz s σ H _ I h) fun v s1 ⟨x,H1,I1,r1,q1⟩=>aE (hb pz s1 σ H1 _ I1 q1) fun u s2 ⟨y,H2,I2,r2,q2⟩=>aE (ho pz s2 σ H2 x y v u _ I2 r1 r2 q2) fun c s3 ⟨z,H3,I3,r3,k,e,q3⟩=>?_) hm;subst e;cases r3;exact HF ⟨H3,I3,q3⟩
def uP(r r':R2)(ta tb tc:TE):TE:=fun σ H Q=>ta σ H fun x H1=>tb σ H1 fun y H2=>r x y H2 fun z H3=>∃k,z=.bl k /\(if k=true then tc σ H3 fun w' H4=>r' y w' H4 Q else Q (.bl false) H3)
theorem DP{op op':NI}{r r':R2}(ho:aV X (Hg op) r)(ho':aV X (Hg op') r')(ha:PE X a ta)(hb:PE X b tb)(hc:PE X c tc)(hm:lastMarks [op,op'] [b,c]=false:=by with_unfolding_all rfl):PT X (.Compare a [op,op'] [b,c] pos) (sV (uP r r' ta tb tc)):=by intro pz s σ H Q I h;refine isTrue_chain (aE (ha pz s σ H _ I h) fun v s1 ⟨x,H1,I1,r1,q1⟩=>test_link (aE (hb pz s1 σ H1 _ I1 q1) fun u s2 ⟨y,H2,I2,r2,q2⟩=>aE (ho pz s2 σ H2 x y v u _ I2 r1 r2 q2) fun d s3 ⟨z,H3,I3,r3,k,e,q3⟩=>?_)) hm;subst e;cases r3;refine HF ?_;cases k with
|false=>obtain⟨k',e',q'⟩:=q3;cases e';exact ite_ff ⟨H3,I3,q'⟩
|true=>refine ite_tt (test_last (aE (hc pz s3 σ H3 _ I3 q3) fun w' s4 ⟨z',H4,I4,r4,q4⟩=>aE (ho' pz s4 σ H4 y z' u w' _ I4 r2 r4 q4) fun d' s5 ⟨z2,H5,I5,r5,k2,e2,q5⟩=>?_));subst e2;cases r5;exact HF ⟨H5,I5,q5⟩
def jz(K:W.Frag)(x:V)(H:Hp)(k:Bool):Prop:=match x with
|.non=>k=false
|.bl b=>k=b
|.int i=>k=(i != 0)
|.str y=>y.length<=sizeLine/\k=((y.length:Int) != 0)
|.byt y=>y.size<=sizeLine/\k=((y.size:Int) != 0)
|.ref p=>(∃xs,aL K H p xs/\k = ! xs.isEmpty)\/(∃xs,bp K H p xs/\k = ! xs.isEmpty)\/∃kvs,Rd H p (.dK kvs)/\k = ! kvs.isEmpty
|_=>False
theorem EM{κ:Type}{kvs:List (κ×V)}{vs:List (κ×a_)}(r:KV kvs vs):(! vs.isEmpty) = ! kvs.isEmpty:=by cases r <;> rfl
theorem xP{xs:List V}{its:List a_}(r:ai xs its):(! its.toArray.isEmpty) = ! xs.isEmpty:=by cases r <;> simp
theorem jS:(sizeLine:Nat)<2^63:=by rw[HA];decide
theorem Cy:sf X (fun x H Q=>∃k,jz X.K x H k/\Q k H):=by intro pz s σ H x v Q I rx h;obtain⟨k,e,q⟩:=h;have hl:=jS;have hs:sizeLine=16777216:=HA;cases x with
|non=>cases rx;have e':k=false:=e;subst e';exact truthy_none ⟨H,I,q⟩
|bl b=>cases rx;have e':k=b:=e;subst e';exact HF ⟨H,I,q⟩
|int i=>obtain⟨t,rfl⟩:=rx;have e':k=(i != 0):=e;subst e';exact PySem.P.truthy_int ⟨H,I,q⟩
|str y=>obtain⟨t,rfl⟩:=rx;obtain⟨hy,e'⟩:y.length<=sizeLine/\k=((y.length:Int) != 0):=e;subst e';exact PySem.P.truthy_str (by omega) ⟨H,I.tok _,q⟩
|byt y=>obtain⟨t,rfl⟩:=rx;obtain⟨hy,e'⟩:y.size<=sizeLine/\k=((y.size:Int) != 0):=e;subst e';exact W.truthy_bytes (by omega) ⟨H,I.tok _,q⟩
|ref p=>
  cases rx;have e':(∃xs,aL X.K H p xs/\k = ! xs.isEmpty)\/(∃xs,bp X.K H p xs/\k = ! xs.isEmpty)\/∃kvs,Rd H p (.dK kvs)/\k = ! kvs.isEmpty:=e;rcases e' with⟨xs,hx,e'⟩|⟨xs,hx,e'⟩|⟨kvs,hx,e'⟩
  .subst e';obtain⟨its,r,pl,hz⟩:=I.list hx;have hlen:=r.length;exact wpAny_truthy_list pl.isList (by simp only[p_];omega) ⟨H,I.tok _,by rw[xP r];exact q⟩
  .subst e';obtain⟨its,r,pl,hz⟩:=I.tuple hx;have hlen:=r.length;exact truthy_tuple pl (by simp only[p_];omega) ⟨H,I.tok _,by rw[xP r];exact q⟩
  .subst e';obtain⟨hz,hS,vs,r,m⟩:kvs.length<=sizeLine/\(p==Ig)=false/\∃vs,KV kvs vs/\s.heap.DictOf (dH X.prog X.w) p vs:=hx.ok I.hok;have hlen:kvs.length=vs.length:=Paired.length r;exact wpAny_truthy_dict hS m (by omega) ⟨H,I.tok _,by rw[EM r];exact q⟩
|_=>exact(show False from e).elim
theorem DQ(ha:PE X a ta)(he:∀whole,isTrue a X.env whole=(do let v <-whole;L0 a.pos;Je [v] (truthy v))):PT X a (fun σ H Q=>ta σ H fun x H'=>∃k,jz X.K x H' k/\Q k H'):=by intro pz s σ H Q I h;exact isTrue_plain (aE (ha pz s σ H _ I h) fun v s1 ⟨x,H1,I1,r1,q1⟩=>Cy pz s1 σ H1 x v Q I1 r1 q1) (he _)
theorem ET:aV X (Im .Add) (fun x y H Q=>∃i j,x=.str i/\y=.str j/\i.length+j.length<=sizeLine/\Q (.str (i++j)) H):=by intro pz s σ H x y v u Q I rx ry h;obtain⟨i,j,rfl,rfl,hz,q⟩:=h;obtain⟨t,rfl⟩:=rx;obtain⟨t',rfl⟩:=ry;exact add_str (fun t' tk=>⟨.str (i++j),H,I.tok _,⟨_,rfl⟩,q⟩) hz
theorem bU{x:V}{us:List a_}(r:ai [x] us):∃u,us=[u]/\aj x u:=by cases r with
|cons r1 r2=>cases r2;exact⟨_,rfl,r1⟩
theorem tu{x y:V}{us:List a_}(r:ai [x,y] us):∃u w',us=[u,w']/\aj x u/\aj y w':=by cases r with
|cons r1 r2=>cases r2 with
 |cons r3 r4=>cases r4;exact⟨_,_,rfl,r1,r3⟩
theorem Dq:dD X (.builtin "abs") (fun xs H Q=>∃i,xs=[.int i]/\Q (.int (if i<0 then-i else i)) H):=by intro pz s σ H xs us Q I r h;obtain⟨i,rfl,q⟩:=h;obtain⟨u,rfl,t,rfl⟩:=bU r;exact call_abs_int fun u tk=>⟨.int (if i<0 then-i else i),H,I.tok _,⟨_,rfl⟩,q⟩
def lV(K:W.Frag)(x:V)(H:Hp)(n:Nat):Prop:=match x with
|.str y=>y.length<=sizeLine/\n=y.length
|.byt y=>y.size<=sizeLine/\n=y.size
|.ref p=>(∃xs,aL K H p xs/\n=xs.length)\/∃xs,bp K H p xs/\n=xs.length
|_=>False
theorem Ds:dD X (.builtin "len") (fun xs H Q=>∃x n,xs=[x]/\lV X.K x H n/\Q (.int n) H):=by intro pz s σ H xs us Q I r h;obtain⟨x,n,rfl,e,q⟩:=h;obtain⟨u,rfl,rx⟩:=bU r;have hl:=jS;have hs:sizeLine=16777216:=HA;cases x with
|str y=>obtain⟨t,rfl⟩:=rx;obtain⟨hy,e'⟩:y.length<=sizeLine/\n=y.length:=e;subst e';exact len_str (by omega) ⟨.int _,H,I.tok _,⟨_,rfl⟩,q⟩
|byt y=>obtain⟨t,rfl⟩:=rx;obtain⟨hy,e'⟩:y.size<=sizeLine/\n=y.size:=e;subst e';exact W.len_bytes (by omega) ⟨.int _,H,I.tok _,⟨_,rfl⟩,q⟩
|ref p=>
  cases rx;have e':(∃xs,aL X.K H p xs/\n=xs.length)\/∃xs,bp X.K H p xs/\n=xs.length:=e;rcases e' with⟨xs,hx,e'⟩|⟨xs,hx,e'⟩
  .subst e';obtain⟨its,r',pl,hz⟩:=I.list hx;have hlen:=r'.length;exact Calls.call_len_list pl.isList (by simp only[p_];omega) ⟨.int xs.length,H,I.tok _,⟨_,by simp only[p_];rw[hlen]⟩,q⟩
  .subst e';obtain⟨its,r',pl,hz⟩:=I.tuple hx;have hlen:=r'.length;exact len_tuple pl (by simp only[p_];omega) ⟨.int xs.length,H,I.tok _,⟨_,by simp only[p_];rw[hlen]⟩,q⟩
|_=>exact(show False from e).elim
end
structure ObjM(h:Heap)(x dx C:Addr)(mA:Str->Option a_):Prop where
 obj:h.get? x=some (W.instObj C dx)
 ns:h.Ns1 dx mA
 ne:dx≠x
def putF(f:Str)(v:V):List (Str×V)->List (Str×V)
|[]=>[(f,v)]
|(g,x)::r=>if g=f then(g,v)::r else(g,x)::putF f v r
theorem bY.some_of{v:V}{o:Option a_}(r:bY (some v) o):∃u,o=some u/\aj v u:=by cases o with
|none=>exact(show False from r).elim
|some u=>exact⟨u,rfl,r⟩
theorem bY.none_of{o:Option a_}(r:bY none o):o=none:=by cases o with
|none=>rfl
|some u=>exact(show False from r).elim
structure Cls(K:W.Frag)(C:Addr):Prop where
 pg:W.plainGet K C Str.empty=true
 hd:W.hasDictIn K C=true
 po:W.plainOver K C=true
 sa:W.findIn K (.ref C) "__setattr__" = some (some (.builtin "object.__setattr__"))
theorem Cls.get{K:W.Frag}{C:Addr}(c:Cls K C)(f:Str):W.plainGet K C f=true:=c.pg
structure Con(K:W.Frag)(C:Addr)(f:Str)(v:V)(u:a_):Prop where
 at_:W.findIn K (.ref C) f=some (some u)
 rel:aj v u
 get:W.specialIn K u "__get__" = some none
 cp:W.copiedNames.contains f=false
structure Meth(K:W.Frag)(C:Addr)(m:Str)(f:Addr):Prop where
 at_:W.findIn K (.ref C) m=some (some (.ref f))
 fn:W.isFn K (.ref f)=true
 kp:W.keepIn K (.ref f)=true
section
variable{X:Cx}{pz:List (Addr×Obj)}{σ:St}{H:Hp}{s:e_}{a C dx:Addr}{fs:List (Str×V)}{f:Str}{v:V}{A:GP}{E:a_->e_->Prop}
theorem Inv.made(I:Inv X pz σ H s):Inv X pz σ (upd (upd H s.heap.objs.size (.own (s.heap.objs.size+1))) (s.heap.objs.size+1) (.ins C s.heap.objs.size []))
  { s with heap:=(s.heap.push W.emptyDict).push (W.instObj C s.heap.objs.size) }:=by
 have e1:(s.heap.push W.emptyDict).get? s.heap.objs.size=some W.emptyDict:=r_ s.heap rfl;have e2:((s.heap.push W.emptyDict).push (W.instObj C s.heap.objs.size)).get? (s.heap.objs.size+1)=some (W.instObj C s.heap.objs.size):=by have:=r_ (s.heap.push W.emptyDict) (o:=W.instObj C s.heap.objs.size) rfl;rwa[GX]at this
 have e3:(s.heap.push W.emptyDict).Ns s.heap.objs.size (fun _=>none):=⟨W.emptyDict,#[],_,e1,rfl,(fun e he=>absurd he (by simp)),fun _=>rfl⟩
 have I1:=I.laid (a:=s.heap.objs.size) (o:=.own (s.heap.objs.size+1)) (h':=s.heap.push W.emptyDict) (t':=s.toks) (fun b u q=>d_ _ q) (w_ _) ⟨_,e1⟩;refine I1.laid (a:=s.heap.objs.size+1) (o:=.ins C s.heap.objs.size []) (t':=s.toks) (fun b u q=>d_ _ q) (Jr (GX _ _)) ?_;have ne:s.heap.objs.size≠s.heap.objs.size+1:=F_ (HP _);refine⟨by rw[aN ne,cj],GL _,ne,e2,fun _=>none,(Heap.Ns1.of_empty e3).at fun o q=>d_ _ q,fun _=>True.intro,fun y hy=>absurd rfl hy⟩
end
section
variable{X:Cx}{pz:List (Addr×Obj)}{σ:St}{H:Hp}{s:e_}{A:GP}{E:a_->e_->Prop}{Q:a_->e_->Prop}{c:a_}{b:Bool}
inductive TyOf(K:W.Frag)(H:Hp):V->a_->Prop where
 |non:TyOf K H .non (.type "NoneType")
 |bl (x:Bool):TyOf K H (.bl x) (.type "bool")
 |int (i:Int):TyOf K H (.int i) (.type "int")
 |str (x:Str):TyOf K H (.str x) (.type "str")
 |flt (x:UInt64):TyOf K H (.flt x) (.type "float")
 |lst {a:Addr} {xs:List V} (e:H a=some (.lst xs)):TyOf K H (.ref a) (.type "list")
 |frz {a:Addr} {o:Obj} {xs:List V} (e:H a=some (.frz o (.lst xs))):TyOf K H (.ref a) (.type "list")
 |tup {a:Addr} {xs:List V} (e:H a=some (.tup xs)):TyOf K H (.ref a) (.type "tuple")
 |dK {a:Addr} {kvs:List (ap×V)} (e:H a=some (.dK kvs)):TyOf K H (.ref a) (.type "dict")
 |dT {a:Addr} {kvs:List (List ap×V)} (e:H a=some (.dT kvs)):TyOf K H (.ref a) (.type "dict")
 | ins {a C dx:Addr} {fs:List (Str × V)} (e:H a=some (.ins C dx fs)) (cl:Cls K C) (ha:W.findIn K (.ref C) "__class__" = some (some (.builtin "object.__class__")))
   (hn:W.specialIn K (.builtin "object.__class__") "__get__" = some (some (.builtin "getset_descriptor.__get__"))) (htk:W.takesIn K (.builtin "object.__class__")=some true)
   (hm:W.mroIn K C (.type "object")=some true):TyOf K H (.ref a) (.ref C)
end
structure Room(k:Nat)(A:GP):Prop where
 hd:A.handled=none
 dp:A.depth+3*k+5<recursionLimit
 un:A.units+16*k+200<Ij
 gd:A.guards=some []
theorem Room.mono{j k:Nat}{A:GP}(r:Room k A)(h:j<=k):Room j A:=⟨r.hd,by have:=r.dp;omega,by have:=r.un;omega,r.gd⟩
theorem Room.deeper{k:Nat}{A:GP}(r:Room (k+1) A)(env:Env):Room k (A.deeper env):=⟨r.hd,by have:=r.dp;show A.depth+1+3*k+5<_;omega,by have:=r.un;show A.units+3+16*k+200<_;omega,r.gd⟩
theorem Room.in1{k:Nat}{A:GP}(r:Room (k+1) A):Room k A.in1:=⟨r.hd,by have:=r.dp;show A.depth+3*k+5<_;omega,by have:=r.un;show A.units+1+16*k+200<_;omega,r.gd⟩
theorem EO{A:GP}{C:Addr}{us:List a_}{kw:List (Str×a_)}:(A.under (.builtin "type.__call__" ⟨.ref C::us,kw⟩)).depth=A.depth+1:=by first|rfl|simp[KJ,Code.weight,Code.isCreation,NN,Code.isCaller,NZ,L3,guardIds]
theorem EQ{A:GP}{C:Addr}{us:List a_}{kw:List (Str×a_)}:(A.under (.builtin "type.__call__" ⟨.ref C::us,kw⟩)).units=A.units+1:=by first|rfl|simp[KJ,Code.cUnits,NZ,L3]
theorem Room.make{k:Nat}{A:GP}(r:Room (k+1) A)(C:Addr)(us:List a_)(kw:List (Str×a_)):Room k (A.under (.builtin "type.__call__" ⟨.ref C::us,kw⟩)):=⟨r.hd,by have:=r.dp;rw[EO];omega,by have:=r.un;rw[EQ];omega,(by have:=r.gd;first|exact this|(simp[KJ,NN,guardIds];exact this))⟩
theorem Room.depth{k:Nat}{A:GP}(r:Room k A):A.depth<recursionLimit:=by have:=r.dp;omega
theorem Room.units{k:Nat}{A:GP}(r:Room k A):A.units+64<Ij:=by have:=r.un;omega
def rB:TA:=fun _ H Q=>Q [] H
def zn(ta:TE)(tr:TA):TA:=fun σ H Q=>ta σ H fun x H1=>tr σ H1 fun xs H2=>Q (x::xs) H2
section
variable{X:Cx}{e:Expr}{es:List Expr}{te:TE}{t:TA}{pos:Pos}
theorem gK:PA X [] rB:=fun _ _ _ _ H Q I h=>L4 ⟨[],H,I,.nil,h⟩
theorem cY(ha:PE X e te)(hr:PA X es t)(hs:k_ (e::es) X.env=(false,eval e X.env)::k_ es X.env:=by rfl):PA X (e::es) (zn te t):=by intro pos pz s σ H Q I h;rw[hs];show B_ _ _ (spliced ((false,eval e X.env)::backTo pos (k_ es X.env))) _ _ s;refine LK (aE (ha pz s σ H _ I h) fun u s1 ⟨x,H1,I1,r1,q1⟩=>?_);exact aE (hr pos pz s1 σ H1 _ I1 q1) fun us s2 ⟨xs,H2,I2,r2,q2⟩=>⟨x::xs,H2,I2,.cons r1 r2,q2⟩
def rp(t:TA):TE:=fun σ H Q=>t σ H fun xs H1=>xs.length<=sizeLine/\∀p,H1 p=none->Q (.ref p) (upd H1 p (.tup xs))
def rC(t:TA):TE:=fun σ H Q=>t σ H fun xs H1=>xs.length<=sizeLine/\∀p,H1 p=none->Q (.ref p) (upd H1 p (.lst xs))
theorem Bt{x1}(h:PA X es t):PE X (.Tuple es x1 pos) (rp t):=by intro pz s σ H Q I hq;refine wpAny_Tuple_spliced (aE (h pos pz s σ H _ I hq) fun us s1 ⟨xs,H1,I1,r,z,q⟩=>⟨by rw[<-r.length];exact z,?_⟩);have hf:H1 s1.heap.objs.size=none:=I1.hok.fresh (w_ _);refine⟨.ref s1.heap.objs.size,upd H1 s1.heap.objs.size (.tup xs),I1.laid (t':=s1.toks) (fun b u e=>d_ _ e) (w_ _) ?_,rfl,q _ hf⟩;exact⟨z,us,r,⟨_,r_ _ rfl,rfl,_,rfl⟩,_,r_ _ rfl,rfl⟩
theorem Bq(h:PA X es t):PE X (.List es pos) (rC t):=by intro pz s σ H Q I hq;refine wpAny_List_spliced (aE (h pos pz s σ H _ I hq) fun us s1 ⟨xs,H1,I1,r,z,q⟩=>⟨by rw[<-r.length];exact z,?_⟩);have hf:H1 s1.heap.objs.size=none:=I1.hok.fresh (w_ _);refine⟨.ref s1.heap.objs.size,upd H1 s1.heap.objs.size (.lst xs),I1.laid (t':=s1.toks) (fun b u e=>d_ _ e) (w_ _) ?_,rfl,q _ hf⟩;exact⟨z,us,0,r,r_ _ rfl⟩
end
abbrev Sp:=List V->Hp->VK->XK->Prop
abbrev eS:=List Env->Hp->e_->XK->a_->e_->Prop
structure Env0(P:u_)(w:Gz)(K:W.Frag)(mg:Str->Option a_)(base:Heap)(A:GP)(outer:List Env)(s:e_)(H:Hp):Prop where
 frames:A.frames=some outer
 mod:Mod K mg base
 bs:∀b o,base.get? b=some o->s.heap.get? b=some o/\H b=none
 bsz:base.objs.size<=s.heap.objs.size
 funs:s.heap.FunFrames base outer
 frf:∀b∈cL outer,H b=none
 hok:bO P w H s.heap
 bare:JG s.gens
def CE(outer:List Env)(P:u_)(w:Gz)(H:Hp)(s:e_)(Q:VK)(u:a_)(s':e_):Prop:=∃v H',s'.os=s.os/\JG s'.gens/\Un (cL outer) [] H H' s.heap s'.heap/\bO P w H' s'.heap/\aj v u/\Q v H'
def CR(CX:eS)(outer:List Env)(P:u_)(w:Gz)(H:Hp)(s:e_)(Q:VK)(E:XK)(r:MO)(s':e_):Prop:=match r with
|.ok (.ret u)=>CE outer P w H s Q u s'
|.ok _=>False
|.error e=>CX outer H s E e s'
structure FnOk(P:u_)(w:Gz)(K:W.Frag)(mg:Str->Option a_)(base:Heap)(CX:eS)(k:Nat)(f:Addr)(fd:HB)(ps:List Str)(sp:Sp):Prop where
 len:∀vs H Q E,sp vs H Q E->vs.length=ps.length
 run:∀(A:GP)(outer:List Env)(s:e_)(H:Hp)(args:Args)(us:List a_)(vs:List V)(Q:VK)(E:XK),Room k A->Env0 P w K mg base A outer s H->Ly s fd args (ps.zip us)->ai vs us->sp vs H Q E ->JY (Gy P w) A (.call (.ref f) args) (CR CX outer P w H s Q E) s
theorem FnOk.mono{P:u_}{w:Gz}{K:W.Frag}{mg:Str->Option a_}{base:Heap}{CX:eS}{j k:Nat}{f:Addr}{fd:HB}{ps:List Str}{sp:Sp}(F:FnOk P w K mg base CX j f fd ps sp)(h:j<=k):FnOk P w K mg base CX k f fd ps sp:=⟨F.len,fun A outer s H args us vs Q E hr=>F.run A outer s H args us vs Q E (hr.mono h)⟩
theorem FnOk.imp{P:u_}{w:Gz}{K:W.Frag}{mg:Str->Option a_}{base:Heap}{CX:eS}{k:Nat}{f:Addr}{fd:HB}{ps:List Str}{sp sp':Sp}(F:FnOk P w K mg base CX k f fd ps sp)(h:∀vs H Q E,sp' vs H Q E->sp vs H Q E):FnOk P w K mg base CX k f fd ps sp':=⟨fun vs H Q E q=>F.len vs H Q E (h _ _ _ _ q),fun A outer s H args us vs Q E hr he hb hv hs=>F.run A outer s H args us vs Q E hr he hb hv (h _ _ _ _ hs)⟩
theorem Env0.make{P:u_}{w:Gz}{K:W.Frag}{mg:Str->Option a_}{base:Heap}{A:GP}{outer:List Env}{s:e_}{H:Hp}(e:Env0 P w K mg base A outer s H)(C:Addr)(us:List a_)(kw:List (Str×a_)):Env0 P w K mg base (A.under (.builtin "type.__call__" ⟨.ref C::us,kw⟩)) outer s H:=⟨by first|exact e.frames|(simpa[KJ,Code.envs,L3,pushEnvs]using e.frames),e.mod,e.bs,e.bsz,e.funs,e.frf,e.hok,e.bare⟩
theorem Env0.in1{P:u_}{w:Gz}{K:W.Frag}{mg:Str->Option a_}{base:Heap}{A:GP}{outer:List Env}{s:e_}{H:Hp}(e:Env0 P w K mg base A outer s H):Env0 P w K mg base A.in1 outer s H:=⟨e.frames,e.mod,e.bs,e.bsz,e.funs,e.frf,e.hok,e.bare⟩
section
variable{X:Cx}{pz:List (Addr×Obj)}{σ:St}{H:Hp}{s s':e_}
theorem Inv.env0(I:Inv X pz σ H s):Env0 X.prog X.w X.K X.mg X.base X.A X.stack s H:=⟨I.ok.frames,I.ok.mod,I.bs,GY I.ok.bsz I.sz,I.stack,I.stkFree,I.hok,I.bare⟩
theorem Inv.after{Q:VK}{u:a_}(I:Inv X pz σ H s)(h:CE X.stack X.prog X.w H s Q u s'):EP X pz σ Q u s':=by obtain⟨v,H',os,bare,un,hok,r,q⟩:=h;obtain⟨hh,g,d,t,os'⟩:=s';obtain rfl:os'=s.os:=os;exact⟨v,H',I.call (h':=hh) (g':=g) (d':=d) (t':=t) (ch:=[]) un hok bare (fun b z=>absurd z (by simp)),r,q⟩
end
def zm(sp:Sp)(dvs:List V)(E:XK)(t:TA):TE:=fun σ H Q=>t σ H fun vs H1=>sp (vs++dvs) H1 Q E
def dj(K:W.Frag)(fd:HB)(ps:List Str)(ds:List a_):Prop:=∀(s:e_)(us:List a_),K.In s.heap->(us++ds).length=ps.length->Ly s fd ⟨us,[]⟩ (ps.zip (us++ds))
theorem dj.all{K:W.Frag}{fd:HB}{ps:List Str}(h:∀us:List a_,us.length=ps.length->Lj fd ⟨us,[]⟩=pure (ps.zip us)):dj K fd ps []:=fun s us _ hl=>by rw[Jf]at hl ⊢;exact .of_eq (h us hl)
def oJ(CX:eS)(X:Cx)(E:XK):Prop:=∀(pz:List (Addr×Obj))(σ:St)(H:Hp)(s:e_)(e:a_)(s':e_),Inv X pz σ H s->CX X.stack H s E e s'->X.xe e s'
section
variable{X:Cx}{CX:eS}{k:Nat}{f C:Addr}{fd:HB}{ps:List Str}{sp:Sp}{dvs:List V}{ds:List a_}{E:XK}{x m:Str}{p pos apos:Pos}{e o:Expr}{es:List Expr}{ta:TE}{t:TA}
theorem A2{pz:List (Addr×Obj)}{σ:St}{H:Hp}{s:e_}{Q:VK}{us:List a_}{vs:List V}(F:FnOk X.prog X.w X.K X.mg X.base CX k f fd ps sp)(hr:Room k X.A)(hb:dj X.K fd ps ds)(hd:ai dvs ds)(hx:oJ CX X E)(I:Inv X pz σ H s)(r:ai vs us)(h:sp (vs++dvs) H Q E):B_ (Gy X.prog X.w) X.A (call (.ref f) us) (EP X pz σ Q) X.xe s:=by
 have r2:ai (vs++dvs) (us++ds):=r.append hd;have hl:(us++ds).length=ps.length:=by rw[<-r2.length];exact F.len _ _ _ _ h
 refine MP (IU (F.run X.A X.stack s H ⟨us,[]⟩ (us++ds) (vs++dvs) Q E hr I.env0 (hb s us I.kIn hl) r2 h) fun r s' hq=>?_);cases r with
|error e=>exact hx pz σ H s e s' I hq
|ok fl=>cases fl with
 |ret u=>exact I.after hq
 |next=>exact HR hq
 |brk=>exact HR hq
 |cont=>exact HR hq
theorem kL(F:FnOk X.prog X.w X.K X.mg X.base CX k f fd ps sp)(hr:Room k X.A)(hg:Gl X x)(hm:X.mg x=some (.ref f))(hk:W.keepIn X.K (.ref f)=true)(hb:dj X.K fd ps ds)(hd:ai dvs ds)(hx:oJ CX X E)(ha:PA X (e::es) t)(hdb:(x==("__debug__" : Str))=false:=by decide)(he:k_ (e::es) X.env=(false,eval e X.env)::k_ es X.env:=by rfl)(hpl:(backTo pos (k_ es X.env)).any (·.1)=false:=by rfl):PE X (.Call (.Name x p) (e::es) [] pos) (zm sp dvs E t):=by intro pz s σ H Q I h;refine IA (wl I hg hm ?_ hdb);refine W.callWith_K (h₀:=X.base) I.ok.mod.kin hk (aE (ha pos pz s σ H _ I h) fun us s1 ⟨vs,H1,I1,r,q⟩=>⟨I1.kIn,?_⟩) he hpl;exact A2 F hr hb hd hx I1 r q
structure Mk(K:W.Frag)(C f:Addr):Prop where
 makes:W.makesIn K C=true
 init:W.findIn K (.ref C) "__init__" = some (some (.ref f))
 fn:W.isFn K (.ref f)=true
 kp:W.keepIn K (.ref C)=true
end
section
variable{X:Cx}{CX:eS}{k:Nat}{f C:Addr}{fd:HB}{ps ks:List Str}{sp:Sp}{E:XK}{x m:Str}{p pos apos kpos:Pos}{e o:Expr}{es:List Expr}{kws:List Ki}{te ta:TE}{t tk:TA}{nm:Option Str}
structure KBinds(K:W.Frag)(fd:HB)(ps ks:List Str)(g:List a_->List a_->List a_)(gV:List V->List V->List V):Prop where
 to:∀(s:e_)(us ws:List a_),K.In s.heap->(g us ws).length=ps.length->Ly s fd ⟨us,ks.zip ws⟩ (ps.zip (g us ws))
 rel:∀{vs:List V}{us:List a_}{zs:List V}{ws:List a_},ai vs us->ai zs ws->ai (gV vs zs) (g us ws)
variable{g:List a_->List a_->List a_}{gV:List V->List V->List V}
end
structure FnScope(N P:List Str)(sc:Ii):Prop where
 kind:sc.kind=.function
 co:sc.isCoroutine=false
 gen:sc.isGenerator=false
 nd:N.Nodup
 pre:N.take P.length=P
 par:∀x∈P,sc.names.lookup x=some .local\/sc.names.lookup x=some .cell
 nofree:∀y∈sc.names,y.2≠.free
theorem xy{kindOf:Str->Option IP}{x:Str}:∀{binds:List (Str×a_)}{m:Str->Option a_},(∀v,(x,v)∉binds)->MQ kindOf binds m x=m x
|[],_,_=>rfl
|(n,v)::r,m,h=>by
  unfold MQ;rw[xy fun w hw=>h w (g_ _ hw)];split
  .have:x≠n:=by rintro rfl;exact h v i_
   simp[this]
  .rfl
theorem xv{kindOf:Str->Option IP}{x:Str}:∀{binds:List (Str×a_)}{m:Str->Option a_},(∀v,(x,v)∉binds)->MR kindOf binds m x=m x
|[],_,_=>rfl
|(n,v)::r,m,h=>by
  unfold MR;rw[xv fun w hw=>h w (g_ _ hw)];split
  .rfl
  .have:x≠n:=by rintro rfl;exact h v i_
   simp[this]
theorem xw{kindOf:Str->Option IP}{x:Str}{v:a_}:∀{P:List Str}{vs:List a_}{i:Nat}{m:Str->Option a_},P.Nodup->P[i]? = some x->vs[i]? = some v->kindOf x=some .local ->MQ kindOf (P.zip vs) m x=some v
|[],_,_,_,_,h,_,_=>by simp at h
|_::_,[],_,_,_,_,h,_=>by simp at h
|p::P,w::vs,0,m,nd,h1,h2,hk=>by simp at h1 h2;subst h1;subst h2;show MQ kindOf ((p,w)::P.zip vs) m p=_;unfold MQ;rw[xy fun v hv=>(GS.mp nd).1 (K6 hv).1,if_pos hk];simp
|p::P,w::vs,i+1,m,nd,h1,h2,hk=>by show MQ kindOf ((p,w)::P.zip vs) m x=_;unfold MQ;exact xw (i:=i) (GS.mp nd).2 (by simpa using h1) (by simpa using h2) hk
theorem xu{kindOf:Str->Option IP}{x:Str}{v:a_}:∀{P:List Str}{vs:List a_}{i:Nat}{m:Str->Option a_},P.Nodup->P[i]? = some x->vs[i]? = some v->kindOf x≠some .local ->MR kindOf (P.zip vs) m x=some v
|[],_,_,_,_,h,_,_=>by simp at h
|_::_,[],_,_,_,_,h,_=>by simp at h
|p::P,w::vs,0,m,nd,h1,h2,hk=>by simp at h1 h2;subst h1;subst h2;show MR kindOf ((p,w)::P.zip vs) m p=_;unfold MR;rw[xv fun v hv=>(GS.mp nd).1 (K6 hv).1,if_neg hk];simp
|p::P,w::vs,i+1,m,nd,h1,h2,hk=>by show MR kindOf ((p,w)::P.zip vs) m x=_;unfold MR;exact xu (i:=i) (GS.mp nd).2 (by simpa using h1) (by simpa using h2) hk
def start(N:List Str)(vs:List V):St:=vs.map some++GT (N.length-vs.length) none
def bb(CX:eS)(P:u_)(w:Gz)(K:W.Frag)(mg:Str->Option a_)(base:Heap)(N:List Str)(qual:Str)(scope:Ii)(f:Addr)(cd:a_)(A:GP)(outer:List Env)(s:e_)(H:Hp)(E:XK):Cx where
 prog:=P
 w:=w
 K:=K
 mg:=mg
 base:=base
 A:=A.deeper (JB qual scope s.heap.objs.size f cd)
 N:=N
 s₀:=s
 H₀:=H
 env:=JB qual scope s.heap.objs.size f cd
 outer:=outer
 stack:=JB qual scope s.heap.objs.size f cd::outer
 ex:=[]
 calm:=true
 fn:=fun _=>true
 pn:=[]
 xe:=fun e s'=>B_ (Gy P w) (A.deeper (JB qual scope s.heap.objs.size f cd)) (leaving (JB qual scope s.heap.objs.size f cd) e) (fun _ s''=>CX outer H s E e s'') (fun e' s''=>CX outer H s E e' s'') s'
theorem xl{sc:Ii}{n:Nat}{x:Str}(h:sc.names.lookup x=some .cell):∃c,(NJ n sc.names []).lookup x=some c:=by have q:=W.cellsFrom_some sc.names n [] (.inl h);exact Option.isSome_iff_exists.mp q
theorem Ex{CX:eS}{P:u_}{w:Gz}{K:W.Frag}{mg:Str->Option a_}{base:Heap}{N ps:List Str}{qual:Str}{scope:Ii}{f:Addr}{cd:a_}{A:GP}{outer:List Env}{s s1:e_}{H:Hp}{E:XK}{us:List a_}{vs:List V}(S:FnScope N ps scope)(hd:A.handled=none)(e0:Env0 P w K mg base A outer s H)(hl:vs.length=ps.length)(r:ai vs us)(x:InCallC s s.heap.objs.size (MQ (JB qual scope s.heap.objs.size f cd).kindOf (ps.zip us) fun _=>none) (NJ (s.heap.objs.size+1) scope.names []) (MR (JB qual scope s.heap.objs.size f cd).kindOf (ps.zip us) fun _=>none) s1):Inv (bb CX P w K mg base N qual scope f cd A outer s H E) [] (start N vs) H s1:=by
 have hpl:ps.length<=N.length:=by have:=congrArg Ia S.pre;rw[IV]at this;omega
 obtain⟨h1,tk,rfl,hk⟩:=x.done;have noA:∀b:Addr,b∉(bb CX P w K mg base N qual scope f cd A outer s H E).ex:=fun b z=>absurd (show b∈([]:List Addr)from z) (by simp);refine⟨⟨e0.mod,S.kind,rfl,rfl,w_ _,fun y z c h1 h2=>?_,fun y hy=>?_,fun y c _ h=>?_,fun _=>hd,Around.frames_deeper e0.frames,.inr ⟨rfl,rfl⟩,fun b z=>absurd z (noA b),e0.bs,e0.bsz,fun b _ _=>noA b,fun b z=>absurd z (noA b),e0.funs,e0.frf⟩,rfl,e0.bare,Un.kept hk,⟨_,x.toInCall.ns,fun i y v h1 h2 h3=>?_⟩,fun y c h=>⟨_,x.cell y c h⟩,e0.hok.fresh (w_ _),fun y c h=>?_,fun p hp=>absurd (show p∈([]:List (Addr×Obj))from hp) (by simp),e0.hok.kept hk,?_⟩
 .exact name_of_addr x.apart (Hz h1) (Hz h2)
 .have hy:scope.names.lookup y=some .cell\/scope.names.lookup y=some .free:=hy;rcases hy with hy|hy
  .exact xl hy
  .exact absurd rfl (S.nofree _ (Hz hy))
 .exact LZ (x.above y c (Hz h))
 .have hi:i<vs.length:=by
   unfold start at h2;by_cases hi:i<vs.length
   .exact hi
   .rw[GG (by simpa using hi)]at h2;rw[Hb]at h2;split at h2 <;> cases h2
  have ha:vs[i]? = some v:=by unfold start at h2;rw[C_ (by simpa using hi),o_]at h2;cases e:vs[i]? with
  |none=>rw[e]at h2;cases h2
  |some a=>rw[e]at h2;cases h2;rfl
  obtain⟨u,hu,rv⟩:=r.get ha;have hp:ps[i]? = some y:=by rw[<-S.pre,List.getElem?_take_of_lt (by omega)];exact h1
  have ndP:ps.Nodup:=by rw[<-S.pre];exact S.nd.sublist (List.take_sublist _ _)
  refine⟨u,rv,?_⟩;rcases S.par y (JL hp)with k|k
  .exact .inl ⟨k,xw ndP hp hu k⟩
  .obtain⟨c,e⟩:=xl (n:=s.heap.objs.size+1) k;refine .inr ⟨.inl k,c,e,?_⟩;have q:=x.cell y c e;rw[xu ndP hp hu (by show scope.names.lookup y≠_;rw[k];decide)]at q;exact q
 .exact e0.hok.fresh (LZ (x.above y c (Hz h)))
 .unfold start;show _=N.length;rw[GB,t_,HX];omega
theorem Ab{CX:eS}{P:u_}{w:Gz}{K:W.Frag}{mg:Str->Option a_}{base:Heap}{k:Nat}{f:Addr}{name qual:Str}{params:Arguments}{body:List Stmt}{scope:Ii}{dV kV doc pm cdv ct oc:a_}{an od:Option Addr}{osl:Array (Option a_)}{N ps:List Str}{sp:Sp}(lk:K.lookup f=some ⟨oc,od,.func (W.fnOf name qual params body scope dV kV doc pm an cdv ct),osl⟩)(hcd:W.codeIn K cdv qual=true)(S:FnScope N ps scope)(len:∀vs H Q E,sp vs H Q E->vs.length=ps.length)(hbody:∀(A:GP)(outer:List Env)(s:e_)(H:Hp)(vs:List V)(Q:VK)(E:XK),Room k (A.deeper (JB qual scope s.heap.objs.size f cdv))->sp vs H Q E ->∃t,cm (bb CX P w K mg base N qual scope f cdv A outer s H E) body t/\t { nx:=fun _ H'=>Q .non H',rt:=Q } (start N vs) H):FnOk P w K mg base CX (k+1) f (W.fnOf name qual params body scope dV kV doc pm an cdv ct) ps sp:=by
 refine⟨len,fun A outer s H args us vs Q E hr e0 hb r hsp=>?_⟩;have hl:=len _ _ _ _ hsp;have KX:K.In s.heap:=e0.mod.kin.keeps fun b o e=>(e0.bs b o e).1;have lim:s.heap.NoLimit:=e0.mod.nolimit.keeps fun b o e=>(e0.bs b o e).1;have hkind:∀y∈ps.zip us,scope.names.lookup y.1=some .local\/(scope.names.lookup y.1=some .cell/\((NJ (s.heap.objs.size+1) scope.names []).lookup y.1).isSome=true):=fun⟨n,v⟩ hy=>by
  rcases S.par n (K6 hy).1 with q|q
  .exact .inl q
  .exact .inr ⟨q,W.cellsFrom_some _ _ _ (.inl q)⟩
 refine codeAny_call_function hr.depth (KX _ _ lk) rfl S.co S.gen rfl (W.codeRec_of KX hcd) (hb _ _ _ _ ?_);refine wpAny_newFunctionEnv_cells S.kind hkind fun env he s1 x=>?_;subst he;refine⟨lim.keeps x.toInCall.keep,codeAny_func ?_⟩;obtain⟨t,ht,hq⟩:=hbody A outer s H vs Q E (hr.deeper _) hsp;have I:Inv (bb CX P w K mg base N qual scope f cdv A outer s H E) [] (start N vs) H s1:=Ex S hr.hd e0 hl r x;refine HK (ht [] s1 (start N vs) H _ I hq) (fun fl s' hs=>?_) fun e s' hs=>hs;have fin:∀{σ':St}{H':Hp}{v:V}{u:a_},Inv (bb CX P w K mg base N qual scope f cdv A outer s H E) [] σ' H' s'->aj v u->Q v H'->CE outer P w H s Q u s':=fun{σ' H' v u} J rv q=>⟨v,H',J.os,J.bare,J.base,J.hok,rv,q⟩
 cases fl with
|ret u=>obtain⟨v,σ',H',J,rv,q⟩:=hs;exact fin J rv q
|next=>obtain⟨σ',H',J,q⟩:=hs;exact fin (v:=V.non) (u:=Value.none) J rfl q
|brk=>obtain⟨_,_,_,q⟩:=hs;exact HR q
|cont=>obtain⟨_,_,_,q⟩:=hs;exact HR q
section
variable{X:Cx}{x:Str}{p pos:Pos}{e:Expr}{es:List Expr}{t:TA}{id T:String}{r:List V->Hp->VK->Prop}
def lz(r:List V->Hp->VK->Prop)(t:TA):TE:=fun σ H Q=>t σ H fun vs H1=>r vs H1 Q
theorem kR(hc:dD X (.builtin id) r)(hg:Gl X x)(hm:X.mg x=none)(hv:IT x=some (.builtin id))(ha:PA X (e::es) t)(hn:x≠"__name__" := by decide)(hdb:(x==("__debug__" : Str))=false:=by decide)(he:k_ (e::es) X.env=(false,eval e X.env)::k_ es X.env:=by rfl)(hpl:(backTo pos (k_ es X.env)).any (·.1)=false:=by rfl):PE X (.Call (.Name x p) (e::es) [] pos) (lz r t):=by intro pz s σ H Q I h;refine IA (iH I hg hm hv ?_ hn hdb);exact JC (aE (ha pos pz s σ H _ I h) fun us s1 ⟨vs,H1,I1,r1,q1⟩=>hc pz s1 σ H1 vs us Q I1 r1 q1) he hpl
theorem qt(hc:dD X (.type T) r)(hg:Gl X x)(hm:X.mg x=none)(hv:IT x=some (.type T))(ha:PA X (e::es) t)(hn:x≠"__name__" := by decide)(hdb:(x==("__debug__" : Str))=false:=by decide)(he:k_ (e::es) X.env=(false,eval e X.env)::k_ es X.env:=by rfl)(hpl:(backTo pos (k_ es X.env)).any (·.1)=false:=by rfl):PE X (.Call (.Name x p) (e::es) [] pos) (lz r t):=by intro pz s σ H Q I h;refine IA (iH I hg hm hv ?_ hn hdb);exact Hs (aE (ha pos pz s σ H _ I h) fun us s1 ⟨vs,H1,I1,r1,q1⟩=>hc pz s1 σ H1 vs us Q I1 r1 q1) he hpl
end
end L2
namespace HT
open PySem PyProof.Rows
section
open PySem.SeqAt
open PySem.AutoSeq1 (wpAny_loadPart')
open PySem.MeetsSeq PySem.MeetsSeq2 PySem.MeetsSeq3
end
section
variable{prog:u_}{w:Gz}{A:GP}{E:a_->e_->Prop}{s:e_}
theorem iy{t b:Addr}{vs ws:List a_}{Q:a_->e_->Prop}(ht:NY s.heap t vs.toArray)(hb:NY s.heap b ws.toArray)(hv:vs≠[])(h1:ws=[]->Q (.ref t) s)(h2:ws≠[]->Q (.ref s.heap.objs.size) { s with heap:=s.heap.push { cls:=.type "tuple",data:=.seq (vs++ws).toArray } })(hsz:vs.length+ws.length<=sizeLine):B_ (Gy prog w) A (Im .Add (.ref t) (.ref b)) Q E s:=by
 obtain⟨⟨cls,dd,data,sl⟩,ho,hc,n,hd⟩:=id ht;obtain⟨⟨cls2,dd2,data2,sl2⟩,ho2,hc2,n2,hd2⟩:=id hb;simp only at hc hd hc2 hd2;subst hc hd hc2 hd2;have e:vs.toArray++ws.toArray=(vs++ws).toArray:=by simp
 by_cases hw:ws=[]
 .exact L5 ⟨_,ho,rfl⟩ ⟨_,ho2,rfl⟩ Mi seq_tuple_add KL Kz (Kn _ _)
   (tuple_addW1 t b vs.toArray ws.toArray n n2 dd dd2 sl sl2 (by simpa using hv) (by simp[hw])) ⟨ho,ho2,h1 hw⟩
 .refine L5 ⟨_,ho,rfl⟩ ⟨_,ho2,rfl⟩ Mi seq_tuple_add KL Kz (Kn _ _)
   (tuple_addW2 t b vs.toArray ws.toArray n n2 dd dd2 sl sl2 (by simpa using hv) (by simpa using hw) (by rw[p_,p_];exact hsz)) ⟨ho,ho2,?_⟩
  rw[e];exact h2 hw
def Gs(n d:Nat):Option Int->Nat
|none=>d
|some v=>if v<0 then(v+(n:Int)).toNat else min v.toNat n
end
end HT
namespace L2
open PySem PySem.Spec PyProof.Rows
abbrev TO:=St->Hp->(Option Int->Hp->Prop)->Prop
def PO(X:Cx)(e:Option Expr)(t:TO):Prop:=∀(pz:List (Addr×Obj))(s:e_)(σ:St)(H:Hp)(Q:Option Int->Hp->Prop),Inv X pz σ H s->t σ H Q ->B_ (Gy X.prog X.w) X.A (evalPart e X.env) (fun u s'=>∃o H',Inv X pz σ H' s'/\IsPart u o/\Q o H') X.xe s
theorem qy{ns:List Int}:∀{us:List a_},ai (ns.map V.int) us->JZ us ns:=by induction ns with
|nil=>intro us r;rw[KM]at r;cases r;exact .nil
|cons n ns ih=>intro us r;rw[A_]at r;cases r with
 |cons r1 r2=>obtain⟨t,e⟩:=r1;subst e;exact .cons n t (ih r2)
section
variable{X:Cx}{e:Expr}{te:TE}{lo hi:Option Expr}{tl th:TO}{pos p2:Pos}
def n4(X:Cx)(r:V->Option Int->Option Int->Hp->VK->Prop):Prop:=∀(pz:List (Addr×Obj))(s:e_)(σ:St)(H:Hp)(x:V)(v vl vu:a_)(lo hi:Option Int)(sl:Addr)(Q:VK),Inv X pz σ H s->aj x v->s.heap.IsSliceOf sl vl vu .none->IsPart vl lo->IsPart vu hi->r x lo hi H Q ->∃T id,typeLookup (.type T) "__getitem__" = pure (some (.builtin id))/\s.TypeIs v T/\B_ (Gy X.prog X.w) X.A (NO v (.ref sl)) (EP X pz σ Q) X.xe s
theorem n4.or{r r':V->Option Int->Option Int->Hp->VK->Prop}(h:n4 X r)(h':n4 X r'):n4 X (fun x lo hi H Q=>r x lo hi H Q\/r' x lo hi H Q):=by
 intro pz s σ H x v vl vu lo hi sl Q I rx hs pl pu q;rcases q with q|q
 .exact h pz s σ H x v vl vu lo hi sl Q I rx hs pl pu q
 .exact h' pz s σ H x v vl vu lo hi sl Q I rx hs pl pu q
def td(K:W.Frag):R2:=fun x y H Q=>∃a b xs ys,x=.ref a/\y=.ref b/\bp K H a xs/\bp K H b ys/\xs≠[]/\xs.length+ys.length<=sizeLine /\(ys=[]->Q (.ref a) H)/\(ys≠[]->∀p,H p=none->Q (.ref p) (upd H p (.tup (xs++ys))))
theorem ai.nil_iff{xs:List V}{us:List a_}(r:ai xs us):us=[]↔xs=[]:=by cases r with
|nil=>simp
|cons _ _=>simp
theorem BY:aV X (Im .Add) (td X.K):=by intro pz s σ H x y v u Q I rx ry h;obtain⟨a,b,xs,ys,rfl,rfl,ha,hb,hx,hz,q1,q2⟩:=h;cases rx;cases ry;obtain⟨its,r1,p1,_⟩:=I.tuple ha;obtain⟨its2,r2,p2,_⟩:=I.tuple hb;refine HT.iy p1 p2 (fun z=>hx (r1.nil_iff.mp z)) (fun z=>⟨.ref a,H,I,rfl,q1 (r2.nil_iff.mp z)⟩) (fun z=>?_) (by rw[<-r1.length,<-r2.length];exact hz);refine⟨.ref s.heap.objs.size,_,I.laid (t':=s.toks) (o:=.tup (xs++ys)) (fun b ob q=>d_ _ q) (w_ _) ?_,rfl,q2 (fun w=>z (r2.nil_iff.mpr w)) _ (I.hok.fresh (w_ _))⟩;exact⟨by rw[GB];exact hz,_,r1.append r2,N_ _ _,_,r_ _ rfl,rfl⟩
end
def fq(n:Nat)(i:Int):Option Nat:=if 0<=i then(if i<n then some i.toNat else none)else if-(n:Int)<=i then some (i+n).toNat else none
def dR{α:Type}(xs:List α)(i:Int):Option α:=(fq xs.length i).bind fun j=>xs[j]?
theorem wk{n:Nat}{i:Int}{j:Nat}(h:fq n i=some j):seqIndex? i n=some j/\j<n/\-(n:Int)<=i/\i<n:=by
 unfold fq at h;by_cases h0:0<=i
 .rw[if_pos h0]at h;by_cases h1:i<n
  .rw[if_pos h1]at h;have e:i.toNat=j:=Gw h;exact⟨by rw[Mw h0 h1,e],by omega,by omega,h1⟩
  .rw[if_neg h1]at h;cases h
 .rw[if_neg h0]at h;by_cases h1 : -(n:Int)<=i
  .rw[if_pos h1]at h;have e:(i+n).toNat=j:=Gw h;exact⟨by rw[seqIndex_neg (by omega) h1,e],by omega,h1,by omega⟩
  .rw[if_neg h1]at h;cases h
theorem pe{α:Type}{xs:List α}{i:Int}{v:α}(h:dR xs i=some v):∃j,seqIndex? i xs.length=some j/\xs[j]? = some v/\j<xs.length/\-(xs.length:Int)<=i/\i<xs.length:=by unfold dR at h;cases e:fq xs.length i with
|none=>rw[e]at h;cases h
|some j=>rw[e]at h;obtain⟨h1,h2,h3,h4⟩:=wk e;exact⟨j,h1,h,h2,h3,h4⟩
def pc(b:Expr):Prop:=∀o i,subscripted b false o i=operate [o,i] (NO o i)
def gy(X:Cx)(r:R2):Prop:=∀(value slice:Expr)(pz:List (Addr×Obj))(s:e_)(σ:St)(H:Hp)(x y:V)(v u:a_)(Q:VK),Inv X pz σ H s->aj x v->aj y u->r x y H Q ->subscripted slice false v u=operate [v,u] (NO v u)->B_ (Gy X.prog X.w) X.A (subscriptTail value slice v u) (EP X pz σ Q) X.xe s
def iC(X:Cx)(id:String)(r:V->List V->Hp->VK->Prop):Prop:=∀(pz:List (Addr×Obj))(s:e_)(σ:St)(H:Hp)(x:V)(xs:List V)(v:a_)(us:List a_)(Q:VK),Inv X pz σ H s->aj x v->ai xs us->r x xs H Q ->B_ (Gy X.prog X.w) X.A (call (.builtin id) (v::us)) (EP X pz σ Q) X.xe s
section
variable{X:Cx}{a b:Expr}{ta tb:TE}{pos:Pos}
theorem gy.or{r r':R2}(h:gy X r)(h':gy X r'):gy X (fun x y H Q=>r x y H Q\/r' x y H Q):=by
 intro value slice pz s σ H x y v u Q I rx ry q hs;rcases q with q|q
 .exact h value slice pz s σ H x y v u Q I rx ry q hs
 .exact h' value slice pz s σ H x y v u Q I rx ry q hs
theorem iC.or{id:String}{r r':V->List V->Hp->VK->Prop}(h:iC X id r)(h':iC X id r'):iC X id (fun x xs H Q=>r x xs H Q\/r' x xs H Q):=by
 intro pz s σ H x xs v us Q I rx rs q;rcases q with q|q
 .exact h pz s σ H x xs v us Q I rx rs q
 .exact h' pz s σ H x xs v us Q I rx rs q
theorem zT{r:R2}(hr:gy X r)(ha:PE X a ta)(hb:PE X b tb)(hs:pc b):PE X (.Subscript a b pos) (ly r ta tb):=by intro pz s σ H Q I h;exact Subscript_ (jy ha hb I h fun v u s2 x y H2 I2 rx ry q=>hr a b pz s2 σ H2 x y v u Q I2 rx ry q (hs _ _))
def lE(K:W.Frag):R2:=fun x y H Q=>∃p xs i v,x=.ref p/\y=.int i/\aL K H p xs/\dR xs i=some v/\Q v H
def lC(K:W.Frag):R2:=fun x y H Q=>∃p xs i v,x=.ref p/\y=.int i/\bp K H p xs/\dR xs i=some v/\Q v H
def lD:R2:=fun x y H Q=>∃z i c,x=.str z/\y=.int i/\z.length<=sizeLine/\dR z.cps.toList i=some c/\Q (.str ⟨#[c]⟩) H
theorem Cr:gy X (lE X.K):=by
 intro value slice pz s σ H x y v u Q I rx ry h hs;obtain⟨p,xs,i,z,rfl,rfl,hq,he,q⟩:=h;cases rx;obtain⟨t,rfl⟩:=ry;obtain⟨its,r,pl,hz⟩:=I.list hq;obtain⟨j,h1,h2,h3,h4,h5⟩:=pe he;obtain⟨w,ew,rw'⟩:=r.get h2;have hl:=r.length;have hn:=jS;have fin:EP X pz σ Q w s:=⟨z,H,I,rw',q⟩
 by_cases h0:0<=i
 .have hj:i.toNat=j:=by rw[Mw h0 h5]at h1;exact Gw h1
  exact item_listR pl.isList h0 (by omega) (by rw[hj];simpa using ew) fin hs
 .have hj:(i+(its.toArray.size:Int)).toNat=j:=by rw[seqIndex_neg (by omega) h4]at h1;rw[p_,<-hl];exact Gw h1
  exact KN (x:=w) pl.isList.typeIs slot_list_getitem.lookup
   (wpAny_getItem_list_neg (Q:=fun r s'=>r=w/\EP X pz σ Q r s') pl.isList (by omega) (by rw[p_] <;> omega) (by omega) (by rw[hj];simpa using ew) ⟨rfl,fin⟩) hs
theorem AN:gy X (lC X.K):=by
 intro value slice pz s σ H x y v u Q I rx ry h hs;obtain⟨p,xs,i,z,rfl,rfl,hq,he,q⟩:=h;cases rx;obtain⟨t,rfl⟩:=ry;obtain⟨its,r,pl,hz⟩:=I.tuple hq;obtain⟨j,h1,h2,h3,h4,h5⟩:=pe he;obtain⟨w,ew,rw'⟩:=r.get h2;have hl:=r.length;have hn:=jS;have fin:EP X pz σ Q w s:=⟨z,H,I,rw',q⟩
 exact KN (x:=w) pl.typeIs slot_tuple_getitem.lookup
  (getItem_tuple (j:=j) (Q:=fun r s'=>r=w/\EP X pz σ Q r s') pl (by omega) (by omega) (by rw[p_,<-hl];exact h1) (by simpa using ew) ⟨rfl,fin⟩) hs
theorem AM:gy X lD:=by
 intro value slice pz s σ H x y v u Q I rx ry h hs;obtain⟨z,i,c,rfl,rfl,hz,he,q⟩:=h;obtain⟨t,rfl⟩:=rx;obtain⟨t',rfl⟩:=ry;obtain⟨j,h1,h2,h3,h4,h5⟩:=pe he;have hl:z.cps.toList.length=z.length:=by simp[Str.length]
 rw[hl]at h1 h4 h5;have hn:=jS;exact tail_any (typeIs_str s z t) slot_str_getitem.lookup (getItem_str (c:=c) (by have e1:decide (i < -(2^63:Int))=false:=decide_eq_false (by omega);have e2:decide (i>=2^63)=false:=decide_eq_false (by omega);rw[e1,e2,Bool.or_false]) (by rw[h1];simpa using h2) ⟨.str ⟨#[c]⟩,H,I.tok _,⟨_,rfl⟩,q⟩) hs
def rM(K:W.Frag):R2:=fun x y H Q=>lE K x y H Q\/lC K x y H Q\/lD x y H Q
theorem AL:gy X (rM X.K):=Cr.or (AN.or AM)
theorem ER(its:List a_)(n j:Nat)(u:a_):KO (·.setIfInBounds j u) { cls:=.type "list",data:=.seq its.toArray n }={ cls:=.type "list",data:=.seq (its.set j u).toArray n }:=by simp[KO]
theorem Inv.lst{pz:List (Addr×Obj)}{σ:St}{H:Hp}{s:e_}{p:Addr}{xs:List V}(I:Inv X pz σ H s)(h:H p=some (.lst xs)):∃(its:List a_)(n:Nat),ai xs its/\s.heap.get? p=some { cls:=.type "list",data:=.seq its.toArray n }/\xs.length<=sizeLine:=by obtain⟨z,its,n,r,e⟩:=I.hok p _ h;exact⟨its,n,r,e,z⟩
theorem Inv.lstUpd{pz:List (Addr×Obj)}{σ:St}{H:Hp}{s:e_}{p:Addr}{xs ys:List V}{its its':List a_}{n n':Nat}{f:Obj->Obj}(I:Inv X pz σ H s)(h:H p=some (.lst xs))(ho:s.heap.get? p=some { cls:=.type "list",data:=.seq its.toArray n })(hf:f { cls:=.type "list",data:=.seq its.toArray n }={ cls:=.type "list",data:=.seq its'.toArray n' })(r:ai ys its')(hz:ys.length<=sizeLine)(t:Nat):Inv X pz σ (upd H p (.lst ys)) { s with heap:=s.heap.update p f,toks:=t }:=by
 have e:(s.heap.update p f).get? p=some { cls:=.type "list",data:=.seq its'.toArray n' }:=by rw[Jx f ho (by rw[hf] <;> rfl),hf]
 refine I.write (x:=p) (e:=p) (by rw[h];trivial) (.inl rfl) (fun b u hb q=>(KP _ _ (H_ hb)).trans q) ⟨_,e⟩ ?_;exact⟨hz,its',n',r,e⟩
def tj:V->V->V->Hp->(Hp->Prop)->Prop:=fun o i v H Q=>∃p xs k j,o=.ref p/\i=.int k/\H p=some (.lst xs)/\fq xs.length k=some j/\Q (upd H p (.lst (xs.set j v)))
theorem xi:dc X tj:=by
 intro pz s σ H o i v ov iv u Q I ro ri rv h;obtain⟨p,xs,k,j,rfl,rfl,hp,hj,q⟩:=h;cases ro;obtain⟨t,rfl⟩:=ri;obtain⟨its,n,r,ho,hz⟩:=I.lst hp;obtain⟨h1,h2,h3,h4⟩:=wk hj;have hl:=r.length;have hn:=jS;have I':Inv X pz σ (upd H p (.lst (xs.set j v))) { s with heap:=s.heap.update p (KO (·.setIfInBounds j u)) }:=I.lstUpd hp ho (ER its n j u) (r.set rv j) (by rw[Jg];exact hz) s.toks;by_cases h0:0<=k
 .have hk:k.toNat=j:=by rw[Mw h0 h4]at h1;exact Gw h1
  exact W.ki_setAt ho h0 (by omega) (by rw[p_,<-hl];exact h4) (by rw[hk];exact⟨_,I',q⟩)
 .have hk:(k+(its.toArray.size:Int)).toNat=j:=by rw[seqIndex_neg (by omega) h3]at h1;rw[p_,<-hl];exact Gw h1
  exact W.ki_setBack ho (by omega) (by rw[p_,<-hl];exact h3) (by omega) (by rw[hk];exact⟨_,I',q⟩)
def gB:V->Bool
|.non=>true
|.bl _=>true
|.int _=>true
|.str _=>true
|_=>false
def gS:V->V->Bool
|.non,.non=>true
|.bl a,.bl b=>a==b
|.bl a,.int b=>(if a then 1 else 0)==b
|.int a,.bl b=>a==(if b then 1 else 0)
|.int a,.int b=>a==b
|.str a,.str b=>a==b
|_,_=>false
theorem Ay{A:GP}{s:e_}{y x:V}{u v:a_}(ry:aj y u)(rx:aj x v)(fy:gB y=true)(fx:gB x=true):N7 A s u v (gS y x):=by cases y with
|non=>cases ry;cases x with
 |non=>cases rx;exact SeqAt.EqAt.same _
 |bl b=>cases rx;exact SeqAt.EqAt.none_bool b
 |int b=>obtain⟨t,rfl⟩:=rx;exact SeqAt.EqAt.none_int b t
 |str b=>obtain⟨t,rfl⟩:=rx;exact SeqAt.EqAt.none_str b t
 |_=>exact absurd (show false=true from fx) j_
|bl a=>cases ry;cases x with
 |non=>cases rx;exact SeqAt.EqAt.bool_none a
 |bl b=>cases rx;exact SeqAt.EqAt.bool_bool a b
 |int b=>obtain⟨t,rfl⟩:=rx;exact SeqAt.EqAt.bool_int a b t
 |str b=>obtain⟨t,rfl⟩:=rx;exact SeqAt.EqAt.bool_str a b t
 |_=>exact absurd (show false=true from fx) j_
|int a=>obtain⟨t',rfl⟩:=ry;cases x with
 |non=>cases rx;exact SeqAt.EqAt.int_none a t'
 |bl b=>cases rx;exact SeqAt.EqAt.int_bool a t' b
 |int b=>obtain⟨t,rfl⟩:=rx;exact SeqAt.EqAt.int_int a t' b t
 |str b=>obtain⟨t,rfl⟩:=rx;exact LH a t' b t
 |_=>exact absurd (show false=true from fx) j_
|str a=>obtain⟨t',rfl⟩:=ry;cases x with
 |non=>cases rx;exact SeqAt.EqAt.str_none a t'
 |bl b=>cases rx;exact SeqAt.EqAt.str_bool a t' b
 |int b=>obtain⟨t,rfl⟩:=rx;exact LI a t' b t
 |str b=>obtain⟨t,rfl⟩:=rx;exact SeqAt.EqAt.str_str a t' b t
 |_=>exact absurd (show false=true from fx) j_
|_=>exact absurd (show false=true from fy) j_
def ix(x:V)(u:a_):Bool:=match u with
|.none=>gS .non x
|.bool b=>gS (.bl b) x
|.int i _=>gS (.int i) x
|.str z _=>gS (.str z) x
|_=>false
theorem tw{x y:V}{u:a_}(r:aj y u)(f:gB y=true):ix x u=gS y x:=by cases y with
|non=>cases r;rfl
|bl b=>cases r;rfl
|int i=>obtain⟨t,rfl⟩:=r;rfl
|str z=>obtain⟨t,rfl⟩:=r;rfl
|_=>exact absurd (show false=true from f) j_
theorem pd{x:V}:∀{xs:List V}{us:List a_},ai xs us->xs.all gB=true->us.any (ix x)=xs.any fun y=>gS y x
|_,_,.nil,_=>rfl
|y::xs,u::us,.cons r t,f=>by rw[Ko,GR]at f;rw[IG,IG,tw r f.1,pd t f.2]
theorem pR{A:GP}{s:e_}{x:V}{v:a_}(rx:aj x v)(fx:gB x=true):∀{xs:List V}{us:List a_},ai xs us->xs.all gB=true->∀u∈us,N7 A s u v (ix x u)
|_,_,.nil,_=>fun u hu=>by cases hu
|y::xs,u::us,.cons r t,f=>fun u' hu=>by
  rw[Ko,GR]at f;rcases n_.mp hu with rfl|hu
  .rw[tw r f.1];exact Ay r rx f.1 fx
  .exact pR rx fx t f.2 u' hu
def nY(x:V)(xs:List V):Bool:=xs.any fun y=>gS y x
def yG(K:W.Frag)(neg:Bool):R2:=fun x y H Q=>∃p xs,y=.ref p/\(aL K H p xs\/bp K H p xs)/\gB x=true/\xs.all gB=true/\Q (.bl (if neg then ! nY x xs else nY x xs)) H
theorem Fv:aV X (Hg .NotIn) (yG X.K true):=by
 intro pz s σ H x y v u Q I rx ry h;obtain⟨p,xs,rfl,hq,fx,fs,q⟩:=h;cases ry;rcases hq with hq|hq
 .obtain⟨its,r,pl,hz⟩:=I.list hq;refine SeqAt.notIn_listAt (ix x) pl.isList (fun w hw=>pR rx fx r fs w (by simpa using hw)) ⟨.bl _,H,I,rfl,?_⟩;rw[show its.toArray.any (ix x)=its.any (ix x)by simp,pd r fs];exact q
 .obtain⟨its,r,pl,hz⟩:=I.tuple hq;refine SeqAt.notIn_tupleAt (ix x) pl (fun w hw=>pR rx fx r fs w (by simpa using hw)) ⟨.bl _,H,I,rfl,?_⟩;rw[show its.toArray.any (ix x)=its.any (ix x)by simp,pd r fs];exact q
theorem Fw:aV X (Hg .NotIn) (fun x y H Q=>∃i j,x=.str i/\y=.str j/\Q (.bl (!(!(Io j i 0 j.length 1).isEmpty))) H):=by intro pz s σ H x y v u Q I rx ry h;obtain⟨i,j,rfl,rfl,q⟩:=h;obtain⟨t,rfl⟩:=rx;obtain⟨t',rfl⟩:=ry;exact notIn_str ⟨.bl _,H,I,rfl,q⟩
theorem dD.or{f:a_}{r r':List V->Hp->VK->Prop}(h:dD X f r)(h':dD X f r'):dD X f (fun xs H Q=>r xs H Q\/r' xs H Q):=by
 intro pz s σ H xs us Q I rs q;rcases q with q|q
 .exact h pz s σ H xs us Q I rs q
 .exact h' pz s σ H xs us Q I rs q
theorem Fs:dD X (.type "list") (fun xs H Q=>∃p ys,xs=[.ref p]/\(aL X.K H p ys\/bp X.K H p ys)/\∀l,H l=none->Q (.ref l) (upd H l (.lst ys))):=by
 intro pz s σ H xs us Q I r h;obtain⟨p,ys,rfl,hq,q⟩:=h;obtain⟨u,rfl,rx⟩:=bU r;cases rx;have fin:∀(its:List a_),ai ys its->ys.length<=sizeLine->∀(h':Heap)(c':Nat),(∀b o',s.heap.get? b=some o'->h'.get? b=some o') ->h'.get? s.heap.objs.size=some { cls:=.type "list",dict:=none,data:=.seq its.toArray c',slots:=#[] }->EP X pz σ Q (.ref s.heap.objs.size) { s with heap:=h' }:=fun its r' hz h' c' kp e=>⟨.ref s.heap.objs.size,_,I.laid (t':=s.toks) kp (w_ _) (show bC X.prog X.w _ h' _ (.lst ys)from⟨hz,its,c',r',e⟩),rfl,q _ (I.hok.fresh (w_ _))⟩
 rcases hq with hq|hq
 .obtain⟨its,r',pl,hz⟩:=I.list hq;have hlen:=r'.length;obtain⟨o,ho,hc,n,hd⟩:=pl.isList;exact call_list_seq p (.inl rfl) ho hc hd (fun h' c' kp e=>fin its r' hz h' c' kp e) (by simp only[p_] <;> omega)
 .obtain⟨its,r',pl,hz⟩:=I.tuple hq;have hlen:=r'.length;obtain⟨o,ho,hc,n,hd⟩:=pl;exact call_list_seq p (.inr rfl) ho hc hd (fun h' c' kp e=>fin its r' hz h' c' kp e) (by simp only[p_] <;> omega)
theorem FN:dD X (.type "tuple") (fun xs H Q=>∃p ys,xs=[.ref p]/\((aL X.K H p ys/\∀l,H l=none->Q (.ref l) (upd H l (.tup ys)))\/(bp X.K H p ys/\Q (.ref p) H))):=by
 intro pz s σ H xs us Q I r h;obtain⟨p,ys,rfl,h⟩:=h;obtain⟨u,rfl,rx⟩:=bU r;cases rx;rcases h with⟨hq,q⟩|⟨hq,q⟩
 .obtain⟨its,r',pl,hz⟩:=I.list hq;have hlen:=r'.length;refine call_tuple_list pl.isList (fun h' kp=>?_) (by simp only[p_] <;> omega);have I1:Inv X pz σ H { s with heap:=h' }:=I.kept (t':=s.toks) kp;have I2:Inv X pz σ (upd H h'.objs.size (.tup ys)) { s with heap:=h'.push { cls:=.type "tuple",data:=.seq its.toArray } }:=I1.laid (t':=s.toks) (fun b o e=>d_ _ e) (w_ _) (show bC X.prog X.w _ _ _ (.tup ys)from⟨hz,its,r',N_ _ _,_,r_ _ rfl,rfl⟩);exact⟨.ref h'.objs.size,_,I2,rfl,q _ (I1.hok.fresh (w_ _))⟩
 .obtain⟨its,r',pl,hz⟩:=I.tuple hq;exact call_tuple_same pl ⟨.ref p,H,I,rfl,q⟩
def lw(K:W.Frag)(T:String)(x:V)(H:Hp):Prop:=match x with
|.str _=>T = "str"
|.int _=>T = "int"
| .ref p=>(T = "list"/\∃xs,aL K H p xs)\/(T = "tuple"/\((∃o,K.lookup p=some o/\o.cls=.type "tuple"/\o.dict=none)\/∃xs,Rd H p (.tup xs))) \/
   (T = "dict"/\((∃kvs,Rd H p (.dK kvs))\/∃kvs,H p=some (.dT kvs)))\/(T = "set"/\∃S n,H p=some (.set S n))
|_=>False
theorem uR{pz:List (Addr×Obj)}{σ:St}{H:Hp}{s:e_}{T:String}{x:V}{v:a_}(I:Inv X pz σ H s)(r:aj x v)(ty:lw X.K T x H):s.TypeIs v T/\∀a,v=.ref a->∃ob,s.heap.get? a=some ob/\ob.dict=none:=by cases x with
|str z=>obtain⟨t,rfl⟩:=r;cases(show T = "str" from ty);exact⟨typeIs_str s z t,fun _ e=>nomatch e⟩
|int i=>obtain⟨t,rfl⟩:=r;cases(show T = "int" from ty);exact⟨typeIs_int s i t,fun _ e=>nomatch e⟩
|ref p=>
  cases r;rcases ty with⟨rfl,xs,hq⟩|⟨rfl,⟨o,hk,hc,hd⟩|⟨xs,hq⟩⟩|⟨rfl,hk⟩|⟨rfl,S,n,hk⟩
  .obtain⟨its,_,pl,_⟩:=I.list hq;refine⟨pl.isList.typeIs,fun a e=>?_⟩;cases e;obtain⟨o,n,e,c,hd,_⟩:=pl;exact⟨o,e,hd⟩
  .refine⟨⟨o,I.kIn p o hk,hc⟩,fun a e=>?_⟩;cases e;exact⟨o,I.kIn _ o hk,hd⟩
  .obtain⟨_,its,_,⟨o,ho,hc,_⟩,o2,ho2,hd2⟩:=hq.ok I.hok;refine⟨⟨o,ho,hc⟩,fun a e=>?_⟩;cases e;exact⟨o2,ho2,hd2⟩
  .have z:∃o,s.heap.get? p=some o/\o.ExactDict:=by
    rcases hk with⟨kvs,hk⟩|⟨kvs,hk⟩
    .obtain⟨_,_,_,_,o,_,_,e,ex,_⟩:=(show bC X.prog X.w H s.heap p (.dK kvs)from hk.ok I.hok)
     exact⟨o,e,ex⟩
    .obtain⟨_,_,_,_,o,_,_,e,ex,_⟩:=I.hok p _ hk;exact⟨o,e,ex⟩
   obtain⟨o,e,ex⟩:=z;refine⟨⟨o,e,ex.1⟩,fun a e2=>?_⟩;cases e2;exact⟨o,e,ex.2.1⟩
  .obtain⟨o,_,_,_,e,ex,_⟩:=I.hok p _ hk;refine⟨⟨o,e,ex.1⟩,fun a e2=>?_⟩;cases e2;exact⟨o,e,ex.2.1⟩
|_=>exact HR ty
def rH(K:W.Frag)(T:String)(r:V->List V->Hp->VK->Prop)(to:TE):TE:=fun σ H Q=>to σ H fun x H1=>lw K T x H1/\r x [] H1 Q
def Gi(K:W.Frag)(T:String)(r:V->List V->Hp->VK->Prop)(to:TE)(t:TA):TE:=fun σ H Q=>to σ H fun x H1=>lw K T x H1/\t σ H1 fun xs H2=>r x xs H2 Q
variable{o e:Expr}{es:List Expr}{to:TE}{t:TA}{name:Str}{apos cpos:Pos}{T id:String}{r:V->List V->Hp->VK->Prop}
theorem Bo(pa:LL T)(slot:Slot T name id)(hty:typeOf (.builtin id)=pure (.type "method_descriptor"))(hm:iC X id r)(ho:PE X o to)(hbase:Jb o name X.env (eval o X.env)=eval o X.env:=by rfl)(hline:(apos.endLine==cpos.line)=true:=by rfl):PE X (.Call (.Attribute o name apos) [] [] cpos) (rH X.K T r to):=by intro pz s σ H Q I h;refine wpAny_Call_method0_late hbase hline (aE (ho pz s σ H _ I h) fun v s1 ⟨x,H1,I1,r1,ty,q1⟩=>?_);obtain⟨h1,h2⟩:=uR I1 r1 ty;exact⟨T,id,pa,slot,hty,h1,h2,KQ rfl (PySem.evalArgs_none (hm pz s1 σ H1 x [] v [] Q I1 r1 .nil q1))⟩
theorem zS(pa:LL T)(slot:Slot T name id)(hty:typeOf (.builtin id)=pure (.type "method_descriptor"))(hm:iC X id r)(ho:PE X o to)(ha:PA X (e::es) t)(hbase:Jb o name X.env (eval o X.env)=eval o X.env:=by rfl)(hfew:((backTo cpos (k_ (e::es) X.env)).all (fun x=>! x.1)&&(MS cpos (Ll [] X.env)).all (fun x=>x.1.isSome)
   && decide ((e::es).length+([]:List Ki).length+(if ([]:List Ki).isEmpty then 0 else 1)<30))=true:=by rfl)(hline:(apos.endLine==cpos.line)=true:=by rfl)(hs:k_ (e::es) X.env=(false,eval e X.env)::k_ es X.env:=by rfl)(hplain:(backTo cpos (k_ es X.env)).any (·.1)=false:=by rfl):PE X (.Call (.Attribute o name apos) (e::es) [] cpos) (Gi X.K T r to t):=by intro pz s σ H Q I h;refine wpAny_Call_method_late hbase hfew hline rfl (aE (ho pz s σ H _ I h) fun v s1 ⟨x,H1,I1,r1,ty,q1⟩=>?_);obtain⟨h1,h2⟩:=uR I1 r1 ty;refine⟨T,id,pa,slot,hty,h1,h2,?_⟩;have hA:=ha cpos pz s1 σ H1 _ I1 q1;rw[hs]at hA ⊢;refine KQ (by show(false || (backTo cpos (k_ es X.env)).any (·.1))=false;rw[hplain] <;> rfl) (Calls.evalArgs_plain ?_);exact aE hA fun us s2 ⟨vs,H2,I2,r2,q2⟩=>hm pz s2 σ H2 x vs v us Q I2 r1 r2 q2
end
def yS(X:Cx)(id:String)(r:V->List V->Hp->VK->Prop):Prop:=∀(pz:List (Addr×Obj))(s:e_)(σ:St)(H:Hp)(x:V)(xs:List V)(v:a_)(us:List a_)(Q:VK),Inv X pz σ H s->aj x v->ai xs us->r x xs H Q ->B_ (Gy X.prog X.w) X.A (call (.builtin id) (v::us)) (EP X pz σ Q) X.xe s
theorem ai.one{x:V}{us:List a_}(h:ai [x] us):∃u,us=[u]/\aj x u:=by cases h with
|cons r t=>cases t;exact⟨_,rfl,r⟩
theorem ai.zero:∀{us:List a_},ai [] us->us=[]
|_,.nil=>rfl
theorem ai.eraseIdx:∀{xs:List V}{us:List a_}(i:Nat),ai xs us->ai (xs.eraseIdx i) (us.eraseIdx i)
|_,_,_,.nil=>.nil
|_,_,0,.cons _ t=>t
|_,_,i+1,.cons r t=>.cons r (ai.eraseIdx i t)
theorem ai.reverse{xs:List V}{us:List a_}(h:ai xs us):ai xs.reverse us.reverse:=by induction h with
|nil=>exact .nil
|cons r t ih=>rw[Js,Js];exact ai.append ih (.cons r .nil)
section
variable{X:Cx}{pz:List (Addr×Obj)}{σ:St}{H:Hp}{s:e_}{l b:Addr}{xs ys zs:List V}
theorem Inv.lset{its its':List a_}{n:Nat}{f:Array a_->Array a_}{t':Nat}(I:Inv X pz σ H s)(hH:H l=some (.lst xs))(e:s.heap.get? l=some { cls:=.type "list",data:=.seq its.toArray n })(hf:f its.toArray=its'.toArray)(hv:ai ys its')(hz:ys.length<=sizeLine):Inv X pz σ (upd H l (.lst ys)) { s with heap:=s.heap.update l (KO f),toks:=t' }:=by have q:=PySem.IsL.update e f;rw[hf]at q;refine I.write (x:=l) (e:=l) (by rw[hH];exact trivial) (.inl rfl) (fun b' u hb hu=>(KP s.heap (KO f) (H_ hb)).trans hu) ⟨_,q⟩ ?_;exact⟨hz,its',_,hv,q⟩
theorem Inv.lnew{its:List a_}{t':Nat}(I:Inv X pz σ H s)(hv:ai ys its)(hz:ys.length<=sizeLine):Inv X pz σ (upd H s.heap.objs.size (.lst ys)) { s with heap:=s.heap.push { cls:=.type "list",data:=.seq its.toArray },toks:=t' }:=I.laid (fun _ _ q=>d_ _ q) (w_ _) ⟨hz,its,0,hv,r_ _ rfl⟩
theorem Inv.fresh(I:Inv X pz σ H s):H s.heap.objs.size=none:=I.hok.fresh (w_ _)
theorem Inv.lstM(I:Inv X pz σ H s)(hH:H l=some (.lst xs)):xs.length<=sizeLine/\∃(its:List a_)(n:Nat),ai xs its/\xs.length=its.length/\s.heap.get? l=some { cls:=.type "list",data:=.seq its.toArray n }:=by obtain⟨z,its,n,r,e⟩:=I.hok l _ hH;exact⟨z,its,n,r,r.length,e⟩
end
section
variable{X:Cx}
def vY:V->List V->Hp->VK->Prop:=fun x vs H Q=>∃l xs y,x=.ref l/\vs=[y]/\H l=some (.lst xs)/\xs.length<sizeLine/\Q .non (upd H l (.lst (xs++[y])))
theorem jn:yS X "list.append" vY:=by intro pz s σ H x vs v us Q I rx rv h;obtain⟨l,xs,y,rfl,rfl,hH,hz,q⟩:=h;cases rx;obtain⟨u,rfl,ru⟩:=rv.one;obtain⟨z,its,n,r,hl,e⟩:=I.lstM hH;refine MT F.slot_list_append ⟨_,e,rfl⟩ F.entry_list_append (F.args_list_append_2 _ _) (PySem.list_append l its.toArray n u (by rw[p_];omega)) ⟨e,?_⟩;refine⟨.non,_,I.lset (its':=its++[u]) hH e (by simp) (r.append (.cons ru .nil)) ?_,rfl,q⟩;rw[GB,Lc];omega
def vA:V->List V->Hp->VK->Prop:=fun x vs H Q=>∃l xs,x=.ref l/\vs=[]/\H l=some (.lst xs)/\Q .non (upd H l (.lst []))
theorem Dj:yS X "list.clear" vA:=by intro pz s σ H x vs v us Q I rx rv h;obtain⟨l,xs,rfl,rfl,hH,q⟩:=h;cases rx;have hus:=rv.zero;subst hus;obtain⟨z,its,n,r,hl,e⟩:=I.lstM hH;refine MT F.slot_list_clear ⟨_,e,rfl⟩ F.entry_list_clear (F.args_list_clear_1 _) (AutoSeq1.list_clear_list_0 l its.toArray n (by rw[p_];omega)) ⟨e,?_⟩;exact⟨.non,_,I.lset (its':=[]) (ys:=[]) hH e rfl .nil (GL _),rfl,q⟩
end
section
variable{κ:Type}[DecidableEq κ]
def bI(kvs:List (κ×V))(k:κ):Option V:=(kvs.find? fun kv=>decide (kv.1=k)).map (·.2)
def putK(kvs:List (κ×V))(k:κ)(v:V):List (κ×V):=if (kvs.any fun kv=>decide (kv.1=k))=true then kvs.map (fun kv=>if kv.1=k then(kv.1,v)else kv)else kvs++[(k,v)]
def sP(kvs:List (κ×V))(k:κ):List (κ×V):=kvs.filter fun kv=>decide (kv.1≠k)
theorem m7{p:κ×V}{r:List (κ×V)}{k:κ}(e:p.1=k):bI (p::r) k=some p.2:=by simp[bI,GW,e]
theorem kN{p:κ×V}{r:List (κ×V)}{k:κ}(e:¬ p.1=k):bI (p::r) k=bI r k:=by simp[bI,GW,e]
theorem wP(k:κ):∀kvs:List (κ×V),(kvs.any fun kv=>decide (kv.1=k))=(bI kvs k).isSome
|[]=>rfl
|p::r=>by
  rw[IG];by_cases e:p.1=k
  .simp only[m7 e,decide_eq_true e,NP,Option.isSome_some]
  .rw[kN e,decide_eq_false e,Bool.false_or];exact wP k r
theorem yg(kvs:List (κ×V))(k:κ)(v:V):(putK kvs k v).length<=kvs.length+1:=by
 unfold putK;split
 .rw[t_];omega
 .rw[GB,E_,K7];omega
theorem bY.isSome_eq{o:Option V}{u:Option a_}(r:bY o u):o.isSome=u.isSome:=by cases o with
|none=>cases u with
 |none=>rfl
 |some _=>exact(show False from r).elim
|some _=>cases u with
 |none=>exact(show False from r).elim
 |some _=>rfl
theorem bY.getD{o:Option V}{u:Option a_}{d:V}{d':a_}(r:bY o u)(rd:aj d d'):aj (o.getD d) (u.getD d'):=by cases o with
|none=>cases u with
 |none=>exact rd
 |some _=>exact(show False from r).elim
|some _=>cases u with
 |none=>exact(show False from r).elim
 |some _=>exact r
theorem KV.val{kvs:List (κ×V)}{vs:List (κ×a_)}(r:KV kvs vs)(k:κ):bY (bI kvs k) (Lz vs k):=by
 unfold KV at r
 induction r with
|nil=>exact True.intro
|@cons p q ps qs h t ih=>
  obtain⟨h1,h2⟩:=h;by_cases e:p.1=k
  .have e':q.1=k:=h1.symm.trans e;have b:Lz (q::qs) k=some q.2:=by simp[Lz,GW,e']
   rw[m7 e,b];exact h2
  .have e':¬ q.1=k:=fun z=>e (h1.trans z);have b:Lz (q::qs) k=Lz qs k:=by simp[Lz,GW,e']
   rw[kN e,b];exact ih
theorem KV.any{kvs:List (κ×V)}{vs:List (κ×a_)}(r:KV kvs vs)(k:κ):(kvs.any fun kv=>decide (kv.1=k))=vs.any fun kv=>decide (kv.1=k):=by
 unfold KV at r
 induction r with
|nil=>rfl
|cons h t ih=>rw[IG,IG,ih,h.1]
theorem KV.repl{kvs:List (κ×V)}{vs:List (κ×a_)}(r:KV kvs vs)(k:κ){y:V}{u:a_}(ry:aj y u):KV (kvs.map fun kv=>if kv.1=k then(kv.1,y)else kv) (vs.map fun kv=>if kv.1=k then(kv.1,u)else kv):=by
 unfold KV at r ⊢
 induction r with
|nil=>exact .nil
|@cons p q ps qs h t ih=>
  rw[A_,A_];refine .cons ?_ ih;obtain⟨h1,h2⟩:=h;by_cases e:p.1=k
  .rw[if_pos e,if_pos (h1.symm.trans e)];exact⟨h1,ry⟩
  .rw[if_neg e,if_neg (fun z=>e (h1.trans z))];exact⟨h1,h2⟩
theorem KV.put{kvs:List (κ×V)}{vs:List (κ×a_)}(r:KV kvs vs)(k:κ){y:V}{u:a_}(ry:aj y u):KV (putK kvs k y) (stored vs k u):=by
 unfold putK stored;rw[r.any k];by_cases e:(vs.any fun kv=>decide (kv.1=k))=true
 .rw[if_pos e,if_pos e];exact r.repl k ry
 .rw[if_neg e,if_neg e];exact Paired.snoc r ⟨rfl,ry⟩
theorem KV.drop{kvs:List (κ×V)}{vs:List (κ×a_)}(r:KV kvs vs)(k:κ):KV (sP kvs k) (without vs k):=by
 unfold KV at r ⊢;unfold sP without
 induction r with
|nil=>exact .nil
|@cons p q ps qs h t ih=>
  obtain⟨h1,h2⟩:=h;rw[Ip,Ip];by_cases e:p.1=k
  .have a:¬ decide (p.1≠k)=true:=by simp[e]
   have b:¬ decide (q.1≠k)=true:=by simp[h1.symm.trans e]
   rw[if_neg a,if_neg b];exact ih
  .have e':¬ q.1=k:=fun z=>e (h1.trans z);have a:decide (p.1≠k)=true:=by simp[e]
   have b:decide (q.1≠k)=true:=by simp[e']
   rw[if_pos a,if_pos b];exact .cons ⟨h1,h2⟩ ih
theorem KV.keys{kvs:List (κ×V)}{vs:List (κ×a_)}(r:KV kvs vs):kvs.map (·.1)=vs.map (·.1):=by
 unfold KV at r
 induction r with
|nil=>rfl
|cons h t ih=>rw[A_,A_,ih,h.1]
theorem KV.length{kvs:List (κ×V)}{vs:List (κ×a_)}(r:KV kvs vs):kvs.length=vs.length:=Paired.length r
end
theorem l6{P:u_}{w:Gz}{k:ap}{u:a_}(r:aj (kV k) u):(dH P w).is k u=true:=by cases k with
|inl i=>obtain⟨t,e⟩:=(show ∃t,u=Value.int i t from r);subst e;exact Fy P w i t
|inr x=>obtain⟨t,e⟩:=(show ∃t,u=Value.str x t from r);subst e;exact Fz P w x t
theorem xE{P:u_}{w:Gz}:∀{ks:List ap}{us:List a_},ai (ks.map kV) us->ItemsAre (dH P w) ks us
|[],_,r=>by rw[KM]at r;cases r;exact .nil
|k::ks,_,r=>by rw[A_]at r;cases r with
 |cons h t=>exact .cons (l6 h) (xE t)
abbrev KT(H:Hp):List (List ap×V)->List (List ap×Addr×a_)->Prop:=Paired fun p q=>p.1=q.1/\H q.2.1=some (.tup (p.1.map kV))/\aj p.2 q.2.2
theorem KT.val{H:Hp}{kvs:List (List ap×V)}{xs:List (List ap×Addr×a_)}(r:KT H kvs xs)(k:List ap):bY (bI kvs k) ((Mx xs k).map (·.2)):=by induction r with
|nil=>exact True.intro
|@cons p q ps qs h t ih=>
  obtain⟨h1,_,h2⟩:=h;by_cases e:p.1=k
  .have e':q.1=k:=h1.symm.trans e;have b:Mx (q::qs) k=some q.2:=by simp[Mx,GW,e']
   rw[m7 e,b];exact h2
  .have e':¬ q.1=k:=fun z=>e (h1.trans z);have b:Mx (q::qs) k=Mx qs k:=by simp[Mx,GW,e']
   rw[kN e,b];exact ih
theorem KT.repl{H:Hp}{kvs:List (List ap×V)}{xs:List (List ap×Addr×a_)}(r:KT H kvs xs)(k:List ap){y:V}{u:a_}(ry:aj y u):KT H (kvs.map fun kv=>if kv.1=k then(kv.1,y)else kv) (xs.map (putAt k u)):=by induction r with
|nil=>exact .nil
|@cons p q ps qs h t ih=>
  rw[A_,A_];refine .cons ?_ ih;obtain⟨h1,h2,h3⟩:=h;unfold putAt;by_cases e:p.1=k
  .rw[if_pos e,if_pos (h1.symm.trans e)];exact⟨h1,h2,ry⟩
  .rw[if_neg e,if_neg (fun z=>e (h1.trans z))];exact⟨h1,h2,h3⟩
theorem KT.put{H:Hp}{kvs:List (List ap×V)}{xs:List (List ap×Addr×a_)}(r:KT H kvs xs)(k:List ap){b:Addr}{y:V}{u:a_}(hb:H b=some (.tup (k.map kV)))(ry:aj y u):KT H (putK kvs k y) (storedH xs k b u):=by
 have e:(kvs.any fun kv=>decide (kv.1=k))=(Mx xs k).isSome:=by rw[wP,(r.val k).isSome_eq,L6]
 unfold putK storedH;rw[e];by_cases q:(Mx xs k).isSome=true
 .rw[if_pos q,if_pos q];exact r.repl k ry
 .rw[if_neg q,if_neg q];exact Paired.snoc r ⟨rfl,hb,ry⟩
theorem KT.keeps{H H':Hp}{kvs:List (List ap×V)}{xs:List (List ap×Addr×a_)}(r:KT H kvs xs)(ht:∀b ys,H b=some (.tup ys)->H' b=some (.tup ys)):KT H' kvs xs:=Paired.mapP r fun _ _ z=>⟨z.1,ht _ _ z.2.1,z.2.2⟩
section
variable{P:u_}{w:Gz}{H:Hp}{h:Heap}{a:Addr}
theorem tm{u:HO}(ok:bO P w H h)(e:Rd H a u):bC P w H h a u:=e.ok ok
theorem ko{kvs:List (ap×V)}(ok:bO P w H h)(e:Rd H a (.dK kvs)):kvs.length<=sizeLine/\(a==Ig)=false/\∃vs,KV kvs vs/\h.DictOf (dH P w) a vs:=show bC P w H h a (.dK kvs)from tm ok e
theorem zY{kvs:List (ap×V)}(ok:bO P w H h)(e:H a=some (.dK kvs)):kvs.length<=sizeLine/\(a==Ig)=false/\∃vs,KV kvs vs/\h.DictOf (dH P w) a vs:=ko ok (.inl e)
theorem my{ks:List ap}(ok:bO P w H h)(e:H a=some (.tup (ks.map kV))):(Lx (dH P w)).is h ks a:=by
 obtain⟨_,its,r,⟨o,h1,h2,n,h3⟩,_⟩:=(show bC P w H h a (.tup (ks.map kV))from ok a _ e)
 exact⟨o,its.toArray,n,h1,h2,h3,by simpa using xE r⟩
theorem lY{kvs:List (List ap×V)}(ok:bO P w H h)(e:Rd H a (.dT kvs)):kvs.length<=sizeLine/\(a==Ig)=false /\∃xs,KT H kvs xs/\h.DictOfH (Lx (dH P w)) a xs:=by
 obtain⟨z,y,xs,r,o,es,ep,h1,h2,h3,h4,h5⟩:=(show bC P w H h a (.dT kvs)from tm ok e)
 refine⟨z,y,xs,r,o,es,ep,h1,h2,h3,h4,fun x hx=>?_,h5⟩;have all:∀{l:List (List ap×V)}{m:List (List ap×Addr×a_)},KT H l m->∀x∈m,(Lx (dH P w)).is h x.1 x.2.1:=by
  intro l m q
  induction q with
 |nil=>intro x hx;exact nomatch hx
 |@cons p q ps qs hq t ih=>
   intro x hx;rcases n_.mp hx with e|hx
   .subst e;exact my ok (by rw[<-hq.1];exact hq.2.1)
   .exact ih x hx
 exact all r x hx
theorem zZ{kvs:List (List ap×V)}(ok:bO P w H h)(e:H a=some (.dT kvs)):kvs.length<=sizeLine/\(a==Ig)=false /\∃xs,KT H kvs xs/\h.DictOfH (Lx (dH P w)) a xs:=lY ok (.inl e)
end
def de(H:Hp)(a:Addr)(y:V)(r:Option V):Prop:=(∃kvs k,Rd H a (.dK kvs)/\y=kV k/\r=bI kvs k)\/∃kvs k b,Rd H a (.dT kvs)/\y=.ref b/\H b=some (.tup (k.map kV))/\r=bI kvs k
def eB(H:Hp)(a:Addr)(y v:V)(H':Hp):Prop:=(∃kvs k,H a=some (.dK kvs)/\y=kV k/\kvs.length<sizeLine/\H'=upd H a (.dK (putK kvs k v))) \/∃kvs k b,H a=some (.dT kvs)/\y=.ref b/\H b=some (.tup (k.map kV))/\kvs.length<sizeLine/\H'=upd H a (.dT (putK kvs k v))
theorem de.k{H:Hp}{a:Addr}{kvs:List (ap×V)}{k:ap}(e:H a=some (.dK kvs)):de H a (kV k) (bI kvs k):=.inl ⟨kvs,k,.inl e,rfl,rfl⟩
theorem de.t{H:Hp}{a b:Addr}{kvs:List (List ap×V)}{k:List ap}(e:H a=some (.dT kvs))(eb:H b=some (.tup (k.map kV))):de H a (.ref b) (bI kvs k):=.inr ⟨kvs,k,b,.inl e,rfl,eb,rfl⟩
theorem eB.k{H:Hp}{a:Addr}{kvs:List (ap×V)}{k:ap}{v:V}(e:H a=some (.dK kvs))(hl:kvs.length<sizeLine):eB H a (kV k) v (upd H a (.dK (putK kvs k v))):=.inl ⟨kvs,k,e,rfl,hl,rfl⟩
theorem eB.t{H:Hp}{a b:Addr}{kvs:List (List ap×V)}{k:List ap}{v:V}(e:H a=some (.dT kvs))(eb:H b=some (.tup (k.map kV)))(hl:kvs.length<sizeLine):eB H a (.ref b) v (upd H a (.dT (putK kvs k v))):=.inr ⟨kvs,k,b,e,rfl,eb,hl,rfl⟩
section
variable{X:Cx}{pz:List (Addr×Obj)}{σ:St}{H:Hp}{s:e_}{a:Addr}{y v:V}{u r:a_}{o:Option V}{A:GP}{E:a_->e_->Prop}
theorem Inv.big(I:Inv X pz σ H s):Ig<s.heap.objs.size:=by have h:Hr<s.heap.objs.size:=(I.mod.glob.keeps I.bk).lt;exact Nat.lt_trans (by decide) h
theorem DI{Q:a_->e_->Prop}(hu:A.units+1<Ij)(I:Inv X pz σ H s)(g:de H a y (some v))(ry:aj y u)(h:∀w' s',Inv X pz σ H s'->aj v w'->Q w' s'):B_ (Gy X.prog X.w) A (NO (.ref a) u) Q E s:=by
 rcases g with⟨kvs,k,e,ey,l⟩|⟨kvs,k,b,e,ey,eb,l⟩
 .subst ey;obtain⟨z,hd,vs,rel,dd⟩:=ko I.hok e;obtain⟨w',hw,rw'⟩:=bY.some_of (v:=v) (o:=Lz vs k) (by rw[l];exact rel.val k);exact wpAny_getItem_of (l6 ry) dd.mapOf hw (h w' _ (I.tok _) rw')
 .subst ey;cases(show u=Value.ref b from ry);obtain⟨z,hd,xs,rel,dd⟩:=lY I.hok e;obtain⟨w',hw,rw'⟩:=bY.some_of (v:=v) (o:=(Mx xs k).map (·.2)) (by rw[l];exact rel.val k);obtain⟨p,hp,hp2⟩:=Option.map_eq_some_iff.mp hw;refine wpAny_getItem_heap (J9 hu) (my I.hok eb) dd hp ?_;rw[hp2];exact h w' _ (I.tok _) rw'
theorem Cn{Q:a_->e_->Prop}(hu:A.units+1<Ij)(I:Inv X pz σ H s)(g:de H a y o)(ry:aj y u)(h:∀s',Inv X pz σ H s'->Q (.bool (! o.isSome)) s'):B_ (Gy X.prog X.w) A (Hg .NotIn u (.ref a)) Q E s:=by
 rcases g with⟨kvs,k,e,ey,l⟩|⟨kvs,k,b,e,ey,eb,l⟩
 .subst ey;obtain⟨z,hd,vs,rel,dd⟩:=ko I.hok e;refine wpAny_notIn_of (l6 ry) hd dd.mapOf ?_;rw[<-(rel.val k).isSome_eq,<-l];exact h _ (I.tok _)
 .subst ey;cases(show u=Value.ref b from ry);obtain⟨z,hd,xs,rel,dd⟩:=lY I.hok e;refine wpAny_notIn_heap (J9 hu) (my I.hok eb) hd dd ?_;have q:=(rel.val k).isSome_eq;rw[L6]at q;rw[<-q,<-l];exact h _ (I.tok _)
theorem vO{h':Heap}{t':Nat}{ob:HO}(I:Inv X pz σ H s)(mu:lU (H a))(hs:Jq a s.heap h')(he:∃q,h'.get? a=some q)(new:bC X.prog X.w (upd H a ob) h' a ob):Inv X pz σ (upd H a ob) { s with heap:=h',toks:=t' }:=I.write (x:=a) (e:=a) mu (.inl rfl) (fun b q hb z=>(hs.2 b hb).trans z) he new
theorem AW{P:u_}{w:Gz}{H':Hp}{h':Heap}{kvs:List (ap×V)}{vs:List (ap×a_)}(z:kvs.length<=sizeLine)(hd:(a==Ig)=false)(rel:KV kvs vs)(dd:h'.DictOf (dH P w) a vs):bC P w H' h' a (.dK kvs):=⟨z,hd,vs,rel,dd⟩
theorem DJ{H':Hp}{Q:Unit->e_->Prop}(hu:A.units+1<Ij)(I:Inv X pz σ H s)(g:eB H a y v H')(ry:aj y u)(rv:aj v r)(h:∀s',Inv X pz σ H' s'->Q () s'):B_ (Gy X.prog X.w) A (MK (.ref a) u r) Q E s:=by
 rcases g with⟨kvs,k,e,ey,l,eH⟩|⟨kvs,k,b,e,ey,eb,l,eH⟩
 .subst ey eH;obtain⟨z,hd,vs,rel,dd⟩:=zY I.hok e;have hz:vs.length<=sizeLine:=by rw[<-rel.length];exact z
  have hl:(putK kvs k v).length<=sizeLine:=by have:=yg kvs k v;omega
  refine wpAny_setItem_pairs (hsz:=hz) (l6 ry) dd fun h' dd' hs=>h _ ?_;have he:∃q,h'.get? a=some q:=let⟨q,_,_,hq,_⟩:=dd';⟨q,hq⟩;exact vO I (by rw[e];exact True.intro) hs he (AW hl hd (rel.put k rv) dd')
 .subst ey eH;cases(show u=Value.ref b from ry);obtain⟨z,hd,xs,rel,dd⟩:=zZ I.hok e;have hz:xs.length<=sizeLine:=by rw[<-Paired.length rel];exact z
  have hl:(putK kvs k v).length<=sizeLine:=by have:=yg kvs k v;omega
  refine wpAny_setItem_heap (hsz:=hz) (J9 hu) (my I.hok eb) dd fun h' dd' hs=>h _ ?_;obtain⟨q,es,ep,hq,h2,h3,h4,_,h5⟩:=dd';refine vO I (by rw[e];exact True.intro) hs ⟨q,hq⟩ ⟨hl,hd,_,(rel.put k eb rv).keeps fun c ys ec=>?_,q,es,ep,hq,h2,h3,h4,h5⟩;rw[aN (zH ec e (fun z=>nomatch z))];exact ec
end
section
variable{X:Cx}{pz:List (Addr×Obj)}{σ:St}{H:Hp}{s:e_}{a:Addr}{kvs:List (ap×V)}{k:ap}{u:a_}{A:GP}{E:a_->e_->Prop}
theorem y9{Q:a_->e_->Prop}(I:Inv X pz σ H s)(e:Rd H a (.dK kvs))(h:∀t s',Inv X pz σ H s'->Q (.int kvs.length t) s'):B_ (Gy X.prog X.w) A (call (.builtin "len") [.ref a]) Q E s:=by obtain⟨z,hd,vs,rel,dd⟩:=ko I.hok e;refine call_len_dict hd dd (by rw[<-rel.length];rw[HA]at z;omega) ?_;rw[<-rel.length];exact h _ _ (I.tok _)
end
theorem Fj{X:Cx}{pz:List (Addr×Obj)}{σ:St}{H:Hp}{s:e_}{a:Addr}{y:V}{o:Option V}(I:Inv X pz σ H s)(g:de H a y o):s.TypeIs (.ref a) "dict" := by
 rcases g with⟨kvs,k,e,_,_⟩|⟨kvs,k,b,e,_,_,_⟩
 .obtain⟨_,_,vs,_,dd⟩:=ko I.hok e;exact dd.typeIs
 .obtain⟨_,_,xs,_,dd⟩:=lY I.hok e;exact dd.typeIs
theorem Dz{P:u_}{w:Gz}{H:Hp}(h:Heap)(hb:Ig<h.objs.size):bC P w H (h.push { cls:=.type "dict",data:=.dict #[] }) h.objs.size (.dK []):=⟨GL _,beq_eq_false_iff_ne.mpr (H_ (F_ hb)),[],.nil,Heap.DictOf.new h⟩
def Bh:TE:=fun _ H Q=>∀p,H p=none->Q (.ref p) (upd H p (.dK []))
section
variable{X:Cx}{pos:Pos}
theorem Eg:PE X (.Dict [] [] pos) Bh:=fun pz s σ H Q I h=>wpAny_Dict_empty ⟨.ref s.heap.objs.size,_,I.laid (a:=s.heap.objs.size) (o:=.dK []) (t':=s.toks) (fun _ _ q=>d_ _ q) (w_ _) (Dz s.heap I.big),rfl,h _ (I.hok.fresh (w_ _))⟩
end
structure M1(X:Cx)(o:Expr)(m:Str)(apos:Pos)(e:Expr)(cpos:Pos):Prop where
 base:Jb o m X.env (eval o X.env)=eval o X.env
 few:((backTo cpos (k_ [e] X.env)).all (fun x=>! x.1)&&(MS cpos (Ll [] X.env)).all (fun x=>x.1.isSome)
  && decide (([e]:List Expr).length+([]:List Ki).length+(if ([]:List Ki).isEmpty then 0 else 1)<30))=true
 line:(apos.endLine==cpos.line)=true
 trees:backTo cpos (k_ [e] X.env)=[(false,eval e X.env)]
structure M2(X:Cx)(o:Expr)(m:Str)(apos:Pos)(e f:Expr)(cpos:Pos):Prop where
 base:Jb o m X.env (eval o X.env)=eval o X.env
 few:((backTo cpos (k_ [e,f] X.env)).all (fun x=>! x.1)&&(MS cpos (Ll [] X.env)).all (fun x=>x.1.isSome)
  && decide (([e,f]:List Expr).length+([]:List Ki).length+(if ([]:List Ki).isEmpty then 0 else 1)<30))=true
 line:(apos.endLine==cpos.line)=true
 trees:backTo cpos (k_ [e,f] X.env)=[(false,eval e X.env),(false,eval f X.env)]
end L2
namespace Att
open PySem PySem.W PySem.Calls PyProof.Rows
theorem FV{P:Params}{h:Heap}:∀(ns:List Int)(vs:List a_),WellAll P h vs (ns.map WData.int)->JZ vs ns:=by
 intro ns
 induction ns with
|nil=>intro vs w;rw[KM]at w;cases w;exact .nil
|cons n ns ih=>intro vs w;rw[A_]at w;cases w with
 |cons a b=>cases a;exact .cons _ _ (ih _ b)
theorem E2{l:OpenLaw}{n:Nat}(hn:l.most=some n){P:Params}{h:Heap}{args:List WData}{vals:List a_}(hpre:l.row.toRowW.claim.pre args=true)(hwl:WellAll P h vals args):∃a vs ns,vals=[Value.ref a]/\args=[WData.list (ns.map WData.int)]/\h.get? a=some { cls:=.type "list",data:=.seq vs.toArray }/\JZ vs ns/\ns.length<=n:=by
 have hsh:WShape.hasAll [] args [.list .int]=true:=(pre_splitW hpre).1;have hc:l.pre.holds [] { args:=args }=true:=(pre_splitW hpre).2;obtain⟨d,r,rfl,h1,h2⟩:=hasAllW_cons hsh;obtain rfl:=hasAllW_nil h2;obtain⟨xs,rfl,h3⟩:=hasW_list h1;obtain⟨ns,rfl⟩:=items_int h3;have hlen:ns.length<=n:=by
  unfold OpenLaw.pre at hc;have h4:(WTm.not (.lt (.lit (.int (n:Int))) (.len (.arg 0)))).holds [] { args:=[.list (ns.map .int)] }=true:=by have h4:=(holds_andW hc).1;rw[hn]at h4;exact h4
  have h5:=condW_of h4 (w_not (w_lt w_lit (w_len_list (w_arg rfl))));rw[t_]at h5;refine Nat.le_of_not_lt fun q=>?_;have q':(n:Int)<((ns.length:Nat):Int):=by omega
  first
   |(rw[decide_eq_true q']at h5;exact absurd h5 (by decide))
   |(simp at h5;omega)
 cases hwl with
|cons w1 w2=>cases w2;cases w1 with
 |list ho hall=>exact⟨_,_,ns,rfl,rfl,ho,FV ns _ hall,hlen⟩
theorem Ep(l:OpenLaw)(args:List WData):l.row.toRowW.claim.post args (.bool true) args=true:=
 postW_of (r:=l.row.toRowW) (X:=(true==true))
  (show N8 [] (.bool true) .bool=true by first|rfl|decide|simp[N8,WShape.arms,WShape.armsAll])
  (show(WTm.eq .res (.lit (.bool true))).value [] { args:=args,res:=some (.bool true),after:=args }=some (.bool (true==true))from w_eq_bool (w_res rfl) w_lit) rfl
theorem attach_call{l:OpenLaw}{n:Nat}{q:u_}{loose:List Str}{XP:(Str->Option a_)->Heap->Prop}{YP:Gz->Heap->Prop}{d:DefRec}(hn:l.most=some n)(hdf:d.params.defaults=[])(call:∀(w:Gz)(s₀ s₁:e_)(mg mb:Str->Option a_)(fa:Addr)(o:Obj)(pm cd doc:a_)(a:Addr)(vs:List a_)(ns:List Int),Ground q loose [] XP w s₀ mg mb s₁.heap->YP w s₁.heap ->s₁.heap.get? fa=some o->o.data=.func (docDef d.name d.params d.body d.scope pm cd doc)->s₁.heap.CodeRec cd d.name->mg d.name=some (.ref fa) ->s₁.heap.get? a=some { cls:=.type "list",data:=.seq vs.toArray }->JZ vs ns->ns.length<=n->s₁.gens = #[] ->JY (Gy l.prog w) KR (.call (.ref fa) ⟨[.ref a],[]⟩) (fun r s'=>r=.ok (.ret (.bool true))/\OldK s₁.heap s'.heap/\s'.os=s₁.os/\JG s'.gens) s₁):WalkO q loose XP YP l.row.toRowW d [] (fun f vs=>MU f vs):=by intro w s₀ s₁ mg mb G Y fa o pm cd doc dV kV ho hd hcd hD hmg hg args vals as hpre hlay hrd hwl hlo;obtain rfl:dV=.none:=Dflts.none hD hdf;obtain rfl:kV=.none:=Dflts.noKw hD;obtain⟨a,vs,ns,rfl,rfl,hobj,hints,hlen⟩:=E2 hn hpre hwl;refine enter_call (IU (call w s₀ s₁ mg mb fa o pm cd doc a vs ns G Y ho (fd_plain hd) hcd hmg hobj hints hlen hg) fun r s' hq=>?_);obtain⟨rfl,h2,h3,h4⟩:=hq;exact⟨.inl ⟨.bool true,.bool true,[],rfl,fun _=>rfl,.bool true,Ep l _,fun _=>⟨List.Pairwise.nil,fun _ hm=>(nomatch hm)⟩⟩,h2,h3,h4⟩
end Att
namespace L2
open PySem PySem.Spec PyProof.Rows
theorem xW:∀{vs:List a_}{ns:List Int},JZ vs ns->ai (ns.map V.int) vs
|_,_,.nil=>.nil
|_,_,.cons n t h=>.cons ⟨t,rfl⟩ (xW h)
def jC(H:Hp):Prop:=∀b,H b=none\/∃o xs,H b=some (.frz o (.lst xs))
theorem Db{P:u_}{w:Gz}{K:W.Frag}{mg mb:Str->Option a_}{CX:eS}{k:Nat}{fa a:Addr}{fd:HB}{x:Str}{sp:Sp}{s₁:e_}{vs:List a_}{ns:List Int}(KX:K.In s₁.heap)(hns:s₁.heap.Ns Hr mg)(hb:s₁.heap.Ns ML mb)(hbb:∀x:Str,x≠"__name__"->mb x=IT x)(hlim:s₁.heap.NoLimit)(hg:s₁.gens = #[])(ha:s₁.heap.get? a=some { cls:=.type "list",data:=.seq vs.toArray })(hi:JZ vs ns)(hl:ns.length<=sizeLine)(hr:Room k KR)(F:∀base:Heap,K.In base->base.Ns Hr mg->FnOk P w K mg base CX k fa fd [x] sp)(hbind:∀(s:e_)(u:a_),Ly s fd ⟨[u],[]⟩ [(x,u)])(hsp:∀H:Hp,jC H->aL K H a (ns.map V.int)->sp [.ref a] H (fun v _=>v=.bl true) fun _ _ _=>False)(hCX:∀H e s',CX [] H s₁ (fun _ _ _=>False) e s'->False):JY (Gy P w) KR (.call (.ref fa) ⟨[.ref a],[]⟩) (fun r s'=>r=.ok (.ret (.bool true))/\OldK s₁.heap s'.heap/\s'.os=s₁.os/\JG s'.gens) s₁:=by
 have rv:=xW hi;have lenV:=hi.length;have core:∀H:Hp,jC H->aL K H a (ns.map V.int)->bO P w H s₁.heap->(∀b,H b≠none->b=a)->(H a≠none->K.lookup a=none) ->JY (Gy P w) KR (.call (.ref fa) ⟨[.ref a],[]⟩) (fun r s'=>r=.ok (.ret (.bool true))/\OldK s₁.heap s'.heap/\s'.os=s₁.os/\JG s'.gens) s₁:=by
  intro H hO hS hok hA hK;have base_of:∀{b:Addr}{o:Obj},s₁.heap.get? b=some o->H b=none->(c8 s₁.heap H).get? b=some o:=fun e n=>C8 e n;have noA:∀{b:Addr}{o:Obj}{es:Array Mj}{ep:Nat},s₁.heap.get? b=some o->o.data=.dict es ep->H b=none:=fun{b o es ep} e d=>by cases q:H b with
  |none=>rfl
  |some u=>have e':b=a:=hA b (by rw[q];simp);subst e';rw[ha]at e;cases e;have d':Data.seq vs.toArray _=Data.dict es ep:=d;cases d'
  have nsK:∀{b:Addr}{m:Str->Option a_},s₁.heap.Ns b m->(c8 s₁.heap H).Ns b m:=fun{b m} ⟨o,es,ep,e,d,r⟩=>⟨o,es,ep,base_of e (noA e d),d,r⟩
  have hKb:K.In (c8 s₁.heap H):=fun b o e=>base_of (KX b o e) (by cases q:H b with
  |none=>rfl
  |some u=>have e':b=a:=hA b (by rw[q];simp);subst e';rw[hK (by rw[q];simp)]at e;cases e)
  have hM:Mod K mg (c8 s₁.heap H):=⟨hKb,nsK hns,⟨mb,nsK hb,hbb⟩,let⟨mc,h1,h2⟩:=hlim;⟨mc,nsK h1,h2⟩⟩
  have e0:Env0 P w K mg (c8 s₁.heap H) KR [] s₁ H:=⟨rfl,hM,fun b o e=>BQ e,Jr (Ev _ _),trivial,fun b hb=>absurd (show b∈([]:List Addr)from hb) (by simp),hok,.of_eq hg⟩
  refine IU ((F _ hKb (nsK hns)).run KR [] s₁ H ⟨[.ref a],[]⟩ [.ref a] [.ref a] _ _ hr e0 (hbind s₁ (.ref a)) (.cons rfl .nil) (hsp H hO hS)) fun r s' h=>?_;cases r with
 |error e=>exact(hCX H e s' h).elim
 |ok fl=>cases fl with
  |next=>exact HR h
  |brk=>exact HR h
  |cont=>exact HR h
  |ret u=>obtain⟨v,H',os,bare,un,hok',r',q⟩:=h;have q':v=.bl true:=q;subst q';obtain rfl:u=Value.bool true:=r';refine⟨rfl,OldK.of_keep fun b o e=>?_,os,bare⟩;cases q:H b with
   |none=>exact un.keep b o e q (by intro z;exact absurd (show b∈([]:List Addr)from z) (by simp)) (by simp)
   |some u=>
     rcases hO b with z|⟨ob,xs,z⟩
     .rw[q]at z;cases z
     .have z2:=un.frzs b ob _ z;obtain⟨e1,_⟩:=hok b _ z;obtain⟨e2,_⟩:=hok' b _ z2;rw[e]at e1;cases e1;exact e2
 cases hk:K.lookup a with
|some o=>have e:=KX a o hk;rw[ha]at e;cases e;refine core (fun _=>none) (fun _=>.inl rfl) (.inr ⟨_,vs.toArray,_,hk,rfl,rfl,rfl,by rw[p_,lenV];exact hl,by simpa using rv⟩) (fun b u z=>by have z':(none:Option HO)=some u:=z;cases z') (fun b z=>absurd rfl z) fun z=>absurd rfl z
|none=>
  refine core (fun b=>if b=a then some (.frz { cls:=.type "list",data:=.seq vs.toArray } (.lst (ns.map V.int)))else none) (fun b=>?_) (.inl (.inr ⟨{ cls:=.type "list",data:=.seq vs.toArray },if_pos rfl⟩)) (fun b u z=>?_) (fun b z=>?_) fun _=>hk
  .by_cases hb:b=a
   .exact .inr ⟨_,_,if_pos hb⟩
   .exact .inl (if_neg hb)
  .by_cases hb:b=a
   .have z':=(if_pos hb).symm.trans z;cases z';subst hb;exact⟨ha,by rw[t_];exact hl,vs,_,rv,ha⟩
   .have z':=(if_neg hb).symm.trans z;cases z'
  .by_cases hb:b=a
   .exact hb
   .exact absurd (if_neg hb) z
abbrev aM{K:W.Frag}{h:Heap}(_:K.In h):W.Frag:=K
theorem ij{l:W.OpenLaw}{n k:Nat}{q:u_}{loose:List Str}{XP:(Str->Option a_)->Heap->Prop}{YP:Gz->Heap->Prop}{d:DefRec}{K:Params->W.Frag}{CX:Gz->eS}{sp:Gz->Sp}{x:Str}(hn:l.most=some n)(hn2:n<=sizeLine)(hdf:d.params.defaults=[])(hr:Room k KR)(hY:∀(w:Gz)(h:Heap),YP w h->(K w.params).In h)(F:∀(w:Gz)(mg:Str->Option a_)(fa:Addr)(h:Heap),(K w.params).In h->h.Ns Hr mg->mg d.name=some (.ref fa) ->∃fd:HB,(∀(s:e_)(u:a_),Ly s fd ⟨[u],[]⟩ [(x,u)]) /\∀base:Heap,(K w.params).In base->base.Ns Hr mg->FnOk l.prog w (K w.params) mg base (CX w) k fa fd [x] (sp w))(hsp:∀(w:Gz)(H:Hp)(a:Addr)(ns:List Int),ns.length<=n->jC H->aL (K w.params) H a (ns.map V.int)->sp w [.ref a] H (fun v _=>v=.bl true) fun _ _ _=>False)(hCX:∀(w:Gz)(H:Hp)(s:e_)(e:a_)(s':e_),CX w [] H s (fun _ _ _=>False) e s'->False):W.WalkO q loose XP YP l.row.toRowW d [] (fun f vs=>MU f vs):=by refine Att.attach_call hn hdf fun w s₀ s₁ mg mb fa o pm cd doc a vs ns G Y ho hd hcd hmg hobj hints hlen hg=>?_;have KX:=hY w _ Y;obtain⟨fd,hb,hF⟩:=F w mg fa _ KX G.T.g hmg;exact Db KX G.T.g G.T.b G.T.builtins G.T.nolimit hg hobj hints (GY hlen hn2) hr hF hb (fun H hO hS=>hsp w H a ns hlen hO hS) fun H e s'=>hCX w H s₁ e s'
def gM(s:Stmt):Arguments:=match s with
|.FunctionDef _ a _ _ _ _ _ _ _ _=>a
|_=>{ posonlyargs:=[],args:=[],vararg:=none,kwonlyargs:=[],kw_defaults:=[],kwarg:=none,defaults:=[] }
def dW(s:Stmt):List Stmt:=match s with
|.FunctionDef _ _ b _ _ _ _ _ _ _=>b
|_=>[]
def aB(s:Stmt):Ii:=match s with
|.FunctionDef _ _ _ _ _ _ sc _ _ _=>sc
|_=>{ kind:=.function,names:=[],isGenerator:=false,isCoroutine:=false }
abbrev bH:eS:=fun _ _ _ _ _ _=>False
abbrev E0:XK:=fun _ _ _=>False
theorem km{X:Cx}:oJ bH X E0:=fun _ _ _ _ _ _ _ h=>h.elim
structure Fun(K:W.Frag)(x qual:Str)(st:Stmt)(f:Addr)(fd:HB):Prop where
 ex:∃(oc:a_)(od:Option Addr)(kV doc pm:a_)(an:Option Addr)(cdv ct:a_)(osl:Array (Option a_)),fd=W.fnOf x qual (gM st) (dW st) (aB st) .none kV doc pm an cdv ct/\K.lookup f=some ⟨oc,od,.func fd,osl⟩/\W.codeIn K cdv qual=true
 kp:W.keepIn K (.ref f)=true
section
variable{P:u_}{w:Gz}{K:W.Frag}{mg:Str->Option a_}{base:Heap}
theorem Fun.ok{x qual:Str}{st:Stmt}{f:Addr}{fd:HB}{N ps:List Str}{k:Nat}{sp:Sp}(F:Fun K x qual st f fd)(S:FnScope N ps (aB st))(len:∀vs H Q E,sp vs H Q E->vs.length=ps.length)(hbody:∀(cdv:a_)(A:GP)(outer:List Env)(s:e_)(H:Hp)(vs:List V)(Q:VK)(E:XK),Room k (A.deeper (JB qual (aB st) s.heap.objs.size f cdv))->sp vs H Q E ->∃t,cm (bb bH P w K mg base N qual (aB st) f cdv A outer s H E).nox (dW st) t/\t { nx:=fun _ H'=>Q .non H',rt:=Q } (start N vs) H):FnOk P w K mg base bH (k+1) f fd ps sp:=by obtain⟨oc,od,kV,doc,pm,an,cdv,ct,osl,rfl,lk,hcd⟩:=F.ex;refine Ab lk hcd S len fun A outer s H vs Q E hr hsp=>?_;obtain⟨t,h,q⟩:=hbody cdv A outer s H vs Q E hr hsp;exact⟨t,h.nox,q⟩
theorem Fun.binds{x qual:Str}{st:Stmt}{f:Addr}{fd:HB}{ps:List Str}(F:Fun K x qual st f fd)(h:∀(kV doc pm:a_)(an:Option Addr)(cdv ct:a_)(us:List a_),us.length=ps.length->Lj (W.fnOf x qual (gM st) (dW st) (aB st) .none kV doc pm an cdv ct) ⟨us,[]⟩=pure (ps.zip us)):dj K fd ps []:=by obtain⟨oc,od,kV,doc,pm,an,cdv,ct,osl,rfl,lk,hcd⟩:=F.ex;exact .all (h kV doc pm an cdv ct)
theorem AA{x qual:Str}{st:Stmt}{f:Addr}{oc:a_}{od an:Option Addr}{osl:Array (Option a_)}{kV doc pm cdv ct:a_}(l:K.lookup f=some ⟨oc,od,.func (W.fnOf x qual (gM st) (dW st) (aB st) .none kV doc pm an cdv ct),osl⟩)(c:W.codeIn K cdv qual=true)(k:W.keepIn K (.ref f)=true):Fun K x qual st f (W.fnOf x qual (gM st) (dW st) (aB st) .none kV doc pm an cdv ct):=⟨⟨oc,od,kV,doc,pm,an,cdv,ct,osl,rfl,l,c⟩,k⟩
end
theorem oi{A:GP}{k:Nat}(hr:Room k A):A.units+1<Ij:=HU (Nat.add_le_add_left (by decide:1<=64) _) hr.units
section
variable{X:Cx}
theorem DA:dD X (.builtin "len") (fun xs H Q=>∃a kvs,xs=[V.ref a]/\Rd H a (.dK kvs)/\Q (.int kvs.length) H):=by intro pz s σ H xs us Q I r h;obtain⟨a,kvs,rfl,ha,q⟩:=h;obtain⟨u,rfl,ru⟩:=bU r;cases ru;exact y9 I ha fun t s' I'=>⟨.int kvs.length,H,I',⟨t,rfl⟩,q⟩
end
def Same(H H':Hp):Prop:=∀b o,H b=some o->H' b=some o
theorem Same.refl(H:Hp):Same H H:=fun _ _ h=>h
theorem Same.trans{H H1 H2:Hp}(a:Same H H1)(b:Same H1 H2):Same H H2:=fun c o h=>b c o (a c o h)
theorem Same.free{H H':Hp}(e:Same H H'){l:Addr}(h:H' l=Option.none):H l=Option.none:=by cases q:H l with
|none=>rfl
|some o=>rw[e l o q]at h;cases h
theorem Same.seq{K:W.Frag}{H H':Hp}{a:Addr}{xs:List V}(e:Same H H')(h:aL K H a xs):aL K H' a xs:=by
 rcases h with(h|⟨o,h⟩)|h
 .exact .inl (.inl (e _ _ h))
 .exact .inl (.inr ⟨o,e _ _ h⟩)
 .exact .inr h
end L2
end
namespace DL
open PySem
section
open PySem.SeqAt
open PySem.AutoSeq1 (wpAny_loadPart')
open PySem.MeetsSeq PySem.MeetsSeq2 PySem.MeetsSeq3
end
end DL
namespace DL
open PySem PyProof.Rows
theorem FJ:NK (.type "tuple") (.type "set")=pure false:=by rw[isSubtype_type];kernel_rfl
theorem FL:NK (.type "tuple") (.type "frozenset")=pure false:=by rw[isSubtype_type];kernel_rfl
section
variable{prog:u_}{w:Gz}{A:GP}{E:a_->e_->Prop}{s:e_}
abbrev cO(led:Bool):Obj:={ cls:=.type "set",dict:=none,data:=.set #[] 0 (.fresh 0 0 led) }
def oK(prog:u_)(w:Gz)(s:e_)(ns:List Int)(n:Nat)(h':Heap):Prop:=h'.SetOf (LY prog w) s.heap.objs.size (fun k=>(Lm (fun i=>ns.getD i 0) n).any (· == k)) (Lm (fun i=>ns.getD i 0) n).length/\∀b o,b<s.heap.objs.size->s.heap.get? b=some o->h'.get? b=some o
set_option maxHeartbeats 3200000 in
theorem Fu{t:Addr}{items:Array a_}{ns:List Int}{led:Bool}{R:MO->e_->Prop}(hh:A.handled=none)(ht:s.heap.IsTuple t items)(hi:JZ items.toList ns)(hb:items.size+1<Iq)(hR:∀h' tk,oK prog w s ns items.size h'->R (.ok (.ret .none)) { s with heap:=h',toks:=tk }):B_ (Gy prog w) A.in1 (JH.«set.__init__» ⟨[.ref s.heap.objs.size,.ref t],[]⟩) (fun fin s'=>match fin with|.done f=>R (.ok f) s'|.again c'=>c'.quiet=true/\JY (Gy prog w) A c' R s') (fun e s'=>R (.error e) s') { s with heap:=s.heap.push (cO led) }:=by
 obtain⟨⟨ocls,odict,odata,oslots⟩,hol,hcl,nl,hdl⟩:=ht;simp only at hcl hdl;subst hcl;subst hdl;have hol1:=d_ (cO led) hol;have g1:=FJ;have g2:=FL;have g3:(Value.type "tuple" == Value.type "dict")=false:=by decide
 have hT1:(s.heap.push (cO led)).IsTuple t items:=⟨_,hol1,rfl,nl,rfl⟩
 have hS:(s.heap.push (cO led)).get? s.heap.objs.size=some (cO led):=r_ _ rfl;unfold JH.«set.__init__» noKeywords JR;generalize hPI:NM=PI
 wp_walk
 subst hPI;refine Hc hT1 (c_ (wpAny_runValue ?_));have ltT:t<s.heap.objs.size:=q_ hol;have z1:(s.heap.push (cO led)).objs.size=s.heap.objs.size+1:=GX ..;have neI:t≠(s.heap.push (cO led)).objs.size:=by rw[z1];exact F_ (HG ltT)
 have hout:s.heap.objs.size∉[(s.heap.push (cO led)).objs.size,t]:=by rw[z1];simp only[n_,GZ,or_false,not_or];exact⟨F_ (HP _),HC ltT⟩
 have hval:∀(i:Nat)(v:a_),items[i]? = some v->∃tk,v=.int ((fun i=>ns.getD i 0) i) tk:=fun i v hv=>IntsAre.int_at hi i v (by rw[HY];exact hv);refine codeAny_set_update_loopS ((Walks.tuple (A:=A.in1.in1) hh _ t neI items).toS) s.heap.objs.size hout (fun i=>ns.getD i 0) hval hb (items.size-0) 0 _ (by omega) (GL _) ⟨⟨_,r_ _ rfl,rfl,rfl⟩,hT1.push _⟩ ?_ fun s' hm hS'=>?_
 .exact SetOf_congr ((setObjOf_fresh (knd:=LY prog w) led).setOf (d_ _ hS) (by unfold Iq;omega)) (fun _=>rfl) rfl
 .obtain⟨h',g',d',tk',os'⟩:=s';obtain rfl:g'=s.gens:=hm.gens;obtain rfl:d'=s.drawn:=hm.drawn;obtain rfl:os'=s.os:=hm.os;show B_ _ _ _ _ _ _;refine s_ ?_;show B_ _ _ (ret Value.none) _ _ _;refine s_ (hR h' tk' ⟨hS',fun b o hb2 e=>?_⟩);refine hm.heap b o ?_ (d_ _ (d_ _ e));rw[z1];simp only[n_,GZ,or_false,not_or];exact⟨F_ hb2,F_ (HG hb2)⟩
set_option maxHeartbeats 3200000 in
theorem Ft{t:Addr}{items:Array a_}{ns:List Int}{Q:a_->e_->Prop}(hh:A.handled=none)(ht:s.heap.IsTuple t items)(hi:JZ items.toList ns)(hb:items.size+1<Iq)(h:∀h' tk,oK prog w s ns items.size h'->Q (.ref s.heap.objs.size) { s with heap:=h',toks:=tk }):B_ (Gy prog w) A (call (.type "set") [.ref t]) Q E s:=by
 obtain⟨c,tl,hmro⟩:=F.called_set.mro;have a1:=F.called_set.made;have a2:=F.called_set.sub;refine MP (K8 ?_);show B_ _ _ (callAny (.type "set") _) _ _ _;refine s_ ⟨LM _ (by decide+kernel),Jh F.entry_type_call ?_⟩;rw[LO (Ld "set" [.ref t] []) rfl];have a3:=F.called_set.notType;have a4:=F.called_set.canCreate;have a5:=F.typeCall_set_1 (.ref t)
 repeat (any_goals (first|assumption|wp_step))
 refine IU (code_set_new_1 (.ref t) (E:=E) (Q₁:=fun obj s₁=>∃led:Bool,obj=.ref s.heap.objs.size/\s₁={ s with heap:=s.heap.push (cO led) }) fun led=>⟨led,rfl,rfl⟩) fun r s₁ hr=>?_;cases r with
|error e=>exact hr
|ok fl=>cases fl with
 |ret obj=>
   obtain⟨led,rfl,rfl⟩:=hr;have hT:NC { s with heap:=s.heap.push (cO led) } (.ref s.heap.objs.size) "set" := ⟨_,r_ _ rfl,rfl⟩
   have b1:=F.called_set.init.lookup;have b2:=F.called_set.init.bind (.ref s.heap.objs.size)
   repeat (any_goals (first|assumption|wp_step))
   refine IU (Ln (R:=wants (fun r s₂=>r=.none/\∃h' tk,s₂={ s with heap:=h',toks:=tk }/\oK prog w s ns items.size h') E) F.called_set.init.plain F.entry_set_init (Ml hT ?_)) fun r₂ s₂ hr₂=>?_
   .refine Fu (A:=A.in1) (led:=led) hh ht hi hb fun h2 tk he=>?_;exact⟨rfl,h2,tk,rfl,he⟩
   .cases r₂ with
   |error e=>exact hr₂
   |ok fl₂=>cases fl₂ with
    |ret r=>
      obtain⟨rfl,h',tk,rfl,he⟩:=hr₂
      repeat (any_goals (first|assumption|wp_step))
      exact h _ _ he
    |_=>exact hr₂.elim
 |_=>exact hr.elim
end
end DL
namespace DL
open PySem PyProof.Rows PySem.W
def tU{α:Type}(c:Nat->Nat->Bool):KasT α->α
|.ret a=>a
|.ask i j k=>tU c (k (c i j))
inductive Asks(n:Nat){α:Type}(P:α->Prop):KasT α->Prop where
 |ret {a:α}:P a->Asks n P (.ret a)
 |ask {i j:Nat} {k:Bool->KasT α}:i<n->j<n->(∀b,Asks n P (k b))->Asks n P (.ask i j k)
theorem Asks.bind{n:Nat}{α β:Type}{P:α->Prop}{P':β->Prop}{t:KasT α}{f:α->KasT β}(h:Asks n P t)(hf:∀a,P a->Asks n P' (f a)):Asks n P' (t.bind f):=by induction h with
|ret h=>exact hf _ h
|ask h1 h2 _ ih=>exact .ask h1 h2 ih
theorem Asks.run{n:Nat}{α:Type}{P:α->Prop}{t:KasT α}(h:Asks n P t)(c:Nat->Nat->Bool):P (tU c t):=by induction h with
|ret h=>exact h
|ask _ _ _ ih=>exact ih _
theorem Asks.mono{n:Nat}{α:Type}{P P':α->Prop}{t:KasT α}(h:Asks n P t)(hp:∀a,P a->P' a):Asks n P' t:=by induction h with
|ret h=>exact .ret (hp _ h)
|ask h1 h2 _ ih=>exact .ask h1 h2 ih
def oh(n:Nat)(p:Array Nat):Prop:=p.toList.Perm (f_ n)
theorem oh.rev{n:Nat}{p:Array Nat}(h:oh n p)(i j:Nat):oh n (kas_rev p i j):=(Array.perm_iff_toList_perm.mp (mirror_perm p i j ((j-i)/2))).trans h
section
variable{n:Nat}(hn:0<n)
include hn
end
end DL
namespace DL
open PySem PyProof.Rows PySem.W PySem.Calls
end DL
namespace DL
open PySem PySem.Spec PyProof.Rows L2 PySem.W PySem.Calls
structure Lft(fr:List Addr)(a:Addr)(oe:Obj)(vs:Array a_)(T:Option Addr)(v:a_)(h h':Heap):Prop where
 keep:∀b o,b∉fr->b≠a->T≠some b->h.get? b=some o->h'.get? b=some o
 slot:∀b o,h.get? b=some o->(∀vs:Array a_,o.data≠Data.fields vs)->∃sl,h'.get? b=some { cls:=o.cls,dict:=o.dict,data:=o.data,slots:=sl }
 obj:∃tb ot ts,(h.get? tb=none\/T=some tb)/\tb≠a/\h'.get? a=some { cls:=oe.cls,dict:=oe.dict,data:=.fields (vs.setIfInBounds 1 (.ref tb)),slots:=oe.slots }/\h'.get? tb=some ot/\ot.data=.fields ts/\ts[3]? = some v
def yY(h B:Heap)(a:Addr)(cls:a_)(od L:Option Addr):Prop:=∃oe vs,h.get? a=some oe/\oe.cls=cls/\(∀dx,od=some dx->oe.dict=some dx)/\oe.data=.fields vs /\(vs[1]? = some Value.none\/(∃T oT ts,vs[1]? = some (.ref T)/\B.get? T=none/\T≠a/\h.get? T=some oT/\oT.data=.fields ts/\ts[3]? = some Value.none) \/∃l T oT ts,L=some l/\vs[1]? = some (.ref T)/\B.get? T=none/\T≠a/\h.get? T=some oT/\oT.data=.fields ts/\ts[3]? = some (KI ↑l))
def rj(st:List Env):Option Addr:=st.head?.bind (·.frame)
structure Fly(P:u_)(w:Gz)(st:List Env)(H:Hp)(s:e_)(H':Hp)(a:Addr)(cls:a_)(od:Option Addr)(s':e_):Prop where
 os:s'.os=s.os
 bare:JG s'.gens
 un:Un (cL st) [] H H' s.heap s'.heap
 hok:bO P w H' s'.heap
 ex:∃B:Heap,B.StaysIn s'.heap/\B.get? a=none/\s'.heap.FunFrames B st/\yY s'.heap B a cls od (rj st) /\(∀b o,s.heap.get? b=some o->b∉cL st->∃o',B.get? b=some o')/\∀b u,H' b=some u->∃o',B.get? b=some o'
def Gv(P:u_)(w:Gz):eS:=fun outer H s E e s'=>∃a cls H' od,e=.ref a/\Fly P w outer H s H' a cls od s'/\E cls od H'
theorem BH{P:u_}{w:Gz}{H:Hp}{h:Heap}{a:Addr}{o:HO}(x:bC P w H h a o):∃u,h.get? a=some u:=by cases o with
|lst xs=>obtain⟨_,_,_,_,e⟩:=x;exact⟨_,e⟩
|tup xs=>obtain⟨_,_,_,_,o,e,_⟩:=x;exact⟨_,e⟩
|dK kvs=>obtain⟨_,_,_,_,o,_,_,e,_⟩:=x;exact⟨_,e⟩
|dT kvs=>obtain⟨_,_,_,_,o,_,_,e,_⟩:=x;exact⟨_,e⟩
|set S n=>obtain⟨o,_,_,_,e,_⟩:=x;exact⟨_,e⟩
|ins C dx fs=>obtain⟨_,_,_,e,_⟩:=x;exact⟨_,e⟩
|own y=>exact x
|xd fs=>obtain⟨_,⟨_,_,_,e,_⟩,_⟩:=x;exact⟨_,e⟩
|rng lo hi=>obtain⟨_,_,_,e⟩:=x;exact⟨_,e⟩
|frz ob u=>obtain⟨e,_⟩:=x;exact⟨_,e⟩
|tbl ps=>exact⟨_,(show h.get? a=some _ from x)⟩
|met f y=>exact⟨_,(show h.get? a=some _ from x)⟩
|ext φ=>exact x.2.1
abbrev rg:List a_:=[Value.type "ValueError",Value.type "Exception",Value.type "BaseException",Value.type "object"]
structure XC(K:W.Frag)(mg:Str->Option a_)(x:Str)(C:Addr):Prop where
 bound:mg x=some (.ref C)
 exc:excIn K C rg "ValueError.__new__" = true
section
variable{X:Cx}{pz:List (Addr×Obj)}{σ:L2.St}{H:Hp}{s:e_}{x:Str}{C:Addr}{np cpos pos:Pos}{e₀:Expr}{rest:List Expr}{t:TA}
theorem Fly.made{h':Heap}{e:Addr}{cls:a_}{vs:List a_}(I:Inv X pz σ H s)(m:s.heap.MadeExcOf h' e cls vs):Fly X.prog X.w X.stack H s H e cls none { heap:=h',gens:=s.gens,drawn:=s.drawn,toks:=s.toks,os:=s.os }:=by
 obtain⟨t,m1,m2,m3⟩:=m.there;have hst:∀b o,(NQ s.heap (cL X.stack)).get? b=some o->h'.get? b=some o:=fun b o e=>m.keeps b o (of_hideAll _ e);refine⟨rfl,I.bare,Un.kept m.keeps,I.hok.kept m.keeps,NQ s.heap (cL X.stack),hst,?_,?_,⟨_,_,m1,rfl,(fun _ e=>nomatch e),rfl,.inl rfl⟩,fun b o e n=>⟨o,hideAll_get _ e n⟩,fun b u e=>?_⟩
 .cases q:(NQ s.heap (cL X.stack)).get? e with
 |none=>rfl
 |some o=>have:=of_hideAll _ q;rw[m.new]at this;cases this
 .have ff:=I.stack;have key:∀l:List Env,(∀b∈cL l,b∈cL X.stack)->s.heap.FunFrames X.base l->h'.FunFrames (NQ s.heap (cL X.stack)) l:=by
   intro l
   induction l with
  |nil=>intro _ _;unfold MV;trivial
  |cons env l ih=>
    intro hs hf;unfold MV at hf ⊢;obtain⟨f1,⟨L,o,f2,f3,f4,f5⟩,f6⟩:=hf;refine⟨f1,⟨L,o,f2,hideAll_none _ (hs L ?_),m.keeps _ _ f4,f5⟩,ih (fun b hb=>hs b ?_) f6⟩
    .unfold cL;rw[Ik,f2];exact i_
    .unfold cL;rw[Ik,f2];exact g_ _ hb
  exact key X.stack (fun _ hb=>hb) ff
 .obtain⟨o,eo⟩:=BH (I.hok b u e);exact⟨o,hideAll_get _ eo fun z=>by rw[I.stkFree b z]at e;cases e⟩
end
end DL
namespace DL
open PySem PySem.Spec PyProof.Rows L2
inductive D where
 |non|bl (b:Bool)|int (i:Int)|str (x:Str)
 |tup (ds:List D)|lst (ds:List D)
 |dic (kvs:List (ap×D))
 |obj (c:Nat) (fs:List (Str×D))
instance:Inhabited D:=⟨.non⟩
inductive Res(α:Type) where
 |ok (a:α)|exc (x:D)|stuck
def Res.bind{α β:Type}(r:Res α)(f:α->Res β):Res β:=match r with
|.ok a=>f a
|.exc x=>.exc x
|.stuck=>.stuck
@[simp] theorem bind_ok{α β:Type}(a:α)(f:α->Res β):(Res.ok a).bind f=f a:=rfl
@[simp] theorem bind_exc{α β:Type}(x:D)(f:α->Res β):(Res.exc x:Res α).bind f=.exc x:=rfl
@[simp] theorem bind_stuck{α β:Type}(f:α->Res β):(Res.stuck:Res α).bind f=.stuck:=rfl
def fin{α:Type}(r:Res α)(q:α->Prop)(x:D->Prop):Prop:=match r with
|.ok a=>q a
|.exc e=>x e
|.stuck=>False
theorem aK{α:Type}{r:Res α}{q q':α->Prop}{x:D->Prop}(h:fin r q x)(hq:∀a,q a->q' a):fin r q' x:=by cases r with
|ok a=>exact hq a h
|exc e=>exact h
|stuck=>exact h
theorem aU{α β:Type}{r:Res α}{f:α->Res β}{q:β->Prop}{x:D->Prop}(h:fin (r.bind f) q x):fin r (fun a=>fin (f a) q x) x:=by cases r with
|ok a=>exact h
|exc e=>exact h
|stuck=>exact h
abbrev GH:=Addr->Option D
inductive Scl:V->D->Prop where
 |non:Scl .non .non
 |bl (b:Bool):Scl (.bl b) (.bl b)
 |int (i:Int):Scl (.int i) (.int i)
 |str (x:Str):Scl (.str x) (.str x)
inductive KC(K:W.Frag)(a:Addr):D->Prop where
|lst {xs:List V} {ds:List D}:aL K (fun _=>none) a xs->Paired Scl xs ds->KC K a (.lst ds)
|tup {xs:List V} {ds:List D}:bp K (fun _=>none) a xs->Paired Scl xs ds->(∃o,K.lookup a=some o/\o.cls=.type "tuple"/\o.dict=none)->KC K a (.tup ds)
inductive RG(K:W.Frag)(G:GH):V->D->Prop where
 |scl {v:V} {d:D}:Scl v d->RG K G v d
 |ref {a:Addr} {d:D}:G a=some d->RG K G (.ref a) d
 |kc {a:Addr} {d:D}:KC K a d->RG K G (.ref a) d
abbrev bj(K:W.Frag)(G:GH):List V->List D->Prop:=Paired (RG K G)
abbrev di(K:W.Frag)(G:GH):List (ap×V)->List (ap×D)->Prop:=Paired fun p q=>p.1=q.1/\RG K G p.2 q.2
abbrev xD(nm:Str)(ds:List (Str×D)):D:=.obj 0 (("__class__",.str nm)::ds)
def XN(K:W.Frag)(nm:Str)(C:Addr):Prop:=∃o cd,K.lookup C=some o/\o.data=Data.cls cd/\cd.name=nm
def yM(a C:Addr)(od:Option Addr):Heap->Prop:=fun h=>∃oe vs,h.get? a=some oe/\oe.cls=.ref C/\(∀dx,od=some dx->oe.dict=some dx)/\oe.data=.fields vs
def XF(G:GH)(od:Option Addr)(ds:List (Str×D)):Prop:=match od with
|none=>ds=[]
|some dx=>G dx=some (.obj 1 ds)
theorem XF.mono{G G':GH}{od:Option Addr}{ds:List (Str×D)}(h:XF G od ds)(ge:∀a d,G a=some d->G' a=some d):XF G' od ds:=by cases od with
|none=>exact h
|some dx=>exact ge _ _ h
abbrev yQ(K:W.Frag)(G:GH):List (Str×V)->List (Str×D)->Prop:=Paired fun p q=>p.1=q.1/\RG K G p.2 q.2
abbrev iD(nm:Str)(ds:List (Str×D)):D:=.obj 2 (("__class__",.str nm)::ds)
inductive OB(K:W.Frag)(G:GH)(H:Hp)(a:Addr):D->Prop where
 |lst {xs:List V} {ds:List D}:Rd H a (.lst xs)->bj K G xs ds->OB K G H a (.lst ds)
 |tup {xs:List V} {ds:List D}:Rd H a (.tup xs)->bj K G xs ds->OB K G H a (.tup ds)
 |dic {ob:Obj} {ps:List (ap×V)} {kvs:List (ap×D)}:H a=some (.frz ob (.dK ps))->di K G ps kvs->OB K G H a (.dic kvs)
 |exc {nm:Str} {C:Addr} {od:Option Addr} {ds:List (Str×D)}:H a=some (.ext (yM a C od))->XN K nm C->XF G od ds->OB K G H a (xD nm ds)
 |fld {fs:List (Str×V)} {ds:List (Str×D)}:H a=some (.xd fs)->yQ K G fs ds->OB K G H a (.obj 1 ds)
 |ins {nm:Str} {C dx:Addr} {fs:List (Str×V)} {ds:List (Str×D)}:H a=some (.ins C dx fs)->XN K nm C->yQ K G fs ds->OB K G H a (iD nm ds)
def aC(K:W.Frag)(G:GH)(H:Hp):Prop:=∀a d,G a=some d->OB K G H a d
inductive OwnO(K:W.Frag)(G:GH)(H:Hp)(a:Addr):D->Prop where
 |lst {xs:List V} {ds:List D}:H a=some (.lst xs)->bj K G xs ds->OwnO K G H a (.lst ds)
 |dic {ps:List (ap×V)} {kvs:List (ap×D)}:H a=some (.dK ps)->di K G ps kvs->OwnO K G H a (.dic kvs)
structure Own(K:W.Frag)(G:GH)(H:Hp)(a:Addr)(d:D):Prop where
 un:G a=none
 ob:OwnO K G H a d
structure Grow(K:W.Frag)(G:GH)(H:Hp)(G':GH)(H':Hp):Prop where
 ok:aC K G' H'
 he:∀a o,H a=some o->H' a=some o
 ge:∀a d,G a=some d->G' a=some d
 gf:∀a,H a≠none->G' a=G a
section
variable{K:W.Frag}{G G' G1 G2:GH}{H H' H1 H2:Hp}{a p:Addr}{d:D}{v:V}
theorem Rd.mono{u:HO}(h:Rd H a u)(he:∀a o,H a=some o->H' a=some o):Rd H' a u:=by
 rcases h with h|⟨o,h⟩
 .exact .inl (he _ _ h)
 .exact .inr ⟨o,he _ _ h⟩
theorem Rd.isS{u:HO}(h:Rd H a u):H a≠none:=by rcases h with h|⟨o,h⟩ <;> rw[h] <;> simp
theorem RG.mono(h:RG K G v d)(ge:∀a d,G a=some d->G' a=some d):RG K G' v d:=by cases h with
|scl s=>exact .scl s
|ref e=>exact .ref (ge _ _ e)
|kc k=>exact .kc k
theorem bj.mono{xs:List V}{ds:List D}(h:bj K G xs ds)(ge:∀a d,G a=some d->G' a=some d):bj K G' xs ds:=Paired.mono (fun _ _ r=>r.mono ge) h
theorem di.mono{xs:List (ap×V)}{ds:List (ap×D)}(h:di K G xs ds)(ge:∀a d,G a=some d->G' a=some d):di K G' xs ds:=Paired.mono (fun _ _ r=>⟨r.1,r.2.mono ge⟩) h
theorem OB.mono(h:OB K G H a d)(ge:∀a d,G a=some d->G' a=some d)(he:∀o,H a=some o->H' a=some o):OB K G' H' a d:=by
 have rd:∀{u:HO},Rd H a u->Rd H' a u:=fun r=>by
  rcases r with r|⟨o,r⟩
  .exact .inl (he _ r)
  .exact .inr ⟨o,he _ r⟩
 cases h with
|lst r s=>exact .lst (rd r) (s.mono ge)
|tup r s=>exact .tup (rd r) (s.mono ge)
|dic r s=>exact .dic (he _ r) (di.mono s ge)
|exc r n f=>exact .exc (he _ r) n (f.mono ge)
|fld r s=>exact .fld (he _ r) (Paired.mono (fun _ _ r=>⟨r.1,r.2.mono ge⟩) s)
|ins r n s=>exact .ins (he _ r) n (Paired.mono (fun _ _ r=>⟨r.1,r.2.mono ge⟩) s)
theorem OB.isS(h:OB K G H a d):H a≠none:=by cases h with
|lst r s=>exact Rd.isS r
|tup r s=>exact Rd.isS r
|dic r s=>rw[r];simp
|exc r n f=>rw[r];simp
|fld r s=>rw[r];simp
|ins r n s=>rw[r];simp
theorem aC.isN(g:aC K G H)(h:H p=none):G p=none:=by cases e:G p with
|none=>rfl
|some d=>exact absurd h (g p d e).isS
theorem OwnO.isS(h:OwnO K G H a d):H a≠none:=by cases h with
|lst r s=>rw[r];simp
|dic r s=>rw[r];simp
theorem OwnO.mono(h:OwnO K G H a d)(ge:∀a d,G a=some d->G' a=some d)(he:∀o,H a=some o->H' a=some o):OwnO K G' H' a d:=by cases h with
|lst r s=>exact .lst (he _ r) (s.mono ge)
|dic r s=>exact .dic (he _ r) (di.mono s ge)
theorem Own.mono(h:Own K G H a d)(w:Grow K G H G' H'):Own K G' H' a d:=⟨by rw[w.gf a h.ob.isS];exact h.un,h.ob.mono w.ge fun o e=>w.he _ _ e⟩
def fz(H:Hp)(a:Addr)(ob:Obj):Hp:=match H a with
|some (.dK ps)=>upd H a (.frz ob (.dK ps))
|_=>H
theorem kn{b:Addr}{ob:Obj}(h:b≠a):fz H a ob b=H b:=by unfold fz;cases e:H a with
|none=>rfl
|some u=>cases u <;> first|rfl|exact aN h
theorem AC{xs:List V}{ob:Obj}(h:H a=some (.lst xs)):fz H a ob=H:=by unfold fz;rw[h]
theorem AB{ps:List (ap×V)}{ob:Obj}(h:H a=some (.dK ps)):fz H a ob a=some (.frz ob (.dK ps)):=by unfold fz;rw[h];exact cj
theorem OwnO.fast(h:OwnO K G H a d)(ob:Obj):OB K G (fz H a ob) a d:=by cases h with
|lst r s=>rw[AC r];exact .lst (.inl r) s
|dic r s=>exact .dic (AB r) s
theorem aC.fast(g:aC K G H)(hn:G a=none)(ob:Obj):aC K G (fz H a ob):=fun b d e=>by
 have hb:b≠a:=by rintro rfl;rw[hn]at e;cases e
 exact(g b d e).mono (fun _ _ z=>z) fun o z=>by rw[kn hb];exact z
theorem Grow.refl(g:aC K G H):Grow K G H G H:=⟨g,fun _ _ e=>e,fun _ _ e=>e,fun _ _=>rfl⟩
theorem Grow.trans(x:Grow K G H G1 H1)(y:Grow K G1 H1 G2 H2):Grow K G H G2 H2:=
 ⟨y.ok,fun a o e=>y.he _ _ (x.he _ _ e),fun a d e=>y.ge _ _ (x.ge _ _ e),fun a h=>by
  have h1:H1 a≠Option.none:=by cases e:H a with
  |none=>exact absurd e h
  |some o=>rw[x.he _ _ e];simp
  rw[y.gf a h1,x.gf a h]⟩
def gset(G:GH)(a:Addr)(d:D):GH:=fun b=>if b=a then some d else G b
theorem cq:gset G a d a=some d:=if_pos rfl
theorem cE{b:Addr}(h:b≠a):gset G a d b=G b:=if_neg h
theorem cS(hn:G a=none):∀b e,G b=some e->gset G a d b=some e:=fun b e h=>by
 have:b≠a:=by rintro rfl;rw[hn]at h;cases h
 rw[cE this];exact h
theorem aC.gset(g:aC K G H)(hn:G a=none)(o:OB K G H a d):aC K (gset G a d) H:=fun b e h=>by
 by_cases hb:b=a
 .subst hb;rw[cq]at h;cases h;exact o.mono (cS hn) fun _ q=>q
 .rw[cE hb]at h;exact(g b e h).mono (cS hn) fun _ q=>q
theorem uS(hn:H p=none){o:HO}:∀a u,H a=some u->upd H p o a=some u:=fun a u e=>by rw[aN (jk e hn)];exact e
theorem Grow.new(g:aC K G H)(hn:H p=none)(o:HO):Grow K G H G (upd H p o):=⟨fun a d e=>(g a d e).mono (fun _ _ q=>q) fun u q=>uS hn _ _ q,fun a u e=>uS hn _ _ e,fun _ _ e=>e,fun _ _=>rfl⟩
theorem Grow.newF(g:aC K G H)(hn:H p=none){o:HO}(ob:OB K G (upd H p o) p d):Grow K G H (gset G p d) (upd H p o):=by have w:=Grow.new g hn o;have gn:=g.isN hn;exact⟨w.ok.gset gn ob,w.he,fun a e h=>cS gn a e h,fun a h=>cE (by rintro rfl;exact h hn)⟩
theorem Grow.frz(w:Grow K G H G' H')(hn:H a=none)(o:Own K G' H' a d)(ob:Obj):Grow K G H (gset G' a d) (fz H' a ob):=⟨(w.ok.fast o.un ob).gset o.un (o.ob.fast ob),fun b u e=>by rw[kn (by rintro rfl;rw[hn]at e;cases e)];exact w.he b u e,fun b e h=>cS o.un b e (w.ge b e h),fun b h=>by rw[cE (by rintro rfl;exact h hn)];exact w.gf b h⟩
theorem RG.lst{ds:List D}(g:aC K G H)(h:RG K G v (.lst ds)):∃a xs,v=.ref a/\aL K H a xs/\bj K G xs ds:=by cases h with
|scl s=>cases s
|ref e=>cases g _ _ e with
 |lst r s=>exact⟨_,_,rfl,.inl r,s⟩
|kc k=>cases k with
 |lst r s=>
   refine⟨_,_,rfl,?_,Paired.mono (fun _ _ z=>.scl z) s⟩;rcases r with(r|⟨o,r⟩)|r
   .cases r
   .cases r
   .exact .inr r
theorem RG.tup{ds:List D}(g:aC K G H)(h:RG K G v (.tup ds)):∃a xs,v=.ref a/\bp K H a xs/\bj K G xs ds:=by cases h with
|scl s=>cases s
|ref e=>cases g _ _ e with
 |tup r s=>exact⟨_,_,rfl,.inl r,s⟩
|kc k=>cases k with
 |tup r s _=>
   refine⟨_,_,rfl,?_,Paired.mono (fun _ _ z=>.scl z) s⟩;rcases r with(r|⟨o,r⟩)|r
   .cases r
   .cases r
   .exact .inr r
theorem RG.dic{kvs:List (ap×D)}(g:aC K G H)(h:RG K G v (.dic kvs)):∃a ps,v=.ref a/\Rd H a (.dK ps)/\di K G ps kvs:=by cases h with
|scl s=>cases s
|ref e=>cases g _ _ e with
 |dic r s=>exact⟨_,_,rfl,.inr ⟨_,r⟩,s⟩
|kc k=>cases k
theorem RG.int{i:Int}(g:aC K G H)(h:RG K G v (.int i)):v=.int i:=by cases h with
|scl s=>cases s;rfl
|ref e=>cases g _ _ e
|kc k=>cases k
theorem RG.str{x:Str}(g:aC K G H)(h:RG K G v (.str x)):v=.str x:=by cases h with
|scl s=>cases s;rfl
|ref e=>cases g _ _ e
|kc k=>cases k
theorem RG.bl{b:Bool}(g:aC K G H)(h:RG K G v (.bl b)):v=.bl b:=by cases h with
|scl s=>cases s;rfl
|ref e=>cases g _ _ e
|kc k=>cases k
theorem RG.non(g:aC K G H)(h:RG K G v .non):v=.non:=by cases h with
|scl s=>cases s;rfl
|ref e=>cases g _ _ e
|kc k=>cases k
def RB(K:W.Frag)(G:GH)(H:Hp)(v:V)(d:D):Prop:=RG K G v d\/∃a,v=.ref a/\Own K G H a d
theorem RG.rb(h:RG K G v d):RB K G H v d:=.inl h
theorem RB.mono(h:RB K G H v d)(w:Grow K G H G' H'):RB K G' H' v d:=by
 rcases h with h|⟨a,e,h⟩
 .exact .inl (h.mono w.ge)
 .exact .inr ⟨a,e,h.mono w⟩
theorem RB.lst{ds:List D}(g:aC K G H)(h:RB K G H v (.lst ds)):∃a xs,v=.ref a/\aL K H a xs/\bj K G xs ds:=by
 rcases h with h|⟨a,e,h⟩
 .exact h.lst g
 .cases h.ob with
 |lst r s=>exact⟨a,_,e,aL.of r,s⟩
theorem RB.tup{ds:List D}(g:aC K G H)(h:RB K G H v (.tup ds)):∃a xs,v=.ref a/\bp K H a xs/\bj K G xs ds:=by
 rcases h with h|⟨a,e,h⟩
 .exact h.tup g
 .cases h.ob
theorem RB.dic{kvs:List (ap×D)}(g:aC K G H)(h:RB K G H v (.dic kvs)):∃a ps,v=.ref a/\Rd H a (.dK ps)/\di K G ps kvs:=by
 rcases h with h|⟨a,e,h⟩
 .exact h.dic g
 .cases h.ob with
 |dic r s=>exact⟨a,_,e,.inl r,s⟩
theorem RB.int{i:Int}(g:aC K G H)(h:RB K G H v (.int i)):v=.int i:=by
 rcases h with h|⟨a,e,h⟩
 .exact h.int g
 .cases h.ob
theorem RB.str{x:Str}(g:aC K G H)(h:RB K G H v (.str x)):v=.str x:=by
 rcases h with h|⟨a,e,h⟩
 .exact h.str g
 .cases h.ob
theorem RB.bl{b:Bool}(g:aC K G H)(h:RB K G H v (.bl b)):v=.bl b:=by
 rcases h with h|⟨a,e,h⟩
 .exact h.bl g
 .cases h.ob
theorem RB.non(g:aC K G H)(h:RB K G H v .non):v=.non:=by
 rcases h with h|⟨a,e,h⟩
 .exact h.non g
 .cases h.ob
theorem Paired.get{α β:Type}{F:α->β->Prop}:∀{l:List α}{r:List β}{i:Nat}{b:β},Paired F l r->r[i]? = some b->∃a,l[i]? = some a/\F a b
|_,_,_,_,.nil,e=>by simp at e
|_,_,0,_,.cons h _,e=>by simp at e;subst e;exact⟨_,rfl,h⟩
|_,_,i+1,b,.cons _ t,e=>by obtain⟨a,h1,h2⟩:=Paired.get (i:=i) t (by simpa using e);exact⟨a,by simpa using h1,h2⟩
theorem Paired.app{α β:Type}{F:α->β->Prop}{l l':List α}{r r':List β}(h:Paired F l r)(q:Paired F l' r'):Paired F (l++l') (r++r'):=by induction h with
|nil=>exact q
|cons h _ ih=>exact .cons h ih
theorem Paired.tk{α β:Type}{F:α->β->Prop}{l:List α}{r:List β}(n:Nat)(h:Paired F l r):Paired F (l.take n) (r.take n):=by induction h generalizing n with
|nil=>cases n <;> exact .nil
|cons h _ ih=>cases n with
 |zero=>exact .nil
 |succ n=>exact .cons h (ih n)
theorem Paired.dr{α β:Type}{F:α->β->Prop}{l:List α}{r:List β}(n:Nat)(h:Paired F l r):Paired F (l.drop n) (r.drop n):=by induction h generalizing n with
|nil=>cases n <;> exact .nil
|cons h t ih=>cases n with
 |zero=>exact .cons h t
 |succ n=>exact ih n
theorem Paired.st{α β:Type}{F:α->β->Prop}{a:α}{b:β}(h:F a b){l:List α}{r:List β}(n:Nat)(p:Paired F l r):Paired F (l.set n a) (r.set n b):=by induction p generalizing n with
|nil=>exact .nil
|cons q t ih=>cases n with
 |zero=>exact .cons h t
 |succ n=>exact .cons q (ih n)
theorem Paired.er{α β:Type}{F:α->β->Prop}{l:List α}{r:List β}(n:Nat)(p:Paired F l r):Paired F (l.eraseIdx n) (r.eraseIdx n):=by induction p generalizing n with
|nil=>exact .nil
|cons q t ih=>cases n with
 |zero=>exact t
 |succ n=>exact .cons q (ih n)
end
inductive Md where
 |sh|ow|bw
 deriving DecidableEq
abbrev af:=List (Option D)
structure GE where
 gh:GH
 h0:Hp
 hd:Nat->Option (Option V×Option D)
def Bw(K:W.Frag)(h0:Hp)(G:GH)(H:Hp)(v:V)(d:D):Prop:=RG K G v d\/∃a,v=V.ref a/\Own K G H a d/\h0 a≠none
theorem Bw.grow{K:W.Frag}{h0:Hp}{G G':GH}{H H':Hp}{v:V}{d:D}(h:Bw K h0 G H v d)(w:Grow K G H G' H'):Bw K h0 G' H' v d:=by
 rcases h with h|⟨a,e,h1,h2⟩
 .exact .inl (h.mono w.ge)
 .exact .inr ⟨a,e,h1.mono w,h2⟩
theorem Bw.rb{K:W.Frag}{h0:Hp}{G:GH}{H:Hp}{v:V}{d:D}(h:Bw K h0 G H v d):RB K G H v d:=by
 rcases h with h|⟨a,e,h1,h2⟩
 .exact .inl h
 .exact .inr ⟨a,e,h1⟩
def Lk(r:af)(st:L2.St)(i:Nat)(o:Option V×Option D):Prop:=st[i]? = some o.1/\∀d,r[i]? = some (some d)->o.2=some d
structure SI(X:Cx)(g:GE)(m:List Md)(r:af)(G:GH)(st:L2.St)(H:Hp):Prop where
 gok:aC X.K G H
 old:∀a o,g.h0 a=some o->H a=some o
 ge:∀a d,g.gh a=some d->G a=some d
 gf:∀a,g.h0 a≠none->G a=g.gh a
 lm:m.length=st.length
 lr:r.length=st.length
 sh:∀(i:Nat) d,r[i]? = some (some d)->m[i]? = some .sh->∃v,st[i]? = some (some v)/\RG X.K G v d
 ow:∀(i:Nat) d,r[i]? = some (some d)->m[i]? = some .ow->∃a,st[i]? = some (some (V.ref a))/\Own X.K G H a d/\g.h0 a=none
 bw:∀(i:Nat) d,r[i]? = some (some d)->m[i]? = some .bw->∃v,st[i]? = some (some v)/\Bw X.K g.h0 G H v d
 dis:∀(i j:Nat) a d e,i≠j->r[i]? = some (some d)->r[j]? = some (some e)->m[i]? = some .ow->m[j]? = some .ow->st[i]? = some (some (V.ref a))->st[j]? = some (some (V.ref a))->False
 lk:∀(i:Nat) o,g.hd i=some o->m[i]? = some .bw->Lk r st i o
section
variable{X:Cx}{g:GE}{m:List Md}{r:af}{G G':GH}{st:L2.St}{H H':Hp}
theorem SI.grow(s:SI X g m r G st H)(w:Grow X.K G H G' H'):SI X g m r G' st H' where
 gok:=w.ok
 old:=fun a o e=>w.he _ _ (s.old a o e)
 ge:=fun a d e=>w.ge _ _ (s.ge a d e)
 gf:=fun a h=>by
  have h1:H a≠none:=by cases e:g.h0 a with
  |none=>exact absurd e h
  |some o=>rw[s.old _ _ e];simp
  rw[w.gf a h1,s.gf a h]
 lm:=s.lm
 lr:=s.lr
 sh:=fun i d h1 h2=>by obtain⟨v,h3,h4⟩:=s.sh i d h1 h2;exact⟨v,h3,h4.mono w.ge⟩
 ow:=fun i d h1 h2=>by obtain⟨a,h3,h4,h5⟩:=s.ow i d h1 h2;exact⟨a,h3,h4.mono w,h5⟩
 bw:=fun i d h1 h2=>by obtain⟨v,h3,h4⟩:=s.bw i d h1 h2;exact⟨v,h3,h4.grow w⟩
 dis:=s.dis
 lk:=s.lk
theorem SI.grown(s:SI X g m r G st H):Grow X.K g.gh g.h0 G H:=⟨s.gok,s.old,s.ge,s.gf⟩
theorem SI.frz(s:SI X g m r G st H)(i:Nat)(hi:m[i]? = some .ow):(∃G',(∀a d,G a=some d->G' a=some d)/\SI X g (m.set i .sh) r G' st H)\/∃a,∀ob,∃G',(∀a d,G a=some d->G' a=some d)/\SI X g (m.set i .sh) r G' st (fz H a ob):=by
 have hlt:i<m.length:=(h_.mp hi).1;by_cases hb:∃d,r[i]? = some (some d)
 .obtain⟨d,hd⟩:=hb;obtain⟨a,h1,h2,h3⟩:=s.ow i d hd hi;refine .inr ⟨a,fun ob=>⟨gset G a d,cS h2.un,(s.gok.fast h2.un ob).gset h2.un (h2.ob.fast ob),fun b o e=>by rw[kn (by rintro rfl;rw[h3]at e;cases e)];exact s.old b o e,fun b e h=>cS h2.un b e (s.ge b e h),fun b h=>?_,by simpa using s.lm,s.lr,?_,?_,?_,?_,fun j o hj hm=>?_⟩⟩
  .rw[cE (by rintro rfl;exact h h3)];exact s.gf b h
  .intro j e hj hm;by_cases hij:i=j
   .subst hij;rw[hd]at hj;cases hj;exact⟨_,h1,.ref cq⟩
   .rw[b_ hij]at hm;obtain⟨v,q1,q2⟩:=s.sh j e hj hm;exact⟨v,q1,q2.mono (cS h2.un)⟩
  .intro j e hj hm;by_cases hij:i=j
   .subst hij;rw[l_ hlt]at hm;cases hm
   .rw[b_ hij]at hm;obtain⟨b,q1,q2,q3⟩:=s.ow j e hj hm;have hba:b≠a:=by
     rintro rfl
     exact s.dis i j b d e hij hd hj hi hm h1 q1
    exact⟨b,q1,⟨by rw[cE hba];exact q2.un,q2.ob.mono (cS h2.un) fun _ z=>by rw[kn hba];exact z⟩,q3⟩
  .intro j e hj hm;by_cases hij:i=j
   .subst hij;rw[l_ hlt]at hm;cases hm
   .rw[b_ hij]at hm;obtain⟨v,q1,q2⟩:=s.bw j e hj hm;refine⟨v,q1,?_⟩;rcases q2 with q2|⟨b,rfl,q2,q3⟩
    .exact .inl (q2.mono (cS h2.un))
    .have hba:b≠a:=by rintro rfl;exact q3 h3
     exact .inr ⟨b,rfl,⟨by rw[cE hba];exact q2.un,q2.ob.mono (cS h2.un) fun _ z=>by rw[kn hba];exact z⟩,q3⟩
  .intro j k b e e' hjk hj hk hm hm' q1 q2;have hij:i≠j:=by
    rintro rfl
    rw[l_ hlt]at hm;cases hm
   have hik:i≠k:=by
    rintro rfl
    rw[l_ hlt]at hm';cases hm'
   rw[b_ hij]at hm;rw[b_ hik]at hm';exact s.dis j k b e e' hjk hj hk hm hm' q1 q2
  .refine s.lk j o hj ?_;by_cases hij:i=j
   .subst hij;rw[l_ hlt]at hm;cases hm
   .rw[b_ hij]at hm;exact hm
 .refine .inl ⟨G,fun _ _ z=>z,s.gok,s.old,s.ge,s.gf,by simpa using s.lm,s.lr,?_,?_,?_,?_,fun j o hj hm=>?_⟩
  .intro j e hj hm;have hij:i≠j:=by rintro rfl;exact hb ⟨e,hj⟩
   rw[b_ hij]at hm;exact s.sh j e hj hm
  .intro j e hj hm;have hij:i≠j:=by rintro rfl;exact hb ⟨e,hj⟩
   rw[b_ hij]at hm;exact s.ow j e hj hm
  .intro j e hj hm;have hij:i≠j:=by rintro rfl;exact hb ⟨e,hj⟩
   rw[b_ hij]at hm;exact s.bw j e hj hm
  .intro j k b e e' hjk hj hk hm hm' q1 q2;have hij:i≠j:=by rintro rfl;exact hb ⟨e,hj⟩
   have hik:i≠k:=by rintro rfl;exact hb ⟨e',hk⟩
   rw[b_ hij]at hm;rw[b_ hik]at hm';exact s.dis j k b e e' hjk hj hk hm hm' q1 q2
  .refine s.lk j o hj ?_;by_cases hij:i=j
   .subst hij;rw[l_ hlt]at hm;cases hm
   .rw[b_ hij]at hm;exact hm
end
theorem PE.imp{X:Cx}{e:Expr}{t t':TE}(h:PE X e t)(i:∀σ H Q,t' σ H Q->t σ H Q):PE X e t':=fun pz s σ H Q I q=>h pz s σ H Q I (i σ H Q q)
theorem PT.imp{X:Cx}{e:Expr}{t t':TT}(h:PT X e t)(i:∀σ H Q,t' σ H Q->t σ H Q):PT X e t':=fun pz s σ H Q I q=>h pz s σ H Q I (i σ H Q q)
theorem PW.imp{X:Cx}{e:Expr}{t t':TT}(h:PW X e t)(i:∀σ H Q,t' σ H Q->t σ H Q):PW X e t':=fun whole pz s σ H Q I q=>h whole pz s σ H Q I (i σ H Q q)
theorem PA.imp{X:Cx}{e:List Expr}{t t':TA}(h:PA X e t)(i:∀σ H Q,t' σ H Q->t σ H Q):PA X e t':=fun pos pz s σ H Q I q=>h pos pz s σ H Q I (i σ H Q q)
theorem PS.imp{X:Cx}{e:Stmt}{t t':TS}(h:PS X e t)(i:∀D σ H,t' D σ H->t D σ H):PS X e t':=fun pz s σ H D I q=>h pz s σ H D I (i D σ H q)
theorem cm.imp{X:Cx}{e:List Stmt}{t t':TS}(h:cm X e t)(i:∀D σ H,t' D σ H->t D σ H):cm X e t':=fun pz s σ H D I q=>h pz s σ H D I (i D σ H q)
def yU(X:Cx)(σ:L2.St)(G:GH)(H':Hp)(e:a_)(x:D)(s':e_):Prop:=∃pz s H1 a C od nm ds,e=.ref a/\x=xD nm ds/\XN X.K nm C/\XF G od ds/\Inv X pz σ H1 s/\Fly X.prog X.w X.stack H1 s H' a (.ref C) od s'
def XW(X:Cx)(σ:L2.St)(G:GH)(H:Hp)(x:D):Prop:=∀pz e s' G' H',Grow X.K G H G' H'->Inv X pz σ H' s'->yU X σ G' H' e x s'->X.xe e s'
theorem XW.grow{X:Cx}{σ:L2.St}{G G1:GH}{H H1:Hp}{x:D}(h:XW X σ G H x)(w:Grow X.K G H G1 H1):XW X σ G1 H1 x:=fun pz e s' G' H' w' I q=>h pz e s' G' H' (w.trans w') I q
abbrev FE:=af->Res D
def tE(X:Cx)(g:GE)(m:List Md)(f:FE):TE:=fun σ H Q=>∃r G,SI X g m r G σ H/\fin (f r) (fun d=>∀v G' H',Grow X.K G H G' H'->RG X.K G' v d->Q v H') (XW X σ G H)
def tB(X:Cx)(g:GE)(m:List Md)(f:FE):TE:=fun σ H Q=>∃r G,SI X g m r G σ H/\fin (f r) (fun d=>∀v G' H',Grow X.K G H G' H'->RB X.K G' H' v d->Q v H') (XW X σ G H)
def tO(X:Cx)(g:GE)(m:List Md)(f:FE):TE:=fun σ H Q=>∃r G,SI X g m r G σ H/\fin (f r) (fun d=>∀a G' H',Grow X.K G H G' H'->H a=none->Own X.K G' H' a d->Q (.ref a) H') (XW X σ G H)
def tQ(X:Cx)(g:GE)(m:List Md)(f:af->Res Bool):TT:=fun σ H Q=>∃r G,SI X g m r G σ H/\fin (f r) (fun b=>∀G' H',Grow X.K G H G' H'->Q b H') (XW X σ G H)
def tL(X:Cx)(g:GE)(m:List Md)(f:af->Res (List D)):TA:=fun σ H Q=>∃r G,SI X g m r G σ H/\fin (f r) (fun ds=>∀vs G' H',Grow X.K G H G' H'->bj X.K G' vs ds->Q vs H') (XW X σ G H)
def rD(X:Cx)(g:GE)(m:List Md)(f:af->Res (List D)):TA:=fun σ H Q=>∃r G,SI X g m r G σ H/\fin (f r) (fun ds=>∀vs G' H',Grow X.K G H G' H'->Paired (RB X.K G' H') vs ds->Q vs H') (XW X σ G H)
def SE(X:Cx)(g:GE)(m:List Md)(e:Expr)(f:FE):Prop:=PE X e (tE X g m f)
def SB(X:Cx)(g:GE)(m:List Md)(e:Expr)(f:FE):Prop:=PE X e (tB X g m f)
def SO(X:Cx)(g:GE)(m:List Md)(e:Expr)(f:FE):Prop:=PE X e (tO X g m f)
def SQ(X:Cx)(g:GE)(m:List Md)(e:Expr)(f:af->Res Bool):Prop:=PT X e (tQ X g m f)
def SW(X:Cx)(g:GE)(m:List Md)(e:Expr)(f:af->Res Bool):Prop:=PW X e (tQ X g m f)
def SA(X:Cx)(g:GE)(m:List Md)(es:List Expr)(f:af->Res (List D)):Prop:=PA X es (tL X g m f)
def gU(X:Cx)(g:GE)(m:List Md)(es:List Expr)(f:af->Res (List D)):Prop:=PA X es (rD X g m f)
section
variable{X:Cx}{g:GE}{m:List Md}{e a b c:Expr}{f fa fb fc:FE}{pos:Pos}
theorem SE.toB(h:SE X g m e f):SB X g m e f:=PE.imp h fun σ H Q ⟨r,G,si,q⟩=>⟨r,G,si,aK q fun d k v G' H' w z=>k v G' H' w z.rb⟩
theorem Inv.fast{pz:List (Addr×Obj)}{σ:L2.St}{H:Hp}{s:e_}(I:Inv X pz σ H s)(a:Addr):∃ob,Inv X pz σ (fz H a ob) s:=by cases e:H a with
|none=>exact⟨{ cls:=.none,data:=.fields #[] },by unfold fz;rw[e];exact I⟩
|some u=>cases u with
 |dK ps=>
   obtain⟨z1,z2,vs,z3,o,es,ep,z4,z5⟩:=(show bC X.prog X.w H s.heap a (.dK ps)from I.hok a _ e)
   have ef:fz H a o=upd H a (.frz o (.dK ps)):=by unfold fz;rw[e]
   refine⟨o,?_⟩;rw[ef];exact I.write (t':=s.toks) (h':=s.heap) (x:=a) (e:=a) (by rw[e];exact trivial) (.inl rfl) (fun b u _ q=>q) ⟨o,z4⟩ (show bC X.prog X.w _ s.heap a (.frz o (.dK ps))from⟨z4,z1,z2,vs,z3,o,es,ep,z4,z5⟩)
 |_=>exact⟨{ cls:=.none,data:=.fields #[] },by unfold fz;rw[e];exact I⟩
theorem SO.toE(h:SO X g m e f):SE X g m e f:=by intro pz s σ H Q I ⟨r,G,si,q⟩;refine aE (h pz s σ H (fun v H'=>∃a,v=.ref a/\∀ob,Q v (fz H' a ob)) I ⟨r,G,si,aK q fun d k a G' H' w hn o=>⟨a,rfl,fun ob=>k _ _ _ (w.frz hn o ob) (.ref cq)⟩⟩) fun u s' ⟨v,H',I',rv,a,_,z⟩=>?_;obtain⟨ob,I2⟩:=Inv.fast I' a;exact⟨v,_,I2,rv,z ob⟩
theorem SO.toB(h:SO X g m e f):SB X g m e f:=h.toE.toB
theorem SE.eq{f':FE}(h:SE X g m e f)(q:∀r,f' r=f r):SE X g m e f':=by have:f'=f:=funext q;rw[this];exact h
theorem wL{v:V}{d:D}(h:PE X e (tC v))(s:Scl v d):SE X g m e fun _=>.ok d:=PE.imp h fun σ H Q ⟨r,G,si,q⟩=>q v G H (Grow.refl si.gok) (.scl s)
theorem gD{i:Int}{j}:SE X g m (.Constant (.int i) j pos) fun _=>.ok (.int i):=wL Bp (.int i)
theorem cv{i:Bool}{j}:SE X g m (.Constant (.bool i) j pos) fun _=>.ok (.bl i):=wL zR (.bl i)
def cA(r:af)(i:Nat):Res D:=match r[i]? with
|some (some d)=>.ok d
|_=>.stuck
theorem mV{r:af}{i:Nat}{q:D->Prop}{x:D->Prop}(h:fin (cA r i) q x):∃d,r[i]? = some (some d)/\q d:=by
 unfold cA at h;split at h
 .rename_i d e;exact⟨d,e,h⟩
 .exact h.elim
theorem zh(i:Nat){x:Str}(hm:m[i]? = some .sh)(hN:X.N[i]? = some x)(hv:dC X.env.scope x)(hd:(x==("__debug__" : Str))=false:=by decide)(hcd:(x==("__classdict__" : Str))=false:=by decide):SE X g m (.Name x pos) fun r=>cA r i:=by refine PE.imp (fO hN hv hd hcd) fun σ H Q ⟨r,G,si,q⟩=>?_;obtain⟨d,e,k⟩:=mV q;obtain⟨v,e1,e2⟩:=si.sh i d e hm;exact⟨v,e1,k v G H (Grow.refl si.gok) e2⟩
theorem A9(i:Nat){x:Str}(hm:i<m.length)(hN:X.N[i]? = some x)(hv:dC X.env.scope x)(hd:(x==("__debug__" : Str))=false:=by decide)(hcd:(x==("__classdict__" : Str))=false:=by decide):SB X g m (.Name x pos) fun r=>cA r i:=by refine PE.imp (fO hN hv hd hcd) fun σ H Q ⟨r,G,si,q⟩=>?_;obtain⟨d,e,k⟩:=mV q;have hm':m[i]? = some m[i]:=m_ hm;cases h:m[i]with
|sh=>obtain⟨v,e1,e2⟩:=si.sh i d e (hm'.trans (by rw[h]));exact⟨v,e1,k v G H (Grow.refl si.gok) e2.rb⟩
|ow=>obtain⟨v,e1,e2,_⟩:=si.ow i d e (hm'.trans (by rw[h]));exact⟨_,e1,k _ G H (Grow.refl si.gok) (.inr ⟨v,rfl,e2⟩)⟩
|bw=>obtain⟨v,e1,e2⟩:=si.bw i d e (hm'.trans (by rw[h]));exact⟨_,e1,k _ G H (Grow.refl si.gok) e2.rb⟩
theorem jp{β:Type}{k:D->D->Res β}{q:β->Prop}{R:V->V->Hp->Prop}{r:af}{G:GH}{σ:L2.St}{H:Hp}(si:SI X g m r G σ H)(h:fin ((fa r).bind fun d1=>(fb r).bind fun d2=>k d1 d2) q (XW X σ G H))(hk:∀d1 d2 v1 v2 G2 H2,Grow X.K G H G2 H2->RB X.K G2 H2 v1 d1->RB X.K G2 H2 v2 d2->fin (k d1 d2) q (XW X σ G H)->R v1 v2 H2):tB X g m fa σ H fun v1 H1=>tB X g m fb σ H1 fun v2 H2=>R v1 v2 H2:=by refine⟨r,G,si,aK (aU h) fun d1 h1 v1 G1 H1 w1 r1=>⟨r,G1,si.grow w1,?_⟩⟩;cases e:fb r with
|ok d2=>rw[e]at h1;exact fun v2 G2 H2 w2 r2=>hk d1 d2 v1 v2 G2 H2 (w1.trans w2) (r1.mono w2) r2 h1
|exc x=>rw[e]at h1;exact(show XW X σ G H x from h1).grow w1
|stuck=>rw[e]at h1;exact h1
def bz{α:Type}:Option α->Res α
|some a=>.ok a
|none=>.stuck
@[simp] theorem opt_some{α:Type}(a:α):bz (some a)=.ok a:=rfl
@[simp] theorem opt_none{α:Type}:bz (none:Option α)=.stuck:=rfl
theorem cu{α:Type}{o:Option α}{q:α->Prop}{x:D->Prop}(h:fin (bz o) q x):∃a,o=some a/\q a:=by cases o with
|none=>exact h.elim
|some a=>exact⟨a,rfl,h⟩
def cJ(K:W.Frag)(r:R2)(k:D->D->Option D):Prop:=∀(G:GH)(H:Hp)(v1 v2:V)(d1 d2 d:D)(Q:VK),aC K G H->RB K G H v1 d1->RB K G H v2 d2->k d1 d2=some d ->(∀v G' H',Grow K G H G' H'->RG K G' v d->Q v H')->r v1 v2 H Q
def f2(fa fb:FE)(k:D->D->Option D):FE:=fun r=>(fa r).bind fun d1=>(fb r).bind fun d2=>bz (k d1 d2)
theorem ox{R:R2}{k:D->D->Option D}(ho:cJ X.K R k)(h:PE X e (ly R (tB X g m fa) (tB X g m fb))):SE X g m e (f2 fa fb k):=by refine PE.imp h fun σ H Q ⟨r,G,si,q⟩=>?_;refine jp si q fun d1 d2 v1 v2 G2 H2 w r1 r2 q2=>?_;obtain⟨d,e,q2⟩:=cu q2;exact ho G2 H2 v1 v2 d1 d2 d Q w.ok r1 r2 e fun v G' H' w' z=>q2 v G' H' (w.trans w') z
theorem iF{op:Operator}{R:R2}{k:D->D->Option D}(hr:aV X (Im op) R)(ho:cJ X.K R k)(ha:SB X g m a fa)(hb:SB X g m b fb):SE X g m (.BinOp a op b pos) (f2 fa fb k):=ox ho (zU hr ha hb)
theorem oF{op:NI}{R:R2}{k:D->D->Option D}(hr:aV X (Hg op) R)(ho:cJ X.K R k)(ha:SB X g m a fa)(hb:SB X g m b fb)(hm:IF op b=false):SE X g m (.Compare a [op] [b] pos) (f2 fa fb k):=ox ho (B7 hr ha hb hm)
def gs:D->Option Bool
|.bl b=>some b
|_=>none
def a9(f:FE):af->Res Bool:=fun r=>(f r).bind fun d=>bz (gs d)
theorem jO{op:NI}{R:R2}{k:D->D->Option D}(hr:aV X (Hg op) R)(ho:cJ X.K R k)(ha:SB X g m a fa)(hb:SB X g m b fb)(hm:IF op b=false):SQ X g m (.Compare a [op] [b] pos) (a9 (f2 fa fb k)):=by
 refine PT.imp (CY hr ha hb hm) fun σ H Q ⟨r,G,si,q⟩=>?_;have e:a9 (f2 fa fb k) r=(fa r).bind fun d1=>(fb r).bind fun d2=>(bz (k d1 d2)).bind fun d=>bz (gs d):=by unfold a9 f2;cases fa r with
 |ok d1=>cases fb r <;> rfl
 |exc _=>rfl
 |stuck=>rfl
 rw[e]at q;refine jp (R:=fun x y H2=>R x y H2 fun x H'=>∃k,x=V.bl k/\Q k H') si q fun d1 d2 v1 v2 G2 H2 w r1 r2 q3=>?_;obtain⟨d,e,q3⟩:=cu (aU q3);obtain⟨b,eb,q3⟩:=cu q3;cases d with
|bl b'=>cases eb;exact ho G2 H2 v1 v2 d1 d2 _ _ w.ok r1 r2 e fun v G' H' w' z=>⟨_,z.bl w'.ok,q3 G' H' (w.trans w')⟩
|_=>cases eb
end
instance decMul(i j:Int):Decidable (eG i j):=by unfold eG;infer_instance
instance decDiv(i j:Int):Decidable (fH i j):=by unfold fH;infer_instance
instance decPow(i j:Int):Decidable (fG i j):=by unfold fG;infer_instance
def i9(k:Int->Int->D):D->D->Option D
|.int a,.int b=>some (k a b)
|_,_=>none
def gC(C:Int->Int->Prop)[∀a b,Decidable (C a b)](k:Int->Int->D):D->D->Option D
|.int a,.int b=>if C a b then some (k a b)else none
|_,_=>none
@[simp] theorem ints2_int(k:Int->Int->D)(a b:Int):i9 k (.int a) (.int b)=some (k a b):=rfl
@[simp] theorem intsC_int(C:Int->Int->Prop)[∀a b,Decidable (C a b)](k:Int->Int->D)(a b:Int):gC C k (.int a) (.int b)=if C a b then some (k a b)else none:=rfl
section
variable{K:W.Frag}
theorem iM{gv:Int->Int->V}{gd:Int->Int->D}(hs:∀i j,Scl (gv i j) (gd i j)):cJ K (gO gv) (i9 gd):=by
 intro G H v1 v2 d1 d2 d Q g r1 r2 e q;unfold i9 at e;split at e
 .cases e;exact⟨_,_,r1.int g,r2.int g,q _ G H (Grow.refl g) (.scl (hs _ _))⟩
 .cases e
theorem jX{C:Int->Int->Prop}[∀a b,Decidable (C a b)]{gv:Int->Int->V}{gd:Int->Int->D}(hs:∀i j,Scl (gv i j) (gd i j)):cJ K (rI C gv) (gC C gd):=by
 intro G H v1 v2 d1 d2 d Q g r1 r2 e q;unfold gC at e;split at e
 .split at e
  .rename_i hc;cases e;exact⟨_,_,r1.int g,r2.int g,hc,q _ G H (Grow.refl g) (.scl (hs _ _))⟩
  .cases e
 .cases e
theorem cJ.or{r r':R2}{k k':D->D->Option D}(h:cJ K r k)(h':cJ K r' k'):cJ K (fun x y H Q=>r x y H Q\/r' x y H Q) (fun a b=>match k a b with|some d=>some d|none=>k' a b):=by intro G H v1 v2 d1 d2 d Q g r1 r2 e q;cases e1:k d1 d2 with
|some d'=>simp only[e1]at e;cases e;exact .inl (h G H v1 v2 d1 d2 d Q g r1 r2 e1 q)
|none=>simp only[e1]at e;exact .inr (h' G H v1 v2 d1 d2 d Q g r1 r2 e q)
end
abbrev fX:D->D->Option D:=i9 fun a b=>.int (a-b)
abbrev bd:D->D->Option D:=gC eG fun a b=>.int (a*b)
abbrev gA:D->D->Option D:=gC fH fun a b=>.int (a/b)
abbrev aO:D->D->Option D:=gC (fun _ b=>0<b) fun a b=>.int (a%b)
abbrev gj:D->D->Option D:=gC fG fun a b=>.int (a^b.toNat)
abbrev gQ:D->D->Option D:=i9 fun a b=>.bl (decide (a<b))
abbrev gR:D->D->Option D:=i9 fun a b=>.bl (decide (a<=b))
abbrev kd:D->D->Option D:=i9 fun a b=>.bl (decide (b<a))
section
variable{X:Cx}{g:GE}{m:List Md}{e a b c:Expr}{f fa fb fc:FE}{pos:Pos}
theorem oy(ha:SB X g m a fa)(hb:SB X g m b fb):SE X g m (.BinOp a .Sub b pos) (f2 fa fb fX):=iF Bm (iM fun _ _=>.int _) ha hb
theorem gF(ha:SB X g m a fa)(hb:SB X g m b fb):SE X g m (.BinOp a .Mult b pos) (f2 fa fb bd):=iF BL (jX fun _ _=>.int _) ha hb
theorem oZ(ha:SB X g m a fa)(hb:SB X g m b fb):SE X g m (.BinOp a .FloorDiv b pos) (f2 fa fb gA):=iF BZ (jX fun _ _=>.int _) ha hb
theorem eU(ha:SB X g m a fa)(hb:SB X g m b fb):SE X g m (.BinOp a .Mod b pos) (f2 fa fb aO):=iF BK (jX fun _ _=>.int _) ha hb
theorem ze(ha:SB X g m a fa)(hb:SB X g m b fb):SE X g m (.BinOp a .Pow b pos) (f2 fa fb gj):=iF BM (jX fun _ _=>.int _) ha hb
theorem rK(ha:SB X g m a fa)(hb:SB X g m b fb):SE X g m (.Compare a [.Lt] [b] pos) (f2 fa fb gQ):=oF og (iM fun _ _=>.bl _) ha hb (iK _)
theorem rL(ha:SB X g m a fa)(hb:SB X g m b fb):SE X g m (.Compare a [.Gt] [b] pos) (f2 fa fb kd):=oF tt (iM fun _ _=>.bl _) ha hb (iK _)
theorem lH(ha:SB X g m a fa)(hb:SB X g m b fb):SQ X g m (.Compare a [.Lt] [b] pos) (a9 (f2 fa fb gQ)):=jO og (iM fun _ _=>.bl _) ha hb (iK _)
theorem rN(ha:SB X g m a fa)(hb:SB X g m b fb):SQ X g m (.Compare a [.LtE] [b] pos) (a9 (f2 fa fb gR)):=jO mr (iM fun _ _=>.bl _) ha hb (iK _)
theorem rO(ha:SB X g m a fa)(hb:SB X g m b fb):SQ X g m (.Compare a [.Gt] [b] pos) (a9 (f2 fa fb kd)):=jO tt (iM fun _ _=>.bl _) ha hb (iK _)
def f1(fa:FE)(k:D->Option D):FE:=fun r=>(fa r).bind fun d=>bz (k d)
def jv:D->Option D
|.int a=>some (.int (-a))
|_=>none
@[simp] theorem negI_int(a:Int):jv (.int a)=some (.int (-a)):=rfl
theorem zc(ha:SB X g m a fa):SE X g m (.UnaryOp .USub a pos) (f1 fa jv):=by
 refine PE.imp (zV CC ha) fun σ H Q ⟨r,G,si,q⟩=>⟨r,G,si,aK (aU q) fun d q1 v G1 H1 w1 r1=>?_⟩
 obtain⟨d',e,q2⟩:=cu q1;cases d with
|int i=>cases e;exact⟨i,r1.int w1.ok,q2 _ G1 H1 w1 (.scl (.int _))⟩
|_=>cases e
def e7:D->Option Bool
|.non=>some false
|.bl b=>some b
|.int i=>some (i != 0)
|.str y=>if y.length<=sizeLine then some ((y.length:Int) != 0)else none
|.lst ds=>some (! ds.isEmpty)
|.tup ds=>some (! ds.isEmpty)
|.dic kvs=>some (! kvs.isEmpty)
|.obj _ _=>none
theorem qq{α β:Type}{F:α->β->Prop}{l:List α}{r:List β}(h:Paired F l r):l.isEmpty=r.isEmpty:=by cases h <;> rfl
theorem CV{K:W.Frag}{G:GH}{H:Hp}{v:V}{d:D}{b:Bool}(gk:aC K G H)(h:RB K G H v d)(e:e7 d=some b):jz K v H b:=by cases d with
|non=>cases e;rw[h.non gk];rfl
|bl b'=>cases e;rw[h.bl gk];rfl
|int i=>cases e;rw[h.int gk];rfl
|str y=>
  rw[h.str gk];have e':(if y.length<=sizeLine then some ((y.length:Int) != 0)else none)=some b:=e;by_cases hy:y.length<=sizeLine
  .rw[if_pos hy]at e';cases e';exact⟨hy,rfl⟩
  .rw[if_neg hy]at e';cases e'
|lst ds=>cases e;obtain⟨a,xs,rfl,s,r⟩:=h.lst gk;exact .inl ⟨xs,s,by rw[qq r]⟩
|tup ds=>cases e;obtain⟨a,xs,rfl,s,r⟩:=h.tup gk;exact .inr (.inl ⟨xs,s,by rw[qq r]⟩)
|dic kvs=>cases e;obtain⟨a,xs,rfl,s,r⟩:=h.dic gk;exact .inr (.inr ⟨xs,s,by rw[qq r]⟩)
|obj _ _=>cases e
def bg(f:FE):af->Res Bool:=fun r=>(f r).bind fun d=>bz (e7 d)
theorem dU(ha:SB X g m a fa)(he:∀whole,isTrue a X.env whole=(do let v <-whole;L0 a.pos;Je [v] (truthy v)):=by intro _;rfl):SQ X g m a (bg fa):=by
 refine PT.imp (DQ ha he) fun σ H Q ⟨r,G,si,q⟩=>⟨r,G,si,aK (aU q) fun d q1 v G1 H1 w1 r1=>?_⟩
 obtain⟨b,e,q2⟩:=cu q1;exact⟨b,CV w1.ok r1 e,q2 G1 H1 w1⟩
abbrev FQ:=af->Res Bool
def dy(p q:FQ):FQ:=fun r=>(p r).bind fun c=>if c=true then q r else .ok false
def dQ(p q:FQ):FQ:=fun r=>(p r).bind fun c=>if c=true then .ok true else q r
def bG(p:FQ):FQ:=fun r=>(p r).bind fun c=>.ok (! c)
variable{p q:FQ}{rest:List Expr}
theorem z9{α:Type}{r:Res α}{q:α->Prop}{x x':D->Prop}(h:fin r q x)(hx:∀e,x e->x' e):fin r q x':=by cases r with
|ok a=>exact h
|exc e=>exact hx e h
|stuck=>exact h
theorem fV{α:Type}{r:Res α}{σ:L2.St}{G G1:GH}{H H1:Hp}{P P':α->Prop}(h:fin r P (XW X σ G H))(w:Grow X.K G H G1 H1)(hp:∀a,P a->P' a):fin r P' (XW X σ G1 H1):=z9 (aK h hp) fun _ x=>x.grow w
theorem BD(ha:SQ X g m a p):SW X g m (.BoolOp .And [a] pos) p:=CZ ha
theorem iE(ha:SQ X g m a p):SW X g m (.BoolOp .Or [a] pos) p:=uY ha
theorem zX(ha:SQ X g m a p)(hb:SW X g m (.BoolOp .And (b::rest) pos) q):SW X g m (.BoolOp .And (a::b::rest) pos) (dy p q):=by
 refine PW.imp (BC ha hb) fun σ H Q ⟨r,G,si,k⟩=>⟨r,G,si,aK (aU k) fun c k1 G1 H1 w1=>?_⟩
 cases c with
|true=>rw[if_pos rfl]at k1 ⊢;exact⟨r,G1,si.grow w1,fV k1 w1 fun b z G' H' w'=>z G' H' (w1.trans w')⟩
|false=>rw[if_neg j_]at k1 ⊢;exact k1 G1 H1 w1
theorem cw(ha:SQ X g m a p)(hb:SW X g m (.BoolOp .Or (b::rest) pos) q):SW X g m (.BoolOp .Or (a::b::rest) pos) (dQ p q):=by
 refine PW.imp (sX ha hb) fun σ H Q ⟨r,G,si,k⟩=>⟨r,G,si,aK (aU k) fun c k1 G1 H1 w1=>?_⟩
 cases c with
|true=>rw[if_pos rfl]at k1 ⊢;exact k1 G1 H1 w1
|false=>rw[if_neg j_]at k1 ⊢;exact⟨r,G1,si.grow w1,fV k1 w1 fun b z G' H' w'=>z G' H' (w1.trans w')⟩
theorem SW.toQ(h:SW X g m e p):SQ X g m e p:=PW.pt h
theorem eT(ha:SQ X g m a p):SQ X g m (.UnaryOp .Not a pos) (bG p):=PT.imp (Bz ha) fun σ H Q ⟨r,G,si,k⟩=>⟨r,G,si,aK (aU k) fun c k1 G1 H1 w1=>k1 G1 H1 w1⟩
def d4(fa fb:FE):FE:=fun r=>(fa r).bind fun d=>(bz (gs d)).bind fun c=>if c=true then fb r else .ok (.bl false)
def F7(fa fb:FE):FE:=fun r=>(fa r).bind fun d=>(bz (gs d)).bind fun c=>if c=true then .ok (.bl true)else fb r
def jo(fa:FE):FE:=fun r=>(fa r).bind fun d=>(bz (gs d)).bind fun c=>.ok (.bl (! c))
theorem ou{op}(h:SE X g m a fa):SE X g m (.BoolOp op [a] pos) fa:=Bs h
theorem oE(ha:SE X g m a fa)(hb:SE X g m (.BoolOp .And (b::rest) pos) fb):SE X g m (.BoolOp .And (a::b::rest) pos) (d4 fa fb):=by
 refine PE.imp (Bn ha hb) fun σ H Q ⟨r,G,si,k⟩=>⟨r,G,si,aK (aU k) fun d k1 v G1 H1 w1 r1=>?_⟩
 obtain⟨c,e,k2⟩:=cu (aU k1);cases d with
|bl c'=>cases e;refine⟨_,r1.bl w1.ok,?_⟩;cases c with
 |true=>rw[if_pos rfl]at k2 ⊢;exact⟨r,G1,si.grow w1,fV k2 w1 fun b z v G' H' w'=>z v G' H' (w1.trans w')⟩
 |false=>rw[if_neg j_]at k2 ⊢;exact k2 _ G1 H1 w1 (.scl (.bl _))
|_=>cases e
theorem zd(ha:SE X g m a fa):SE X g m (.UnaryOp .Not a pos) (jo fa):=by
 refine PE.imp (Br ha) fun σ H Q ⟨r,G,si,k⟩=>⟨r,G,si,aK (aU k) fun d k1 v G1 H1 w1 r1=>?_⟩
 obtain⟨c,e,k2⟩:=cu (aU k1);cases d with
|bl c'=>cases e;exact⟨_,r1.bl w1.ok,k2 _ G1 H1 w1 (.scl (.bl _))⟩
|_=>cases e
def iU(p:FQ)(fa fb:FE):FE:=fun r=>(p r).bind fun c=>if c=true then fa r else fb r
theorem zb(hc:SQ X g m c p)(ha:SE X g m a fa)(hb:SE X g m b fb):SE X g m (.IfExp c a b pos) (iU p fa fb):=by
 refine PE.imp (Eh hc ha hb) fun σ H Q ⟨r,G,si,k⟩=>⟨r,G,si,aK (aU k) fun c k1 G1 H1 w1=>?_⟩
 cases c with
|true=>rw[if_pos rfl]at k1 ⊢;exact⟨r,G1,si.grow w1,fV k1 w1 fun b z v G' H' w'=>z v G' H' (w1.trans w')⟩
|false=>rw[if_neg j_]at k1 ⊢;exact⟨r,G1,si.grow w1,fV k1 w1 fun b z v G' H' w'=>z v G' H' (w1.trans w')⟩
variable{es:List Expr}{fl fr:af->Res (List D)}
def ae:af->Res (List D):=fun _=>.ok []
def ah(fa:FE)(fl:af->Res (List D)):af->Res (List D):=fun r=>(fa r).bind fun d=>(fl r).bind fun ds=>.ok (d::ds)
theorem cK:SA X g m [] ae:=PA.imp gK fun σ H Q ⟨r,G,si,k⟩=>k [] G H (Grow.refl si.gok) .nil
theorem cC(ha:SE X g m e fa)(hr:SA X g m es fl)(hs:k_ (e::es) X.env=(false,eval e X.env)::k_ es X.env:=by rfl):SA X g m (e::es) (ah fa fl):=by
 refine PA.imp (cY ha hr hs) fun σ H Q ⟨r,G,si,k⟩=>⟨r,G,si,aK (aU k) fun d k1 v G1 H1 w1 r1=>⟨r,G1,si.grow w1,?_⟩⟩
 exact fV (aU k1) w1 fun ds z vs G2 H2 w2 r2=>z (v::vs) G2 H2 (w1.trans w2) (.cons (r1.mono w2.ge) r2)
theorem bB:gU X g m [] ae:=PA.imp gK fun σ H Q ⟨r,G,si,k⟩=>k [] G H (Grow.refl si.gok) .nil
theorem bA(ha:SB X g m e fa)(hr:gU X g m es fl)(hs:k_ (e::es) X.env=(false,eval e X.env)::k_ es X.env:=by rfl):gU X g m (e::es) (ah fa fl):=by
 refine PA.imp (cY ha hr hs) fun σ H Q ⟨r,G,si,k⟩=>⟨r,G,si,aK (aU k) fun d k1 v G1 H1 w1 r1=>⟨r,G1,si.grow w1,?_⟩⟩
 exact fV (aU k1) w1 fun ds z vs G2 H2 w2 r2=>z (v::vs) G2 H2 (w1.trans w2) (.cons (r1.mono w2) r2)
def sz(ds:List D):Option (List D):=if ds.length<=sizeLine then some ds else none
theorem oD{ds ds':List D}(h:sz ds=some ds'):ds'=ds/\ds.length<=sizeLine:=by
 unfold sz at h;split at h
 .rename_i hl;cases h;exact⟨rfl,hl⟩
 .cases h
theorem zk{ds:List D}(h:ds.length<=sizeLine):sz ds=some ds:=if_pos h
def fm(fl:af->Res (List D)):FE:=fun r=>(fl r).bind fun ds=>(bz (sz ds)).bind fun ds=>.ok (.tup ds)
def gp(fl:af->Res (List D)):FE:=fun r=>(fl r).bind fun ds=>(bz (sz ds)).bind fun ds=>.ok (.lst ds)
theorem iG{x1}(h:SA X g m es fl):SE X g m (.Tuple es x1 pos) (fm fl):=by
 refine PE.imp (Bt h) fun σ H Q ⟨r,G,si,k⟩=>⟨r,G,si,aK (aU k) fun ds k1 vs G1 H1 w1 r1=>?_⟩
 obtain⟨ds',e,k2⟩:=cu (aU k1);obtain⟨rfl,hl⟩:=oD e;have hlen:=Paired.length r1;refine⟨by omega,fun p hp=>?_⟩;exact k2 _ _ _ (w1.trans (Grow.newF (d:=.tup ds') w1.ok hp (.tup (.inl cj) r1))) (.ref cq)
theorem i5(h:SA X g m es fl):SO X g m (.List es pos) (gp fl):=by
 refine PE.imp (Bq h) fun σ H Q ⟨r,G,si,k⟩=>⟨r,G,si,aK (aU k) fun ds k1 vs G1 H1 w1 r1=>?_⟩
 obtain⟨ds',e,k2⟩:=cu (aU k1);obtain⟨rfl,hl⟩:=oD e;have hlen:=Paired.length r1;refine⟨by omega,fun p hp=>?_⟩;have hn:H p=none:=by cases q:H p with
 |none=>rfl
 |some o=>rw[w1.he _ _ q]at hp;cases hp
 exact k2 p G1 _ (w1.trans (Grow.new w1.ok hp _)) hn ⟨w1.ok.isN hp,.lst cj r1⟩
end
def kh(K:W.Frag)(r:List V->Hp->VK->Prop)(k:List D->Option D):Prop:=∀(G:GH)(H:Hp)(vs:List V)(ds:List D)(d:D)(Q:VK),aC K G H->Paired (RB K G H) vs ds->k ds=some d ->(∀v G' H',Grow K G H G' H'->RG K G' v d->Q v H')->r vs H Q
def su(K:W.Frag)(r:List V->Hp->VK->Prop)(k:List D->Option D):Prop:=∀(G:GH)(H:Hp)(vs:List V)(ds:List D)(d:D)(Q:VK),aC K G H->Paired (RB K G H) vs ds->k ds=some d ->(∀a G' H',Grow K G H G' H'->H a=none->Own K G' H' a d->Q (.ref a) H')->r vs H Q
def fC(fl:af->Res (List D))(k:List D->Option D):FE:=fun r=>(fl r).bind fun ds=>bz (k ds)
theorem Grow.back{K:W.Frag}{G G1:GH}{H H1:Hp}(w:Grow K G H G1 H1){a:Addr}(hn:H1 a=none):H a=none:=by cases q:H a with
|none=>rfl
|some o=>rw[w.he _ _ q]at hn;cases hn
section
variable{X:Cx}{g:GE}{m:List Md}{e a b c:Expr}{f fa fb fc:FE}{pos p p2:Pos}{es:List Expr}{fl:af->Res (List D)}{x:Str}{id T:String}{R:List V->Hp->VK->Prop}{k:List D->Option D}
theorem fZ(hk:kh X.K R k)(h:PE X e (lz R (rD X g m fl))):SE X g m e (fC fl k):=by
 refine PE.imp h fun σ H Q ⟨r,G,si,q⟩=>⟨r,G,si,aK (aU q) fun ds q1 vs G1 H1 w1 r1=>?_⟩
 obtain⟨d,e,q2⟩:=cu q1;exact hk G1 H1 vs ds d Q w1.ok r1 e fun v G' H' w' z=>q2 v G' H' (w1.trans w') z
theorem za(hk:su X.K R k)(h:PE X e (lz R (rD X g m fl))):SO X g m e (fC fl k):=by
 refine PE.imp h fun σ H Q ⟨r,G,si,q⟩=>⟨r,G,si,aK (aU q) fun ds q1 vs G1 H1 w1 r1=>?_⟩
 obtain⟨d,e,q2⟩:=cu q1;exact hk G1 H1 vs ds d Q w1.ok r1 e fun v G' H' w' hn z=>q2 v G' H' (w1.trans w') (w1.back hn) z
def lenD:List D->Option D
|[.str y]=>if y.length<=sizeLine then some (.int y.length)else none
|[.lst ds]=>some (.int ds.length)
|[.tup ds]=>some (.int ds.length)
|[.dic kvs]=>some (.int kvs.length)
|_=>none
theorem Am{K:W.Frag}:kh K (fun xs H Q=>(∃x n,xs=[x]/\lV K x H n/\Q (.int n) H)\/∃a kvs,xs=[V.ref a]/\Rd H a (.dK kvs)/\Q (.int kvs.length) H) lenD:=by
 intro G H vs ds d Q gk rs e q;unfold lenD at e;split at e
 .split at e
  .cases e;cases rs with
  |cons r t=>cases t;exact .inl ⟨_,_,rfl,by rw[r.str gk];exact⟨by assumption,rfl⟩,q _ G H (Grow.refl gk) (.scl (.int _))⟩
  .cases e
 .cases e;cases rs with
 |cons r t=>cases t;obtain⟨a,xs,rfl,s,r⟩:=r.lst gk;have:=Paired.length r;exact .inl ⟨_,_,rfl,.inl ⟨xs,s,rfl⟩,q _ G H (Grow.refl gk) (.scl (by rw[this];exact .int _))⟩
 .cases e;cases rs with
 |cons r t=>cases t;obtain⟨a,xs,rfl,s,r⟩:=r.tup gk;have:=Paired.length r;exact .inl ⟨_,_,rfl,.inr ⟨xs,s,rfl⟩,q _ G H (Grow.refl gk) (.scl (by rw[this];exact .int _))⟩
 .cases e;cases rs with
 |cons r t=>cases t;obtain⟨a,xs,rfl,s,r⟩:=r.dic gk;have:=Paired.length r;exact .inr ⟨_,_,rfl,s,q _ G H (Grow.refl gk) (.scl (by rw[this];exact .int _))⟩
 .cases e
theorem fN(hg:Gl X "len")(hm:X.mg "len" = none)(ha:gU X g m (e::es) fl)(he:k_ (e::es) X.env=(false,eval e X.env)::k_ es X.env:=by rfl)(hpl:(backTo pos (k_ es X.env)).any (·.1)=false:=by rfl):SE X g m (.Call (.Name "len" p) (e::es) [] pos) (fC fl lenD):=fZ Am (kR (dD.or Ds DA) hg hm MW ha (by decide) (by decide) he hpl)
def jM:List D->Option D
|[.lst ds]=>some (.lst ds)
|[.tup ds]=>some (.lst ds)
|_=>none
theorem Cu{K:W.Frag}:su K (fun xs H Q=>∃p ys,xs=[.ref p]/\(aL K H p ys\/bp K H p ys)/\∀l,H l=none->Q (.ref l) (upd H l (.lst ys))) jM:=by
 intro G H vs ds d Q gk rs e q;have fin:∀{ys:List V}{zs:List D},bj K G ys zs->(∀(a:Addr)(G':GH)(H':Hp),Grow K G H G' H'->H a=none->Own K G' H' a (.lst zs)->Q (.ref a) H')->∀l,H l=none->Q (.ref l) (upd H l (.lst ys)):=fun r q l hl=>q l G _ (Grow.new gk hl _) hl ⟨gk.isN hl,.lst cj r⟩;unfold jM at e;split at e
 .cases e;cases rs with
 |cons r t=>cases t;obtain⟨a,xs,rfl,s,r⟩:=r.lst gk;exact⟨a,xs,rfl,.inl s,fin r q⟩
 .cases e;cases rs with
 |cons r t=>cases t;obtain⟨a,xs,rfl,s,r⟩:=r.tup gk;exact⟨a,xs,rfl,.inr s,fin r q⟩
 .cases e
theorem BG(hg:Gl X "list")(hm:X.mg "list" = none)(ha:gU X g m (e::es) fl)(he:k_ (e::es) X.env=(false,eval e X.env)::k_ es X.env:=by rfl)(hpl:(backTo pos (k_ es X.env)).any (·.1)=false:=by rfl):SO X g m (.Call (.Name "list" p) (e::es) [] pos) (fC fl jM):=za Cu (qt Fs hg hm rfl ha (by decide) (by decide) he hpl)
def tupD:List D->Option D
|[.lst ds]=>some (.tup ds)
|[.tup ds]=>some (.tup ds)
|_=>none
theorem Cz{K:W.Frag}:kh K (fun xs H Q=>∃p ys,xs=[.ref p]/\((aL K H p ys/\∀l,H l=none->Q (.ref l) (upd H l (.tup ys)))\/(bp K H p ys/\Q (.ref p) H))) tupD:=by
 intro G H vs ds d Q gk rs e q;unfold tupD at e;split at e
 .cases e;cases rs with
 |cons r t=>cases t;obtain⟨a,xs,rfl,s,r⟩:=r.lst gk;exact⟨a,xs,rfl,.inl ⟨s,fun l hl=>q _ _ _ (Grow.newF gk hl (.tup (.inl cj) r)) (.ref cq)⟩⟩
 .cases e;cases rs with
 |cons r t=>
   cases t;rcases r with r|⟨a,_,o⟩
   .obtain⟨a,xs,rfl,s,r'⟩:=r.tup gk;exact⟨a,xs,rfl,.inr ⟨s,q _ G H (Grow.refl gk) r⟩⟩
   .cases o.ob
 .cases e
theorem iN(hg:Gl X "tuple")(hm:X.mg "tuple" = none)(ha:gU X g m (e::es) fl)(he:k_ (e::es) X.env=(false,eval e X.env)::k_ es X.env:=by rfl)(hpl:(backTo pos (k_ es X.env)).any (·.1)=false:=by rfl):SE X g m (.Call (.Name "tuple" p) (e::es) [] pos) (fC fl tupD):=fZ Cz (qt FN hg hm rfl ha (by decide) (by decide) he hpl)
def ixD:D->D->Option D
|.lst ds,.int i=>dR ds i
|.tup ds,.int i=>dR ds i
|.str z,.int i=>if z.length<=sizeLine then(dR z.cps.toList i).map fun c=>.str ⟨#[c]⟩else none
|_,_=>none
theorem sN{K:W.Frag}{G:GH}{xs:List V}{ds:List D}{i:Int}{d:D}(r:bj K G xs ds)(h:dR ds i=some d):∃v,dR xs i=some v/\RG K G v d:=by unfold dR at h ⊢;rw[Paired.length r];cases e:fq ds.length i with
|none=>rw[e]at h;cases h
|some j=>rw[e]at h;exact Paired.get r h
theorem oq{K:W.Frag}:cJ K (rM K) ixD:=by
 intro G H v1 v2 d1 d2 d Q gk r1 r2 e q;unfold ixD at e;split at e
 .obtain⟨a,xs,rfl,s,r⟩:=r1.lst gk;obtain⟨v,ev,rv⟩:=sN r e;exact .inl ⟨a,xs,_,v,rfl,r2.int gk,s,ev,q v G H (Grow.refl gk) rv⟩
 .obtain⟨a,xs,rfl,s,r⟩:=r1.tup gk;obtain⟨v,ev,rv⟩:=sN r e;exact .inr (.inl ⟨a,xs,_,v,rfl,r2.int gk,s,ev,q v G H (Grow.refl gk) rv⟩)
 .split at e
  .rename_i z i hz;cases ec:dR z.cps.toList i with
  |none=>rw[ec]at e;cases e
  |some c=>rw[ec]at e;cases e;exact .inr (.inr ⟨z,i,c,r1.str gk,r2.int gk,hz,ec,q _ G H (Grow.refl gk) (.scl (.str _))⟩)
  .cases e
 .cases e
theorem PO.imp{X:Cx}{e:Option Expr}{t t':TO}(h:PO X e t)(i:∀σ H Q,t' σ H Q->t σ H Q):PO X e t':=fun pz s σ H Q I q=>h pz s σ H Q I (i σ H Q q)
end
inductive Out where
 |nx (r:af)|rt (d:D)|bk (r:af)|ct (r:af)|exc (x:D) (r:af)|stuck
abbrev FS:=af->Out
def ax(G G':GH):Prop:=∀a d,G a=some d->G' a=some d
theorem ax.refl(G:GH):ax G G:=fun _ _ e=>e
theorem ax.trans{G G1 G2:GH}(a:ax G G1)(b:ax G1 G2):ax G G2:=fun x d e=>b x d (a x d e)
def forget(m:List Md)(r:af):af:=Jt (fun md o=>if md=Md.sh then o else none) m r
def dE(m:List Md):List Md:=m.map fun _=>Md.sh
theorem kY{m:List Md}{r:af}{i:Nat}{d:D}(h:(forget m r)[i]? = some (some d)):r[i]? = some (some d)/\m[i]? = some .sh:=by unfold forget at h;rw[Jy]at h;cases e1:m[i]? with
|none=>rw[e1]at h;cases h
|some md=>cases e2:r[i]? with
 |none=>rw[e1,e2]at h;cases h
 |some o=>
   rw[e1,e2]at h;have h':(if md=Md.sh then o else none)=some d:=Gw h;split at h'
   .rename_i hm;subst hm;rw[h'];exact⟨rfl,rfl⟩
   .cases h'
section
variable{X:Cx}{g:GE}{m:List Md}{r:af}{G:GH}{st:L2.St}{H:Hp}
theorem SI.forget(s:SI X g m r G st H):SI X g (dE m) (forget m r) G st H where
 gok:=s.gok
 old:=s.old
 ge:=s.ge
 gf:=s.gf
 lm:=by rw[dE,t_];exact s.lm
 lr:=by rw[DL.forget,JV,s.lm,s.lr,Nat.min_self]
 sh:=fun i d h _=>s.sh i d (kY h).1 (kY h).2
 ow:=fun i d h hm=>by rw[dE,o_,(kY h).2]at hm;cases hm
 bw:=fun i d h hm=>by rw[dE,o_,(kY h).2]at hm;cases hm
 dis:=fun i j a d e _ h _ hm=>by rw[dE,o_,(kY h).2]at hm;cases hm
 lk:=fun i o _ hm=>by rw[dE,o_]at hm;cases q:m[i]? <;> rw[q]at hm <;> cases hm
theorem SI.set(s:SI X g m r G st H)(i:Nat){v:V}{d:D}(hv:RG X.K G v d):SI X g (m.set i .sh) (r.set i (some d)) G (st.set i (some v)) H where
 gok:=s.gok
 old:=s.old
 ge:=s.ge
 gf:=s.gf
 lm:=by simp[s.lm]
 lr:=by simp[s.lr]
 sh:=fun j e h hm=>by
  by_cases hij:i=j
  .subst hij;have hl:i<r.length:=by have:=(h_.mp h).1;simpa using this
   rw[l_ hl]at h;cases h;exact⟨v,by rw[l_ (by rw[<-s.lr];exact hl)],hv⟩
  .rw[b_ hij]at h hm;rw[b_ hij];exact s.sh j e h hm
 ow:=fun j e h hm=>by
  by_cases hij:i=j
  .subst hij;have hl:i<m.length:=by have:=(h_.mp hm).1;simpa using this
   rw[l_ hl]at hm;cases hm
  .rw[b_ hij]at h hm;rw[b_ hij];exact s.ow j e h hm
 bw:=fun j e h hm=>by
  by_cases hij:i=j
  .subst hij;have hl:i<m.length:=by have:=(h_.mp hm).1;simpa using this
   rw[l_ hl]at hm;cases hm
  .rw[b_ hij]at h hm;rw[b_ hij];exact s.bw j e h hm
 dis:=fun j k a d1 d2 hjk h1 h2 hm hm' q1 q2=>by
  have hij:i≠j:=by
   rintro rfl
   have hl:i<m.length:=by have:=(h_.mp hm).1;simpa using this
   rw[l_ hl]at hm;cases hm
  have hik:i≠k:=by
   rintro rfl
   have hl:i<m.length:=by have:=(h_.mp h2).1;rw[Jg,s.lr,<-s.lm]at this;exact this
   rw[l_ hl]at hm';cases hm'
  rw[b_ hij]at h1 hm q1;rw[b_ hik]at h2 hm' q2;exact s.dis j k a d1 d2 hjk h1 h2 hm hm' q1 q2
 lk:=fun j o hj hm=>by
  have hij:i≠j:=by
   rintro rfl
   have hl:i<m.length:=by have:=(h_.mp hm).1;simpa using this
   rw[l_ hl]at hm;cases hm
  rw[b_ hij]at hm;have:=s.lk j o hj hm;exact⟨by rw[b_ hij];exact this.1,fun d h=>this.2 d (by rw[b_ hij]at h;exact h)⟩
theorem SI.setO(s:SI X g m r G st H)(i:Nat){a:Addr}{d:D}(ho:Own X.K G H a d)(h0:g.h0 a=none)(hx:∀(j:Nat)(b:Addr)(e:D),r[j]? = some (some e)->m[j]? = some Md.ow->st[j]? = some (some (V.ref b))->b≠a):SI X g (m.set i .ow) (r.set i (some d)) G (st.set i (some (V.ref a))) H where
 gok:=s.gok
 old:=s.old
 ge:=s.ge
 gf:=s.gf
 lm:=by simp[s.lm]
 lr:=by simp[s.lr]
 sh:=fun j e h hm=>by
  by_cases hij:i=j
  .subst hij;have hl:i<m.length:=by have:=(h_.mp hm).1;simpa using this
   rw[l_ hl]at hm;cases hm
  .rw[b_ hij]at h hm;rw[b_ hij];exact s.sh j e h hm
 ow:=fun j e h hm=>by
  by_cases hij:i=j
  .subst hij;have hl:i<r.length:=by have:=(h_.mp h).1;simpa using this
   rw[l_ hl]at h;cases h;exact⟨a,by rw[l_ (by rw[<-s.lr];exact hl)],ho,h0⟩
  .rw[b_ hij]at h hm;rw[b_ hij];exact s.ow j e h hm
 bw:=fun j e h hm=>by
  by_cases hij:i=j
  .subst hij;have hl:i<m.length:=by have:=(h_.mp hm).1;simpa using this
   rw[l_ hl]at hm;cases hm
  .rw[b_ hij]at h hm;rw[b_ hij];exact s.bw j e h hm
 dis:=fun j k b d1 d2 hjk h1 h2 hm hm' q1 q2=>by
  by_cases hij:i=j
  .subst hij;rw[b_ hjk]at h2 hm' q2;have hl:i<st.length:=by have:=(h_.mp q1).1;simpa using this
   rw[l_ hl]at q1;have e:a=b:=by injection q1 with q1;injection q1 with q1;injection q1
   exact hx k b d2 h2 hm' q2 e.symm
  .by_cases hik:i=k
   .subst hik;rw[b_ hij]at h1 hm q1;have hl:i<st.length:=by have:=(h_.mp q2).1;simpa using this
    rw[l_ hl]at q2;have e:a=b:=by injection q2 with q2;injection q2 with q2;injection q2
    exact hx j b d1 h1 hm q1 e.symm
   .rw[b_ hij]at h1 hm q1;rw[b_ hik]at h2 hm' q2;exact s.dis j k b d1 d2 hjk h1 h2 hm hm' q1 q2
 lk:=fun j o hj hm=>by
  have hij:i≠j:=by
   rintro rfl
   have hl:i<m.length:=by have:=(h_.mp hm).1;simpa using this
   rw[l_ hl]at hm;cases hm
  rw[b_ hij]at hm;have:=s.lk j o hj hm;exact⟨by rw[b_ hij];exact this.1,fun d h=>this.2 d (by rw[b_ hij]at h;exact h)⟩
theorem SI.other(s:SI X g m r G st H){p:Addr}(hp:G p=none)(h0:g.h0 p=none)(hm:∀(i:Nat),m[i]?≠some Md.ow)(o:HO):SI X g m r G st (upd H p o) where
 gok:=fun b e h=>(s.gok b e h).mono (fun _ _ z=>z) fun o' q=>by rw[aN (by rintro rfl;rw[hp]at h;cases h)];exact q
 old:=fun b o' h=>by rw[aN (by rintro rfl;rw[h0]at h;cases h)];exact s.old b o' h
 ge:=s.ge
 gf:=s.gf
 lm:=s.lm
 lr:=s.lr
 sh:=s.sh
 ow:=fun i d _ h=>absurd h (hm i)
 bw:=fun i d h1 h2=>by
  obtain⟨v,h3,h4⟩:=s.bw i d h1 h2;refine⟨v,h3,?_⟩;rcases h4 with h4|⟨a,rfl,h4,h5⟩
  .exact .inl h4
  .have ha:a≠p:=by rintro rfl;exact h5 h0
   exact .inr ⟨a,rfl,⟨h4.un,h4.ob.mono (fun _ _ z=>z) fun o' z=>by rw[aN ha];exact z⟩,h5⟩
 dis:=fun i j a d e _ _ _ h=>absurd h (hm i)
 lk:=s.lk
theorem SI.less(s:SI X g m r G st H){r':af}(hl:r'.length=r.length)(h:∀(i:Nat) d,r'[i]? = some (some d)->r[i]? = some (some d)):SI X g m r' G st H:=⟨s.gok,s.old,s.ge,s.gf,s.lm,hl.trans s.lr,fun i d a b=>s.sh i d (h i d a) b,fun i d a b=>s.ow i d (h i d a) b,fun i d a b=>s.bw i d (h i d a) b,fun i j a d e n p q x y=>s.dis i j a d e n (h i d p) (h j e q) x y,fun i o hi hm=>by have:=s.lk i o hi hm;exact⟨this.1,fun d hd=>this.2 d (h i d hd)⟩⟩
theorem SI.held(s:SI X g m r G st H){j:Nat}{b:Addr}{e:D}(h:r[j]? = some (some e))(hm:m[j]? = some .ow)(hs:st[j]? = some (some (V.ref b))):H b≠none:=by
 obtain⟨a,h1,h2,_⟩:=s.ow j e h hm;rw[hs]at h1;injection h1 with h1;injection h1 with h1;injection h1 with h1
 rw[h1];exact h2.ob.isS
theorem SI.new(s:SI X g m r G st H){a:Addr}(hn:H a=none):g.h0 a=none:=by cases q:g.h0 a with
|none=>rfl
|some o=>rw[s.old _ _ q]at hn;cases hn
theorem SI.setN(s:SI X g m r G st H){G':GH}{H':Hp}(w:Grow X.K G H G' H')(i:Nat){a:Addr}{d:D}(hn:H a=none)(ho:Own X.K G' H' a d):SI X g (m.set i .ow) (r.set i (some d)) G' (st.set i (some (V.ref a))) H':=by
 refine(s.grow w).setO i ho ?_ fun j b e h1 h2 h3=>?_
 .cases q:g.h0 a with
 |none=>rfl
 |some o=>rw[s.old _ _ q]at hn;cases hn
 .rintro rfl
  exact s.held h1 h2 h3 hn
theorem SI.mut(s:SI X g m r G st H){i:Nat}{d:D}(hm:m[i]? = some .ow)(hd:r[i]? = some (some d)):∃a,st[i]? = some (some (V.ref a))/\Own X.K G H a d/\∀(o':HO)(d':D),OwnO X.K G (upd H a o') a d'->SI X g m (r.set i (some d')) G st (upd H a o'):=by
 obtain⟨a,h1,h2,h3⟩:=s.ow i d hd hm;have hl:i<r.length:=(h_.mp hd).1;refine⟨a,h1,h2,fun o' d' ob=>?_⟩;have oth:∀(j:Nat)(b:Addr)(e:D),j≠i->r[j]? = some (some e)->m[j]? = some .ow->st[j]? = some (some (V.ref b))->b≠a:=fun j b e hj q1 q2 q3 z=>by subst z;exact s.dis i j b d e (H_ hj) hd q1 hm q2 h1 q3
 refine⟨fun b e h=>?_,fun b o h=>?_,s.ge,s.gf,s.lm,by simp[s.lr],?_,?_,?_,?_,fun j o hj hm'=>?_⟩
 .have hb:b≠a:=by rintro rfl;rw[h2.un]at h;cases h
  exact(s.gok b e h).mono (fun _ _ z=>z) fun o q=>by rw[aN hb];exact q
 .have hb:b≠a:=by rintro rfl;rw[h3]at h;cases h
  rw[aN hb];exact s.old b o h
 .intro j e h hm';have hij:i≠j:=by rintro rfl;rw[hm]at hm';cases hm'
  rw[b_ hij]at h;exact s.sh j e h hm'
 .intro j e h hm';by_cases hij:i=j
  .subst hij;rw[l_ hl]at h;cases h;exact⟨a,h1,⟨h2.un,ob⟩,h3⟩
  .rw[b_ hij]at h;obtain⟨b,q1,q2,q3⟩:=s.ow j e h hm';have hb:=oth j b e (H_ hij) h hm' q1;exact⟨b,q1,⟨q2.un,q2.ob.mono (fun _ _ z=>z) fun o z=>by rw[aN hb];exact z⟩,q3⟩
 .intro j e h hm';have hij:i≠j:=by rintro rfl;rw[hm]at hm';cases hm'
  rw[b_ hij]at h;obtain⟨v,q1,q2⟩:=s.bw j e h hm';refine⟨v,q1,?_⟩;rcases q2 with q2|⟨b,rfl,q2,q3⟩
  .exact .inl q2
  .have hb:b≠a:=by rintro rfl;exact q3 h3
   exact .inr ⟨b,rfl,⟨q2.un,q2.ob.mono (fun _ _ z=>z) fun o z=>by rw[aN hb];exact z⟩,q3⟩
 .have bound:∀(j:Nat) e,(r.set i (some d'))[j]? = some (some e)->∃e',r[j]? = some (some e'):=fun j e h=>by
   by_cases hij:i=j
   .subst hij;exact⟨d,hd⟩
   .rw[b_ hij]at h;exact⟨e,h⟩
  intro j k b d1 d2 hjk q1 q2 p1 p2 z1 z2;obtain⟨e1,q1⟩:=bound j d1 q1;obtain⟨e2,q2⟩:=bound k d2 q2;exact s.dis j k b e1 e2 hjk q1 q2 p1 p2 z1 z2
 .have hij:i≠j:=by rintro rfl;rw[hm]at hm';cases hm'
  have:=s.lk j o hj hm';exact⟨this.1,fun d'' h=>this.2 d'' (by rw[b_ hij]at h;exact h)⟩
end
def RV(ro:Bool)(K:W.Frag)(H0:Hp)(G:GH)(H:Hp)(v:V)(d:D):Prop:=match ro with
|false=>RG K G v d
|true=>(∃a,v=.ref a/\H0 a=none/\Own K G H a d)\/(d=.non/\v=.non)
theorem RV.toF{K:W.Frag}{H0:Hp}{G0 G:GH}{H:Hp}{v:V}{d:D}(w:Grow K G0 H0 G H)(h:RV true K H0 G H v d):(∃G',Grow K G0 H0 G' H/\RG K G' v d)\/∃a,∀ob,∃G',Grow K G0 H0 G' (fz H a ob)/\RG K G' v d:=by
 rcases h with⟨a,rfl,hn,ho⟩|⟨rfl,rfl⟩
 .exact .inr ⟨a,fun ob=>⟨_,w.frz hn ho ob,.ref cq⟩⟩
 .exact .inl ⟨G,w,.scl .non⟩
def aX(X:Cx)(g:GE)(ro:Bool)(m' mb:List Md)(G:GH)(D:Ends):Out->Prop
|.nx r'=>∀σ' G' H',ax G G'->SI X g m' r' G' σ' H'->D.nx σ' H'
|.rt d=>∀v G' H',Grow X.K g.gh g.h0 G' H'->RV ro X.K g.h0 G' H' v d->D.rt v H'
|.bk r'=>∀σ' G' H',ax G G'->SI X g mb r' G' σ' H'->D.bk σ' H'
|.ct r'=>∀σ' G' H',ax G G'->SI X g mb r' G' σ' H'->D.ct σ' H'
|.exc x r'=>∀pz e s' σ' G' H',ax G G'->SI X g (dE m') r' G' σ' H'->Inv X pz σ' H' s'->yU X σ' G' H' e x s'->X.xe e s'
|.stuck=>False
def tS(X:Cx)(g:GE)(ro:Bool)(m m' mb:List Md)(f:FS):TS:=fun D σ H=>∃r G,SI X g m r G σ H/\aX X g ro m' mb G D (f r)
def SS(X:Cx)(g:GE)(ro:Bool)(mb m:List Md)(st:Stmt)(f:FS)(m':List Md):Prop:=m'.length=m.length/\PS X st (tS X g ro m m' mb f)
def eu(X:Cx)(g:GE)(ro:Bool)(mb m:List Md)(st:List Stmt)(f:FS)(m':List Md):Prop:=m'.length=m.length/\cm X st (tS X g ro m m' mb f)
theorem nc{m m':List Md}(h:m'.length=m.length):dE m'=dE m:=by unfold dE;rw[MB,MB,h]
theorem aX.x{X:Cx}{g:GE}{ro:Bool}{m m' mb:List Md}{r:af}{G:GH}{D:Ends}{σ:L2.St}{H:Hp}{x:DL.D}(h:aX X g ro m' mb G D (.exc x (forget m r)))(si:SI X g m r G σ H)(hl:m'.length=m.length):XW X σ G H x:=fun pz e s' G' H' w I ex=>h pz e s' σ G' H' w.ge (by rw[nc hl];exact(si.grow w).forget) I ex
section
variable{X:Cx}{g:GE}{ro:Bool}{m m' m1 mb:List Md}{e a b c tg:Expr}{f fa fb fc:FE}{p:FQ}{pos pos':Pos}{st:Stmt}{sts sts':List Stmt}{s1 s2:FS}
theorem aX.gle{G G1:GH}{D:Ends}{o:Out}(h:aX X g ro m' mb G D o)(w:ax G G1):aX X g ro m' mb G1 D o:=by cases o with
|nx r'=>exact fun σ' G' H' q si=>h σ' G' H' (w.trans q) si
|rt d=>exact h
|bk r'=>exact fun σ' G' H' q si=>h σ' G' H' (w.trans q) si
|ct r'=>exact fun σ' G' H' q si=>h σ' G' H' (w.trans q) si
|exc x r'=>exact fun pz e s' σ' G' H' q=>h pz e s' σ' G' H' (w.trans q)
|stuck=>exact h
def aa(s1 s2:FS):FS:=fun r=>match s1 r with
|.nx r'=>s2 r'
|o=>o
def ay:FS:=fun r=>.nx r
theorem aA:eu X g ro mb m [] ay m:=⟨rfl,cm.imp vU fun D σ H ⟨r,G,si,q⟩=>q σ G H (ax.refl G) si⟩
theorem al(h1:SS X g ro mb m st s1 m1)(h2:eu X g ro mb m1 sts s2 m'):eu X g ro mb m (st::sts) (aa s1 s2) m':=by refine⟨h2.1.trans h1.1,cm.imp (xc h1.2 h2.2) fun D σ H ⟨r,G,si,q⟩=>⟨r,G,si,?_⟩⟩;unfold aa at q;cases e:s1 r with
|nx r'=>rw[e]at q;exact fun σ' G' H' w si'=>⟨r',G',si',aX.gle q w⟩
|rt d=>rw[e]at q;exact q
|bk r'=>rw[e]at q;exact q
|ct r'=>rw[e]at q;exact q
|exc x r'=>rw[e]at q;exact fun pz e s' σ' G' H' w si'=>q pz e s' σ' G' H' w (by rw[nc h2.1];exact si')
|stuck=>rw[e]at q;exact q
theorem CL:SS X g ro mb m st (fun _=>.stuck) m:=⟨rfl,PS.imp DN fun D σ H ⟨r,G,si,q⟩=>q⟩
theorem mn(i:Nat)(hi:m[i]? = some .ow)(h:SS X g ro mb (m.set i .sh) st s1 m'):SS X g ro mb m st s1 m':=by
 refine⟨h.1.trans (by simp),fun pz s σ H D I ⟨r,G,si,q⟩=>?_⟩;rcases si.frz i hi with⟨G',le,si'⟩|⟨a,z⟩
 .exact h.2 pz s σ H D I ⟨r,G',si',aX.gle q le⟩
 .obtain⟨ob,I2⟩:=Inv.fast I a;obtain⟨G',le,si'⟩:=z ob;exact h.2 pz s σ _ D I2 ⟨r,G',si',aX.gle q le⟩
def dO{α:Type}(m:List Md)(r:af)(x:Res α)(k:α->Out):Out:=match x with
|.ok a=>k a
|.exc e=>.exc e (forget m r)
|.stuck=>.stuck
@[simp] theorem onE_ok{α:Type}(m:List Md)(r:af)(a:α)(k:α->Out):dO m r (.ok a) k=k a:=rfl
theorem dI{α:Type}{x:Res α}{k:α->Out}{r:af}{G:GH}{D:Ends}{σ:L2.St}{H:Hp}(si:SI X g m r G σ H)(hl:m'.length=m.length)(h:aX X g ro m' mb G D (dO m r x k)):fin x (fun a=>aX X g ro m' mb G D (k a)) (XW X σ G H):=by cases x with
|ok a=>exact h
|exc e=>exact aX.x h si hl
|stuck=>exact h
def ao(m:List Md)(i:Nat)(f:FE):FS:=fun r=>dO m r (f r) fun d=>.nx (r.set i (some d))
theorem zf(i:Nat){x:Str}(hN:X.N.Nodup)(hi:X.N[i]? = some x)(hx:fK X.env.scope x)(he:SE X g m e f)(hs:J6 e (some (.Name x pos')) pos.line X.env=pure false:=by rfl)(hf:X.fn x=true\/X.env.scope.names.lookup x=some .local:=by first|exact .inl rfl|exact .inr rfl|assumption):SS X g ro mb m (.Assign [.Name x pos'] e pos) (ao m i f) (m.set i .sh):=by
 have hl:(m.set i .sh).length=m.length:=by simp
 refine⟨hl,PS.imp (uV hN hi hx he hs hf) fun D σ H ⟨r,G,si,q⟩=>⟨r,G,si,?_⟩⟩;exact aK (dI si hl q) fun d q v G' H' w rv=>q _ G' H' w.ge ((si.grow w).set i rv)
theorem gL(i:Nat){x:Str}(hN:X.N.Nodup)(hi:X.N[i]? = some x)(hx:fK X.env.scope x)(he:SO X g m e f)(hs:J6 e (some (.Name x pos')) pos.line X.env=pure false:=by rfl)(hf:X.fn x=true\/X.env.scope.names.lookup x=some .local:=by first|exact .inl rfl|exact .inr rfl|assumption):SS X g ro mb m (.Assign [.Name x pos'] e pos) (ao m i f) (m.set i .ow):=by
 have hl:(m.set i .ow).length=m.length:=by simp
 refine⟨hl,PS.imp (uV hN hi hx he hs hf) fun D σ H ⟨r,G,si,q⟩=>⟨r,G,si,?_⟩⟩;exact aK (dI si hl q) fun d q a G' H' w hn ho=>q _ G' H' w.ge (si.setN w i hn ho)
def av(m:List Md)(f:FE):FS:=fun r=>dO m r (f r) fun d=>.rt d
theorem bx(he:SE X g m e f):SS X g false mb m (.Return (some e) pos) (av m f) m:=⟨rfl,PS.imp (oR he) fun D σ H ⟨r,G,si,q⟩=>⟨r,G,si,aK (dI si rfl q) fun d q v G' H' w rv=>q v G' H' (si.grow w).grown rv⟩⟩
theorem A8(i:Nat){x:Str}(hm:m[i]? = some .ow)(hN:X.N[i]? = some x)(hv:dC X.env.scope x)(hd:(x==("__debug__" : Str))=false:=by decide)(hcd:(x==("__classdict__" : Str))=false:=by decide):SS X g true mb m (.Return (some (.Name x pos')) pos) (av m fun r=>cA r i) m:=by refine⟨rfl,PS.imp (oR (fO hN hv hd hcd)) fun D σ H ⟨r,G,si,q⟩=>?_⟩;obtain⟨d,e,q⟩:=mV (dI si rfl q);obtain⟨a,h1,h2,h3⟩:=si.ow i d e hm;exact⟨_,h1,q _ G H si.grown (.inl ⟨a,rfl,h3,h2⟩)⟩
def cF(m:List Md)(p:FQ)(s1 s2:FS):FS:=fun r=>dO m r (p r) fun c=>if c=true then s1 r else s2 r
theorem bJ(hc:SQ X g m c p)(h1:eu X g ro mb m sts s1 m')(h2:eu X g ro mb m sts' s2 m'):SS X g ro mb m (.If c sts sts' pos) (cF m p s1 s2) m':=by refine⟨h1.1,PS.imp (mh hc h1.2 h2.2) fun D σ H ⟨r,G,si,q⟩=>⟨r,G,si,aK (dI si h1.1 q) fun c q G' H' w=>?_⟩⟩;cases c with
|true=>rw[if_pos rfl]at q ⊢;exact⟨r,G',si.grow w,aX.gle q w.ge⟩
|false=>rw[if_neg j_]at q ⊢;exact⟨r,G',si.grow w,aX.gle q w.ge⟩
theorem E3(i:Nat)(h:eu X g ro mb m sts s1 m')(hi:m'[i]? = some .ow):eu X g ro mb m sts s1 (m'.set i .sh):=by
 refine⟨by simp[h.1],fun pz s σ H D I ⟨r,G,si,q⟩=>?_⟩;refine aE (h.2 pz s σ H ⟨fun σ' H'=>D.nx σ' H'\/∃a,∀ob,D.nx σ' (fz H' a ob),D.rt,D.bk,D.ct⟩ I ⟨r,G,si,?_⟩) fun f s' p=>?_
 .cases e:s1 r with
 |nx r'=>
   rw[e]at q;intro σ' G' H' w si';rcases si'.frz i hi with⟨G2,le,si2⟩|⟨a,z⟩
   .exact .inl (q σ' G2 H' (w.trans le) si2)
   .refine .inr ⟨a,fun ob=>?_⟩;obtain⟨G2,le,si2⟩:=z ob;exact q σ' G2 _ (w.trans le) si2
 |rt d=>rw[e]at q;exact q
 |bk r'=>rw[e]at q;exact q
 |ct r'=>rw[e]at q;exact q
 |exc x r'=>rw[e]at q;exact fun pz e s' σ' G' H' w si'=>q pz e s' σ' G' H' w (by rw[nc (m:=m') (by simp)];exact si')
 |stuck=>rw[e]at q;exact q
 .cases f with
 |next=>
   obtain⟨σ',H',I',z|⟨a,z⟩⟩:=p
   .exact⟨σ',H',I',z⟩
   .obtain⟨ob,I2⟩:=Inv.fast I' a;exact⟨σ',_,I2,z ob⟩
 |brk=>exact p
 |cont=>exact p
 |ret u=>exact p
end
abbrev FT:=D->af->Option af
abbrev gW:=List D->af->Option af
def tG(X:Cx)(g:GE)(m m':List Md)(ft:FT):TG:=fun v σ H Q=>∃r G d,SI X g m r G σ H/\RG X.K G v d/\∃r',ft d r=some r'/\∀σ',SI X g m' r' G σ' H->Q σ' H
def Gg(X:Cx)(g:GE)(m m':List Md)(ft:gW):gT:=fun vs σ H Q=>∃r G ds,SI X g m r G σ H/\bj X.K G vs ds/\∃r',ft ds r=some r'/\∀σ',SI X g m' r' G σ' H->Q σ' H
theorem PG.imp{X:Cx}{e:Expr}{t t':TG}(h:PG X e t)(i:∀v σ H Q,t' v σ H Q->t v σ H Q):PG X e t':=fun pz s σ H v u Q I r q=>h pz s σ H v u Q I r (i v σ H Q q)
theorem gx.imp{X:Cx}{e:List Expr}{t t':gT}(h:gx X e t)(i:∀v σ H Q,t' v σ H Q->t v σ H Q):gx X e t':=fun pz s σ H v u Q I r q=>h pz s σ H v u Q I r (i v σ H Q q)
def SG(X:Cx)(g:GE)(m:List Md)(tg:Expr)(ft:FT)(m':List Md):Prop:=m'.length=m.length/\PG X tg (tG X g m m' ft)
structure SGs(X:Cx)(g:GE)(m:List Md)(ts:List Expr)(n:Nat)(ft:gW)(m':List Md):Prop where
 ml:m'.length=m.length
 ln:∀ds r r',ft ds r=some r'->ds.length=n
 pg:gx X ts (Gg X g m m' ft)
def aI(i:Nat):FT:=fun d r=>some (r.set i (some d))
def dP(ft:gW):FT:=fun d r=>match d with
|.tup ds=>ft ds r
|.lst ds=>ft ds r
|_=>none
def dG:gW:=fun ds r=>match ds with
|[]=>some r
|_=>none
def bQ(ft:FT)(fts:gW):gW:=fun ds r=>match ds with
|[]=>none
|d::ds=>(ft d r).bind fun r'=>fts ds r'
section
variable{X:Cx}{g:GE}{m m' m1:List Md}{tg:Expr}{ts:List Expr}{ft:FT}{fts:gW}{pos:Pos}{n:Nat}
theorem AD(i:Nat){x:Str}(hN:X.N.Nodup)(hi:X.N[i]? = some x)(hx:fK X.env.scope x)(hf:X.fn x=true\/X.env.scope.names.lookup x=some .local:=by first|exact .inl rfl|exact .inr rfl|assumption):SG X g m (.Name x pos) (aI i) (m.set i .sh):=⟨by simp,PG.imp (vT hN hi hx hf) fun v σ H Q ⟨r,G,d,si,rv,r',e,k⟩=>by cases e;exact k _ (si.set i rv)⟩
theorem i7:SGs X g m [] 0 dG m:=by
 refine⟨rfl,fun ds r r' e=>?_,gx.imp B9 fun v σ H Q ⟨r,G,ds,si,rv,r',e,k⟩=>?_⟩
 .cases ds with
 |nil=>rfl
 |cons _ _=>cases e
 .cases rv with
 |nil=>cases e;exact⟨rfl,k σ si⟩
 |cons _ _=>cases e
theorem eI(h1:SG X g m tg ft m1)(h2:SGs X g m1 ts n fts m')(hs:(Hu (tg::ts) X.env).map (·.2)=Jz tg X.env::(Hu ts X.env).map (·.2):=by rfl):SGs X g m (tg::ts) (n+1) (bQ ft fts) m':=by
 refine⟨h2.ml.trans h1.1,fun ds r r' e=>?_,gx.imp (Ei h1.2 h2.pg hs) fun v σ H Q ⟨r,G,ds,si,rv,r',e,k⟩=>?_⟩
 .cases ds with
 |nil=>cases e
 |cons d ds=>have e':((ft d r).bind fun r'=>fts ds r')=some r':=e;cases q:ft d r with
  |none=>rw[q]at e';cases e'
  |some r1=>rw[q]at e';have:=h2.ln ds r1 r' e';simp[this]
 .cases rv with
 |nil=>cases e
 |@cons v0 d vs ds rv rs=>have e':((ft d r).bind fun r'=>fts ds r')=some r':=e;cases q:ft d r with
  |none=>rw[q]at e';cases e'
  |some r1=>rw[q]at e';exact⟨_,_,rfl,r,G,d,si,rv,r1,q,fun σ' si'=>⟨r1,G,ds,si',rs,r',e',k⟩⟩
theorem Bv{k:Nat}{t:gT}(hc:X.calm=true)(h:gx X ts t)(hn:(Hu ts X.env).length=n)(hst:(Hu ts X.env).findIdx? (·.1)=none):PG X (.Tuple ts k pos) (fun v σ H Q=>∃a xs,v=.ref a/\aL X.K H a xs/\xs.length=n/\t xs σ H Q):=by intro pz s σ H v u Q I r hw;obtain⟨a,xs,e1,hq,hl,hw⟩:=hw;subst e1;cases r;obtain⟨its,rv,⟨o,nn,l1,l2,l3,l4⟩,hz⟩:=I.list hq;rw[Nk];refine c_ (Km ?_);unfold unpack;rw[hst,show(Hu ts X.env).length=its.toArray.size by simp[hn,<-hl,rv.length]];refine c_ (HN (W.kun_itemsOf (I.ok.hd hc) ⟨o,l1,l2,nn,l4⟩ fun h' hx=>?_));have I1:Inv X pz σ H { s with heap:=h' }:=I.kept (t':=s.toks) fun b o e=>hx b o (F_ (q_ e)) e;exact h pz _ σ H xs _ Q I1 (by simpa using rv) hw
theorem PG.or{e:Expr}{t t':TG}(h:PG X e t)(h':PG X e t'):PG X e (fun v σ H Q=>t v σ H Q\/t' v σ H Q):=fun pz s σ H v u Q I r q=>q.elim (h pz s σ H v u Q I r) (h' pz s σ H v u Q I r)
theorem i8{k:Nat}(hc:X.calm=true)(h:SGs X g m ts n fts m')(hn:(Hu ts X.env).length=n:=by rfl)(hst:(Hu ts X.env).findIdx? (·.1)=none:=by rfl):SG X g m (.Tuple ts k pos) (dP fts) m':=by refine⟨h.ml,PG.imp (PG.or (Bu hc h.pg hn hst) (Bv hc h.pg hn hst)) fun v σ H Q ⟨r,G,d,si,rv,r',e,k⟩=>?_⟩;cases d with
|tup ds=>obtain⟨a,xs,rfl,s,rs⟩:=rv.tup si.gok;exact .inl ⟨a,xs,rfl,s,(Paired.length rs).trans (h.ln ds r r' e),r,G,ds,si,rs,r',e,k⟩
|lst ds=>obtain⟨a,xs,rfl,s,rs⟩:=rv.lst si.gok;exact .inr ⟨a,xs,rfl,s,(Paired.length rs).trans (h.ln ds r r' e),r,G,ds,si,rs,r',e,k⟩
|_=>cases e
end
structure Yields(K:W.Frag)(J:It)(ds:List D)(G0:GH):Prop where
 go:∀G H (i:Nat),ax G0 G->aC K G H->i<ds.length->J.go i H
 yld:∀G H (i:Nat) x H' d,ax G0 G->aC K G H->J.yld i H x H'->ds[i]? = some d->∃G',Grow K G H G' H'/\RG K G' x d
 stop:∀G H,ax G0 G->aC K G H->J.stop ds.length H
abbrev FI:=af->Res (List D)
def tI(X:Cx)(g:GE)(m:List Md)(f:FI):TI:=fun σ H R=>∃r G,SI X g m r G σ H/\fin (f r) (fun ds=>∀J G' H',Grow X.K G H G' H'->Yields X.K J ds G'->R J H') (XW X σ G H)
def c9(X:Cx)(g:GE)(m:List Md)(tg iter:Expr)(f:FI):Prop:=PI X tg iter (tI X g m f)
theorem PI.imp{X:Cx}{tg e:Expr}{t t':TI}(h:PI X tg e t)(i:∀σ H Q,t' σ H Q->t σ H Q):PI X tg e t':=fun pz s σ H R I q=>h pz s σ H R I (i σ H R q)
theorem pB{K:W.Frag}{a:Addr}{ds:List D}{G0:GH}(h0:RG K G0 (.ref a) (.lst ds)):Yields K (lW K a) ds G0:=by
 have at_:∀G H,ax G0 G->aC K G H->∃xs,aL K H a xs/\bj K G xs ds:=fun G H w gk=>by obtain⟨b,xs,e,s,r⟩:=(h0.mono w).lst gk;cases e;exact⟨xs,s,r⟩
 refine⟨fun G H i w gk hi=>?_,fun G H i x H' d w gk y e=>?_,fun G H w gk=>?_⟩
 .obtain⟨xs,s,r⟩:=at_ G H w gk;have hl:=Paired.length r;exact⟨xs,xs[i],s,m_ (by omega)⟩
 .obtain⟨xs,s,r⟩:=at_ G H w gk;obtain⟨rfl,y⟩:=y;obtain⟨v,e1,rv⟩:=Paired.get r e;have:=y xs s;rw[e1]at this;cases this;exact⟨G,Grow.refl gk,rv⟩
 .obtain⟨xs,s,r⟩:=at_ G H w gk;exact⟨xs,s,Jr (Paired.length r)⟩
theorem oY{K:W.Frag}{a:Addr}{ds:List D}{G0:GH}(h0:RG K G0 (.ref a) (.tup ds)):Yields K (sr K a) ds G0:=by
 have at_:∀G H,ax G0 G->aC K G H->∃xs,bp K H a xs/\bj K G xs ds:=fun G H w gk=>by obtain⟨b,xs,e,s,r⟩:=(h0.mono w).tup gk;cases e;exact⟨xs,s,r⟩
 refine⟨fun G H i w gk hi=>?_,fun G H i x H' d w gk y e=>?_,fun G H w gk=>?_⟩
 .obtain⟨xs,s,r⟩:=at_ G H w gk;have hl:=Paired.length r;exact⟨xs,xs[i],s,m_ (by omega)⟩
 .obtain⟨xs,s,r⟩:=at_ G H w gk;obtain⟨rfl,y⟩:=y;obtain⟨v,e1,rv⟩:=Paired.get r e;have:=y xs s;rw[e1]at this;cases this;exact⟨G,Grow.refl gk,rv⟩
 .obtain⟨xs,s,r⟩:=at_ G H w gk;exact⟨xs,s,Jr (Paired.length r)⟩
def dq(lo:Int)(n:Nat):List D:=(f_ n).map fun(i:Nat)=>D.int (lo+(i:Int))
theorem CI{K:W.Frag}{lo:Int}{n:Nat}{G0:GH}:Yields K (n6 lo n) (dq lo n) G0:=by
 have hl:(dq lo n).length=n:=by simp[dq]
 refine⟨fun G H i w gk hi=>(by rw[hl]at hi;exact hi),fun G H i x H' d w gk y e=>?_,fun G H w gk=>(by rw[hl];exact w_ _)⟩;obtain⟨rfl,rfl⟩:=y;have hi:i<n:=by have:=(h_.mp e).1;rw[hl]at this;exact this
 unfold dq at e;rw[o_,GU hi]at e;cases e;exact⟨G,Grow.refl gk,.scl (.int _)⟩
def bR:D->Option (List D)
|.lst ds=>some ds
|.tup ds=>some ds
|_=>none
section
variable{X:Cx}{g:GE}{m m' m1 mb:List Md}{tg e a b c iter:Expr}{f fa fb:FE}{p:FQ}{pos pos':Pos}{ro:Bool}{fl:af->Res (List D)}{sts:List Stmt}{s1:FS}
def aR(k:D->Option (List D))(f:FE):FI:=fun r=>(f r).bind fun d=>bz (k d)
theorem oQ{l:Expr}{tl:TE}(hl:PE X l tl):PI X tg l (fun σ H R=>tl σ H fun x H1=>(∃a,x=.ref a/\(∃xs,aL X.K H1 a xs)/\R (lW X.K a) H1)\/∃a,x=.ref a/\(∃xs,bp X.K H1 a xs)/\R (sr X.K a) H1):=by
 intro pz s σ H R I h;refine aE (hl pz s σ H _ I h) fun v s1 ⟨x,H1,I1,r1,q1⟩=>?_;rcases q1 with⟨a,e,⟨xs,hq⟩,q⟩|⟨a,e,⟨xs,hq⟩,q⟩
 .subst e;cases r1;obtain⟨its,rv,p,hz⟩:=I1.list hq;refine Ib p.isList ?_;refine⟨s1.heap.objs.size,[s1.heap.objs.size],_,_,H1,rfl,I1.kept (t':=s1.toks) fun b o e=>d_ _ e,E6 a _,⟨_,r_ _ rfl,rfl,rfl⟩,fun b hb=>?_,q⟩;have e:b=s1.heap.objs.size:=by simpa using hb
  subst e;exact I1.fpOk (w_ _) (I1.hok.fresh (w_ _))
 .subst e;cases r1;obtain⟨its,rv,p,hz⟩:=I1.tuple hq;refine Hc (show s1.heap.IsTuple a its.toArray from p) ?_;refine⟨s1.heap.objs.size,[s1.heap.objs.size],_,_,H1,rfl,I1.kept (t':=s1.toks) fun b o e=>d_ _ e,Fp a _,⟨_,r_ _ rfl,rfl,rfl⟩,fun b hb=>?_,q⟩;have e:b=s1.heap.objs.size:=by simpa using hb
  subst e;exact I1.fpOk (w_ _) (I1.hok.fresh (w_ _))
theorem Ae(h:SE X g m e f):c9 X g m tg e (aR bR f):=by
 refine PI.imp (oQ h) fun σ H R ⟨r,G,si,q⟩=>⟨r,G,si,aK (aU q) fun d q v G' H' w rv=>?_⟩
 obtain⟨ds,e,q⟩:=cu q;cases d with
|lst ds'=>cases e;obtain⟨a,xs,rfl,s,rs⟩:=rv.lst w.ok;exact .inl ⟨a,rfl,⟨xs,s⟩,q _ G' H' w (pB rv)⟩
|tup ds'=>cases e;obtain⟨a,xs,rfl,s,rs⟩:=rv.tup w.ok;exact .inr ⟨a,rfl,⟨xs,s⟩,q _ G' H' w (oY rv)⟩
|_=>cases e
structure YieldsC(K:W.Frag)(J:It)(ds:List D)(G0:GH)(H0:Hp):Prop where
 go:∀G H (i:Nat),Grow K G0 H0 G H->i<ds.length->J.go i H
 yld:∀G H (i:Nat) x H' d,Grow K G0 H0 G H->J.yld i H x H'->ds[i]? = some d->∃G',Grow K G H G' H'/\RG K G' x d
 stop:∀G H,Grow K G0 H0 G H->J.stop ds.length H
theorem Yields.toC{K:W.Frag}{J:It}{ds:List D}{G0:GH}{H0:Hp}(y:Yields K J ds G0):YieldsC K J ds G0 H0:=⟨fun G H i w hi=>y.go G H i w.ge w.ok hi,fun G H i x H' d w q e=>y.yld G H i x H' d w.ge w.ok q e,fun G H w=>y.stop G H w.ge w.ok⟩
def Ge(X:Cx)(g:GE)(m:List Md)(f:FI):TI:=fun σ H R=>∃r G,SI X g m r G σ H/\fin (f r) (fun ds=>∀J G' H',Grow X.K G H G' H'->YieldsC X.K J ds G' H'->R J H') (XW X σ G H)
def gu(X:Cx)(g:GE)(m:List Md)(tg iter:Expr)(f:FI):Prop:=PI X tg iter (Ge X g m f)
theorem c9.toC{fi:FI}(h:c9 X g m tg iter fi):gu X g m tg iter fi:=PI.imp h fun σ H R ⟨r,G,si,q⟩=>⟨r,G,si,aK q fun ds k J G' H' w y=>k J G' H' w y.toC⟩
theorem CH{K:W.Frag}{a:Addr}{ds:List D}{G0:GH}{H0:Hp}(o:Own K G0 H0 a (.lst ds)):YieldsC K (lW K a) ds G0 H0:=by
 have at_:∀G H,Grow K G0 H0 G H->∃xs,aL K H a xs/\bj K G xs ds:=fun G H w=>by cases(o.mono w).ob with
 |lst r s=>exact⟨_,aL.of r,s⟩
 refine⟨fun G H i w hi=>?_,fun G H i x H' d w y e=>?_,fun G H w=>?_⟩
 .obtain⟨xs,s,r⟩:=at_ G H w;have hl:=Paired.length r;exact⟨xs,xs[i],s,m_ (by omega)⟩
 .obtain⟨xs,s,r⟩:=at_ G H w;obtain⟨rfl,y⟩:=y;obtain⟨v,e1,rv⟩:=Paired.get r e;have:=y xs s;rw[e1]at this;cases this;exact⟨G,Grow.refl w.ok,rv⟩
 .obtain⟨xs,s,r⟩:=at_ G H w;exact⟨xs,s,Jr (Paired.length r)⟩
theorem jd(h:SB X g m e f):gu X g m tg e (aR bR f):=by
 refine PI.imp (oQ h) fun σ H R ⟨r,G,si,q⟩=>⟨r,G,si,aK (aU q) fun d q v G' H' w rv=>?_⟩
 obtain⟨ds,e,q⟩:=cu q;cases d with
|lst ds'=>
  cases e;rcases rv with rv|⟨a,rfl,o⟩
  .obtain⟨a,xs,rfl,s,rs⟩:=rv.lst w.ok;exact .inl ⟨a,rfl,⟨xs,s⟩,q _ G' H' w (pB rv).toC⟩
  .cases o.ob with
  |lst r s=>exact .inl ⟨a,rfl,⟨_,aL.of r⟩,q _ G' H' w (CH o)⟩
|tup ds'=>
  cases e;rcases rv with rv|⟨a,rfl,o⟩
  .obtain⟨a,xs,rfl,s,rs⟩:=rv.tup w.ok;exact .inr ⟨a,rfl,⟨xs,s⟩,q _ G' H' w (oY rv).toC⟩
  .cases o.ob
|_=>cases e
def bc:List D->Option (List D)
|[.int j]=>if-(2^62)<=j/\j<2^62 then some (dq 0 j.toNat)else none
|_=>none
def bn(k:List D->Option (List D))(fl:af->Res (List D)):FI:=fun r=>(fl r).bind fun ds=>bz (k ds)
theorem fR{pn:Pos}(hg:Gl X "range")(hm:X.mg "range" = none)(ha:gU X g m [a] fl)(hs:k_ [a] X.env=[(false,eval a X.env)]:=by rfl):c9 X g m tg (.Call (.Name "range" pn) [a] [] pos) (bn bc fl):=by
 refine PI.imp (En hg hm ha hs) fun σ H R ⟨r,G,si,q⟩=>⟨r,G,si,aK (aU q) fun ds q vs G' H' w rs=>?_⟩
 obtain⟨zs,e,q⟩:=cu q;unfold bc at e;split at e
 .split at e
  .rename_i j hj;cases e;cases rs with
  |cons r1 t=>cases t;exact⟨j,by rw[r1.int w.ok],hj.1,hj.2,q _ G' H' w CI⟩
  .cases e
 .cases e
def aF(ft:FT)(body:FS):List D->FS
|[],r=>.nx r
|d::ds,r=>match ft d r with
 |none=>.stuck
 |some r1=>match body r1 with
  |.nx r'=>aF ft body ds r'
  |.ct r'=>aF ft body ds r'
  |.bk r'=>.nx r'
  |o=>o
def cM(m:List Md)(fi:FI)(ft:FT)(body:FS):FS:=fun r=>dO m r (fi r) fun ds=>aF ft body ds r
theorem jP(hp:JA (Gy X.prog X.w) X.A X.env X.xe)(hc:X.calm=true){ft:FT}{fi:FI}(hi:c9 X g m tg iter fi)(hg:SG X g m tg ft m)(hb:eu X g ro m m sts s1 m)(hs:∀x,Hv iter X.env x=pure x:=by intro _;rfl):SS X g ro mb m (.For tg iter sts [] pos) (cM m fi ft s1) m:=by
 refine⟨rfl,PS.imp (kB hp hc hi hg.2 hb.2 hs) fun D σ H ⟨r,G,si,q⟩=>⟨r,G,si,aK (dI si rfl q) fun ds q J G0 H0 w0 Y=>?_⟩⟩;refine⟨fun i n σ H=>∃r G,SI X g m r G σ H/\ax G0 G/\i<=ds.length/\n=ds.length-i/\aX X g ro m mb G D (aF ft s1 (ds.drop i) r),⟨ds.length,r,G0,si.grow w0,ax.refl G0,GL _,rfl,aX.gle q w0.ge⟩,?_⟩
 rintro i n σ1 H1 ⟨r1,G1,si1,le1,hi,rfl,q1⟩
 by_cases hlt:i<ds.length
 .have hd:ds.drop i=ds[i]::ds.drop (i+1):=Hh hlt;rw[hd]at q1;unfold aF at q1;refine .inr ⟨Y.go G1 H1 i le1 si1.gok hlt,fun σ' H'=>∃r G,SI X g m r G σ' H'/\ax G0 G/\aX X g ro m mb G D (aF ft s1 (ds.drop (i+1)) r),fun σ' H' ⟨r',G',si',le',q'⟩=>⟨ds.length-(i+1),by omega,r',G',si',le',hlt,rfl,q'⟩,fun x H' y=>?_⟩;obtain⟨G',w',rv⟩:=Y.yld G1 H1 i x H' ds[i] le1 si1.gok y (m_ hlt);have le':ax G0 G':=le1.trans w'.ge;cases eft:ft ds[i] r1 with
 |none=>simp only[eft]at q1;exact q1.elim
 |some r2=>simp only[eft]at q1;refine⟨r1,G',ds[i],si1.grow w',rv,r2,eft,fun σ2 si2=>⟨r2,G',si2,?_⟩⟩;cases eb:s1 r2 with
  |nx r'=>simp only[eb]at q1;exact fun σ3 G3 H3 le3 si3=>⟨r',G3,si3,le'.trans le3,aX.gle q1 (ax.trans w'.ge le3)⟩
  |ct r'=>simp only[eb]at q1;exact fun σ3 G3 H3 le3 si3=>⟨r',G3,si3,le'.trans le3,aX.gle q1 (ax.trans w'.ge le3)⟩
  |bk r'=>simp only[eb]at q1;exact fun σ3 G3 H3 le3 si3=>q1 σ3 G3 H3 (ax.trans w'.ge le3) si3
  |rt d=>simp only[eb]at q1;exact q1
  |exc x r'=>simp only[eb]at q1;exact fun pz e s' σ3 G3 H3 le3=>q1 pz e s' σ3 G3 H3 (ax.trans w'.ge le3)
  |stuck=>simp only[eb]at q1;exact q1
 .have e:i=ds.length:=by omega
  subst e;rw[Ir]at q1;exact .inl ⟨Y.stop G1 H1 le1 si1.gok,q1 σ1 G1 H1 (ax.refl _) si1⟩
def bS(m:List Md):List Md:=m.map fun x=>if x=Md.sh then Md.sh else Md.bw
def i4(m:List Md)(r:af)(st:L2.St)(G:GH)(H:Hp):GE:=⟨G,H,fun i=>if m[i]? = some Md.ow\/m[i]? = some Md.bw then some ((st[i]?).join,(r[i]?).join)else none⟩
theorem k9{m:List Md}{i:Nat}{x:Md}(h:m[i]? = some x):(bS m)[i]? = some (if x=Md.sh then Md.sh else Md.bw):=by unfold bS;rw[o_,h];rfl
theorem Df{m:List Md}{i:Nat}(h:(bS m)[i]? = some Md.sh):m[i]? = some Md.sh:=by cases q:m[i]? with
|none=>unfold bS at h;rw[o_,q]at h;cases h
|some x=>rw[k9 q]at h;cases x <;> first|rfl|(simp at h)
theorem wV{m:List Md}{i:Nat}(h:(bS m)[i]? = some Md.ow):False:=by cases q:m[i]? with
|none=>unfold bS at h;rw[o_,q]at h;cases h
|some x=>rw[k9 q]at h;cases x <;> simp at h
theorem lockM_bw{m:List Md}{i:Nat}(h:(bS m)[i]? = some Md.bw):m[i]? = some Md.ow\/m[i]? = some Md.bw:=by cases q:m[i]? with
|none=>unfold bS at h;rw[o_,q]at h;cases h
|some x=>rw[k9 q]at h;cases x with
 |sh=>simp at h
 |ow=>exact .inl rfl
 |bw=>exact .inr rfl
theorem SI.lock{r:af}{G:GH}{st:L2.St}{H:Hp}(s:SI X g m r G st H):SI X (i4 m r st G H) (bS m) r G st H where
 gok:=s.gok
 old:=fun _ _ e=>e
 ge:=fun _ _ e=>e
 gf:=fun _ _=>rfl
 lm:=by unfold bS;rw[t_];exact s.lm
 lr:=s.lr
 sh:=fun i d h hm=>s.sh i d h (Df hm)
 ow:=fun i d h hm=>(wV hm).elim
 bw:=fun i d h hm=>by
  rcases lockM_bw hm with z|z
  .obtain⟨a,h1,h2,_⟩:=s.ow i d h z;exact⟨_,h1,.inr ⟨a,rfl,h2,h2.ob.isS⟩⟩
  .obtain⟨v,h1,h2⟩:=s.bw i d h z;refine⟨v,h1,?_⟩;rcases h2 with h2|⟨a,e,h2,_⟩
   .exact .inl h2
   .exact .inr ⟨a,e,h2,h2.ob.isS⟩
 dis:=fun i j a d e _ _ _ hm=>(wV hm).elim
 lk:=fun i o h hm=>by
  have h':(if m[i]? = some Md.ow\/m[i]? = some Md.bw then some ((st[i]?).join,(r[i]?).join)else none)=some o:=h;rw[if_pos (lockM_bw hm)]at h';cases h';have hi:i<st.length:=by have:=(h_.mp hm).1;unfold bS at this;rw[t_,s.lm]at this;exact this
  refine⟨?_,fun d hd=>by rw[hd];rfl⟩;rw[m_ hi];rfl
theorem SI.unlock{r r':af}{G G':GH}{st st':L2.St}{H H':Hp}(s:SI X g m r G st H)(s':SI X (i4 m r st G H) (bS m) r' G' st' H'):SI X g m r' G' st' H':=by
 have w:Grow X.K G H G' H':=s'.grown;have hlk:∀(i:Nat),(m[i]? = some Md.ow\/m[i]? = some Md.bw)->st'[i]? = some (st[i]?).join/\∀d,r'[i]? = some (some d)->r[i]? = some (some d):=fun i hi=>by
  have hm:(bS m)[i]? = some Md.bw:=by rcases hi with z|z <;> rw[k9 z] <;> simp
  obtain⟨h1,h2⟩:=s'.lk i ((st[i]?).join,(r[i]?).join) (if_pos hi) hm;refine⟨h1,fun d hd=>?_⟩;have:=h2 d hd;cases q:r[i]? with
 |none=>rw[q]at this;cases this
 |some o=>rw[q]at this;rw[show o=some d from this]
 have hst:∀(i:Nat) v,(m[i]? = some Md.ow\/m[i]? = some Md.bw)->st[i]? = some (some v)->st'[i]? = some (some v):=fun i v hi h=>by rw[(hlk i hi).1,h];rfl
 refine⟨s'.gok,fun a o e=>s'.old a o (s.old a o e),fun a d e=>s'.ge a d (s.ge a d e),fun a h=>?_,?_,s'.lr,fun i d h hm=>?_,fun i d h hm=>?_,fun i d h hm=>?_,fun i j a d e hij h1 h2 m1 m2 q1 q2=>?_,fun i o hi hm=>?_⟩
 .have h1:H a≠none:=by cases e:g.h0 a with
  |none=>exact absurd e h
  |some o=>rw[s.old _ _ e];simp
  rw[w.gf a h1,s.gf a h]
 .have:=s'.lm;unfold bS at this;rw[t_]at this;exact this
 .exact s'.sh i d h (by rw[k9 hm];simp)
 .obtain⟨a,h1,h2,h3⟩:=s.ow i d ((hlk i (.inl hm)).2 d h) hm;exact⟨a,hst i _ (.inl hm) h1,h2.mono w,h3⟩
 .obtain⟨v,h1,h2⟩:=s.bw i d ((hlk i (.inr hm)).2 d h) hm;exact⟨v,hst i _ (.inr hm) h1,h2.grow w⟩
 .have e1:=(hlk i (.inl m1)).2 d h1;have e2:=(hlk j (.inl m2)).2 e h2;obtain⟨b,z1,_,_⟩:=s.ow i d e1 m1;obtain⟨c,z2,_,_⟩:=s.ow j e e2 m2;have y1:=hst i _ (.inl m1) z1;have y2:=hst j _ (.inl m2) z2;rw[q1]at y1;rw[q2]at y2;cases y1;cases y2;exact s.dis i j a d e hij e1 e2 m1 m2 z1 z2
 .obtain⟨h1,h2⟩:=s.lk i o hi hm;refine⟨?_,fun d hd=>h2 d ((hlk i (.inr hm)).2 d hd)⟩;rw[(hlk i (.inr hm)).1,h1];rfl
theorem SI.unlockX{r r':af}{G G':GH}{st st':L2.St}{H H':Hp}(s:SI X g m r G st H)(s':SI X (i4 m r st G H) (dE (bS m)) r' G' st' H'):SI X g (dE m) r' G' st' H':=by
 have w:Grow X.K G H G' H':=s'.grown;have el:dE (bS m)=dE m:=nc (by unfold bS;rw[t_]);rw[el]at s';have no:∀{i:Nat}{x:Md},(dE m)[i]? = some x->x=Md.sh:=fun{i x} h=>by unfold dE at h;rw[o_]at h;cases q:m[i]? with
 |none=>rw[q]at h;cases h
 |some y=>rw[q]at h;cases h;rfl
 refine⟨s'.gok,fun a o e=>s'.old a o (s.old a o e),fun a d e=>s'.ge a d (s.ge a d e),fun a h=>?_,s'.lm,s'.lr,s'.sh,fun i d h hm=>(nomatch (no hm)),fun i d h hm=>(nomatch (no hm)),fun i j a d e hij h1 h2 m1 m2=>(nomatch (no m1)),fun i o hi hm=>(nomatch (no hm))⟩;have h1:H a≠none:=by cases e:g.h0 a with
 |none=>exact absurd e h
 |some o=>rw[s.old _ _ e];simp
 rw[w.gf a h1,s.gf a h]
theorem kC(hp:JA (Gy X.prog X.w) X.A X.env X.xe)(hc:X.calm=true){ft:FT}{fi:FI}(hi:gu X g m tg iter fi)(hg:∀g',SG X g' (bS m) tg ft (bS m))(hb:∀g',eu X g' ro (bS m) (bS m) sts s1 (bS m))(hs:∀x,Hv iter X.env x=pure x:=by intro _;rfl):SS X g ro mb m (.For tg iter sts [] pos) (cM m fi ft s1) m:=by
 have hgA:PG X tg (fun v σ H Q=>∃g',tG X g' (bS m) (bS m) ft v σ H Q):=fun pz s σ H v u Q I r ⟨g',q⟩=>(hg g').2 pz s σ H v u Q I r q;have hbA:cm X sts (fun D σ H=>∃g',tS X g' ro (bS m) (bS m) (bS m) s1 D σ H):=fun pz s σ H D I ⟨g',q⟩=>(hb g').2 pz s σ H D I q;refine⟨rfl,PS.imp (kB hp hc hi hgA hbA hs) fun D σ H ⟨r,G,si,q⟩=>⟨r,G,si,aK (dI si rfl q) fun ds q J G0 H0 w0 Y=>?_⟩⟩;have si0:=si.grow w0;refine⟨fun i n σ1 H1=>∃r1 G1,SI X (i4 m r σ G0 H0) (bS m) r1 G1 σ1 H1/\i<=ds.length/\n=ds.length-i/\aX X g ro m mb G1 D (aF ft s1 (ds.drop i) r1),⟨ds.length,r,G0,si0.lock,GL _,rfl,aX.gle q w0.ge⟩,?_⟩
 rintro i n σ1 H1 ⟨r1,G1,si1,hi,rfl,q1⟩
 have wg:Grow X.K G0 H0 G1 H1:=si1.grown;by_cases hlt:i<ds.length
 .have hd:ds.drop i=ds[i]::ds.drop (i+1):=Hh hlt;rw[hd]at q1;unfold aF at q1;refine .inr ⟨Y.go G1 H1 i wg hlt,fun σ' H'=>∃r' G',SI X (i4 m r σ G0 H0) (bS m) r' G' σ' H'/\aX X g ro m mb G' D (aF ft s1 (ds.drop (i+1)) r'),fun σ' H' ⟨r',G',si',q'⟩=>⟨ds.length-(i+1),by omega,r',G',si',hlt,rfl,q'⟩,fun x H' y=>?_⟩;obtain⟨G',w',rv⟩:=Y.yld G1 H1 i x H' ds[i] wg y (m_ hlt);cases eft:ft ds[i] r1 with
 |none=>simp only[eft]at q1;exact q1.elim
 |some r2=>simp only[eft]at q1;refine⟨i4 m r σ G0 H0,r1,G',ds[i],si1.grow w',rv,r2,eft,fun σ2 si2=>⟨i4 m r σ G0 H0,r2,G',si2,?_⟩⟩;cases eb:s1 r2 with
  |nx r'=>simp only[eb]at q1;exact fun σ3 G3 H3 le3 si3=>⟨r',G3,si3,aX.gle q1 (ax.trans w'.ge le3)⟩
  |ct r'=>simp only[eb]at q1;exact fun σ3 G3 H3 le3 si3=>⟨r',G3,si3,aX.gle q1 (ax.trans w'.ge le3)⟩
  |bk r'=>simp only[eb]at q1;exact fun σ3 G3 H3 le3 si3=>q1 σ3 G3 H3 (ax.trans w'.ge le3) (si0.unlock si3)
  |rt d=>simp only[eb]at q1;intro v G2 H2 wr rv2;refine q1 v G2 H2 (si0.grown.trans wr) ?_;cases ro with
   |false=>exact rv2
   |true=>
     rcases rv2 with⟨a,e1,e2,e3⟩|z
     .exact .inl ⟨a,e1,si0.grown.back e2,e3⟩
     .exact .inr z
  |exc x r'=>simp only[eb]at q1;exact fun pz e s' σ3 G3 H3 le3 si3=>q1 pz e s' σ3 G3 H3 (ax.trans w'.ge le3) (si0.unlockX si3)
  |stuck=>simp only[eb]at q1;exact q1
 .have e:i=ds.length:=by omega
  subst e;rw[Ir]at q1;exact .inl ⟨Y.stop G1 H1 wg,q1 σ1 G1 H1 (ax.refl _) (si0.unlock si1)⟩
def cX(m:List Md)(p:FQ)(body:FS):Nat->FS
|0,_=>.stuck
|n+1,r=>dO m r (p r) fun c=>if c=true then(match body r with
  |.nx r'=>cX m p body n r'
  |.ct r'=>cX m p body n r'
  |.bk r'=>.nx r'
  |o=>o)else .nx r
theorem pI(n:Nat)(hp:JA (Gy X.prog X.w) X.A X.env X.xe)(hc:SQ X g m c p)(hb:eu X g ro m m sts s1 m):SS X g ro mb m (.While c sts [] pos) (cX m p s1 n) m:=by
 refine⟨rfl,PS.imp (DO hp hc hb.2) fun D σ H ⟨r,G,si,q⟩=>?_⟩;refine⟨fun n σ H=>∃r G,SI X g m r G σ H/\aX X g ro m mb G D (cX m p s1 n r),⟨n,r,G,si,q⟩,?_⟩
 rintro n σ1 H1 ⟨r1,G1,si1,q1⟩
 cases n with
|zero=>exact q1.elim
|succ n=>unfold cX at q1;refine⟨r1,G1,si1,aK (dI si1 rfl q1) fun c q2 G2 H2 w2=>?_⟩;cases c with
 |false=>rw[if_neg j_]at q2 ⊢;exact q2 σ1 G2 H2 w2.ge (si1.grow w2)
 |true=>rw[if_pos rfl]at q2 ⊢;refine⟨fun σ' H'=>∃r G,SI X g m r G σ' H'/\aX X g ro m mb G D (cX m p s1 n r),fun σ' H' h=>⟨n,HP _,h⟩,r1,G2,si1.grow w2,?_⟩;cases eb:s1 r1 with
  |nx r'=>simp only[eb]at q2;exact fun σ3 G3 H3 le3 si3=>⟨r',G3,si3,aX.gle q2 (ax.trans w2.ge le3)⟩
  |ct r'=>simp only[eb]at q2;exact fun σ3 G3 H3 le3 si3=>⟨r',G3,si3,aX.gle q2 (ax.trans w2.ge le3)⟩
  |bk r'=>simp only[eb]at q2;exact fun σ3 G3 H3 le3 si3=>q2 σ3 G3 H3 (ax.trans w2.ge le3) si3
  |rt d=>simp only[eb]at q2;exact q2
  |exc x r'=>simp only[eb]at q2;exact fun pz e s' σ3 G3 H3 le3=>q2 pz e s' σ3 G3 H3 (ax.trans w2.ge le3)
  |stuck=>simp only[eb]at q2;exact q2
end
def ka:Res D->Res D
|.ok d=>.ok d
|_=>.stuck
@[simp] theorem noX_ok(d:D):ka (.ok d)=.ok d:=rfl
inductive ArgsOk(K:W.Frag)(G:GH)(H:Hp):List Md->List V->List D->Prop where
 |nil:ArgsOk K G H [] [] []
 |sh {v:V} {d:D} {ms:List Md} {vs:List V} {ds:List D}:RG K G v d->ArgsOk K G H ms vs ds->ArgsOk K G H (.sh::ms) (v::vs) (d::ds)
 |bw {v:V} {d:D} {ms:List Md} {vs:List V} {ds:List D}:RB K G H v d->ArgsOk K G H ms vs ds->ArgsOk K G H (.bw::ms) (v::vs) (d::ds)
section
variable{K:W.Frag}{G G':GH}{H H':Hp}
theorem ArgsOk.mono:∀{ms:List Md}{vs:List V}{ds:List D},ArgsOk K G H ms vs ds->Grow K G H G' H'->ArgsOk K G' H' ms vs ds
|_,_,_,.nil,_=>.nil
|_,_,_,.sh h t,w=>.sh (h.mono w.ge) (t.mono w)
|_,_,_,.bw h t,w=>.bw (h.mono w) (t.mono w)
theorem ArgsOk.len{ms:List Md}{vs:List V}{ds:List D}(h:ArgsOk K G H ms vs ds):vs.length=ms.length/\ds.length=ms.length:=by induction h with
|nil=>exact⟨rfl,rfl⟩
|sh h t ih=>exact⟨congrArg (· + 1) ih.1,congrArg (· + 1) ih.2⟩
|bw h t ih=>exact⟨congrArg (· + 1) ih.1,congrArg (· + 1) ih.2⟩
theorem ArgsOk.app{dvs:List V}{dds:List D}(hs:Paired Scl dvs dds):∀{ms:List Md}{vs:List V}{ds:List D},ArgsOk K G H ms vs ds->ArgsOk K G H (ms++GT dds.length .sh) (vs++dvs) (ds++dds)
|_,_,_,.nil=>by induction hs with
 |nil=>exact .nil
 |cons h t ih=>exact .sh (.scl h) ih
|_,_,_,.sh h t=>.sh h (t.app hs)
|_,_,_,.bw h t=>.bw h (t.app hs)
theorem ArgsOk.get:∀{ms:List Md}{vs:List V}{ds:List D}{i:Nat}{d:D},ArgsOk K G H ms vs ds->ds[i]? = some d->∃v,vs[i]? = some v/\((ms[i]? = some .sh/\RG K G v d)\/(ms[i]? = some .bw/\RB K G H v d))
|_,_,_,_,_,.nil,e=>by simp at e
|_,_,_,0,_,.sh h t,e=>by simp at e;subst e;exact⟨_,rfl,.inl ⟨rfl,h⟩⟩
|_,_,_,0,_,.bw h t,e=>by simp at e;subst e;exact⟨_,rfl,.inr ⟨rfl,h⟩⟩
|_,_,_,i+1,d,.sh h t,e=>by obtain⟨v,h1,h2⟩:=t.get (i:=i) (d:=d) (by simpa using e);exact⟨v,by simpa using h1,by simpa using h2⟩
|_,_,_,i+1,d,.bw h t,e=>by obtain⟨v,h1,h2⟩:=t.get (i:=i) (d:=d) (by simpa using e);exact⟨v,by simpa using h1,by simpa using h2⟩
end
def fI(K:W.Frag)(ro:Bool)(ms:List Md)(F:List D->Res D):Sp:=fun vs H Q _=>∃G ds,aC K G H/\ArgsOk K G H ms vs ds/\fin (F ds) (fun d=>∀v G' H',Grow K G H G' H'->RV ro K H G' H' v d->Q v H') fun _=>False
def aH(ro:Bool):Out->Res D
|.nx _=>if ro=true then .stuck else .ok .non
|.rt d=>.ok d
|.exc x _=>.exc x
|_=>.stuck
def aT(n:Nat)(ds:List D):af:=ds.map some++GT (n-ds.length) none
def cW(n:Nat)(ms:List Md):List Md:=ms++GT (n-ms.length) .sh
section
variable{P:u_}{w:Gz}{K:W.Frag}{mg:Str->Option a_}{base:Heap}
theorem xj{X:Cx}{N:List Str}{ms:List Md}{vs:List V}{ds:List D}{G:GH}{H:Hp}(gk:aC X.K G H)(rs:ArgsOk X.K G H ms vs ds)(hn:ms.length<=N.length):SI X ⟨G,H,fun _=>none⟩ (cW N.length ms) (aT N.length ds) G (L2.start N vs) H:=by
 obtain⟨l1,l2⟩:=rs.len;have e1:(L2.start N vs).length=N.length:=by unfold L2.start;rw[GB,t_,HX];omega
 have e2:(aT N.length ds).length=N.length:=by unfold aT;rw[GB,t_,HX];omega
 have e3:(cW N.length ms).length=N.length:=by unfold cW;rw[GB,HX];omega
 have at_:∀(i:Nat) d,(aT N.length ds)[i]? = some (some d)->i<ms.length/\(cW N.length ms)[i]? = ms[i]?/\∃v,(L2.start N vs)[i]? = some (some v)/\((ms[i]? = some .sh/\RG X.K G v d)\/(ms[i]? = some .bw/\RB X.K G H v d)):=fun i d h=>by
  unfold aT at h;by_cases hi:i<ds.length
  .rw[C_ (by simpa using hi),o_]at h;have hd:ds[i]? = some d:=by cases z:ds[i]? with
   |none=>rw[z]at h;cases h
   |some d'=>rw[z]at h;cases h;rfl
   obtain⟨v,hv,rv⟩:=rs.get hd;refine⟨by omega,?_,v,?_,rv⟩
   .unfold cW;rw[C_ (by omega)]
   .unfold L2.start;rw[C_ (by rw[t_];omega),o_,hv];rfl
  .rw[GG (by simpa using hi),Hb]at h;split at h <;> cases h
 refine⟨gk,fun _ _ e=>e,fun _ _ e=>e,fun _ _=>rfl,by rw[e3,e1],by rw[e1,e2],fun i d h hm=>?_,fun i d h hm=>?_,fun i d h hm=>?_,fun i j a d e _ h _ hm=>?_,fun i o h=>nomatch h⟩
 .obtain⟨_,hq,v,h1,h2⟩:=at_ i d h;rw[hq]at hm;rcases h2 with⟨_,h2⟩|⟨h3,h2⟩
  .exact⟨v,h1,h2⟩
  .rw[hm]at h3;cases h3
 .obtain⟨_,hq,v,h1,h2⟩:=at_ i d h;rw[hq]at hm;rcases h2 with⟨h3,h2⟩|⟨h3,h2⟩ <;> rw[hm]at h3 <;> cases h3
 .obtain⟨_,hq,v,h1,h2⟩:=at_ i d h;rw[hq]at hm;rcases h2 with⟨h3,h2⟩|⟨h3,h2⟩
  .rw[hm]at h3;cases h3
  .refine⟨v,h1,?_⟩;rcases h2 with h2|⟨a,rfl,h2⟩
   .exact .inl h2
   .exact .inr ⟨a,rfl,h2,h2.ob.isS⟩
 .obtain⟨_,hq,v,h1,h2⟩:=at_ i d h;rw[hq]at hm;rcases h2 with⟨h3,h2⟩|⟨h3,h2⟩ <;> rw[hm]at h3 <;> cases h3
theorem Dp{X:Cx}{ro:Bool}{fs:FS}{m':List Md}{G:GH}{H:Hp}{r:af}{Q:VK}(q:fin (aH ro (fs r)) (fun d=>∀v G' H',Grow X.K G H G' H'->RV ro X.K H G' H' v d->Q v H') fun _=>False):aX X ⟨G,H,fun _=>none⟩ ro m' [] G { nx:=fun _ H'=>Q .non H',rt:=Q } (fs r):=by cases e:fs r with
|nx r'=>rw[e]at q;cases ro with
 |false=>exact fun σ' G' H' _ si=>q .non G' H' si.grown (.scl .non)
 |true=>exact q.elim
|rt d=>rw[e]at q;exact fun v G' H' wg rv=>q v G' H' wg rv
|bk r'=>rw[e]at q;exact q.elim
|ct r'=>rw[e]at q;exact q.elim
|exc x r'=>rw[e]at q;exact q.elim
|stuck=>rw[e]at q;exact q
theorem tF{x qual:Str}{st:Stmt}{f:Addr}{fd:HB}{N ps:List Str}{k:Nat}{ro:Bool}{ms:List Md}{fs:FS}{m':List Md}(F:Fun K x qual st f fd)(S:FnScope N ps (aB st))(hms:ms.length=ps.length)(hbody:∀(cdv:a_)(A:GP)(outer:List Env)(s:e_)(H:Hp)(g:GE)(E:XK),Room k (A.deeper (JB qual (aB st) s.heap.objs.size f cdv)) ->eu (bb bH P w K mg base N qual (aB st) f cdv A outer s H E).nox g ro [] (cW N.length ms) (dW st) fs m'):FnOk P w K mg base bH (k+1) f fd ps (fI K ro ms fun ds=>aH ro (fs (aT N.length ds))):=by
 refine F.ok S (fun vs H Q E ⟨G,ds,gk,rs,q⟩=>rs.len.1.trans hms) fun cdv A outer s H vs Q E hr h=>?_;obtain⟨G,ds,gk,rs,q⟩:=h;have hpl:ps.length<=N.length:=by have:=congrArg Ia S.pre;rw[IV]at this;omega
 exact⟨_,(hbody cdv A outer s H ⟨G,H,fun _=>none⟩ E hr).2,aT N.length ds,G,xj gk rs (by omega),Dp q⟩
end
section
variable{X:Cx}{g:GE}{m:List Md}{e:Expr}{f:FE}{es:List Expr}{fl:af->Res (List D)}{k:Nat}{fa:Addr}{fd:HB}{ps:List Str}{F:List D->Res D}{dvs:List V}{ds:List a_}{dds:List D}{x:Str}{p pos:Pos}{ms:List Md}
def Gb(X:Cx)(g:GE)(m:List Md)(ms:List Md)(f:af->Res (List D)):TA:=fun σ H Q=>∃r G,SI X g m r G σ H/\fin (f r) (fun ds=>∀vs G' H',Grow X.K G H G' H'->ArgsOk X.K G' H' ms vs ds->Q vs H') (XW X σ G H)
def fJ(X:Cx)(g:GE)(m:List Md)(es:List Expr)(ms:List Md)(f:af->Res (List D)):Prop:=PA X es (Gb X g m ms f)
theorem br:fJ X g m [] [] ae:=PA.imp gK fun σ H Q ⟨r,G,si,k⟩=>k [] G H (Grow.refl si.gok) .nil
theorem bf(ha:SE X g m e f)(hr:fJ X g m es ms fl)(hs:k_ (e::es) X.env=(false,eval e X.env)::k_ es X.env:=by rfl):fJ X g m (e::es) (.sh::ms) (ah f fl):=by
 refine PA.imp (cY ha hr hs) fun σ H Q ⟨r,G,si,k⟩=>⟨r,G,si,aK (aU k) fun d k1 v G1 H1 w1 r1=>⟨r,G1,si.grow w1,?_⟩⟩
 exact fV (aU k1) w1 fun ds z vs G2 H2 w2 r2=>z (v::vs) G2 H2 (w1.trans w2) (.sh (r1.mono w2.ge) r2)
theorem ar(ha:SB X g m e f)(hr:fJ X g m es ms fl)(hs:k_ (e::es) X.env=(false,eval e X.env)::k_ es X.env:=by rfl):fJ X g m (e::es) (.bw::ms) (ah f fl):=by
 refine PA.imp (cY ha hr hs) fun σ H Q ⟨r,G,si,k⟩=>⟨r,G,si,aK (aU k) fun d k1 v G1 H1 w1 r1=>⟨r,G1,si.grow w1,?_⟩⟩
 exact fV (aU k1) w1 fun ds z vs G2 H2 w2 r2=>z (v::vs) G2 H2 (w1.trans w2) (.bw (r1.mono w2) r2)
def aG(fl:af->Res (List D))(dds:List D)(F:List D->Res D):FE:=fun r=>(fl r).bind fun ds=>ka (F (ds++dds))
theorem qm{ro:Bool}{vs:List V}{zs:List D}{G:GH}{H:Hp}{Q:VK}(gk:aC X.K G H)(rs:ArgsOk X.K G H ms vs zs)(hsc:Paired Scl dvs dds)(q:fin (ka (F (zs++dds))) (fun d=>∀v G' H',Grow X.K G H G' H'->RV ro X.K H G' H' v d->Q v H') fun _=>False):fI X.K ro (ms++GT dds.length .sh) F (vs++dvs) H Q E0:=by refine⟨G,zs++dds,gk,rs.app hsc,?_⟩;cases e:F (zs++dds)with
|ok d=>rw[e]at q;exact q
|exc x=>rw[e]at q;exact q.elim
|stuck=>rw[e]at q;exact q.elim
theorem qo{α:Type}{r:Res α}{q:α->Prop}{x:D->Prop}(h:fin r q x)(hr:∀e,r≠.exc e):fin r q fun _=>False:=by cases r with
|ok a=>exact h
|exc e=>exact absurd rfl (hr e)
|stuck=>exact h
theorem oO(r:Res D)(e:D):ka r≠.exc e:=by cases r <;> simp[ka]
theorem A5(G1:FnOk X.prog X.w X.K X.mg X.base bH k fa fd ps (fI X.K false (ms++GT dds.length .sh) F))(hr:Room k X.A)(hg:Gl X x)(hm:X.mg x=some (.ref fa))(hk:W.keepIn X.K (.ref fa)=true)(hb:dj X.K fd ps ds)(hd:ai dvs ds)(hsc:Paired Scl dvs dds)(ha:fJ X g m (e::es) ms fl)(hdb:(x==("__debug__" : Str))=false:=by decide)(he:k_ (e::es) X.env=(false,eval e X.env)::k_ es X.env:=by rfl)(hpl:(backTo pos (k_ es X.env)).any (·.1)=false:=by rfl):SE X g m (.Call (.Name x p) (e::es) [] pos) (aG fl dds F):=by
 refine PE.imp (kL G1 hr hg hm hk hb hd km ha hdb he hpl) fun σ H Q ⟨r,G,si,q⟩=>⟨r,G,si,?_⟩
 cases ez:fl r with
|ok zs=>unfold aG at q;rw[ez]at q;intro vs G' H' w' rs;exact qm w'.ok rs hsc (aK (qo q (oO _)) fun d k v G2 H2 w2 rv=>k v G2 H2 (w'.trans w2) rv)
|exc x=>unfold aG at q;rw[ez]at q;exact q
|stuck=>unfold aG at q;rw[ez]at q;exact q
theorem C3(G1:FnOk X.prog X.w X.K X.mg X.base bH k fa fd ps (fI X.K true (ms++GT dds.length .sh) F))(hr:Room k X.A)(hg:Gl X x)(hm:X.mg x=some (.ref fa))(hk:W.keepIn X.K (.ref fa)=true)(hb:dj X.K fd ps ds)(hd:ai dvs ds)(hsc:Paired Scl dvs dds)(ha:fJ X g m (e::es) ms fl)(hdb:(x==("__debug__" : Str))=false:=by decide)(he:k_ (e::es) X.env=(false,eval e X.env)::k_ es X.env:=by rfl)(hpl:(backTo pos (k_ es X.env)).any (·.1)=false:=by rfl):SE X g m (.Call (.Name x p) (e::es) [] pos) (aG fl dds F):=by
 intro pz s σ H Q I ⟨r,G,si,q⟩;refine aE (kL G1 hr hg hm hk hb hd km ha hdb he hpl pz s σ H (fun v H'=>Q v H'\/∃a,∀ob,Q v (fz H' a ob)) I ⟨r,G,si,?_⟩) fun u s' ⟨v,H',I',rv,z⟩=>?_
 .cases ez:fl r with
 |ok zs=>
   unfold aG at q;rw[ez]at q;intro vs G' H' w' rs;refine qm w'.ok rs hsc (aK (qo q (oO _)) fun d k v G2 H2 w2 rv=>?_);rcases RV.toF w2 rv with⟨G3,w3,r3⟩|⟨a,z⟩
   .exact .inl (k v G3 H2 (w'.trans w3) r3)
   .refine .inr ⟨a,fun ob=>?_⟩;obtain⟨G3,w3,r3⟩:=z ob;exact k v G3 _ (w'.trans w3) r3
 |exc x=>unfold aG at q;rw[ez]at q;exact q
 |stuck=>unfold aG at q;rw[ez]at q;exact q
 .rcases z with z|⟨a,z⟩
  .exact⟨v,H',I',rv,z⟩
  .obtain⟨ob,I2⟩:=Inv.fast I' a;exact⟨v,_,I2,rv,z ob⟩
def gm(f:FE):FE:=fun r=>(f r).bind fun d=>match d with
|.non=>.stuck
|d=>.ok d
theorem BF(G1:FnOk X.prog X.w X.K X.mg X.base bH k fa fd ps (fI X.K true (ms++GT dds.length .sh) F))(hr:Room k X.A)(hg:Gl X x)(hm:X.mg x=some (.ref fa))(hk:W.keepIn X.K (.ref fa)=true)(hb:dj X.K fd ps ds)(hd:ai dvs ds)(hsc:Paired Scl dvs dds)(ha:fJ X g m (e::es) ms fl)(hdb:(x==("__debug__" : Str))=false:=by decide)(he:k_ (e::es) X.env=(false,eval e X.env)::k_ es X.env:=by rfl)(hpl:(backTo pos (k_ es X.env)).any (·.1)=false:=by rfl):SO X g m (.Call (.Name x p) (e::es) [] pos) (gm (aG fl dds F)):=by
 refine PE.imp (kL G1 hr hg hm hk hb hd km ha hdb he hpl) fun σ H Q ⟨r,G,si,q⟩=>⟨r,G,si,?_⟩
 cases ez:fl r with
|ok zs=>
  have q:=aU q;unfold aG at q;rw[ez]at q;intro vs G' H' w' rs;refine qm w'.ok rs hsc (aK (qo q (oO _)) fun d k v G2 H2 w2 rv=>?_);rcases rv with⟨a,rfl,hn,ho⟩|⟨rfl,rfl⟩
  .cases d with
  |non=>exact k.elim
  |_=>exact k a G2 H2 (w'.trans w2) (w'.back hn) ho
  .exact k.elim
|exc x=>have q:=aU q;unfold aG at q;rw[ez]at q;exact q
|stuck=>have q:=aU q;unfold aG at q;rw[ez]at q;exact q
end
theorem Dx{env:Env}:∀(l:List (Str×IP))(cs:List (Str×Addr)),(∀x∈l,x.2=.free->∃c,env.cells.lookup x.1=some c)->(∀x c,cs.lookup x=some c->env.cells.lookup x=some c) ->∃cl,(N1 l cs (fun(x:Str×IP)(cs:List (Str×Addr))=>if (x.2==NameKind.free)=true then(do let a <-NR env x.1;pure (ForInStep.yield ((x.1,a)::cs)))else pure (ForInStep.yield cs)):Sem (List (Str×Addr)))=pure cl /\(∀x c,cl.lookup x=some c->env.cells.lookup x=some c)/\(∀x,(x,NameKind.free)∈l->∃c,cl.lookup x=some c)/\(∀x c,cs.lookup x=some c->∃c',cl.lookup x=some c'):=by
 intro l
 induction l with
|nil=>intro cs _ h;exact⟨cs,rfl,h,fun x hx=>(by cases hx),fun x c h=>⟨c,h⟩⟩
|cons y l ih=>
  intro cs hf hc;obtain⟨n,k⟩:=y;by_cases hk:k=.free
  .subst hk;obtain⟨c,ec⟩:=hf (n,.free) i_ rfl;have e1:NR env n=pure c:=by unfold NR;rw[ec]
   have hc':∀x c',((n,c)::cs).lookup x=some c'->env.cells.lookup x=some c':=fun x c' h=>by rw[Is]at h;cases q:x==n with
   |true=>rw[q]at h;cases h;rw[LA q];exact ec
   |false=>rw[q]at h;exact hc x c' h
   obtain⟨cl,e2,h1,h2,h3⟩:=ih ((n,c)::cs) (fun x hx=>hf x (g_ _ hx)) hc';refine⟨cl,?_,h1,fun x hx=>?_,fun x c' h=>?_⟩
   .rw[<-e2];rw[JS];show(NR env n >>= fun a=>pure (ForInStep.yield ((n,a)::cs))) >>= _=_;rw[e1];rfl
   .rcases n_.mp hx with z|z
    .cases z;exact h3 n c (by rw[Is];simp)
    .exact h2 x z
   .cases q:x==n with
   |true=>exact h3 x c (by rw[Is,q])
   |false=>exact h3 x c' (by rw[Is,q];exact h)
  .obtain⟨cl,e2,h1,h2,h3⟩:=ih cs (fun x hx=>hf x (g_ _ hx)) hc;have hb:(k==NameKind.free)=false:=by simpa using hk
   refine⟨cl,?_,h1,fun x hx=>?_,h3⟩
   .rw[<-e2,JS];simp only[hb,GC,if_false];rfl
   .rcases n_.mp hx with z|z
    .cases z;exact absurd rfl hk
    .exact h2 x z
theorem EK{scope:Ii}{env:Env}(hf:∀x∈scope.names,x.2=.free->∃c,env.cells.lookup x.1=some c):∃cl,MX scope env=pure cl/\(∀x c,cl.lookup x=some c->env.cells.lookup x=some c)/\(∀x,(x,NameKind.free)∈scope.names->∃c,cl.lookup x=some c):=by obtain⟨cl,e,h1,h2,_⟩:=Dx scope.names [] hf (fun x c h=>by cases h);refine⟨cl,?_,h1,h2⟩;have e0:MX scope env=((N1 scope.names ([]:List (Str×Addr)) (fun(x:Str×IP)(cs:List (Str×Addr))=>if (x.2==NameKind.free)=true then(do let a <-NR env x.1;pure (ForInStep.yield ((x.1,a)::cs)))else pure (ForInStep.yield cs)):Sem (List (Str×Addr))) >>= fun cs=>pure cs):=rfl;rw[e0,e];rfl
theorem yl{f:Str->IP->IP}:∀(l:List (Str×IP))(x:Str),(l.map fun y=>(y.1,f y.1 y.2)).lookup x=(l.lookup x).map (f x)
|[],x=>rfl
|(n,k)::l,x=>by rw[A_,Is,Is];cases q:x==n with
 |true=>simp[LA q]
 |false=>exact yl l x
def cP(env:Env)(n:Str)(k:IP):IP:=if (k==.free&&env.scope.kind==.function&&env.kindOf n==some .cell)=true then .cell else k
theorem ym(scope:Ii)(env:Env)(x:Str):(L7 scope env).names.lookup x=(scope.names.lookup x).map (cP env x):=by
 rw[<-yl];unfold L7;congr 1;apply HL;intro y _;obtain⟨n,k⟩:=y;show(if (k==NameKind.free&&env.scope.kind==.function&&env.kindOf n==some .cell)=true then(n,NameKind.cell)else(n,k))=(n,cP env n k)
 unfold cP;split <;> rfl
structure CompSc(X:Cx)(scope:Ii)(N':List Str)(nl:Nat)(cap:List Nat):Prop where
 kind:scope.kind=.function
 nocell:∀y∈scope.names,y.2≠.cell
 names:∀y∈scope.names,y.2=.local->scope.names.lookup y.1=some .local
 freeK:∀y∈scope.names,y.2=.free->X.env.kindOf y.1=some .cell\/X.env.kindOf y.1=some .free
 len:N'.length=nl+cap.length
 capN:∀j,j<cap.length->∃x,N'[nl+j]? = some x/\X.N[cap.getD j 0]? = some x/\scope.names.lookup x=some .free
def dh(X:Cx)(s₀:e_)(H₀:Hp)(N':List Str)(scope:Ii)(cl:List (Str×Addr))(C:Addr)(fp:List Addr):Cx where
 prog:=X.prog
 w:=X.w
 K:=X.K
 mg:=X.mg
 base:=X.base
 A:=X.A
 N:=N'
 s₀:=s₀
 H₀:=H₀
 env:=Lo scope cl C X.env
 outer:=X.stack
 stack:=X.stack
 ex:=fp
 fn:=fun _=>false
 calm:=X.calm
 pn:=[]
 xe:=fun _ _=>False
section
variable{X:Cx}{pz:List (Addr×Obj)}{σ:L2.St}{H:Hp}{s:e_}{scope:Ii}{N':List Str}{nl:Nat}{cap:List Nat}{cl:List (Str×Addr)}{C:Addr}{fp:List Addr}
theorem AV(I:Inv X pz σ H s)(sc:CompSc X scope N' nl cap)(h1:∀x c,cl.lookup x=some c->X.env.cells.lookup x=some c)(h2:∀x,(x,NameKind.free)∈scope.names->∃c,cl.lookup x=some c)(hf:∀b∈fp,cg X pz H b/\b<s.heap.objs.size)(hC:s.heap.objs.size<=C):(dh X s H N' scope cl C fp).Ok where
 mod:=I.ok.mod
 kind:=sc.kind
 glob:=I.ok.glob
 blt:=I.ok.blt
 above:=hC
 inj:=fun x y c a b=>I.ok.inj x y c (h1 x c a) (h1 y c b)
 has:=fun x hk=>by
  have hk':(scope.names.lookup x).map (cP X.env x)=some .cell\/(scope.names.lookup x).map (cP X.env x)=some .free:=by rw[<-ym];exact hk
  cases e:scope.names.lookup x with
 |none=>rw[e]at hk';rcases hk' with z|z <;> cases z
 |some k=>
   have hm:=Hz e;have kf:k=.free:=by
    rw[e]at hk';have hk2:cP X.env x k=.cell\/cP X.env x k=.free:=by
     rcases hk' with z|z
     .exact .inl (Gw z)
     .exact .inr (Gw z)
    unfold cP at hk2;split at hk2
    .rename_i hc;simp only[GR,beq_iff_eq]at hc;exact hc.1.1
    .rcases hk2 with z|z
     .exact absurd z (sc.nocell _ hm)
     .exact z
   subst kf;exact h2 x hm
 cab:=fun x c h=>by cases h
 hd:=I.ok.hd
 frames:=I.ok.frames
 stk:=.inl rfl
 exf:=fun b hb=>⟨F_ (x_ (hf b hb).2 hC),fun x c e=>(hf b hb).1.2.2.2.2.1 x c (h1 x c e)⟩
 bs:=I.bs
 bsz:=GY I.ok.bsz I.sz
 noex:=fun b o e hb=>by
  obtain⟨_,_,_,hx,_⟩:=(hf b hb).1;rcases hx with z|z
  .exact I.ok.noex b o e z
  .exact absurd (x_ (q_ e) (GY I.ok.bsz z)) (HM _)
 exfs:=fun b hb hfs=>by
  obtain⟨_,q1,q2,_⟩:=(hf b hb).1;rcases n_.mp (I.stkSub b hfs)with z|z
  .exact q1 z
  .exact q2 z
 funs:=I.stack
 frf:=I.stkFree
end
def dS(ft:FT)(q:FQ)(fe:FE)(r0:af):List D->Res (List D)
|[]=>.ok []
|d::ds=>(bz (ft d r0)).bind fun r1=>(q r1).bind fun c=>if c=true then(fe r1).bind fun v=>(dS ft q fe r0 ds).bind fun vs=>.ok (v::vs)else dS ft q fe r0 ds
def aS(nl:Nat)(cap:List Nat)(r:af):af:=GT nl none++cap.map fun i=>r.getD i none
def aD(nl:Nat)(cap:List Nat)(m:List Md):List Md:=GT nl Md.sh++cap.map fun i=>if m.getD i Md.sh=Md.sh then Md.sh else Md.bw
def cB(nl:Nat)(cap:List Nat)(st:L2.St):L2.St:=GT nl none++cap.map fun i=>st.getD i none
theorem kJ{α:Type}{nl:Nat}{cap:List Nat}{u:α}{h:Nat->α}{i:Nat}(hi:nl<=i):(GT nl u++cap.map h)[i]? = (cap[i-nl]?).map h:=by rw[GG (by simpa using hi),HX,o_]
section
variable{X:Cx}{pz:List (Addr×Obj)}{σ:L2.St}{H H':Hp}{s:e_}{scope:Ii}{N':List Str}{nl:Nat}{cap:List Nat}{cl:List (Str×Addr)}{C:Addr}{fp:List Addr}{g:GE}{G G':GH}{m:List Md}{r:af}
theorem y8(si:SI X g m r G σ H)(w:Grow X.K G H G' H'):SI (dh X s H N' scope cl C fp) ⟨G,H,fun _=>none⟩ (aD nl cap m) (aS nl cap r) G' (cB nl cap σ) H':=by
 have lens:(aD nl cap m).length=nl+cap.length:=by simp[aD]
 have lens2:(aS nl cap r).length=nl+cap.length:=by simp[aS]
 have lens3:(cB nl cap σ).length=nl+cap.length:=by simp[cB]
 have rget:∀(i:Nat) d,(aS nl cap r)[i]? = some (some d)->nl<=i/\∃j,cap[i-nl]? = some j/\r[j]? = some (some d):=fun i d h=>by
  by_cases hi:i<nl
  .unfold aS at h;rw[C_ (by simpa using hi),Hb]at h;split at h <;> cases h
  .refine⟨by omega,?_⟩;unfold aS at h;rw[kJ (by omega)]at h;cases e:cap[i-nl]? with
  |none=>rw[e]at h;cases h
  |some j=>rw[e]at h;refine⟨j,rfl,?_⟩;have h':r.getD j none=some d:=Gw h;rw[GO]at h';cases e2:r[j]? with
   |none=>rw[e2]at h';cases h'
   |some o=>rw[e2]at h';rw[show o=some d from h']
 have mget:∀(i j:Nat) md,nl<=i->cap[i-nl]? = some j->(aD nl cap m)[i]? = some md->md=if m.getD j Md.sh=Md.sh then Md.sh else Md.bw:=fun i j md hi hj h=>by unfold aD at h;rw[kJ hi,hj]at h;exact(Gw h).symm
 have sget:∀(i j:Nat) v,nl<=i->cap[i-nl]? = some j->σ[j]? = some (some v)->(cB nl cap σ)[i]? = some (some v):=fun i j v hi hj h=>by unfold cB;rw[kJ hi,hj];show some (σ.getD j none)=_;rw[GO,h];rfl
 have mj:∀(j:Nat) d,r[j]? = some (some d)->m[j]? = some (m.getD j Md.sh):=fun j d h=>by
  have hl:j<m.length:=by have:=(h_.mp h).1;rw[si.lr,<-si.lm]at this;exact this
  rw[GO,m_ hl];rfl
 refine⟨w.ok,w.he,w.ge,w.gf,by rw[lens,lens3],by rw[lens2,lens3],fun i d h hm=>?_,fun i d h hm=>?_,fun i d h hm=>?_,fun i j a d e _ h _ hm=>?_,fun i o h=>nomatch h⟩
 .obtain⟨hi,j,hj,hr⟩:=rget i d h;have e:=mget i j _ hi hj hm;have hsh:m.getD j Md.sh=Md.sh:=by
   by_cases z:m.getD j Md.sh=Md.sh
   .exact z
   .rw[if_neg z]at e;cases e
  obtain⟨v,h1,h2⟩:=si.sh j d hr (by rw[mj j d hr,hsh]);exact⟨v,sget i j v hi hj h1,h2.mono w.ge⟩
 .obtain⟨hi,j,hj,hr⟩:=rget i d h;have e:=mget i j _ hi hj hm;split at e <;> cases e
 .obtain⟨hi,j,hj,hr⟩:=rget i d h;have e:=mget i j _ hi hj hm;have hsh:m.getD j Md.sh≠Md.sh:=by intro z;rw[if_pos z]at e;cases e
  have hmj:=mj j d hr;cases q:m.getD j Md.sh with
 |sh=>exact absurd q hsh
 |ow=>rw[q]at hmj;obtain⟨a,h1,h2,_⟩:=si.ow j d hr hmj;exact⟨_,sget i j _ hi hj h1,.inr ⟨a,rfl,h2.mono w,h2.ob.isS⟩⟩
 |bw=>
   rw[q]at hmj;obtain⟨v,h1,h2⟩:=si.bw j d hr hmj;refine⟨v,sget i j _ hi hj h1,?_⟩;rcases h2 with h2|⟨a,rfl,h2,_⟩
   .exact .inl (h2.mono w.ge)
   .exact .inr ⟨a,rfl,h2.mono w,h2.ob.isS⟩
 .obtain⟨hi,j',hj,hr⟩:=rget i d h;have e:=mget i j' _ hi hj hm;split at e <;> cases e
theorem AT(I:Inv X pz σ H s)(ok:(dh X s H N' scope cl C fp).Ok)(sc:CompSc X scope N' nl cap)(h1:∀x c,cl.lookup x=some c->X.env.cells.lookup x=some c)(h2:∀x,(x,NameKind.free)∈scope.names->∃c,cl.lookup x=some c)(hN:X.N.Nodup){s4:e_}{H4:Hp}{mc:Str->Option a_}(hos:s4.os=s.os)(hb:JG s4.gens)(kp:∀b o,s.heap.get? b=some o->s4.heap.get? b=some o)(hns:s4.heap.Ns C mc)(hC:s.heap.objs.size<=C)(hHC:H4 C=none)(hH:∀b,H b=none->b<s.heap.objs.size->H4 b=none)(un:Un (cL X.stack) fp H H4 s.heap s4.heap)(hok:bO X.prog X.w H4 s4.heap):Inv (dh X s H N' scope cl C fp) [] (cB nl cap σ) H4 s4:=by
 refine⟨ok,hos,hb,un,⟨mc,hns,fun i x v e1 e2 e3=>?_⟩,fun x c e=>?_,hHC,fun x c e=>?_,fun p hp=>absurd (show p∈([]:List (Addr×Obj))from hp) (by simp),hok,?_⟩
 .have hi:nl<=i:=by
   by_cases z:i<nl
   .unfold cB at e2;rw[C_ (by simpa using z),Hb]at e2;split at e2 <;> cases e2
   .omega
  unfold cB at e2;rw[kJ hi]at e2;cases ej:cap[i-nl]? with
 |none=>rw[ej]at e2;cases e2
 |some j=>
   rw[ej]at e2;have hj:i-nl<cap.length:=(h_.mp ej).1;obtain⟨x',q1,q2,q3⟩:=sc.capN (i-nl) hj;have ed:cap.getD (i-nl) 0=j:=by rw[GO,ej];rfl
   rw[ed]at q2;have ei:nl+(i-nl)=i:=by omega
   rw[ei]at q1;have e1':N'[i]? = some x:=e1;rw[q1]at e1';have ex:x'=x:=Gw e1';subst ex;have hv:σ[j]? = some (some v):=by have z:σ.getD j none=some v:=Gw e2;rw[GO]at z;cases q:σ[j]? with
   |none=>rw[q]at z;cases z
   |some o=>rw[q]at z;rw[show o=some v from z]
   have hfree:=Hz q3;have kX:=sc.freeK _ hfree rfl;obtain⟨mx,hnx,hl⟩:=I.loc;obtain⟨u,ru,lk⟩:=hl j x' v q2 hv (.inr kX);refine⟨u,ru,.inr ?_⟩;obtain⟨c,ec⟩:=h2 x' hfree;have hkk:Env.kindOf (dh X s H N' scope cl C fp).env x'=some .cell\/Env.kindOf (dh X s H N' scope cl C fp).env x'=some .free:=by
    have z:(L7 scope X.env).names.lookup x'=some (cP X.env x' .free):=by rw[ym,q3];rfl
    show(L7 scope X.env).names.lookup x'=_\/(L7 scope X.env).names.lookup x'=_;rw[z];unfold cP;split
    .exact .inl rfl
    .exact .inr rfl
   refine⟨hkk,c,ec,?_⟩;rcases lk with⟨k,_⟩|⟨_,c',ec',hcell⟩
   .rcases kX with z|z <;> rw[k]at z <;> cases z
   .rw[h1 x' c ec]at ec';cases ec';obtain⟨o,ho,hd⟩:=hcell;exact⟨o,kp c o ho,hd⟩
 .obtain⟨v,o,ho,hd⟩:=I.cell x c (h1 x c e);exact⟨v,o,kp c o ho,hd⟩
 .obtain⟨v,o,ho,hd⟩:=I.cell x c (h1 x c e);exact hH c (I.freeC x c (h1 x c e)) (q_ ho)
 .show(cB nl cap σ).length=N'.length;rw[sc.len];simp[cB]
end
section
variable{prog:u_}{w:Gz}{A:GP}{R:MO->e_->Prop}{s:e_}
theorem Ck{elt target iter:Expr}{ifs:List Expr}{scope:Ii}{pos:Pos}{it acc:a_}{env:Env}(I:Nat->e_->Prop)(turn:∀n s,I n s->B_ (Gy prog w) A (Li it) (fun r s1=>match r with
  |none=>R (.ok .next) s1
  |some v=>B_ (Gy prog w) A (JQ target it v) (fun _ s1'=>B_ (Gy prog w) A (Jz target env v) (fun _ s2=>
     B_ (Gy prog w) A (N1 ifs true fun c r=>if r=true then do let ok <-isTrue c env (eval c env);pure (ForInStep.yield ok)else pure (ForInStep.yield r)) (fun ok s3=>
      if ok=true then B_ (Gy prog w) A (eval elt env) (fun x s4=>B_ (Gy prog w) A (call (.builtin "list.append") [acc,x]) (fun _ s5=>∃m,m<n/\I m s5) (KS (Gy prog w) A env fun e s'=>R (.error e) s') s4) (KS (Gy prog w) A env fun e s'=>R (.error e) s') s3
      else ∃m,m<n/\I m s3) (KS (Gy prog w) A env fun e s'=>R (.error e) s') s2) (KS (Gy prog w) A env fun e s'=>R (.error e) s') s1')
     (KS (Gy prog w) A env fun e s'=>R (.error e) s') s1) (KS (Gy prog w) A env fun e s'=>R (.error e) s') s)(n:Nat)(h:I n s):JY (Gy prog w) A (.compLoop (.ListComp elt [⟨target,iter,ifs,0⟩] scope pos) 0 it acc env) R s:=by refine codeAny_loop rfl I (fun n s hI=>?_) n h;show B_ _ A ((compTurn (.ListComp elt [⟨target,iter,ifs,0⟩] scope pos) 0 it acc env).onRaise (fun x=>do noteFrame x env;theTreesLotGoes x)) _ _ s;refine wpAny_noted ?_;rw[compTurn_list];refine c_ (Km (c_ (HK (turn n s hI) (fun r s1 h1=>?_) fun _ _ h'=>h')));cases r with
|none=>exact s_ h1
|some v=>refine c_ (HK h1 (fun _ s1' h1'=>?_) fun _ _ h'=>h');refine c_ (HK h1' (fun _ s2 h2=>c_ (HK h2 (fun ok s3 h3=>?_) fun _ _ h'=>h')) fun _ _ h'=>h');cases ok with
 |false=>exact s_ ⟨rfl,h3⟩
 |true=>exact c_ (c_ (HK h3 (fun x s4 h4=>c_ (HK h4 (fun _ s5 h5=>s_ (s_ ⟨rfl,h5⟩)) fun _ _ h'=>h')) fun _ _ h'=>h'))
end
def jA(X:Cx)(g:GE)(m:List Md)(ifs:List Expr)(f:FQ):Prop:=∀(pz:List (Addr×Obj))(s:e_)(σ:L2.St)(H:Hp)(Q:Bool->Hp->Prop),Inv X pz σ H s->tQ X g m f σ H Q ->B_ (Gy X.prog X.w) X.A (N1 ifs true fun c r=>if r=true then do let ok <-isTrue c X.env (eval c X.env);pure (ForInStep.yield ok)else pure (ForInStep.yield r)) (TP X pz σ Q) X.xe s
section
variable{X:Cx}{g:GE}{m:List Md}{c:Expr}{p:FQ}
theorem ia:jA X g m [] fun _=>.ok true:=fun pz s σ H Q I ⟨r,G,si,q⟩=>wpAny_tests_nil ⟨H,I,q G H (Grow.refl si.gok)⟩
theorem uZ(h:SQ X g m c p):jA X g m [c] p:=fun pz s σ H Q I q=>wpAny_tests_one (h pz s σ H Q I q)
end
def fF(ft:FT)(nl:Nat):Prop:=∀d r r1,ft d r=some r1->r1.length=r.length/\∀i,nl<=i->r1[i]? = r[i]?
def mf(ft:gW)(nl:Nat):Prop:=∀d r r1,ft d r=some r1->r1.length=r.length/\∀i,nl<=i->r1[i]? = r[i]?
theorem dJ{i nl:Nat}(h:i<nl):fF (aI i) nl:=fun d r r1 e=>by cases e;exact⟨by simp,fun j hj=>by rw[b_ (by omega)]⟩
theorem kQ{nl:Nat}:mf dG nl:=fun ds r r1 e=>by cases ds with
|nil=>cases e;exact⟨rfl,fun _ _=>rfl⟩
|cons _ _=>cases e
theorem gN{ft:FT}{fts:gW}{nl:Nat}(h1:fF ft nl)(h2:mf fts nl):mf (bQ ft fts) nl:=fun ds r r1 e=>by cases ds with
|nil=>cases e
|cons d ds=>have e':((ft d r).bind fun r'=>fts ds r')=some r1:=e;cases q:ft d r with
 |none=>rw[q]at e';cases e'
 |some r2=>rw[q]at e';obtain⟨a1,a2⟩:=h1 d r r2 q;obtain⟨b1,b2⟩:=h2 ds r2 r1 e';exact⟨b1.trans a1,fun i hi=>(b2 i hi).trans (a2 i hi)⟩
theorem kt{fts:gW}{nl:Nat}(h:mf fts nl):fF (dP fts) nl:=fun d r r1 e=>by cases d with
|tup ds=>exact h ds r r1 e
|lst ds=>exact h ds r r1 e
|_=>cases e
section
variable{X:Cx}{pz:List (Addr×Obj)}{σ:L2.St}{H2:Hp}{s2:e_}{scope:Ii}{N':List Str}{nl:Nat}{cap:List Nat}{cl:List (Str×Addr)}{fp:List Addr}{g:GE}{G2:GH}{m:List Md}{r:af}{elt tg iter:Expr}{ifs:List Expr}{pos:Pos}{J:It}{it:Addr}{tn:Nat->Heap->Prop}{ds vs:List D}{ft:FT}{q:FQ}{fe:FE}{E:a_->e_->Prop}
theorem Cj(i:Nat):(aD nl cap m)[i]?≠some Md.ow:=fun h=>by
 by_cases hi:i<nl
 .unfold aD at h;rw[C_ (by simpa using hi),Hb]at h;split at h <;> cases h
 .unfold aD at h;rw[kJ (by omega)]at h;cases e:cap[i-nl]? with
 |none=>rw[e]at h;cases h
 |some j=>rw[e]at h;have h':(if m.getD j Md.sh=Md.sh then Md.sh else Md.bw)=Md.ow:=Gw h;split at h' <;> cases h'
theorem DF{i:Nat}(hi:i<nl)(d:D):(aS nl cap r)[i]?≠some (some d):=fun h=>by unfold aS at h;rw[C_ (by simpa using hi),Hb]at h;split at h <;> cases h
def rG(El:W.Frag->GH->Hp->GH->Hp->V->D->Prop)(X:Cx)(g:GE)(m:List Md)(f:FE):TE:=fun σ H Q=>∃r G,SI X g m r G σ H/\fin (f r) (fun d=>∀v G' H',Grow X.K G H G' H'->El X.K G H G' H' v d->Q v H') (XW X σ G H)
theorem xN{El:W.Frag->GH->Hp->GH->Hp->V->D->Prop}{Rl:Addr->GH->Hp->List V->List D->Prop}(R0:∀p G H,Rl p G H [] [])(Rg:∀{p G H G' H' ws ds},Rl p G H ws ds->Grow X.K G H G' H'->Rl p G' H' ws ds)(Rn:∀{p G H ws ds},Rl p G H ws ds->ws.length=ds.length)(Ra:∀{p G H G' H' ws ds v d},Rl p G H ws ds->Grow X.K G H G' H'->Grow X.K G2 H2 G H->H p=some (.lst ws)->El X.K G H G' H' v d->Rl p G' (upd H' p (.lst (ws++[v]))) (ws++[v]) (ds++[d]))(hN:X.N.Nodup)(hcalm:X.calm=true)(sc:CompSc X scope N' nl cap)(h1:∀x c,cl.lookup x=some c->X.env.cells.lookup x=some c)(h2:∀x,(x,NameKind.free)∈scope.names->∃c,cl.lookup x=some c)(I2:Inv X pz σ H2 s2)(si:SI X g m r G2 σ H2)(T:Turn X.prog X.w X.K tg J fp it tn)(st:tn 0 s2.heap)(hf:∀b∈fp,cg X pz H2 b)(Y:YieldsC X.K J ds G2 H2)(hsz:ds.length<=sizeLine)(hg:∀C,SG (dh X s2 H2 N' scope cl C fp) ⟨G2,H2,fun _=>none⟩ (aD nl cap m) tg ft (aD nl cap m))(hft:fF ft nl)(hq:∀C,jA (dh X s2 H2 N' scope cl C fp) ⟨G2,H2,fun _=>none⟩ (aD nl cap m) ifs q)(he:∀C,PE (dh X s2 H2 N' scope cl C fp) elt (rG El (dh X s2 H2 N' scope cl C fp) ⟨G2,H2,fun _=>none⟩ (aD nl cap m) fe))(hres:dS ft q fe (aS nl cap r) ds=.ok vs){RR:a_->Addr->MO->e_->Prop}(hRR:∀(p C:Addr)(s':e_)(H':Hp)(G':GH),Inv X pz σ H' s'->(∃mm,s'.heap.Ns C mm)->H' C=none->C≠X.env.locals->X.s₀.heap.objs.size<=C->(∀x c,X.env.cells.lookup x=some c->c≠C)->(∀z∈X.pn++pz,z.1≠C) ->Grow X.K G2 H2 G' H'->H2 p=none->(∃ws,H' p=some (.lst ws)/\G' p=none/\Rl p G' H' ws vs)->RR (.ref p) C (.ok .next) s'):B_ (Gy X.prog X.w) X.A (newList []) (fun acc s3=>B_ (Gy X.prog X.w) X.A (newFunctionEnv scope X.env.globals cl [] X.env.qual none .none (some X.env)) (fun cenv s4=>JY (Gy X.prog X.w) X.A (.compStart (.ListComp elt [⟨tg,iter,ifs,0⟩] scope pos) 0 (.ref it) acc { cenv with scope:=L7 scope X.env }) (RR acc cenv.locals) s4) E s3) E s2:=by
 refine Kj (wpAny_newFunctionEnv sc.nocell (by intro y hy;simp at hy) (fun h₁ hns₁ hsb₁=>?_) sc.kind)
 dsimp only at hns₁ hsb₁ ⊢
 generalize hH2:s2.heap.push { cls:=.type "list",dict:=none,data:=.seq ([]:List a_).toArray }=HH at hns₁ hsb₁ ⊢;have hC:HH.objs.size=s2.heap.objs.size+1:=by rw[<-hH2,GX]
 have hDC:s2.heap.objs.size≠HH.objs.size:=by rw[hC];exact F_ (HP _)
 have hCle:s2.heap.objs.size<=HH.objs.size:=by rw[hC];exact My _
 have below:∀b,b<s2.heap.objs.size->b≠HH.objs.size/\b≠s2.heap.objs.size:=fun b hb=>⟨by rw[hC];exact F_ (HG hb),F_ hb⟩
 have old:∀b o,s2.heap.get? b=some o->h₁.get? b=some o:=fun b o e=>hsb₁.extBut b o (below b (q_ e)).1 (d_ _ (hH2▸d_ _ e));have hacc:h₁.get? s2.heap.objs.size=some { cls:=.type "list",dict:=none,data:=.seq ([]:List a_).toArray }:=hsb₁.extBut _ _ hDC (d_ _ (hH2▸r_ _ rfl));have hp2:H2 s2.heap.objs.size=none:=I2.hok.fresh (w_ _);have hflt:∀b∈fp,cg X pz H2 b/\b<s2.heap.objs.size:=fun b hb=>⟨hf b hb,by obtain⟨o,e,_⟩:=T.obj 0 s2.heap st b hb;exact q_ e⟩
 have ok:=AV (fp:=fp) I2 sc h1 h2 hflt hCle;generalize hXX:dh X s2 H2 N' scope cl HH.objs.size fp=XX at ok;have hG2p:G2 s2.heap.objs.size=none:=si.gok.isN hp2;have w0:Grow X.K G2 H2 G2 (upd H2 s2.heap.objs.size (.lst [])):=Grow.new si.gok hp2 _;have hok4:bO X.prog X.w (upd H2 s2.heap.objs.size (.lst [])) h₁:=I2.hok.laid old (w_ _) ⟨GL _,[],0,.nil,hacc⟩;have IC:Inv XX [] (cB nl cap σ) (upd H2 s2.heap.objs.size (.lst [])) { s2 with heap:=h₁,toks:=s2.toks+([]:List (Str×a_)).length }:=by
  subst hXX;refine AT I2 ok sc h1 h2 hN rfl I2.bare old hns₁ hCle ?_ (fun b hb hlt=>?_) (Un.laid old (w_ _) hp2) hok4
  .rw[aN (H_ hDC)];exact I2.hok.fresh hCle
  .rw[aN (below b hlt).2];exact hb
 have SC:SI XX ⟨G2,H2,fun _=>none⟩ (aD nl cap m) (aS nl cap r) G2 (cB nl cap σ) (upd H2 s2.heap.objs.size (.lst [])):=by subst hXX;exact y8 si w0
 have hst₁:tn 0 h₁:=T.keep _ _ _ st fun b _ o e=>old b o e;have hfX:∀(H':Hp),(∀b∈fp,H' b=none)->∀b∈fp,cg XX [] H' b:=fun H' hn b hb=>by
  clear IC SC;subst hXX;obtain⟨z0,z1,z2,z3,z4,z5⟩:=hf b hb;refine⟨hn b hb,?_,?_,?_,?_,?_⟩
  .exact(below b (hflt b hb).2).1
  .intro hfs;rcases n_.mp (I2.stkSub b hfs)with z|z
   .exact z1 z
   .exact z2 z
  .exact .inl hb
  .exact fun x c e=>z4 x c (h1 x c e)
  .intro p hp;exact absurd (show p∈([]:List (Addr×Obj))from hp) (by simp)
 have eA:XX.A=X.A:=Eq.rec (motive:=fun z _=>z.A=X.A) rfl hXX;have eP:XX.prog=X.prog:=Eq.rec (motive:=fun z _=>z.prog=X.prog) rfl hXX;have eW:XX.w=X.w:=Eq.rec (motive:=fun z _=>z.w=X.w) rfl hXX;have eK:XX.K=X.K:=Eq.rec (motive:=fun z _=>z.K=X.K) rfl hXX;have eX:XX.xe=fun _ _=>False:=Eq.rec (motive:=fun z _=>z.xe=fun _ _=>False) rfl hXX;have eE:XX.env=Lo scope cl HH.objs.size X.env:=Eq.rec (motive:=fun z _=>z.env=Lo scope cl HH.objs.size X.env) rfl hXX;have eC:XX.calm=true:=Eq.rec (motive:=fun z _=>z.calm=true) hcalm hXX;have eH:XX.H₀=H2:=Eq.rec (motive:=fun z _=>z.H₀=H2) rfl hXX;have hg':PG XX tg (tG XX ⟨G2,H2,fun _=>none⟩ (aD nl cap m) (aD nl cap m) ft):=Eq.rec (motive:=fun z _=>PG z tg (tG z ⟨G2,H2,fun _=>none⟩ (aD nl cap m) (aD nl cap m) ft)) (hg _).2 hXX;have hq':jA XX ⟨G2,H2,fun _=>none⟩ (aD nl cap m) ifs q:=Eq.rec (motive:=fun z _=>jA z ⟨G2,H2,fun _=>none⟩ (aD nl cap m) ifs q) (hq _) hXX;have he':PE XX elt (rG El XX ⟨G2,H2,fun _=>none⟩ (aD nl cap m) fe):=Eq.rec (motive:=fun z _=>PE z elt (rG El z ⟨G2,H2,fun _=>none⟩ (aD nl cap m) fe)) (he _) hXX;have fin':∀{H':Hp}{s':e_}{σ':L2.St}{G':GH}{ws:List V},Inv XX [] σ' H' s'->Grow X.K G2 H2 G' H'->H' s2.heap.objs.size=some (.lst ws)->G' s2.heap.objs.size=none->Rl s2.heap.objs.size G' H' ws vs->RR (.ref s2.heap.objs.size) HH.objs.size (.ok .next) s':=fun{H' s' σ' G' ws} J1 wg hpp hgp rs=>by
  clear IC SC hfX hg' hq' he' eA eP eW eK eX eE eC eH;subst hXX;have un:=J1.base;refine hRR _ _ s' H' G' ?_ (let⟨mm,hn,_⟩:=J1.loc;⟨mm,hn⟩) J1.free (HC (x_ I2.lt hCle)) (GY I2.sz hCle) (fun x c e z=>?_) (fun z hz e=>?_) wg hp2 ⟨_,hpp,hgp,rs⟩
  .refine I2.call' J1.os un J1.hok J1.bare fun b hb=>?_;obtain⟨z0,z1,z2,z3,z4,z5⟩:=hf b hb;exact⟨z3,z1,z4,z5⟩
  .obtain⟨v,o,ho,_⟩:=I2.cell x c e;exact absurd (x_ (q_ ho) hCle) (by rw[z];exact HM _)
  .have:=(I2.pin z hz).1;exact absurd (x_ (q_ this) hCle) (by rw[e];exact HM _)
 have loop:JY (Gy X.prog X.w) X.A (.compLoop (.ListComp elt [⟨tg,iter,ifs,0⟩] scope pos) 0 (.ref it) (.ref s2.heap.objs.size) (Lo scope cl HH.objs.size X.env)) (RR (.ref s2.heap.objs.size) HH.objs.size)
   { s2 with heap:=h₁,toks:=s2.toks+([]:List (Str×a_)).length }:=by
  refine Ck (fun n s'=>∃(i:Nat)(σ':L2.St)(H':Hp)(G':GH)(ws:List V)(done rest:List D),Inv XX [] σ' H' s'/\SI XX ⟨G2,H2,fun _=>none⟩ (aD nl cap m) (aS nl cap r) G' σ' H'/\tn i s'.heap/\(∀b∈fp,H' b=none)/\Grow X.K G2 H2 G' H' /\H' s2.heap.objs.size=some (.lst ws)/\G' s2.heap.objs.size=none/\Rl s2.heap.objs.size G' H' ws done/\dS ft q fe (aS nl cap r) (ds.drop i)=.ok rest/\vs=done++rest/\done.length<=i/\i<=ds.length/\n=ds.length-i) ?_ ds.length
   ⟨0,_,_,G2,[],[],vs,IC,SC,hst₁,fun b hb=>?_,w0,cj,hG2p,R0 _ _ _,hres,rfl,w_ _,GL _,rfl⟩
  rotate_left
  .rw[aN (below b (hflt b hb).2).2];exact(hf b hb).1
  rintro n s3 ⟨i,σ3,H3,G3,ws,done,rest,I3,S3,st3,fr3,w3,hp3,hg3,rs3,hr3,hv3,hd3,hi3,rfl⟩
  have weaken:∀{α:Type}{t:Sem α}{Q:α->e_->Prop}{s':e_}{E':a_->e_->Prop},B_ (Gy XX.prog XX.w) XX.A t Q XX.xe s'->B_ (Gy X.prog X.w) X.A t Q E' s':=fun h=>by rw[eP,eW,eA,eX]at h;exact HK h (fun _ _ z=>z) fun _ _ z=>z.elim
  by_cases hlt:i<ds.length
  .have hd:ds.drop i=ds[i]::ds.drop (i+1):=Hh hlt;rw[hd]at hr3;unfold dS at hr3;have it3:=T.item XX eP eW eK eC i [] s3 σ3 H3 (KS (Gy X.prog X.w) X.A (Lo scope cl HH.objs.size X.env) fun e s'=>RR (.ref s2.heap.objs.size) HH.objs.size (.error e) s') I3 (hfX H3 fr3) st3 (Y.go G3 H3 i w3 hlt);rw[eA]at it3;refine aE it3 fun rr s4 ⟨u,hr,h4⟩=>?_;subst hr;refine aE h4 fun _ s5 ⟨x,H5,I5,r5,y5,st5,fr5⟩=>?_;obtain⟨G5,w5,rv5⟩:=Y.yld G3 H3 i x H5 ds[i] w3 y5 (m_ hlt);have w25:=w3.trans w5;cases eft:ft ds[i] (aS nl cap r)with
  |none=>rw[eft]at hr3;cases hr3
  |some r1=>
    rw[eft]at hr3;simp only[opt_some,bind_ok]at hr3;have I5':=I5.pinned (hfX H5 fr5) (T.obj _ _ st5);have S5:SI XX ⟨G2,H2,fun _=>none⟩ (aD nl cap m) (aS nl cap r) G5 σ3 H5:=S3.grow (by rw[eK];exact w5);have rv5':RG XX.K G5 x ds[i]:=by rw[eK];exact rv5
    have as5:=hg' _ s5 σ3 H5 x u (fun σ6 H6=>H6=H5/\SI XX ⟨G2,H2,fun _=>none⟩ (aD nl cap m) r1 G5 σ6 H5) I5' r5 ⟨aS nl cap r,G5,ds[i],S5,rv5',r1,eft,fun σ6 si6=>⟨rfl,si6⟩⟩;rw[eE]at as5;refine aE (weaken as5) fun _ s6 ⟨σ6,H6,I6,e6,S6⟩=>?_;subst e6;obtain⟨fl1,fl2⟩:=hft _ _ _ eft;cases eq1:q r1 with
   |stuck=>rw[eq1]at hr3;cases hr3
   |exc xx=>rw[eq1]at hr3;cases hr3
   |ok b1=>
     rw[eq1]at hr3;simp only[bind_ok]at hr3;have te6:=hq' _ s6 σ6 H6 (fun b H7=>b=b1/\∃G7,Grow X.K G5 H6 G7 H7) I6 ⟨r1,G5,S6,by rw[eq1];exact fun G7 H7 w7=>⟨rfl,G7,by rw[eK]at w7;exact w7⟩⟩;rw[eE]at te6;refine aE (weaken te6) fun b s7 ⟨H7,I7,eb,G7,w7⟩=>?_;subst eb;have S7:SI XX ⟨G2,H2,fun _=>none⟩ (aD nl cap m) r1 G7 σ6 H7:=S6.grow (by rw[eK];exact w7);have w27:=w25.trans w7;have hp7:H7 s2.heap.objs.size=some (.lst ws):=w7.he _ _ (w5.he _ _ hp3);have hg7:G7 s2.heap.objs.size=none:=by rw[w7.gf _ (by rw[w5.he _ _ hp3];simp),w5.gf _ (by rw[hp3];simp)];exact hg3
     have back:∀{σ8:L2.St}{H8:Hp}{G8:GH}{s8:e_},Inv XX ([]++kA fp s5.heap) σ8 H8 s8->Inv XX [] σ8 H8 s8/\tn (i+1) s8.heap/\∀b∈fp,H8 b=none:=fun{σ8 H8 G8 s8} I8=>by refine⟨I8.unpinned,T.keep _ _ _ st5 fun b hb o e=>(I8.pin (b,o) (GF _ (GF _ (nJ hb e)))).1,fun b hb=>?_⟩;obtain⟨o,e,_⟩:=T.obj _ _ st5 b hb;exact(I8.pin (b,o) (GF _ (GF _ (nJ hb e)))).2.1
     have less:∀{σ8:L2.St}{H8:Hp}{G8:GH},SI XX ⟨G2,H2,fun _=>none⟩ (aD nl cap m) r1 G8 σ8 H8->SI XX ⟨G2,H2,fun _=>none⟩ (aD nl cap m) (aS nl cap r) G8 σ8 H8:=fun h=>h.less fl1.symm fun j d hj=>by
      by_cases hjn:j<nl
      .exact absurd hj (DF hjn d)
      .rw[fl2 j (by omega)];exact hj
     cases b with
    |false=>rw[if_neg j_]at hr3 ⊢;obtain⟨I7',t7,f7⟩:=back (G8:=G7) I7;exact⟨ds.length-(i+1),by omega,i+1,σ6,H7,G7,ws,done,rest,I7',less S7,t7,f7,w27,hp7,hg7,Rg rs3 (w5.trans w7),hr3,hv3,by omega,hlt,rfl⟩
    |true=>rw[if_pos rfl]at hr3 ⊢;cases ee1:fe r1 with
     |stuck=>rw[ee1]at hr3;cases hr3
     |exc xx=>rw[ee1]at hr3;cases hr3
     |ok d1=>rw[ee1]at hr3;simp only[bind_ok]at hr3;cases er:dS ft q fe (aS nl cap r) (ds.drop (i+1))with
      |stuck=>rw[er]at hr3;cases hr3
      |exc xx=>rw[er]at hr3;cases hr3
      |ok rest'=>
        rw[er]at hr3;simp only[bind_ok]at hr3;cases hr3;have el7:=he' _ s7 σ6 H7 (fun v H8=>∃G8,Grow X.K G7 H7 G8 H8/\El X.K G7 H7 G8 H8 v d1) I7 ⟨r1,G7,S7,by rw[ee1];exact fun v G8 H8 w8 rv=>⟨G8,by rw[eK]at w8;exact w8,by rw[eK]at rv;exact rv⟩⟩;rw[eE]at el7;refine aE (weaken el7) fun u8 s8 ⟨v8,H8,I8,r8,G8,w8,rv8⟩=>?_;have hp8:H8 s2.heap.objs.size=some (.lst ws):=w8.he _ _ hp7;have hg8:G8 s2.heap.objs.size=none:=by rw[w8.gf _ (by rw[hp7];simp)];exact hg7
        have S8:SI XX ⟨G2,H2,fun _=>none⟩ (aD nl cap m) r1 G8 σ6 H8:=S7.grow (by rw[eK];exact w8);have hlen:=Rn rs3;have ap8:=jn (X:=XX) _ s8 σ6 H8 (.ref s2.heap.objs.size) [v8] (.ref s2.heap.objs.size) [u8] (fun v H9=>H9=upd H8 s2.heap.objs.size (.lst (ws++[v8]))) I8 rfl (.cons r8 .nil) ⟨_,ws,v8,rfl,rfl,hp8,by omega,rfl⟩;refine aE (weaken ap8) fun u9 s9 ⟨v9,H9,I9,r9,e9⟩=>?_;subst e9;obtain⟨I9',t9,f9⟩:=back (G8:=G8) I9;have rsn:=Ra (Rg rs3 (w5.trans w7)) w8 w27 hp7 rv8;have w28:=w27.trans w8;refine⟨ds.length-(i+1),by omega,i+1,σ6,_,G8,ws++[v8],done++[d1],rest',I9',less (S8.other hg8 hp2 Cj _),t9,f9,?_,cj,hg8,rsn,er,by rw[hv3,Ju];rfl,by rw[GB,Lc];omega,hlt,rfl⟩;refine⟨fun b e hb=>(w28.ok b e hb).mono (fun _ _ z=>z) fun o z=>?_,fun b o hb=>?_,w28.ge,w28.gf⟩
        .rw[aN (by rintro rfl;rw[hg8]at hb;cases hb)];exact z
        .rw[aN (by rintro rfl;rw[hp2]at hb;cases hb)];exact w28.he b o hb
  .have e:i=ds.length:=by omega
   subst e;rw[Ir]at hr3;cases hr3;rw[Jf]at hv3;subst hv3;have dn:=T.done XX eP eW eK eC ds.length [] s3 σ3 H3 (KS (Gy X.prog X.w) X.A (Lo scope cl HH.objs.size X.env) fun e s'=>RR (.ref s2.heap.objs.size) HH.objs.size (.error e) s') I3 (hfX H3 fr3) st3 (Y.stop G3 H3 w3);rw[eA]at dn;refine aE dn fun rr s4 ⟨hr,I4⟩=>?_;subst hr;exact fin' I4 w3 hp3 hg3 rs3
 exact codeAny_compStart_list loop (T.self X.A 0 _ _ _ hst₁ loop)
end
def lM:Res (List D)->Res (List D)
|.ok d=>.ok d
|_=>.stuck
@[simp] theorem noXL_ok(d:List D):lM (.ok d)=.ok d:=rfl
def cU(nl:Nat)(cap:List Nat)(fi:FI)(ft:FT)(q:FQ)(fe:FE):FE:=fun r=>(fi r).bind fun ds=>(bz (sz ds)).bind fun ds=>(lM (dS ft q fe (aS nl cap r) ds)).bind fun vs=>.ok (.lst vs)
section
variable{X:Cx}{g:GE}{m mb:List Md}{scope:Ii}{N':List Str}{nl:Nat}{cap:List Nat}{elt tg iter:Expr}{ifs:List Expr}{pos pos' spos:Pos}{fi:FI}{ft:FT}{q:FQ}{fe:FE}{ro:Bool}
theorem xA{r:af}{P:D->Prop}{x:D->Prop}(h:fin (cU nl cap fi ft q fe r) P x):fin (fi r) (fun ds=>∃vs,ds.length<=sizeLine/\dS ft q fe (aS nl cap r) ds=.ok vs/\P (.lst vs)) x:=by unfold cU at h;refine aK (aU h) fun ds h1=>?_;obtain⟨ds',e2,h2⟩:=cu (aU h1);obtain⟨rfl,hl⟩:=oD e2;cases e3:dS ft q fe (aS nl cap r) ds' with
|ok vs=>rw[e3]at h2;exact⟨vs,hl,rfl,h2⟩
|exc x=>rw[e3]at h2;exact h2.elim
|stuck=>rw[e3]at h2;exact h2.elim
theorem CompSc.clo{pz:List (Addr×Obj)}{σ:L2.St}{H:Hp}{s:e_}(sc:CompSc X scope N' nl cap)(ok:X.Ok):∃cl,MX scope X.env=pure cl/\(∀x c,cl.lookup x=some c->X.env.cells.lookup x=some c)/\(∀x,(x,NameKind.free)∈scope.names->∃c,cl.lookup x=some c):=EK fun y hy hf=>ok.has y.1 (sc.freeK y hy hf)
theorem h9(hN:X.N.Nodup)(hcalm:X.calm=true)(sc:CompSc X scope N' nl cap)(hi:gu X g m tg iter fi)(hg:∀s0 H0 cl C fp g',SG (dh X s0 H0 N' scope cl C fp) g' (aD nl cap m) tg ft (aD nl cap m))(hft:fF ft nl)(hq:∀s0 H0 cl C fp g',jA (dh X s0 H0 N' scope cl C fp) g' (aD nl cap m) ifs q)(he:∀s0 H0 cl C fp g',SE (dh X s0 H0 N' scope cl C fp) g' (aD nl cap m) elt fe)(hs:∀x,Hv iter X.env x=pure x:=by intro _;rfl):SO X g m (.ListComp elt [⟨tg,iter,ifs,0⟩] scope pos) (cU nl cap fi ft q fe):=by
 intro pz s σ H Q I h;obtain⟨r,G,si,k⟩:=h;obtain⟨cl,hcl,h1,h2⟩:=sc.clo (pz:=pz) (σ:=σ) (H:=H) (s:=s) I.ok;have k1:=xA k;rw[eval_ListComp];refine Kq (use:=none) rfl hs hcl sc.kind sc.names (aE (hi pz s σ H (fun J H'=>∃G' ds vs,Grow X.K G H G' H'/\YieldsC X.K J ds G' H'/\ds.length<=sizeLine/\dS ft q fe (aS nl cap r) ds=.ok vs /\(∀a G' H',Grow X.K G H G' H'->H a=none->Own X.K G' H' a (.lst vs)->Q (.ref a) H')) I ⟨r,G,si,aK k1 fun ds ⟨vs,z1,z2,z3⟩ J G' H' w y=>⟨G',ds,vs,w,y,z1,z2,z3⟩⟩) fun v s1 hv=>aE hv fun itv s2 hv2=>?_);obtain⟨it,fp,tn,J,H2,rfl,I2,T,st,hf,G2,ds,vs,w2,Y,hsz,hres,hQ⟩:=hv2;refine xN (El:=fun K _ _ G' _ v d=>RG K G' v d) (Rl:=fun _ G _ ws ds=>bj X.K G ws ds) (fun _ _ _=>.nil) (fun h w=>h.mono w.ge) Paired.length (fun h w _ _ e=>Paired.snoc (h.mono w.ge) e) (RR:=fun acc C=>compPost (Gy X.prog X.w) X.A X.xe none (EP X pz σ Q) acc C) hN hcalm sc h1 h2 I2 (si.grow w2) T st hf Y hsz (fun C=>hg _ _ _ _ _ _) hft (fun C=>hq _ _ _ _ _ _) (fun C=>he _ _ _ _ _ _) hres ?_;intro p C s' H' G' I' hns hC1 hC2 hC3 hC4 hC5 w' hp ⟨ws,o1,o2,o3⟩;have ho:Own X.K G' H' p (.lst vs):=⟨o2,.lst o1 o3⟩
 obtain⟨mm,hn⟩:=hns;refine⟨mm,hn,fun h' hsb=>⟨.ref p,H',?_,rfl,hQ p G' H' (w2.trans w') (w2.back hp) ho⟩⟩;exact I'.turned (it:=C) (t':=s'.toks) (fun b o hb e=>hsb.extBut b o hb e) hC1 hC2.symm.symm (.inr hC3) hC4 hC5
theorem x8(i:Nat){y:Str}(hN:X.N.Nodup)(hcalm:X.calm=true)(hy:X.N[i]? = some y)(hyl:X.env.scope.names.lookup y=some .local)(sc:CompSc X scope N' nl cap)(hi:gu X g m tg iter fi)(hg:∀s0 H0 cl C fp g',SG (dh X s0 H0 N' scope cl C fp) g' (aD nl cap m) tg ft (aD nl cap m))(hft:fF ft nl)(hq:∀s0 H0 cl C fp g',jA (dh X s0 H0 N' scope cl C fp) g' (aD nl cap m) ifs q)(he:∀s0 H0 cl C fp g',SE (dh X s0 H0 N' scope cl C fp) g' (aD nl cap m) elt fe)(hsw:J6 (.ListComp elt [⟨tg,iter,ifs,0⟩] scope pos) (some (.Name y pos')) spos.line X.env=pure true:=by rfl)(hs:∀x,Hv iter X.env x=pure x:=by intro _;rfl):SS X g ro mb m (.Assign [.Name y pos'] (.ListComp elt [⟨tg,iter,ifs,0⟩] scope pos) spos) (ao m i (cU nl cap fi ft q fe)) (m.set i .ow):=by
 refine⟨by simp,?_⟩;intro pz s σ H D0 I h;obtain⟨r,G,si,k⟩:=h;obtain⟨cl,hcl,h1,h2⟩:=sc.clo (pz:=pz) (σ:=σ) (H:=H) (s:=s) I.ok;have k1:=xA (dI si (m':=m.set i .ow) (by simp) k);rw[exec_Assign_Name_used _ _ _ _ hsw];refine c_ (Km (c_ ?_));show B_ _ X.A (do let _ <-comprehension (.ListComp elt [⟨tg,iter,ifs,0⟩] scope pos) scope X.env _ (newList []) false (eval iter X.env) (some (Jz (.Name y pos') X.env))) _ _ s;refine c_ (HK (Kq (use:=some (Jz (.Name y pos') X.env)) (Q:=fun _ s'=>SP X pz D0 .next s') rfl hs hcl sc.kind sc.names (aE (hi pz s σ H (fun J H'=>∃G' ds vs,Grow X.K G H G' H'/\YieldsC X.K J ds G' H'/\ds.length<=sizeLine/\dS ft q fe (aS nl cap r) ds=.ok vs /\(∀σ' G' H',ax G G'->SI X g (m.set i .ow) (r.set i (some (.lst vs))) G' σ' H'->D0.nx σ' H')) I ⟨r,G,si,aK k1 fun ds ⟨vs,z1,z2,z3⟩ J G' H' w y=>⟨G',ds,vs,w,y,z1,z2,z3⟩⟩) fun v s1 hv=>aE hv fun itv s2 hv2=>?_)) (fun _ s' hq=>s_ (s_ hq)) fun _ _ e=>e);obtain⟨it,fp,tn,J,H2,rfl,I2,T,st,hf,G2,ds,vs,w2,Y,hsz,hres,hQ⟩:=hv2;refine xN (El:=fun K _ _ G' _ v d=>RG K G' v d) (Rl:=fun _ G _ ws ds=>bj X.K G ws ds) (fun _ _ _=>.nil) (fun h w=>h.mono w.ge) Paired.length (fun h w _ _ e=>Paired.snoc (h.mono w.ge) e) (RR:=fun acc C=>compPost (Gy X.prog X.w) X.A X.xe (some (Jz (.Name y pos') X.env)) (fun _ s'=>SP X pz D0 .next s') acc C) hN hcalm sc h1 h2 I2 (si.grow w2) T st hf Y hsz (fun C=>hg _ _ _ _ _ _) hft (fun C=>hq _ _ _ _ _ _) (fun C=>he _ _ _ _ _ _) hres ?_;intro p C s' H' G' I' hns hC1 hC2 hC3 hC4 hC5 w' hp ⟨ws,o1,o2,o3⟩;have ho:Own X.K G' H' p (.lst vs):=⟨o2,.lst o1 o3⟩
 obtain⟨mm,hn⟩:=hns;show B_ _ X.A (Jz (.Name y pos') X.env (.ref p)) _ _ s';refine L1 (xV I' hN hy (.inl hyl) (v:=.ref p) rfl (fun s'' I'' ⟨a,hsb,ha⟩=>?_) (.inr hyl));have hCa:C≠a:=by
  rcases ha with z|z
  .rw[z];exact hC2
  .exact(hC4 y a z).symm
 refine⟨mm,hn.sameBut hsb hCa,fun h' hsb'=>?_⟩;refine⟨_,H',I''.turned (it:=C) (t':=s''.toks) (fun b o hb e=>hsb'.extBut b o hb e) hC1 hC2 (.inr hC3) hC4 hC5,?_⟩;exact hQ _ G' H' (w2.trans w').ge (si.setN (w2.trans w') i (w2.back hp) ho)
end
def fD(K:W.Frag)(r:V->List V->Hp->VK->Prop)(mk:D->List D->Option D):Prop:=∀(G:GH)(H:Hp)(a:Addr)(d:D)(vs:List V)(ds:List D)(d':D)(Q:VK),aC K G H->Own K G H a d->bj K G vs ds->mk d ds=some d' ->(∀o',OwnO K G (upd H a o') a d'->Q .non (upd H a o'))->r (.ref a) vs H Q
def nW(T:String):D->Bool
|.lst _=>T == "list"
|.dic _=>T == "dict"
|_=>false
def bW(T:String)(m:List Md)(i:Nat)(fl:af->Res (List D))(mk:D->List D->Option D):FS:=fun r=>match r[i]? with
|some (some d)=>if nW T d=true then dO m r (fl r) fun ds=>(match mk d ds with
 |some d'=>.nx (r.set i (some d'))
 |none=>.stuck)else .stuck
|_=>.stuck
theorem CB{K:W.Frag}{G:GH}{H:Hp}{a:Addr}{d:D}{T:String}(o:Own K G H a d)(t:nW T d=true):lw K T (.ref a) H:=by cases o.ob with
|lst r s=>exact .inl ⟨LA t,_,aL.of r⟩
|dic r s=>exact .inr (.inr (.inl ⟨LA t,.inl ⟨_,.inl r⟩⟩))
section
variable{X:Cx}{g:GE}{m mb:List Md}{e a b o:Expr}{es:List Expr}{f fa fb:FE}{fl:af->Res (List D)}{pos pos' apos cpos:Pos}{ro:Bool}{x name:Str}{T id:String}{R:V->List V->Hp->VK->Prop}{mk:D->List D->Option D}
theorem wZ(i:Nat)(hm:m[i]? = some .ow)(hk:fD X.K R mk){D0:Ends}{σ:L2.St}{H:Hp}(h:tS X g ro m m mb (bW T m i fl mk) D0 σ H):∃v,σ[i]? = some (some v)/\lw X.K T v H/\tL X g m fl σ H fun xs H2=>R v xs H2 fun _ H1=>D0.nx σ H1:=by obtain⟨r,G,si,k⟩:=h;unfold bW at k;cases er:r[i]? with
|none=>simp only[er]at k;exact(show False from k).elim
|some oo=>cases oo with
 |none=>simp only[er]at k;exact(show False from k).elim
 |some d=>
   simp only[er]at k;by_cases ht:nW T d=true
   .rw[if_pos ht]at k;obtain⟨a,h1,h2,h3⟩:=si.mut hm er;refine⟨_,h1,CB h2 ht,r,G,si,aK (dI si rfl k) fun ds k2 vs G' H' w rs=>?_⟩;cases em:mk d ds with
   |none=>simp only[em]at k2;exact(show False from k2).elim
   |some d'=>simp only[em]at k2;obtain⟨a',h1',h2',h3'⟩:=(si.grow w).mut hm er;rw[h1]at h1';cases h1';exact hk G' H' a d vs ds d' _ w.ok h2' rs em fun o' ob=>k2 σ G' _ w.ge (h3' o' d' ob)
   .rw[if_neg ht]at k;exact(show False from k).elim
theorem i6(i:Nat)(hm:m[i]? = some .ow)(pa:LL T)(slot:Slot T name id)(hty:typeOf (.builtin id)=pure (.type "method_descriptor"))(hmt:iC X id R)(hk:fD X.K R mk)(hN:X.N[i]? = some x)(hv:dC X.env.scope x)(ha:SA X g m (e::es) fl)(hd:(x==("__debug__" : Str))=false:=by decide)(hcd:(x==("__classdict__" : Str))=false:=by decide)(hbase:Jb (.Name x pos') name X.env (eval (.Name x pos') X.env)=eval (.Name x pos') X.env:=by rfl)(hfew:((backTo cpos (k_ (e::es) X.env)).all (fun x=>! x.1)&&(MS cpos (Ll [] X.env)).all (fun x=>x.1.isSome)&&decide ((e::es).length+([]:List Ki).length+(if ([]:List Ki).isEmpty then 0 else 1)<30))=true:=by rfl)(hline:(apos.endLine==cpos.line)=true:=by rfl)(hst:k_ (e::es) X.env=(false,eval e X.env)::k_ es X.env:=by rfl)(hplain:(backTo cpos (k_ es X.env)).any (·.1)=false:=by rfl):SS X g ro mb m (.Expr (.Call (.Attribute (.Name x pos') name apos) (e::es) [] cpos) pos) (bW T m i fl mk) m:=⟨rfl,PS.imp (pG (zS pa slot hty hmt (fO hN hv hd hcd) ha hbase hfew hline hst hplain)) fun D0 σ H h=>wZ i hm hk h⟩
theorem A7(i:Nat)(hm:m[i]? = some .ow)(pa:LL T)(slot:Slot T name id)(hty:typeOf (.builtin id)=pure (.type "method_descriptor"))(hmt:iC X id R)(hk:fD X.K R mk)(hN:X.N[i]? = some x)(hv:dC X.env.scope x)(hd:(x==("__debug__" : Str))=false:=by decide)(hcd:(x==("__classdict__" : Str))=false:=by decide)(hbase:Jb (.Name x pos') name X.env (eval (.Name x pos') X.env)=eval (.Name x pos') X.env:=by rfl)(hline:(apos.endLine==cpos.line)=true:=by rfl):SS X g ro mb m (.Expr (.Call (.Attribute (.Name x pos') name apos) [] [] cpos) pos) (bW T m i ae mk) m:=by refine⟨rfl,PS.imp (pG (Bo pa slot hty hmt (fO hN hv hd hcd) hbase hline)) fun D0 σ H h=>?_⟩;obtain⟨v,h1,h2,r,G,si,k⟩:=wZ i hm hk h;exact⟨v,h1,h2,k [] G H (Grow.refl si.gok) .nil⟩
def appD:D->List D->Option D
|.lst ds,[d]=>if ds.length<sizeLine then some (.lst (ds++[d]))else none
|_,_=>none
theorem jR{K:W.Frag}:fD K vY appD:=by
 intro G H a d vs ds d' Q gk ow rs e q;unfold appD at e;split at e
 .split at e
  .rename_i hl;cases e;cases ow.ob with
  |lst r s=>cases rs with
   |cons r1 t=>cases t;have:=Paired.length s;exact⟨a,_,_,rfl,rfl,r,by omega,q _ (.lst cj (Paired.snoc s r1))⟩
  .cases e
 .cases e
def clrD:D->List D->Option D
|.lst _,[]=>some (.lst [])
|_,_=>none
theorem AU{K:W.Frag}:fD K vA clrD:=by
 intro G H a d vs ds d' Q gk ow rs e q;unfold clrD at e;split at e
 .cases e;cases ow.ob with
 |lst r s=>cases rs;exact⟨a,_,rfl,rfl,r,q _ (.lst cj .nil)⟩
 .cases e
theorem Paired.rev{α β:Type}{F:α->β->Prop}:∀{l:List α}{r:List β},Paired F l r->Paired F l.reverse r.reverse
|_,_,.nil=>.nil
|_,_,.cons h t=>by rw[Js,Js];exact Paired.snoc (Paired.rev t) h
def om(x:Int)(n:Nat):Nat:=if x<0 then(x+(n:Int)).toNat else min x.toNat n
def bu{α:Type}(xs:List α)(x:Int)(y:α):List α:=xs.take (om x xs.length)++y::xs.drop (om x xs.length)
def vZ:V->List V->Hp->VK->Prop:=fun x vs H Q=>∃l xs i y,x=.ref l/\vs=[.int i,y]/\H l=some (.lst xs)/\-(2^63)<=i/\i<2^63/\xs.length<sizeLine/\Q .non (upd H l (.lst (bu xs i y)))
theorem EG:iC X "list.insert" vZ:=by
 intro pz s σ H x vs v us Q I rx rv h;obtain⟨l,xs,i,y,rfl,rfl,hH,h1,h2,hz,q⟩:=h;cases rx;obtain⟨u,w',rfl,⟨t,rfl⟩,ry⟩:=tu rv;obtain⟨z,its,n,r,hl,e⟩:=I.lstM hH;have hfit:¬(! MY i)=true:=by rw[fitsIndex_both h1 h2];exact j_
 refine MT Kr ⟨_,e,rfl⟩ PySem.F.entry_list_insert (PySem.F.args_list_insert_3 _ _ _) (AutoListH.list_insert_list_int_val_1 l its.toArray n i t w' hfit (by rw[p_];omega)) ⟨e,?_⟩;refine⟨.non,_,I.lset (its':=bu its i w') hH e ?_ ?_ ?_,rfl,q⟩
 .show((its.toArray.extract 0 (if i<0 then(i+((its.toArray.size:Nat):Int)).toNat else min i.toNat its.toArray.size)).push w'++its.toArray.extract (if i<0 then(i+((its.toArray.size:Nat):Int)).toNat else min i.toNat its.toArray.size))=(bu its i w').toArray;rw[p_];unfold bu om;generalize(if i<0 then(i+((its.length:Nat):Int)).toNat else min i.toNat its.length)=k;apply Array.ext';simp;exact KU (by rw[Mm];exact w_ _)
 .unfold bu;rw[hl];exact ai.append (r.take _) (.cons ry (r.drop _))
 .unfold bu;rw[GB,E_,IV,Mm];omega
def insD:D->List D->Option D
|.lst ds,[.int i,d]=>if ds.length<sizeLine/\-(2^63)<=i/\i<2^63 then some (.lst (bu ds i d))else none
|_,_=>none
theorem AH{α β:Type}{F:α->β->Prop}{l:List α}{r:List β}{x:α}{y:β}(h:Paired F l r)(i:Int)(hxy:F x y):Paired F (bu l i x) (bu r i y):=by unfold bu;rw[Paired.length h];exact Paired.app (Paired.tk _ h) (.cons hxy (Paired.dr _ h))
theorem AI{K:W.Frag}:fD K vZ insD:=by
 intro G H a d vs ds d' Q gk ow rs e q;unfold insD at e;split at e
 .split at e
  .rename_i hl;cases e;cases ow.ob with
  |lst r s=>cases rs with
   |cons r1 t=>cases t with
    |cons r2 t=>cases t;have:=Paired.length s;exact⟨a,_,_,_,rfl,by rw[r1.int gk],r,hl.2.1,hl.2.2,by omega,q _ (.lst cj (AH s _ r2))⟩
  .cases e
 .cases e
end
def dF:D->Bool
|.non=>true
|.bl _=>true
|.int _=>true
|.str _=>true
|_=>false
def fW:D->V
|.non=>.non
|.bl b=>.bl b
|.int i=>.int i
|.str x=>.str x
|_=>.non
def eR(a b:D):Bool:=gS (fW a) (fW b)
@[simp] theorem eqs_int(a b:Int):eR (.int a) (.int b)=(a==b):=rfl
@[simp] theorem eqs_str(a b:Str):eR (.str a) (.str b)=(a==b):=rfl
@[simp] theorem eqs_non_int(b:Int):eR .non (.int b)=false:=rfl
@[simp] theorem eqs_int_non(b:Int):eR (.int b) .non=false:=rfl
section
variable{K:W.Frag}{G:GH}{H:Hp}{v:V}{d:D}
theorem RB.flat(h:RB K G H v d)(gk:aC K G H)(hf:dF d=true):v=fW d/\gB v=true:=by cases d with
|non=>rw[h.non gk];exact⟨rfl,rfl⟩
|bl b=>rw[h.bl gk];exact⟨rfl,rfl⟩
|int i=>rw[h.int gk];exact⟨rfl,rfl⟩
|str x=>rw[h.str gk];exact⟨rfl,rfl⟩
|_=>cases hf
theorem Aa{xs:List V}{ds:List D}(h:bj K G xs ds)(gk:aC K G H)(hf:ds.all dF=true):xs=ds.map fW/\xs.all gB=true:=by induction h with
|nil=>exact⟨rfl,rfl⟩
|cons r t ih=>rw[Ko,GR]at hf;obtain⟨e1,e2⟩:=RB.flat (H:=H) r.rb gk hf.1;obtain⟨e3,e4⟩:=ih hf.2;exact⟨by rw[A_,<-e3,<-e1],by rw[Ko,e2,e4];rfl⟩
end
def c7:D->Option ap
|.int i=>some (.inl i)
|.str x=>some (.inr x)
|_=>none
def eh(kvs:List (ap×D))(k:ap):Bool:=kvs.any fun kv=>decide (kv.1=k)
def aY(kvs:List (ap×D))(k:ap):Option D:=(kvs.find? fun kv=>decide (kv.1=k)).map (·.2)
def iw(x c:D):Option Bool:=match c with
|.lst ds=>if dF x=true/\ds.all dF=true then some (ds.any fun y=>eR y x)else none
|.tup ds=>if dF x=true/\ds.all dF=true then some (ds.any fun y=>eR y x)else none
|.dic kvs=>(c7 x).map (eh kvs)
|.str y=>match x with
 |.str z=>some (!(Io y z 0 y.length 1).isEmpty)
 |_=>none
|_=>none
def c0(x c:D):Option D:=(iw x c).map fun b=>.bl (! b)
theorem tx{K:W.Frag}{G:GH}{k:ap}{ps:List (ap×V)}{kvs:List (ap×D)}(h:di K G ps kvs)(d:D)(e:aY kvs k=some d):∃v,bI ps k=some v/\RG K G v d:=by induction h with
|nil=>cases e
|@cons p q ps kvs r t ih=>
  obtain⟨k1,v1⟩:=p;obtain⟨k2,d2⟩:=q;obtain⟨e1,r1⟩:=r;have e1':k1=k2:=e1;subst e1';by_cases hk:k1=k
  .subst hk;have:d2=d:=by simpa[aY,GW]using e
   subst this;exact⟨v1,m7 rfl,r1⟩
  .have e':aY kvs k=some d:=by simpa[aY,GW,hk]using e
   obtain⟨v,h1,h2⟩:=ih e';exact⟨v,by rw[kN hk];exact h1,h2⟩
theorem EJ{K:W.Frag}{G:GH}{k:ap}{ps:List (ap×V)}{kvs:List (ap×D)}(h:di K G ps kvs)(e:aY kvs k=none):bI ps k=none:=by induction h with
|nil=>rfl
|@cons p q ps kvs r t ih=>
  obtain⟨k1,v1⟩:=p;obtain⟨k2,d2⟩:=q;obtain⟨e1,r1⟩:=r;have e1':k1=k2:=e1;subst e1';by_cases hk:k1=k
  .subst hk;simp[aY,GW]at e
  .have e':aY kvs k=none:=by simpa[aY,GW,hk]using e
   rw[kN hk];exact ih e'
theorem AF(kvs:List (ap×D))(k:ap):eh kvs k=(aY kvs k).isSome:=by induction kvs with
|nil=>rfl
|cons p r ih=>
  by_cases e:p.1=k
  .simp[eh,aY,GW,e]
  .have h1:eh (p::r) k=eh r k:=by simp[eh,e]
   have h2:aY (p::r) k=aY r k:=by simp[aY,GW,e]
   rw[h1,h2,ih]
theorem oS{K:W.Frag}{G:GH}{H:Hp}{v:V}{d:D}{k:ap}(gk:aC K G H)(h:RB K G H v d)(e:c7 d=some k):v=kV k:=by cases d with
|int i=>cases e;exact h.int gk
|str x=>cases e;exact h.str gk
|_=>cases e
section
variable{X:Cx}{g:GE}{m mb:List Md}{e a b o c:Expr}{f fa fb fc:FE}{pos pos':Pos}
def lG(neg:Bool):R2:=fun y x H Q=>∃a o,x=.ref a/\de H a y o/\Q (.bl (if neg then ! o.isSome else o.isSome)) H
theorem B2(hu:X.A.units+1<Ij):aV X (Hg .NotIn) (lG true):=by intro pz s σ H y x u v Q I ry rx h;obtain⟨a,oo,rfl,hg,q⟩:=h;cases rx;exact Cn hu I hg ry fun s' I'=>⟨.bl _,H,I',rfl,q⟩
def io(K:W.Frag)(neg:Bool):R2:=fun x y H Q=>yG K neg x y H Q\/lG neg x y H Q\/∃i j,x=.str i/\y=.str j/\Q (.bl (if neg then !(!(Io j i 0 j.length 1).isEmpty)else !(Io j i 0 j.length 1).isEmpty)) H
theorem B1(hu:X.A.units+1<Ij):aV X (Hg .NotIn) (io X.K true):=aV.or Fv (aV.or (B2 hu) Fw)
theorem Cq{K:W.Frag}(neg:Bool):cJ K (io K neg) (fun x c=>(iw x c).map fun b=>.bl (if neg then ! b else b)):=by
 intro G H v1 v2 d1 d2 d Q gk r1 r2 e q;have seq:∀{xs:List V}{ds:List D}{p:Addr},bj K G xs ds->v2=.ref p->(aL K H p xs\/bp K H p xs)->dF d1=true->ds.all dF=true->d=.bl (if neg then !(ds.any fun y=>eR y d1)else ds.any fun y=>eR y d1)->io K neg v1 v2 H Q:=fun{xs ds p} rs e2 hs hf hfs ed=>by
  obtain⟨e1,f1⟩:=RB.flat r1 gk hf;obtain⟨e3,f3⟩:=Aa rs gk hfs;refine .inl ⟨p,xs,e2,hs,f1,f3,q _ G H (Grow.refl gk) ?_⟩;have:nY v1 xs=ds.any fun y=>eR y d1:=by unfold nY;rw[e3,L8,e1];rfl
  rw[this,ed];exact .scl (.bl _)
 cases d2 with
|lst ds=>
  by_cases hc:dF d1=true/\ds.all dF=true
  .simp only[iw,if_pos hc,ID]at e;obtain⟨p,xs,e2,hs,rs⟩:=r2.lst gk;exact seq rs e2 (.inl hs) hc.1 hc.2 (Gw e).symm
  .simp only[iw,if_neg hc,MC]at e;cases e
|tup ds=>
  by_cases hc:dF d1=true/\ds.all dF=true
  .simp only[iw,if_pos hc,ID]at e;obtain⟨p,xs,e2,hs,rs⟩:=r2.tup gk;exact seq rs e2 (.inr hs) hc.1 hc.2 (Gw e).symm
  .simp only[iw,if_neg hc,MC]at e;cases e
|dic kvs=>simp only[iw]at e;cases ek:c7 d1 with
 |none=>rw[ek]at e;cases e
 |some k=>
   rw[ek]at e;cases e;obtain⟨p,ps,rfl,hs,rs⟩:=r2.dic gk;refine .inr (.inl ⟨p,bI ps k,rfl,by rw[oS gk r1 ek];exact .inl ⟨ps,k,hs,rfl,rfl⟩,q _ G H (Grow.refl gk) ?_⟩);have:(bI ps k).isSome=eh kvs k:=by rw[AF];cases eg:aY kvs k with
   |none=>rw[EJ rs eg];rfl
   |some d=>obtain⟨v,h1,_⟩:=tx rs d eg;rw[h1];rfl
   rw[this];exact .scl (.bl _)
|str y=>cases d1 with
 |str z=>cases e;exact .inr (.inr ⟨z,y,r1.str gk,r2.str gk,q _ G H (Grow.refl gk) (.scl (.bl _))⟩)
 |_=>cases e
|_=>cases e
theorem Av{K:W.Frag}:cJ K (io K true) c0:=by
 have h:=Cq (K:=K) true;have e:(fun x c=>(iw x c).map fun b=>D.bl (if true=true then ! b else b))=c0:=by funext x c;unfold c0;cases iw x c <;> rfl
 rw[e]at h;exact h
theorem sY(hu:X.A.units+1<Ij)(ha:SB X g m a fa)(hb:SB X g m b fb)(hm:IF .NotIn b=false:=by rfl):SQ X g m (.Compare a [.NotIn] [b] pos) (a9 (f2 fa fb c0)):=jO (B1 hu) Av ha hb hm
def yI:D->D->Option D
|.non,.non=>some (.bl true)
|_,.non=>some (.bl false)
|_,_=>none
def jw:D->D->Option D
|.non,.non=>some (.bl false)
|_,.non=>some (.bl true)
|_,_=>none
end
end DL
section
namespace DL
open PySem PySem.Spec PyProof.Rows L2
section
variable{X:Cx}{g:GE}{m mb:List Md}{e a b o c:Expr}{f fa fb fc:FE}{pos pos' p1 p2:Pos}{ro:Bool}{x:Str}
def lF:R2:=fun x y H Q=>∃a v,x=.ref a/\de H a y (some v)/\Q v H
theorem AK(hu:X.A.units+1<Ij):gy X lF:=by intro value slice pz s σ H x y v u Q I rx ry h hs;obtain⟨a,w,rfl,hg,q⟩:=h;cases rx;exact tail_any (Fj I hg) PySem.F.slot_dict_getitem.lookup (DI hu I hg ry fun w' s' I' rw'=>⟨w,H,I',rw',q⟩) hs
def az:D->D->Option D
|.dic kvs,k=>(c7 k).bind (aY kvs)
|c,k=>ixD c k
theorem AJ{K:W.Frag}:cJ K (fun x y H Q=>lF x y H Q\/rM K x y H Q) az:=by intro G H v1 v2 d1 d2 d Q gk r1 r2 e q;cases d1 with
|dic kvs=>obtain⟨a,ps,rfl,hs,rs⟩:=r1.dic gk;have e':(c7 d2).bind (aY kvs)=some d:=e;cases ek:c7 d2 with
 |none=>rw[ek]at e';cases e'
 |some k=>rw[ek]at e';obtain⟨v,h1,h2⟩:=tx rs d e';refine .inl ⟨a,v,rfl,?_,q v G H (Grow.refl gk) h2⟩;rw[oS gk r2 ek,<-h1];exact .inl ⟨ps,k,hs,rfl,rfl⟩
|lst ds=>exact .inr (oq G H v1 v2 _ d2 d Q gk r1 r2 e q)
|tup ds=>exact .inr (oq G H v1 v2 _ d2 d Q gk r1 r2 e q)
|str ds=>exact .inr (oq G H v1 v2 _ d2 d Q gk r1 r2 e q)
|_=>cases e
theorem gZ(hu:X.A.units+1<Ij)(ha:SB X g m a fa)(hb:SB X g m b fb)(hs:pc b:=by intro _ _;rfl):SE X g m (.Subscript a b pos) (f2 fa fb az):=ox AJ (zT (gy.or (AK hu) AL) ha hb hs)
theorem oP:SO X g m (.Dict [] [] pos) fun _=>.ok (.dic []):=PE.imp Eg fun σ H Q ⟨r,G,si,q⟩ p hp=>q p G _ (Grow.new si.gok hp _) hp ⟨si.gok.isN hp,.dic cj .nil⟩
def cQ(kvs:List (ap×D))(k:ap)(d:D):List (ap×D):=if (kvs.any fun kv=>decide (kv.1=k))=true then kvs.map fun kv=>if kv.1=k then(kv.1,d)else kv else kvs++[(k,d)]
theorem Dm{K:W.Frag}{G:GH}{k:ap}{ps:List (ap×V)}{kvs:List (ap×D)}(h:di K G ps kvs):(ps.any fun kv=>decide (kv.1=k))=kvs.any fun kv=>decide (kv.1=k):=by induction h with
|nil=>rfl
|cons r t ih=>rw[IG,IG,ih,r.1]
theorem zW{K:W.Frag}{G:GH}{ps:List (ap×V)}{kvs:List (ap×D)}{k:ap}{v:V}{d:D}(r:di K G ps kvs)(h:RG K G v d):di K G (putK ps k v) (cQ kvs k d):=by
 unfold putK cQ;rw[Dm r];by_cases hc:(kvs.any fun kv=>decide (kv.1=k))=true
 .rw[if_pos hc,if_pos hc];clear hc
  induction r with
 |nil=>exact .nil
 |@cons p q ps kvs r t ih=>
   refine .cons ?_ ih;obtain⟨p1,p2⟩:=p;obtain⟨q1,q2⟩:=q;have e:p1=q1:=r.1;subst e;by_cases hk:p1=k
   .simp only[hk,if_true,true_and];exact h
   .simp only[hk,if_false,true_and];exact r.2
 .rw[if_neg hc,if_neg hc];exact Paired.snoc r ⟨rfl,h⟩
def cH:D->D->D->Option D
|.lst ds,.int k,v=>(fq ds.length k).map fun j=>.lst (ds.set j v)
|.dic kvs,k,v=>(c7 k).bind fun k=>if kvs.length<sizeLine then some (.dic (cQ kvs k v))else none
|_,_,_=>none
def tf:V->V->V->Hp->(Hp->Prop)->Prop:=fun o i v H Q=>∃p H',o=.ref p/\eB H p i v H'/\Q H'
theorem ww(hu:X.A.units+1<Ij):dc X tf:=by intro pz s σ H o i v ov iv u Q I ro ri rv h;obtain⟨p,H',rfl,hp,q⟩:=h;cases ro;exact DJ hu I hp ri rv fun s' I'=>⟨H',I',q⟩
theorem dc.or{t t':iz}(h:dc X t)(h':dc X t'):dc X (fun o i v H Q=>t o i v H Q\/t' o i v H Q):=by
 intro pz s σ H o i v ov iv u Q I ro ri rv q;rcases q with q|q
 .exact h pz s σ H o i v ov iv u Q I ro ri rv q
 .exact h' pz s σ H o i v ov iv u Q I ro ri rv q
theorem uN{K:W.Frag}{G:GH}{H:Hp}{a:Addr}{d k v d':D}{kv vv:V}{Q:Hp->Prop}(gk:aC K G H)(ow:Own K G H a d)(rk:RB K G H kv k)(rv:RG K G vv v)(e:cH d k v=some d')(q:∀o',OwnO K G (upd H a o') a d'->Q (upd H a o')):tj (.ref a) kv vv H Q\/tf (.ref a) kv vv H Q:=by cases ow.ob with
|@lst xs ds r s=>cases k with
 |int k=>have e':(fq ds.length k).map (fun j=>D.lst (ds.set j v))=some d':=e;cases ej:fq ds.length k with
  |none=>rw[ej]at e';cases e'
  |some j=>rw[ej]at e';cases e';exact .inl ⟨a,xs,k,j,rfl,rk.int gk,r,by rw[Paired.length s];exact ej,q _ (.lst cj (Paired.st rv j s))⟩
 |_=>cases e
|@dic ps kvs r s=>have e':(c7 k).bind (fun k=>if kvs.length<sizeLine then some (D.dic (cQ kvs k v))else none)=some d':=e;cases ek:c7 k with
 |none=>rw[ek]at e';cases e'
 |some k'=>
   rw[ek]at e';have e2:(if kvs.length<sizeLine then some (D.dic (cQ kvs k' v))else none)=some d':=e';by_cases hl:kvs.length<sizeLine
   .rw[if_pos hl]at e2;cases e2;have:=Paired.length s;refine .inr ⟨a,_,rfl,?_,q _ (.dic cj (zW s rv))⟩;rw[oS gk rk ek];exact eB.k r (by omega)
   .rw[if_neg hl]at e2;cases e2
def putF(m:List Md)(i:Nat)(fk fv:FE):FS:=fun r=>dO m r (fv r) fun v=>match r[i]? with
|some (some d)=>dO m r (fk r) fun k=>(match cH d k v with
 |some d'=>.nx (r.set i (some d'))
 |none=>.stuck)
|_=>.stuck
theorem sS(i:Nat)(hu:X.A.units+1<Ij)(hm:m[i]? = some .ow)(hN:X.N[i]? = some x)(hv:dC X.env.scope x)(hk:SB X g m b fb)(he:SE X g m e f)(hd:(x==("__debug__" : Str))=false:=by decide)(hcd:(x==("__classdict__" : Str))=false:=by decide)(ha:∀v,Jz (.Subscript (.Name x p1) b p2) X.env v=(do
   let ov <-Je [v] (eval (.Name x p1) X.env);let iv <-Je [v,ov] (eval b X.env)
   L0 p2
   Je [v,ov,iv] (MK ov iv v)
   release [v,ov,iv] []):=by intro _;rfl)(hs:LC [.Subscript (.Name x p1) b p2] e pos.line X.env=pure false:=by rfl)(hw:LD [.Subscript (.Name x p1) b p2] e X.env=pure none:=by rfl)(h1:(Hu [.Subscript (.Name x p1) b p2] X.env).map (·.2)=[Jz (.Subscript (.Name x p1) b p2) X.env]:=by rfl):SS X g ro mb m (.Assign [.Subscript (.Name x p1) b p2] e pos) (putF m i fb f) m:=by refine⟨rfl,PS.imp (uC he (uB (fO hN hv hd hcd) hk (dc.or xi (ww hu)) ha) hs hw h1) fun D0 σ H ⟨r,G,si,k⟩=>⟨r,G,si,?_⟩⟩;refine aK (dI si rfl k) fun v k1 vv G1 H1 w1 rv=>?_;cases er:r[i]? with
|none=>simp only[er]at k1;exact(show False from k1).elim
|some oo=>cases oo with
 |none=>simp only[er]at k1;exact(show False from k1).elim
 |some d=>simp only[er]at k1;obtain⟨a,h1,h2,h3⟩:=(si.grow w1).mut hm er;refine⟨_,h1,r,G1,si.grow w1,?_⟩;refine aK (dI (m:=m) (si.grow w1) rfl (aX.gle k1 w1.ge)) fun kk k2 kv G2 H2 w2 rk=>?_;cases es:cH d kk v with
  |none=>simp only[es]at k2;exact(show False from k2).elim
  |some d'=>simp only[es]at k2;obtain⟨a',h1',h2',h3'⟩:=((si.grow w1).grow w2).mut hm er;rw[h1]at h1';cases h1';exact uN w2.ok h2' rk (rv.mono w2.ge) es fun o' ob=>k2 σ G2 _ w2.ge (h3' o' d' ob)
end
mutual
def aJ:D->PyData
|.non=>.none
|.bl b=>.bool b
|.int i=>.int i
|.str x=>.str x
|.tup ds=>.tuple (zdR ds)
|.lst ds=>.list (zdR ds)
|.dic _=>.none
|.obj _ _=>.none
def zdR:List D->List PyData
|[]=>[]
|d::ds=>aJ d::zdR ds
end
def bi:Nat->D->Prop
|_,.non=>True
|_,.bl _=>True
|_,.int _=>True
|_,.str x=>PyData.strOk x=true
|0,.tup _=>False
|0,.lst _=>False
|k+1,.tup ds=>∀d∈ds,bi k d
|k+1,.lst ds=>∀d∈ds,bi k d
|_,.dic _=>False
|_,.obj _ _=>False
theorem pK{k:Nat}{ds:List D}:bi (k+1) (.lst ds)↔∀d∈ds,bi k d:=by simp only[bi]
theorem kF{k:Nat}{ds:List D}:bi (k+1) (.tup ds)↔∀d∈ds,bi k d:=by simp only[bi]
def jx(a b:D):Bool:=Jl (aJ a) (aJ b)
section
variable{X:Cx}{pz:List (Addr×Obj)}{σ:L2.St}{H:Hp}{s:e_}{G:GH}
theorem xX{k:Nat}(ih:∀(d:D)(v:V)(u:a_),bi k d->RG X.K G v d->L2.aj v u->∃as,Reads s.heap u (aJ d) as)(ds:List D)(vs:List V)(us:List a_)(h:∀d∈ds,bi k d)(r:bj X.K G vs ds)(q:ai vs us):∃as,ReadsAll s.heap us (zdR ds) as:=by induction r generalizing us with
|nil=>cases q;exact⟨[],.nil⟩
|cons r t ih'=>cases q with
 |cons r' t'=>obtain⟨a1,h1⟩:=ih _ _ _ (h _ i_) r r';obtain⟨a2,h2⟩:=ih' _ (fun x hx=>h x (g_ _ hx)) t';exact⟨a1++a2,.cons h1 h2⟩
theorem mX(I:Inv X pz σ H s)(gk:aC X.K G H):∀(k:Nat)(d:D)(v:V)(u:a_),bi k d->RB X.K G H v d->L2.aj v u->∃as,Reads s.heap u (aJ d) as:=by
 intro k
 induction k with
|zero=>intro d v u hs r ru;cases d with
 |non=>rw[r.non gk]at ru;cases ru;exact⟨_,.none⟩
 |bl b=>rw[r.bl gk]at ru;cases ru;exact⟨_,.bool b⟩
 |int i=>rw[r.int gk]at ru;obtain⟨t,rfl⟩:=ru;exact⟨_,.int i t⟩
 |str x=>rw[r.str gk]at ru;obtain⟨t,rfl⟩:=ru;exact⟨_,.str x t⟩
 |tup _=>unfold bi at hs;exact hs.elim
 |lst _=>unfold bi at hs;exact hs.elim
 |dic _=>unfold bi at hs;exact hs.elim
 |obj _ _=>unfold bi at hs;exact hs.elim
|succ k ih=>intro d v u hs r ru;cases d with
 |non=>rw[r.non gk]at ru;cases ru;exact⟨_,.none⟩
 |bl b=>rw[r.bl gk]at ru;cases ru;exact⟨_,.bool b⟩
 |int i=>rw[r.int gk]at ru;obtain⟨t,rfl⟩:=ru;exact⟨_,.int i t⟩
 |str x=>rw[r.str gk]at ru;obtain⟨t,rfl⟩:=ru;exact⟨_,.str x t⟩
 |tup ds=>obtain⟨a,xs,rfl,sq,rs⟩:=r.tup gk;cases ru;obtain⟨its,rv,pl,_⟩:=I.tuple sq;obtain⟨o,ho,hc,n,hd⟩:=pl;obtain⟨as,h⟩:=xX (k:=k) (fun d v u h1 h2 h3=>ih d v u h1 h2.rb h3) ds xs its (kF.mp hs) rs rv;refine⟨as,?_⟩;unfold aJ;exact .tuple ho hc hd (by simpa using h)
 |lst ds=>obtain⟨a,xs,rfl,sq,rs⟩:=r.lst gk;cases ru;obtain⟨its,rv,pl,_⟩:=I.list sq;obtain⟨o,ho,hc,n,hd⟩:=pl.isList;obtain⟨as,h⟩:=xX (k:=k) (fun d v u h1 h2 h3=>ih d v u h1 h2.rb h3) ds xs its (pK.mp hs) rs rv;refine⟨a::as,?_⟩;unfold aJ;exact .list ho hc hd (by simpa using h)
 |dic _=>unfold bi at hs;exact hs.elim
 |obj _ _=>unfold bi at hs;exact hs.elim
theorem pJ{k:Nat}(ih:∀d,bi k d->Hd (aJ d)=true/\Hw (aJ d)<=k):∀ds:List D,(∀d∈ds,bi k d)->Kk (zdR ds)=true/\K9 (zdR ds)<=k
|[],_=>by unfold zdR Kk K9;exact⟨rfl,GL _⟩
|d::ds,h=>by obtain⟨a1,a2⟩:=ih d (h d i_);obtain⟨b1,b2⟩:=pJ ih ds fun x hx=>h x (g_ _ hx);unfold zdR Kk K9;rw[a1,b1];exact⟨rfl,Nat.max_le.mpr ⟨a2,b2⟩⟩
theorem Bb:∀(k:Nat)(d:D),bi k d->Hd (aJ d)=true/\Hw (aJ d)<=k:=by
 intro k
 induction k with
|zero=>intro d hs;cases d with
 |non=>unfold aJ Hd Hw;exact⟨rfl,GL _⟩
 |bl b=>unfold aJ Hd Hw;exact⟨rfl,GL _⟩
 |int i=>unfold aJ Hd Hw;exact⟨rfl,GL _⟩
 |str x=>unfold bi at hs;unfold aJ Hd Hw;exact⟨hs,GL _⟩
 |tup _=>unfold bi at hs;exact hs.elim
 |lst _=>unfold bi at hs;exact hs.elim
 |dic _=>unfold bi at hs;exact hs.elim
 |obj _ _=>unfold bi at hs;exact hs.elim
|succ k ih=>intro d hs;cases d with
 |non=>unfold aJ Hd Hw;exact⟨rfl,GL _⟩
 |bl b=>unfold aJ Hd Hw;exact⟨rfl,GL _⟩
 |int i=>unfold aJ Hd Hw;exact⟨rfl,GL _⟩
 |str x=>unfold bi at hs;unfold aJ Hd Hw;exact⟨hs,GL _⟩
 |tup ds=>obtain⟨b1,b2⟩:=pJ ih ds (kF.mp hs);unfold aJ Hd Hw;exact⟨b1,Mo b2⟩
 |lst ds=>obtain⟨b1,b2⟩:=pJ ih ds (pK.mp hs);unfold aJ Hd Hw;exact⟨b1,Mo b2⟩
 |dic _=>unfold bi at hs;exact hs.elim
 |obj _ _=>unfold bi at hs;exact hs.elim
theorem m8{d:D}(h:bi 60 d):NS (aJ d)=true:=by obtain⟨a,b⟩:=Bb 60 d h;unfold NS;rw[a,decide_eq_true (GY b (by decide))];rfl
end
section
variable{X:Cx}{g:GE}{m mb:List Md}{e a b o c:Expr}{f fa fb fc:FE}{pos pos':Pos}
def g6(a b:D):Bool:=dF a&&dF b&&im (fW a) (fW b)
open Classical in
def dz(a b:D):Option Bool:=if g6 a b=true then some (eR a b)else if bi 60 a/\bi 60 b then some (jx a b)else none
def eqD(a b:D):Option D:=(dz a b).map .bl
def neD(a b:D):Option D:=(dz a b).map fun c=>.bl (! c)
theorem wQ{a b:D}(h:g6 a b=false)(h1:bi 60 a)(h2:bi 60 b):dz a b=some (jx a b):=by unfold dz;rw[if_neg (by rw[h];exact j_),if_pos ⟨h1,h2⟩]
theorem kP{a b:D}(h:g6 a b=true):dz a b=some (eR a b):=by unfold dz;rw[if_pos h]
@[simp] theorem eqB_int(a b:Int):dz (.int a) (.int b)=some (a==b):=kP rfl
@[simp] theorem eqB_str(a b:Str):dz (.str a) (.str b)=some (a==b):=kP rfl
@[simp] theorem eqB_non_int(b:Int):dz .non (.int b)=some false:=kP rfl
@[simp] theorem eqB_int_non(b:Int):dz (.int b) .non=some false:=kP rfl
@[simp] theorem eqB_non_non:dz .non .non=some true:=kP rfl
theorem xh{a b:D}(h:im (fW a) (fW b)=true)(fa:dF a=true)(fb:dF b=true):decide (fW a=fW b)=eR a b:=by
 cases a <;> cases b <;> first
  |exact absurd (show false=true from fa) j_
  |exact absurd (show false=true from fb) j_
  |exact absurd (show false=true from h) j_
  |exact pj
  |exact oM
  |exact pk
  |rfl
  |simp[fW,eR,gS]
def mK(K:W.Frag)(neg:Bool):R2:=fun x y H Q=>∃(G:GH)(d1 d2:D),aC K G H/\RB K G H x d1/\RB K G H y d2/\bi 60 d1/\bi 60 d2/\Q (.bl (if neg then ! jx d1 d2 else jx d1 d2)) H
theorem xF(hu:X.A.units+64<Ij):aV X (Hg .Eq) (mK X.K false):=by intro pz s σ H x y v u Q I rx ry h;obtain⟨G,d1,d2,gk,r1,r2,s1,s2,q⟩:=h;obtain⟨as,h1⟩:=mX I gk 60 d1 x v s1 r1 rx;obtain⟨bs,h2⟩:=mX I gk 60 d2 y u s2 r2 ry;exact SeqAt.compareEq_shaped h1 h2 (m8 s1) (m8 s2) hu ⟨.bl _,H,I,rfl,q⟩
theorem Em(hu:X.A.units+64<Ij):aV X (Hg .NotEq) (mK X.K true):=by intro pz s σ H x y v u Q I rx ry h;obtain⟨G,d1,d2,gk,r1,r2,s1,s2,q⟩:=h;obtain⟨as,h1⟩:=mX I gk 60 d1 x v s1 r1 rx;obtain⟨bs,h2⟩:=mX I gk 60 d2 y u s2 r2 ry;exact SeqAt.compareNe_shaped h1 h2 (m8 s1) (m8 s2) hu ⟨.bl _,H,I,rfl,q⟩
theorem eq_cases{a b:D}{c:Bool}(h:dz a b=some c):(g6 a b=true/\c=eR a b)\/(bi 60 a/\bi 60 b/\c=jx a b):=by
 unfold dz at h;split at h
 .rename_i hs;cases h;exact .inl ⟨hs,rfl⟩
 .split at h
  .rename_i hs;cases h;exact .inr ⟨hs.1,hs.2,rfl⟩
  .cases h
theorem sF{K:W.Frag}:cJ K (fun x y H Q=>yH x y H Q\/mK K false x y H Q) eqD:=by intro G H v1 v2 d1 d2 d Q gk r1 r2 e q;unfold eqD at e;cases ec:dz d1 d2 with
|none=>rw[ec]at e;cases e
|some c=>
  rw[ec]at e;cases e;rcases eq_cases ec with⟨hs,rfl⟩|⟨s1,s2,rfl⟩
  .unfold g6 at hs;rw[GR,GR]at hs;obtain⟨e1,_⟩:=RB.flat r1 gk hs.1.1;obtain⟨e2,_⟩:=RB.flat r2 gk hs.1.2;refine .inl ⟨by rw[e1,e2];exact hs.2,?_⟩;rw[e1,e2,xh hs.2 hs.1.1 hs.1.2];exact q _ G H (Grow.refl gk) (.scl (.bl _))
  .exact .inr ⟨G,d1,d2,gk,r1,r2,s1,s2,q _ G H (Grow.refl gk) (.scl (.bl _))⟩
theorem zI{K:W.Frag}:cJ K (fun x y H Q=>yF x y H Q\/mK K true x y H Q) neD:=by intro G H v1 v2 d1 d2 d Q gk r1 r2 e q;unfold neD at e;cases ec:dz d1 d2 with
|none=>rw[ec]at e;cases e
|some c=>
  rw[ec]at e;cases e;rcases eq_cases ec with⟨hs,rfl⟩|⟨s1,s2,rfl⟩
  .unfold g6 at hs;rw[GR,GR]at hs;obtain⟨e1,_⟩:=RB.flat r1 gk hs.1.1;obtain⟨e2,_⟩:=RB.flat r2 gk hs.1.2;refine .inl ⟨by rw[e1,e2];exact hs.2,?_⟩;rw[e1,e2,xh hs.2 hs.1.1 hs.1.2];exact q _ G H (Grow.refl gk) (.scl (.bl _))
  .exact .inr ⟨G,d1,d2,gk,r1,r2,s1,s2,q _ G H (Grow.refl gk) (.scl (.bl _))⟩
theorem fY(hu:X.A.units+64<Ij)(ha:SB X g m a fa)(hb:SB X g m b fb):SE X g m (.Compare a [.Eq] [b] pos) (f2 fa fb eqD):=oF (aV.or tq (xF hu)) sF ha hb (iK _)
theorem e8(hu:X.A.units+64<Ij)(ha:SB X g m a fa)(hb:SB X g m b fb):SQ X g m (.Compare a [.Eq] [b] pos) (a9 (f2 fa fb eqD)):=jO (aV.or tq (xF hu)) sF ha hb (iK _)
theorem du(hu:X.A.units+64<Ij)(ha:SB X g m a fa)(hb:SB X g m b fb):SQ X g m (.Compare a [.NotEq] [b] pos) (a9 (f2 fa fb neD)):=jO (aV.or zO (Em hu)) zI ha hb (iK _)
def jb(fa fb fc:FE)(k k':D->D->Option D):FE:=fun r=>(fa r).bind fun x=>(fb r).bind fun y=>(bz (k x y)).bind fun z=>(bz (gs z)).bind fun c=>if c=true then(fc r).bind fun w=>bz (k' y w)else .ok (.bl false)
def sZ(K:W.Frag):R2:=fun x y H Q=>∃l b xs zs,x=.ref l/\y=.ref b/\aL K H l xs/\aL K H b zs/\xs.length+zs.length<=sizeLine/\∀p,H p=none->Q (.ref p) (upd H p (.lst (xs++zs)))
theorem BX:aV X (Im .Add) (sZ X.K):=by
 intro pz s σ H x y v u Q I rx ry h;obtain⟨l,b,xs,zs,rfl,rfl,hH,hB,hz,q⟩:=h;cases rx;cases ry;obtain⟨its,r,pl,_⟩:=I.list hH;obtain⟨its2,r2,pl2,_⟩:=I.list hB;have l1:=r.length;have l2:=r2.length;obtain⟨⟨cls,dd,data,sl⟩,ho,hc,n,hd⟩:=pl.isList;obtain⟨⟨cls2,dd2,data2,sl2⟩,ho2,hc2,n2,hd2⟩:=pl2.isList;simp only at hc hd hc2 hd2;subst hc hd hc2 hd2;have e:its.toArray++its2.toArray=(its++its2).toArray:=by simp
 refine L5 ⟨_,ho,rfl⟩ ⟨_,ho2,rfl⟩ noFill_list_add seq_list_add PySem.F.slot_list_add PySem.F.entry_list_add (PySem.F.args_list_add_2 _ _) (list_addW _ _ its.toArray its2.toArray n n2 dd dd2 sl sl2 (by simp;omega)) ⟨ho,ho2,?_⟩;rw[e];exact⟨.ref _,_,I.lnew (t':=s.toks) (r.append r2) (by rw[GB];omega),rfl,q _ I.fresh⟩
def addA:D->D->Option D
|.int a,.int b=>some (.int (a+b))
|.str a,.str b=>if a.length+b.length<=sizeLine then some (.str (a++b))else none
|.lst a,.lst b=>if a.length+b.length<=sizeLine then some (.lst (a++b))else none
|.tup (x::a),.tup b=>if (x::a).length+b.length<=sizeLine then some (.tup (x::a++b))else none
|_,_=>none
theorem Ce{K:W.Frag}:cJ K (fun x y H Q=>(∃i j,x=.int i/\y=.int j/\Q (.int (i+j)) H)\/(∃i j,x=.str i/\y=.str j/\i.length+j.length<=sizeLine/\Q (.str (i++j)) H)\/sZ K x y H Q\/td K x y H Q) addA:=by
 intro G H v1 v2 d1 d2 d Q gk r1 r2 e q;unfold addA at e;split at e
 .cases e;exact .inl ⟨_,_,r1.int gk,r2.int gk,q _ G H (Grow.refl gk) (.scl (.int _))⟩
 .split at e
  .rename_i hl;cases e;exact .inr (.inl ⟨_,_,r1.str gk,r2.str gk,hl,q _ G H (Grow.refl gk) (.scl (.str _))⟩)
  .cases e
 .split at e
  .rename_i hl;cases e;obtain⟨a,xs,rfl,s1,t1⟩:=r1.lst gk;obtain⟨b,ys,rfl,s2,t2⟩:=r2.lst gk;have l1:=Paired.length t1;have l2:=Paired.length t2;exact .inr (.inr (.inl ⟨a,b,xs,ys,rfl,rfl,s1,s2,by omega,fun p hp=>q _ _ _ (Grow.newF gk hp (.lst (.inl cj) (Paired.app t1 t2))) (.ref cq)⟩))
  .cases e
 .split at e
  .rename_i x0 a0 b0 hl;cases e;rcases r1 with r1|⟨a',_,oo⟩
   .obtain⟨a,xs,rfl,s1,t1⟩:=r1.tup gk;obtain⟨b,ys,rfl,s2,t2⟩:=r2.tup gk;have l1:=Paired.length t1;have l2:=Paired.length t2;refine .inr (.inr (.inr ⟨a,b,xs,ys,rfl,rfl,s1,s2,?_,by omega,fun hy=>?_,fun _ p hp=>q _ _ _ (Grow.newF gk hp (.tup (.inl cj) (Paired.app t1 t2))) (.ref cq)⟩))
    .rintro rfl
     cases t1
    .subst hy;cases t2;refine q _ G H (Grow.refl gk) ?_;rw[Jf];exact r1
   .cases oo.ob
  .cases e
 .cases e
theorem dX(ha:SB X g m a fa)(hb:SB X g m b fb):SE X g m (.BinOp a .Add b pos) (f2 fa fb addA):=iF (aV.or BJ (aV.or ET (aV.or BX BY))) Ce ha hb
end
end DL
end
namespace DL
open PySem PySem.Spec PyProof.Rows L2
structure DefAt(K:W.Frag)(mg:Str->Option a_)(x:Str)(st:Stmt):Prop where
 ex:∃f fd,mg x=some (.ref f)/\Fun K x x st f fd
structure Callee(P:u_)(w:Gz)(K:W.Frag)(mg:Str->Option a_)(base:Heap)(x:Str)(ps:List Str)(ds:List a_)(k:Nat)(ro:Bool)(ms:List Md)(F:List D->Res D):Prop where
 ex:∃f fd,mg x=some (.ref f)/\W.keepIn K (.ref f)=true/\dj K fd ps ds/\FnOk P w K mg base bH k f fd ps (fI K ro ms F)
section
variable{P:u_}{w:Gz}{K:W.Frag}{mg:Str->Option a_}{base:Heap}
theorem Ar{x:Str}{st:Stmt}{N ps:List Str}{k:Nat}{ro:Bool}{ms:List Md}{fs:FS}{m':List Md}(A:DefAt K mg x st)(S:FnScope N ps (aB st))(hms:ms.length=ps.length)(hb:∀(kV doc pm:a_)(an:Option Addr)(cdv ct:a_)(us:List a_),us.length=ps.length->Lj (W.fnOf x x (gM st) (dW st) (aB st) .none kV doc pm an cdv ct) ⟨us,[]⟩=pure (ps.zip us))(hbody:∀(f:Addr)(cdv:a_)(A:GP)(outer:List Env)(s:e_)(H:Hp)(g:GE)(E:XK),Room k (A.deeper (JB x (aB st) s.heap.objs.size f cdv)) ->eu (bb bH P w K mg base N x (aB st) f cdv A outer s H E).nox g ro [] (cW N.length ms) (dW st) fs m'):Callee P w K mg base x ps [] (k+1) ro ms fun ds=>aH ro (fs (aT N.length ds)):=by obtain⟨f,fd,h1,F⟩:=A.ex;exact⟨f,fd,h1,F.kp,F.binds hb,tF F S hms (hbody f)⟩
structure DefAtD(K:W.Frag)(mg:Str->Option a_)(x:Str)(st:Stmt)(dds:List a_):Prop where
 ex:∃(f T:Addr)(o:Obj)(n:Nat)(oc:a_)(od:Option Addr)(kV doc pm:a_)(an:Option Addr)(cdv ct:a_)(osl:Array (Option a_)),mg x=some (.ref f)/\K.lookup T=some o/\o.data=.seq dds.toArray n/\K.lookup f=some ⟨oc,od,.func (W.fnOf x x (gM st) (dW st) (aB st) (.ref T) kV doc pm an cdv ct),osl⟩/\W.codeIn K cdv x=true/\W.keepIn K (.ref f)=true
end
section
variable{X:Cx}{g:GE}{m:List Md}{e:Expr}{es:List Expr}{fl:af->Res (List D)}{k:Nat}{ps:List Str}{F:List D->Res D}{dvs:List V}{ds:List a_}{dds:List D}{x:Str}{p pos:Pos}{i:Nat}{ms ms':List Md}
theorem AS(c:Callee X.prog X.w X.K X.mg X.base x ps ds k false ms' F)(hr:Room k X.A)(ha:fJ X g m (e::es) ms fl)(hms:ms'=ms++GT dds.length .sh:=by rfl)(hg:Gl X x:=by rfl)(hd:ai dvs ds:=by exact .nil)(hsc:Paired Scl dvs dds:=by exact .nil)(hdb:(x==("__debug__" : Str))=false:=by decide)(he:k_ (e::es) X.env=(false,eval e X.env)::k_ es X.env:=by rfl)(hpl:(backTo pos (k_ es X.env)).any (·.1)=false:=by rfl):SE X g m (.Call (.Name x p) (e::es) [] pos) (aG fl dds F):=by subst hms;obtain⟨f,fd,h1,h2,h3,h4⟩:=c.ex;exact A5 h4 hr hg h1 h2 h3 hd hsc ha hdb he hpl
theorem Ch(c:Callee X.prog X.w X.K X.mg X.base x ps ds k true ms' F)(hr:Room k X.A)(ha:fJ X g m (e::es) ms fl)(hms:ms'=ms++GT dds.length .sh:=by rfl)(hg:Gl X x:=by rfl)(hd:ai dvs ds:=by exact .nil)(hsc:Paired Scl dvs dds:=by exact .nil)(hdb:(x==("__debug__" : Str))=false:=by decide)(he:k_ (e::es) X.env=(false,eval e X.env)::k_ es X.env:=by rfl)(hpl:(backTo pos (k_ es X.env)).any (·.1)=false:=by rfl):SE X g m (.Call (.Name x p) (e::es) [] pos) (aG fl dds F):=by subst hms;obtain⟨f,fd,h1,h2,h3,h4⟩:=c.ex;exact C3 h4 hr hg h1 h2 h3 hd hsc ha hdb he hpl
theorem Cm(c:Callee X.prog X.w X.K X.mg X.base x ps ds k true ms' F)(hr:Room k X.A)(ha:fJ X g m (e::es) ms fl)(hms:ms'=ms++GT dds.length .sh:=by rfl)(hg:Gl X x:=by rfl)(hd:ai dvs ds:=by exact .nil)(hsc:Paired Scl dvs dds:=by exact .nil)(hdb:(x==("__debug__" : Str))=false:=by decide)(he:k_ (e::es) X.env=(false,eval e X.env)::k_ es X.env:=by rfl)(hpl:(backTo pos (k_ es X.env)).any (·.1)=false:=by rfl):SO X g m (.Call (.Name x p) (e::es) [] pos) (gm (aG fl dds F)):=by subst hms;obtain⟨f,fd,h1,h2,h3,h4⟩:=c.ex;exact BF h4 hr hg h1 h2 h3 hd hsc ha hdb he hpl
theorem v_(i:Nat)(hm:m[i]? = some .sh:=by rfl)(hN:X.N[i]? = some x:=by rfl)(hv:dC X.env.scope x:=by first|exact Or.inl rfl|exact Or.inr (Or.inl rfl)|exact Or.inr (Or.inr rfl))(hd:(x==("__debug__" : Str))=false:=by decide)(hcd:(x==("__classdict__" : Str))=false:=by decide):SE X g m (.Name x p) fun r=>cA r i:=zh i hm hN hv hd hcd
theorem ag(i:Nat)(hm:i<m.length:=by decide)(hN:X.N[i]? = some x:=by rfl)(hv:dC X.env.scope x:=by first|exact Or.inl rfl|exact Or.inr (Or.inl rfl)|exact Or.inr (Or.inr rfl))(hd:(x==("__debug__" : Str))=false:=by decide)(hcd:(x==("__classdict__" : Str))=false:=by decide):SB X g m (.Name x p) fun r=>cA r i:=A9 i hm hN hv hd hcd
end
def pf(osc:Ii)(ON:List Str)(sc:Ii)(N':List Str)(nl:Nat)(cap:List Nat):Bool:=decide (sc.kind=.function)&&sc.names.all (fun y=>decide (y.2≠.cell))&&sc.names.all (fun y=>decide (y.2≠.local) || decide (sc.names.lookup y.1=some .local)) &&
 sc.names.all (fun y=>decide (y.2≠.free) || (decide (osc.names.lookup y.1=some .cell) || decide (osc.names.lookup y.1=some .free)))&&decide (N'.length=nl+cap.length) &&
 (f_ cap.length).all fun j=>match N'[nl+j]?,ON[cap.getD j 0]? with
 |some x,some y=>decide (x=y)&&decide (sc.names.lookup x=some .free)
 |_,_=>false
theorem fU{X:Cx}{osc:Ii}{ON:List Str}{sc:Ii}{N':List Str}{nl:Nat}{cap:List Nat}(h1:X.env.scope=osc)(h2:X.N=ON)(h:pf osc ON sc N' nl cap=true):CompSc X sc N' nl cap:=by subst h1 h2;unfold pf at h;simp only[GR,Iu,decide_eq_true_eq,Bool.or_eq_true]at h;obtain⟨⟨⟨⟨⟨a1,a2⟩,a3⟩,a4⟩,a5⟩,a6⟩:=h;refine⟨a1,a2,fun y hy hl=>(a3 y hy).resolve_left fun z=>z hl,fun y hy hf=>(a4 y hy).resolve_left fun z=>z hf,a5,fun j hj=>?_⟩;have h6:=a6 j (z_.mpr hj);cases e1:N'[nl+j]? with
|none=>rw[e1]at h6;cases h6
|some x=>cases e2:X.N[cap.getD j 0]? with
 |none=>rw[e1,e2]at h6;cases h6
 |some y=>rw[e1,e2]at h6;simp only[GR,decide_eq_true_eq]at h6;exact⟨x,rfl,by rw[h6.1],h6.2⟩
section
variable{X:Cx}{g:GE}{m mb:List Md}{e a b c:Expr}{f fa fb fc:FE}{pos pos':Pos}
theorem Fb{R R':R2}{k k':D->D->Option D}(ho:cJ X.K R k)(ho':cJ X.K R' k'){σ:L2.St}{H:Hp}{Q:VK}(h:tE X g m (jb fa fb fc k k') σ H Q):uP R R' (tB X g m fa) (tB X g m fb) (tB X g m fc) σ H Q:=by obtain⟨r,G,si,q⟩:=h;refine jp si q fun d1 d2 v1 v2 G2 H2 w r1 r2 q2=>?_;obtain⟨z,ez,q3⟩:=cu (aU q2);obtain⟨cc,ec,q4⟩:=cu (aU q3);refine ho G2 H2 v1 v2 d1 d2 z _ w.ok r1 r2 ez fun v G3 H3 w3 rv=>?_;cases z with
|bl b'=>cases ec;refine⟨_,rv.bl w3.ok,?_⟩;cases cc with
 |false=>rw[if_neg j_]at q4 ⊢;exact q4 _ G3 H3 (w.trans w3) (.scl (.bl _))
 |true=>rw[if_pos rfl]at q4 ⊢;refine⟨r,G3,(si.grow w).grow w3,fV (aU q4) (w.trans w3) fun d3 q5 v3 G4 H4 w4 r3=>?_⟩;obtain⟨d,e,q6⟩:=cu q5;exact ho' G4 H4 v2 v3 d2 d3 d Q w4.ok ((r2.mono w3).mono w4) r3 e fun v G' H' w' z=>q6 v G' H' (((w.trans w3).trans w4).trans w') z
|_=>cases ec
theorem CU{σ:L2.St}{H:Hp}{Q:Bool->Hp->Prop}(h:tQ X g m (a9 f) σ H Q):tE X g m f σ H fun x H'=>∃k,x=.bl k/\Q k H':=by obtain⟨r,G,si,q⟩:=h;refine⟨r,G,si,aK (aU q) fun d q1 v G' H' w rv=>?_⟩;obtain⟨b,e,q2⟩:=cu q1;cases d with
|bl b'=>cases e;exact⟨_,rv.bl w.ok,q2 G' H' w⟩
|_=>cases e
theorem xf{op op':NI}{R R':R2}{k k':D->D->Option D}(hr:aV X (Hg op) R)(hr':aV X (Hg op') R')(ho:cJ X.K R k)(ho':cJ X.K R' k')(ha:SB X g m a fa)(hb:SB X g m b fb)(hc:SB X g m c fc)(hm:lastMarks [op,op'] [b,c]=false:=by with_unfolding_all rfl):SQ X g m (.Compare a [op,op'] [b,c] pos) (a9 (jb fa fb fc k k')):=PT.imp (DP hr hr' ha hb hc hm) fun σ H Q h=>Fb ho ho' (CU h)
theorem zL{K:W.Frag}:cJ K (gO fun i j=>V.bl (decide (i<j))) gQ:=iM fun _ _=>.bl _
theorem oa{K:W.Frag}:cJ K (gO fun i j=>V.bl (decide (i<=j))) gR:=iM fun _ _=>.bl _
end
theorem ca{K:W.Frag}{h:Heap}{mg:Str->Option a_}{x:Str}{st:Stmt}(KX:K.In h)(G:h.Ns Hr mg){f:Addr}{oc:a_}{od an:Option Addr}{osl:Array (Option a_)}{kV doc pm cdv ct:a_}(a:W.nsIn K Hr x=some (some (.ref f)))(l:K.lookup f=some ⟨oc,od,.func (W.fnOf x x (gM st) (dW st) (aB st) .none kV doc pm an cdv ct),osl⟩)(c:W.codeIn K cdv x=true)(k:W.keepIn K (.ref f)=true):DefAt K mg x st:=⟨f,_,W.mg_of KX G a,AA l c k⟩
theorem yW{P:u_}{w:Gz}{K:W.Frag}{mg:Str->Option a_}{x p:Str}{st:Stmt}{k:Nat}{F:List D->Res D}{fa:Addr}(hfa:mg x=some (.ref fa))(A:DefAt K mg x st)(hb:∀(kV doc pm:a_)(an:Option Addr)(cdv ct:a_)(us:List a_),us.length=[p].length->Lj (W.fnOf x x (gM st) (dW st) (aB st) .none kV doc pm an cdv ct) ⟨us,[]⟩=pure ([p].zip us))(C:∀(f:Addr)(fd:HB),Fun K x x st f fd->∀base:Heap,FnOk P w K mg base bH k f fd [p] (fI K false [.sh] F)):∃fd:HB,(∀(s:e_)(u:a_),Ly s fd ⟨[u],[]⟩ [(p,u)])/\∀base:Heap,K.In base->base.Ns Hr mg->FnOk P w K mg base bH k fa fd [p] (fI K false [.sh] F):=by obtain⟨f,fd,h1,Fn⟩:=A.ex;rw[hfa]at h1;cases h1;refine⟨fd,fun s u=>?_,fun base _ _=>C fa fd Fn base⟩;obtain⟨oc,od,kV,doc,pm,an,cdv,ct,osl,rfl,lk,hcd⟩:=Fn.ex;exact .of_eq (hb kV doc pm an cdv ct [u] rfl)
theorem yV{l:W.OpenLaw}{k:Nat}{q:u_}{loose:List Str}{XP:(Str->Option a_)->Heap->Prop}{YP:Gz->Heap->Prop}{d:DefRec}{K:Params->W.Frag}{x:Str}{F:List D->Res D}(hn:l.most=some 63)(hdf:d.params.defaults=[])(hr:Room k KR)(hY:∀(w:Gz)(h:Heap),YP w h->(K w.params).In h)(hF:∀ns:List Int,ns.length<=63->F [.lst (ns.map .int)]=.ok (.bl true))(C:∀(w:Gz)(mg:Str->Option a_)(fa:Addr)(h:Heap),(K w.params).In h->h.Ns Hr mg->mg d.name=some (.ref fa) ->∃fd:HB,(∀(s:e_)(u:a_),Ly s fd ⟨[u],[]⟩ [(x,u)])/\∀base:Heap,(K w.params).In base->base.Ns Hr mg->FnOk l.prog w (K w.params) mg base bH k fa fd [x] (fI (K w.params) false [.sh] F)):W.WalkO q loose XP YP l.row.toRowW d [] (fun f vs=>MU f vs):=by
 refine L2.ij (n:=63) (k:=k) (x:=x) (CX:=fun _=>bH) (sp:=fun w=>fI (K w.params) false [.sh] F) hn (by decide) hdf hr hY C (fun w H a ns hl hO hS=>?_) fun _ _ _ _ _ z=>z;have intsP:∀(l:List Int),Paired Scl (l.map V.int) (l.map D.int):=fun l=>by induction l with
 |nil=>exact .nil
 |cons i l ih=>exact .cons (.int i) ih
 rcases hS with hS|hS
 .refine⟨fun b=>if b=a then some (.lst (ns.map D.int))else none,[.lst (ns.map .int)],fun b d' hb=>?_,.sh (.ref (if_pos rfl)) .nil,?_⟩
  .by_cases e:b=a
   .subst e;have hb':some (D.lst (ns.map D.int))=some d':=(if_pos rfl).symm.trans hb;cases hb';exact .lst hS (Paired.mono (fun _ _ z=>.scl z) (intsP ns))
   .have hb':(none:Option D)=some d':=(if_neg e).symm.trans hb;cases hb'
  .rw[hF ns hl];intro v G' H' w' rv;exact rv.bl w'.ok
 .refine⟨fun _=>none,[.lst (ns.map .int)],fun b d' hb=>(by cases hb),.sh (.kc (.lst (.inr hS) (intsP ns))) .nil,?_⟩;rw[hF ns hl];intro v G' H' w' rv;exact rv.bl w'.ok
section
open AutoSeq1 (wpAny_loadPart')
section
variable{prog:u_}{w:Gz}{A:GP}{E:a_->e_->Prop}{s:e_}
theorem F4{it t:Addr}{i:Nat}{items}{x:a_}{Q:a_->e_->Prop}(hit:s.heap.IsTupleIter it t i)(ht:s.heap.IsTuple t items)(hx:items[i]? = some x)(hQ:∀h',h'.IsTupleIter it t (i+1)->Jq it s.heap h'->Q x { s with heap:=h' }):B_ (Gy prog w) A (GV (.ref it)) Q E s:=by
 obtain⟨o,ho,hc,hd⟩:=id hit;obtain⟨ol,hol,_,nl,hdl⟩:=ht;unfold GV;refine c_ (Iv (name:=KW "__next__") hit.typeIs F.slot_tuple_iterator_next
  (JD F.slot_tuple_iterator_next hit.typeIs F.entry_tuple_iterator_next ?_ (F.args_tuple_iterator_next_1 _)))
 show B_ _ _ (MZ (.ref it) 0 >>= _) _ _ s;refine c_ (HD ho hd (x:=.ref t) rfl ?_);show B_ _ _ (if (Value.ref t==Value.none)=true then _ else _) _ _ s;rw[if_neg (show ¬ ((Value.ref t==Value.none)=true)from j_)];show B_ _ _ (MZ (.ref it) 1 >>= _) _ _ s;refine c_ (HD ho hd (x:=.int i 0) rfl ?_);show B_ _ _ (seqItems? (.ref t) >>= _) _ _ s;refine c_ (Hx hol hdl ?_);simp only[Kl,hx];refine c_ (wpAny_setField ho hd (by simp) (s_ ⟨x,rfl,s_ (hQ _ ?_ (I0 ..))⟩));exact⟨_,Jx _ ho (Obj.isFreed_of_fields (LP hd _)),(Obj.cls_mapFields ..).trans hc,by rw[LP hd];simp[KI]⟩
theorem FP{it t:Addr}{i:Nat}{items}{Q:a_->e_->Prop}(hh:A.handled=none)(hit:s.heap.IsTupleIter it t i)(ht:s.heap.IsTuple t items)(hx:items[i]? = none)(hE:∀h' e,N2 it s.heap h'->(∃o,h'.get? e=some o/\o.cls=.type "StopIteration")->E (.ref e) { s with heap:=h' }):B_ (Gy prog w) A (GV (.ref it)) Q E s:=by
 obtain⟨o,ho,hc,hd⟩:=id hit;obtain⟨ol,hol,_,nl,hdl⟩:=ht;unfold GV;refine c_ (Iv (name:=KW "__next__") hit.typeIs F.slot_tuple_iterator_next
  (JD F.slot_tuple_iterator_next hit.typeIs F.entry_tuple_iterator_next ?_ (F.args_tuple_iterator_next_1 _)))
 show B_ _ _ (MZ (.ref it) 0 >>= _) _ _ s;refine c_ (HD ho hd (x:=.ref t) rfl ?_);show B_ _ _ (if (Value.ref t==Value.none)=true then _ else _) _ _ s;rw[if_neg (show ¬ ((Value.ref t==Value.none)=true)from j_)];show B_ _ _ (MZ (.ref it) 1 >>= _) _ _ s;refine c_ (HD ho hd (x:=.int i 0) rfl ?_);show B_ _ _ (seqItems? (.ref t) >>= _) _ _ s;refine c_ (Hx hol hdl ?_);simp only[Kl,hx];refine c_ (M0 (c_ (wpAny_setField ho hd (by simp) ?_)));show B_ _ _ (newExc (.type "StopIteration") [] >>= _) _ _ _;refine c_ ?_;simp only[newExc,newTuple];refine c_ (Kj ?_ (by size_fits));refine c_ (m:=firstArgMember _ _) (wpAny_of_eq (a:=Value.none) (by first|rfl|(simp only[firstArgMember];rfl)) ?_);refine Kj ?_ (by size_fits);simp only[raiseNew];refine c_ (wpAny_handled ?_)
 first|rw[show A.in1.handled=none from hh]|rw[hh]
 refine c_ (s_ (wpAny_throw ?_));exact hE _ _ (((I0 ..).extBut.push _).push _) ⟨_,r_ _ rfl,rfl⟩
end
theorem oV{prog:u_}{w:Gz}{A:GP}(hh:A.handled=none)(it l:Addr)(hne:l≠it)(items:Array a_):LF prog w A it [it,l] items.size (fun i v=>items[i]? = some v) (fun i h=>h.IsTupleIter it l i/\h.IsTuple l items) where
 live:=fun _ _ st=>let⟨o,ho,_⟩:=st.1;⟨o,ho⟩
 frame:=fun _ _ _ st hk=>⟨let⟨o,ho,r⟩:=st.1;⟨o,hk it (by simp) o ho,r⟩,let⟨o,ho,r⟩:=st.2;⟨o,hk l (by simp) o ho,r⟩⟩
 item:=fun i s Q E hi st hQ=>by refine F4 st.1 st.2 (x:=items[i]) (by simp[hi]) fun h' hit' hs'=>?_;exact hQ _ h' s.toks (by simp[hi]) ⟨hit',st.2.extBut hs'.extBut hne⟩ hs'
 done:=fun s Q E st hE=>FP hh st.1 st.2 (by simp) hE
theorem FX(l:Addr)(items:Array a_)(n:Nat)(dct:Option Addr)(sl:Array (Option a_)) :
  Meets (JH.«enumerate.__new__» ⟨[.type "enumerate",.ref l],[]⟩) (fun _ R s=>s.heap.get? l=some { cls:=.type "tuple",dict:=dct,data:=.seq items n,slots:=sl } /\
   R (.ok (.ret (.ref (s.heap.push { cls:=.type "tuple_iterator",data:=.fields #[.ref l,.int 0 0] }).objs.size)))
    { s with heap:=(s.heap.push { cls:=.type "tuple_iterator",data:=.fields #[.ref l,.int 0 0] }).push { cls:=.type "enumerate",data:=.fields #[.none,.bool false,.ref s.heap.objs.size,KI 0,.none,.none] } }):=
 .of_wp fun prog w A R s h=>by
  obtain⟨hp,g,d,tk,os⟩:=s;obtain⟨hl,h⟩:=h;have hsub:=sub_enumerate;have hL:J0 (Iz ⟨hp,g,d,tk,os⟩) l items:=⟨_,hl,rfl,n,rfl⟩
  wp_walk using JT hl
  refine wpAny_stack_any fun st=>s_ ?_;split
  .rename_i c _ _ _ _ _;cases(c==Value.type "enumerate")
   .wp_walk using JT hl,Hc hL
    exact⟨_,rfl,h⟩
   .wp_walk using JT hl,Hc hL
    exact⟨_,rfl,h⟩
  .wp_walk using JT hl,Hc hL
   exact⟨_,rfl,h⟩
section
variable{prog:u_}{w:Gz}{A:GP}{E:a_->e_->Prop}{s:e_}
theorem FU{l:Addr}{items:Array a_}{Q:a_->e_->Prop}(hL:s.heap.IsTuple l items)(h:∀h',IsEnum h' (s.heap.objs.size+1) s.heap.objs.size 0 .none->h'.IsTupleIter s.heap.objs.size l 0->h'.objs.size=s.heap.objs.size+2 ->(∀b o,s.heap.get? b=some o->h'.get? b=some o)->Q (.ref (s.heap.objs.size+1)) { s with heap:=h' }):B_ (Gy prog w) A (call (.type "enumerate") [.ref l]) Q E s:=by
 obtain⟨⟨c,dct,dt,sl⟩,hl,hc,n,hd⟩:=hL;replace hc:c=.type "tuple" := hc;replace hd:dt=.seq items n:=hd;subst hc hd;refine J2 F.called_enumerate (by decide) (F.typeCall_enumerate_1 _) (F.newCall_enumerate_1 _) (fun obj=>F.args_object_init_2 obj _) F.entry_enumerate_new
  (FX l items n dct sl) ⟨hl,?_⟩
 have hz:(s.heap.push { cls:=.type "tuple_iterator",data:=.fields #[.ref l,.int 0 0] }).objs.size=s.heap.objs.size+1:=GX ..;show _/\_;rw[hz];have he:IsEnum ((s.heap.push { cls:=.type "tuple_iterator",data:=.fields #[.ref l,.int 0 0] }).push
   { cls:=.type "enumerate",data:=.fields #[.none,.bool false,.ref s.heap.objs.size,KI 0,.none,.none] }) (s.heap.objs.size+1) s.heap.objs.size 0 .none:=by
  have:=r_ (s.heap.push { cls:=.type "tuple_iterator",data:=.fields #[.ref l,.int 0 0] })
   (o:={ cls:=.type "enumerate",data:=.fields #[.none,.bool false,.ref s.heap.objs.size,KI 0,.none,.none] }) rfl
  rw[hz]at this;exact this
 refine⟨⟨_,he,rfl⟩,h _ he ⟨_,d_ _ (r_ _ rfl),rfl,rfl⟩ (by rw[GX,hz]) fun b o x=>d_ _ (d_ _ x)⟩
end
theorem qb{X:Cx}{pz:List (Addr×Obj)}{σ:L2.St}{H:Hp}{s:e_}{h':Heap}{ch:List Addr}{T:Addr}{o:HO}{t':Nat}(I:Inv X pz σ H s)(hch:∀b∈ch,cg X pz H b)(k:∀b ob,b∉ch->s.heap.get? b=some ob->h'.get? b=some ob)(hT:s.heap.objs.size<=T)(new:bC X.prog X.w (upd H T o) h' T o):Inv X pz σ (upd H T o) { s with heap:=h',toks:=t' }:=by
 have hTn:H T=none:=I.hok.fresh hT;have trk:∀b u,H b=some u->b∉ch:=fun b u e hb=>by rw[(hch b hb).1]at e;cases e
 have neT:∀b ob,s.heap.get? b=some ob->b≠T:=fun b ob e=>F_ (x_ (q_ e) hT);have keepU:∀b u,H b=some u->upd H T o b=some u:=fun b u e=>by rw[aN (jk e hTn)];exact e
 refine I.step (g':=s.gens) (d':=s.drawn) (ch:=ch) (fun b hb=>?_) (fun b ob _ _ hc e _=>k b ob hc e) (fun b ob _ _ hc e _=>⟨ob.slots,k b ob hc e⟩) (fun b ob hc e n=>by rw[aN (neT b ob e)];exact n)
  (fun b ob hc e=>⟨ob,k b ob hc e⟩) (fun b xs e=>keepU b _ e) (fun b ob u e=>keepU b _ e) (fun b ps e=>⟨#[],by rw[keepU b _ e];simp⟩) (fun m hm=>?_) (fun b u e=>?_) I.bare
 .obtain⟨z0,z1,z2,z3,z4,z5⟩:=hch b hb;exact⟨z3,z1,z4,z5⟩
 .obtain⟨ob,es,ep,ho,r⟩:=hm;exact⟨ob,es,ep,k _ ob (fun hb=>(hch _ hb).2.1 rfl) ho,r⟩
 .by_cases hb:b=T
  .subst hb;rw[cj]at e;cases e;exact new
  .rw[aN hb]at e;refine(I.hok b u e).stay (fun c v hc q=>k c v ?_ q) (fun c q=>keepU c _ q) fun c xs q=>keepU c _ q;rcases hc with z|z
   .rw[z];exact trk b u e
   .exact trk c _ z
def jE(sq:Hp->List V->Prop):It:=⟨fun i H=>∃xs x,sq H xs/\xs[i]? = some x,fun i H x H'=>∃p v,H p=none/\x=.ref p/\H'=upd H p (.tup [.int i,v])/\∀xs,sq H xs->xs[i]? = some v,fun i H=>∃xs,sq H xs/\xs.length=i⟩
theorem vS{P:u_}{w:Gz}{H:Hp}{h:Heap}{T:Addr}{i:Nat}{tk:Tok}{x:a_}{v:V}(hT:h.get? T=some { cls:=.type "tuple",data:=.seq #[.int i tk,x] })(r:L2.aj v x):bC P w H h T (.tup [.int i,v]):=⟨by show 2<=sizeLine;decide,[.int i tk,x],.cons ⟨tk,rfl⟩ (.cons r .nil),⟨_,hT,rfl,0,rfl⟩,_,hT,rfl⟩
theorem EY{P:u_}{w:Gz}{K:W.Frag}{elts:List Expr}{k:Nat}{pos:Pos}(a it e:Addr)(hei:e≠it):Turn P w K (.Tuple elts k pos) (jE fun H xs=>aL K H a xs) [e,it] e (fun i h=>(∃old,IsEnum h e it i old)/\h.IsListIter it a i) where
 mem:=by simp
 obj:=fun i h st b hb=>by
  obtain⟨⟨old,he⟩,o,ho,hc,hd⟩:=st;rcases n_.mp hb with rfl|hb
  .exact⟨_,he,fun v z=>by have z':Data.fields _=Data.cell v:=z;cases z'⟩
  .rw[y_.mp hb];exact⟨o,ho,fun v z=>by rw[hd]at z;cases z⟩
 keep:=fun i h h' st kk=>by obtain⟨⟨old,he⟩,hi⟩:=st;exact⟨⟨old,kk e (by simp) _ he⟩,hi.at fun o q=>kk it (by simp) o q⟩
 item:=by
  intro X hP hw hK hc i pz s σ H E I hf st hg;subst hP hw hK;obtain⟨xs,x,hq,hx⟩:=hg;obtain⟨its,rv,p,hz⟩:=I.list hq;obtain⟨⟨old,he⟩,hi⟩:=st;obtain⟨o1,ho1,hc1,hd1⟩:=id hi;obtain⟨o2,ho2,hc2,_⟩:=id p.isList;have hai:a≠it:=by rintro rfl;rw[ho1]at ho2;cases ho2;rw[hc1]at hc2;exact absurd hc2 (by decide)
  have hea:e≠a:=by rintro rfl;rw[he]at ho2;cases ho2;exact absurd (show Value.type "enumerate" = _ from hc2) (by decide)
  have hlt:i<its.toArray.size:=by have:=(h_.mp hx).1;rw[p_,<-rv.length];exact this
  refine KA (M4 (A:=X.A.in1) (show X.A.in1.handled=none from I.ok.hd hc) it a hai its.toArray) he ⟨hi,p.isList⟩ hlt hei (by simp[hei,hea]) fun y h' tk hP ho hs' hT hsz hk=>?_;refine⟨_,rfl,J_ ho fun h'' he'' hs''=>?_⟩;obtain⟨u,hu,ru⟩:=rv.get hx;have hy:y=u:=by
   have:its[i]? = some y:=by simpa using hP
   rw[hu]at this;exact(Gw this).symm
  subst hy;have hTe:s.heap.objs.size≠e:=HC (q_ he);have hT'':h''.get? s.heap.objs.size=some { cls:=.type "tuple",data:=.seq #[.int i tk,y] }:=(hs''.2 _ hTe).trans hT;refine⟨.ref s.heap.objs.size,upd H s.heap.objs.size (.tup [.int i,x]),qb (s:=s) (h':=h'') (t':=tk+1) (ch:=[e,it]) I hf (fun b ob hb q=>?_) (w_ _) (vS hT'' ru),rfl,⟨_,x,I.hok.fresh (w_ _),rfl,rfl,fun ys hy=>by rw[I.list_inj hy hq];exact hx⟩,⟨⟨_,by simpa using he''⟩,hs'.1.extBut hs''.extBut (H_ hei)⟩,fun b hb=>?_⟩
  .have hbe:b≠e:=fun z=>hb (by simp[z]);exact(hs''.2 b hbe).trans (hk b ob hbe (fun z=>hb (by simp[z])) q)
  .rw[aN ?_]
   .exact(hf b hb).1
   .rcases n_.mp hb with rfl|hb
    .exact F_ (q_ he)
    .rw[y_.mp hb];exact F_ (q_ ho1)
 done:=by
  intro X hP hw hK hc i pz s σ H E I hf st hg;subst hP hw hK;obtain⟨xs,hq,hx⟩:=hg;obtain⟨its,rv,p,hz⟩:=I.list hq;obtain⟨⟨old,he⟩,hi⟩:=st;obtain⟨o1,ho1,hc1,hd1⟩:=id hi;obtain⟨o2,ho2,hc2,_⟩:=id p.isList;have hai:a≠it:=by rintro rfl;rw[ho1]at ho2;cases ho2;rw[hc1]at hc2;exact absurd hc2 (by decide)
  obtain⟨f0,f1,f2,f3,f4,f5⟩:=hf it (by simp);have hn:its.toArray.size=i:=by rw[p_,<-rv.length];exact hx
  refine KY (M4 (A:=X.A.in1) (show X.A.in1.handled=none from I.ok.hd hc) it a hai its.toArray) he ⟨by rw[hn];exact hi,p.isList⟩ fun h' eb=>⟨rfl,I.turned (t':=s.toks) (fun b o hb q=>eb b o hb q) f0 f1 f3 f4 f5⟩
 self:=fun _ _ _ _ _ st h=>let⟨⟨_,he⟩,_⟩:=st;Jv he h
theorem IsTupleIter.at'{h h':Heap}{a t:Addr}{i:Nat}(x:h.IsTupleIter a t i)(hs:∀o,h.get? a=some o->h'.get? a=some o):h'.IsTupleIter a t i:=let⟨o,ho,r⟩:=x;⟨o,hs o ho,r⟩
theorem EZ{P:u_}{w:Gz}{K:W.Frag}{elts:List Expr}{k:Nat}{pos:Pos}(a it e:Addr)(hei:e≠it):Turn P w K (.Tuple elts k pos) (jE fun H xs=>bp K H a xs) [e,it] e (fun i h=>(∃old,IsEnum h e it i old)/\h.IsTupleIter it a i) where
 mem:=by simp
 obj:=fun i h st b hb=>by
  obtain⟨⟨old,he⟩,o,ho,hc,hd⟩:=st;rcases n_.mp hb with rfl|hb
  .exact⟨_,he,fun v z=>by have z':Data.fields _=Data.cell v:=z;cases z'⟩
  .rw[y_.mp hb];exact⟨o,ho,fun v z=>by rw[hd]at z;cases z⟩
 keep:=fun i h h' st kk=>by obtain⟨⟨old,he⟩,hi⟩:=st;exact⟨⟨old,kk e (by simp) _ he⟩,IsTupleIter.at' hi fun o q=>kk it (by simp) o q⟩
 item:=by
  intro X hP hw hK hc i pz s σ H E I hf st hg;subst hP hw hK;obtain⟨xs,x,hq,hx⟩:=hg;obtain⟨its,rv,p,hz⟩:=I.tuple hq;obtain⟨⟨old,he⟩,hi⟩:=st;obtain⟨o1,ho1,hc1,hd1⟩:=id hi;obtain⟨o2,ho2,hc2,_⟩:=id p;have hai:a≠it:=by rintro rfl;rw[ho1]at ho2;cases ho2;rw[hc1]at hc2;exact absurd hc2 (by decide)
  have hea:e≠a:=by rintro rfl;rw[he]at ho2;cases ho2;exact absurd (show Value.type "enumerate" = _ from hc2) (by decide)
  have hlt:i<its.toArray.size:=by have:=(h_.mp hx).1;rw[p_,<-rv.length];exact this
  refine KA (oV (A:=X.A.in1) (show X.A.in1.handled=none from I.ok.hd hc) it a hai its.toArray) he ⟨hi,p⟩ hlt hei (by simp[hei,hea]) fun y h' tk hP ho hs' hT hsz hk=>?_;refine⟨_,rfl,J_ ho fun h'' he'' hs''=>?_⟩;obtain⟨u,hu,ru⟩:=rv.get hx;have hy:y=u:=by
   have:its[i]? = some y:=by simpa using hP
   rw[hu]at this;exact(Gw this).symm
  subst hy;have hTe:s.heap.objs.size≠e:=HC (q_ he);have hT'':h''.get? s.heap.objs.size=some { cls:=.type "tuple",data:=.seq #[.int i tk,y] }:=(hs''.2 _ hTe).trans hT;refine⟨.ref s.heap.objs.size,upd H s.heap.objs.size (.tup [.int i,x]),qb (s:=s) (h':=h'') (t':=tk+1) (ch:=[e,it]) I hf (fun b ob hb q=>?_) (w_ _) (vS hT'' ru),rfl,⟨_,x,I.hok.fresh (w_ _),rfl,rfl,fun ys hy=>by rw[I.tuple_inj hy hq];exact hx⟩,⟨⟨_,by simpa using he''⟩,hs'.1.extBut hs''.extBut (H_ hei)⟩,fun b hb=>?_⟩
  .have hbe:b≠e:=fun z=>hb (by simp[z]);exact(hs''.2 b hbe).trans (hk b ob hbe (fun z=>hb (by simp[z])) q)
  .rw[aN ?_]
   .exact(hf b hb).1
   .rcases n_.mp hb with rfl|hb
    .exact F_ (q_ he)
    .rw[y_.mp hb];exact F_ (q_ ho1)
 done:=by
  intro X hP hw hK hc i pz s σ H E I hf st hg;subst hP hw hK;obtain⟨xs,hq,hx⟩:=hg;obtain⟨its,rv,p,hz⟩:=I.tuple hq;obtain⟨⟨old,he⟩,hi⟩:=st;obtain⟨o1,ho1,hc1,hd1⟩:=id hi;obtain⟨o2,ho2,hc2,_⟩:=id p;have hai:a≠it:=by rintro rfl;rw[ho1]at ho2;cases ho2;rw[hc1]at hc2;exact absurd hc2 (by decide)
  obtain⟨f0,f1,f2,f3,f4,f5⟩:=hf it (by simp);have hn:its.toArray.size=i:=by rw[p_,<-rv.length];exact hx
  refine KY (oV (A:=X.A.in1) (show X.A.in1.handled=none from I.ok.hd hc) it a hai its.toArray) he ⟨by rw[hn];exact hi,p⟩ fun h' eb=>⟨rfl,I.turned (t':=s.toks) (fun b o hb q=>eb b o hb q) f0 f1 f3 f4 f5⟩
 self:=fun _ _ _ _ _ st h=>let⟨⟨_,he⟩,_⟩:=st;Jv he h
end
def ik:D->Option String
|.non=>some "NoneType"
|.bl _=>some "bool"
|.int _=>some "int"
|.str _=>some "str"
|.tup _=>some "tuple"
|.lst _=>some "list"
|.dic _=>some "dict"
|.obj _ _=>none
def cN(t T:String):Bool:=t==T || (t == "bool" && T == "int")
def cz(T:String)(d:D):Option D:=(ik d).map fun t=>.bl (cN t T)
def yN(K:W.Frag)(x:V)(H:Hp)(t:String):Prop:=match x with
|.non=>t = "NoneType"
|.bl _=>t = "bool"
|.int _=>t = "int"
|.str _=>t = "str"
|.ref p=>(t = "list"/\∃xs,aL K H p xs)\/(t = "tuple"/\∃xs,bp K H p xs)\/(t = "dict"/\∃kvs,Rd H p (.dK kvs))
|_=>False
theorem CA{K:W.Frag}{G:GH}{H:Hp}{v:V}{d:D}{t:String}(gk:aC K G H)(h:RB K G H v d)(e:ik d=some t):yN K v H t:=by cases d with
|non=>cases e;rw[h.non gk];rfl
|bl b=>cases e;rw[h.bl gk];rfl
|int i=>cases e;rw[h.int gk];rfl
|str x=>cases e;rw[h.str gk];rfl
|tup ds=>cases e;obtain⟨a,xs,rfl,s,r⟩:=h.tup gk;exact .inr (.inl ⟨rfl,xs,s⟩)
|lst ds=>cases e;obtain⟨a,xs,rfl,s,r⟩:=h.lst gk;exact .inl ⟨rfl,xs,s⟩
|dic ds=>cases e;obtain⟨a,xs,rfl,s,r⟩:=h.dic gk;exact .inr (.inr ⟨rfl,xs,s⟩)
|obj _ _=>cases e
section
variable{X:Cx}{g:GE}{m:List Md}{e a:Expr}{f:FE}{pos p p2:Pos}
theorem Dr:dD X (.builtin "isinstance") (fun xs H Q=>∃x t T b,xs=[x,.ty T]/\yN X.K x H t/\W.kitOne X.K (.type t) (.type T)=some b/\Q (.bl b) H):=by
 intro pz s σ H xs us Q I r h;obtain⟨x,t,T,b,rfl,ty,e,q⟩:=h;obtain⟨u,w',rfl,rx,ry⟩:=tu r;cases ry;have fin:∀tk,EP X pz σ Q (.bool b) { s with toks:=tk }:=fun tk=>⟨.bl b,H,I.tok tk,rfl,q⟩
 cases x with
|non=>cases rx;cases(show t = "NoneType" from ty);exact W.kia_one W.kitx_none I.kIn True.intro e (fun z=>nomatch z) fin
|bl y=>cases rx;cases(show t = "bool" from ty);exact W.kia_one W.kitx_bool I.kIn True.intro e (fun z=>nomatch z) fin
|int i=>obtain⟨t,rfl⟩:=rx;cases ty;exact W.kia_one W.kitx_int I.kIn True.intro e (fun z=>nomatch z) fin
|str i=>obtain⟨t,rfl⟩:=rx;cases ty;exact W.kia_one W.kitx_str I.kIn True.intro e (fun z=>nomatch z) fin
|ref p=>
  cases rx;rcases ty with⟨rfl,xs,hq⟩|⟨rfl,xs,hq⟩|⟨rfl,kvs,hq⟩
  .obtain⟨its,_,pl,_⟩:=I.list hq;obtain⟨o,ho,hc,_⟩:=pl.isList;exact W.kia_one W.kitx_list I.kIn ⟨o,ho,hc⟩ e (fun z=>nomatch z) fin
  .obtain⟨its,_,pl,_⟩:=I.tuple hq;obtain⟨o,ho,hc,_⟩:=pl;exact W.kia_one W.kitx_tuple I.kIn ⟨o,ho,hc⟩ e (fun z=>nomatch z) fin
  .obtain⟨_,_,vs,_,pp⟩:=(show bC X.prog X.w H s.heap p (.dK kvs)from hq.ok I.hok)
   obtain⟨o,es,ep,h1,h2,_⟩:=pp;exact W.kia_one W.kitx_dict I.kIn ⟨o,h1,h2.1⟩ e (fun z=>nomatch z) fin
|_=>exact(show False from ty).elim
theorem gE(x:Str)(T:String)(hv:IT x=some (.type T))(hk:∀(d:D)(t:String),ik d=some t->W.kitOne X.K (.type t) (.type T)=some (cN t T))(hg:Gl X "isinstance")(hm:X.mg "isinstance" = none)(hgT:Gl X x)(hmT:X.mg x=none)(he:SB X g m e f)(hn:x≠"__name__" := by decide)(hd:(x==("__debug__" : Str))=false:=by decide)(hs1:k_ [e,.Name x p2] X.env=(false,eval e X.env)::k_ [.Name x p2] X.env:=by rfl)(hs2:k_ [.Name x p2] X.env=(false,eval (.Name x p2) X.env)::k_ [] X.env:=by rfl)(hpl:(backTo pos (k_ [.Name x p2] X.env)).any (·.1)=false:=by rfl):SE X g m (.Call (.Name "isinstance" p) [e,.Name x p2] [] pos) (f1 f (cz T)):=by
 refine PE.imp (kR Dr hg hm (by first|exact MD|rfl) (cY he (cY (B6 (v:=.ty T) hgT hmT hv rfl hn hd) gK hs2) hs1) (by decide) (by decide) hs1 hpl) fun σ H Q ⟨r,G,si,q⟩=>⟨r,G,si,aK (aU q) fun d q1 v G1 H1 w1 r1=>?_⟩
 obtain⟨d',e',q2⟩:=cu q1;unfold cz at e';cases et:ik d with
|none=>rw[et]at e';cases e'
|some t=>rw[et]at e';cases e';exact⟨v,t,T,_,rfl,CA w1.ok r1 et,hk d t et,q2 _ G1 H1 w1 (.scl (.bl _))⟩
end
theorem m9{d:D}{t:String}(h:ik d=some t){P:String->Prop}(h1:P "NoneType")(h2:P "bool")(h3:P "int")(h4:P "str")(h5:P "tuple")(h6:P "list")(h7:P "dict"):P t:=by cases d <;> cases h <;> assumption
theorem pC(K:W.Frag)(d:D)(t:String)(h:ik d=some t):W.kitOne K (.type t) (.type "int")=some (cN t "int"):=m9 (P:=fun t=>W.kitOne K (.type t) (.type "int")=some (cN t "int")) h (by kernel_rfl) (by kernel_rfl) (by kernel_rfl) (by kernel_rfl) (by kernel_rfl) (by kernel_rfl) (by kernel_rfl)
theorem qc(K:W.Frag)(d:D)(t:String)(h:ik d=some t):W.kitOne K (.type t) (.type "bool")=some (cN t "bool"):=m9 (P:=fun t=>W.kitOne K (.type t) (.type "bool")=some (cN t "bool")) h (by kernel_rfl) (by kernel_rfl) (by kernel_rfl) (by kernel_rfl) (by kernel_rfl) (by kernel_rfl) (by kernel_rfl)
theorem Da(K:W.Frag)(d:D)(t:String)(h:ik d=some t):W.kitOne K (.type t) (.type "list")=some (cN t "list"):=m9 (P:=fun t=>W.kitOne K (.type t) (.type "list")=some (cN t "list")) h (by kernel_rfl) (by kernel_rfl) (by kernel_rfl) (by kernel_rfl) (by kernel_rfl) (by kernel_rfl) (by kernel_rfl)
theorem qr(K:W.Frag)(d:D)(t:String)(h:ik d=some t):W.kitOne K (.type t) (.type "tuple")=some (cN t "tuple"):=m9 (P:=fun t=>W.kitOne K (.type t) (.type "tuple")=some (cN t "tuple")) h (by kernel_rfl) (by kernel_rfl) (by kernel_rfl) (by kernel_rfl) (by kernel_rfl) (by kernel_rfl) (by kernel_rfl)
section
variable{X:Cx}{g:GE}{m mb:List Md}{e a b o:Expr}{es:List Expr}{f fa fb fo:FE}{fl:af->Res (List D)}{pos pos' apos cpos:Pos}{ro:Bool}{x name:Str}{T id:String}{R:V->List V->Hp->VK->Prop}{k:D->List D->Option D}
def isInt:D->Bool
|.int _=>true
|_=>false
def zt:D->Option D
|.dic kvs=>some (.lst (kvs.map (·.2)))
|_=>none
end
def cR:Nat->List D->List D
|_,[]=>[]
|i,d::ds=>.tup [.int i,d]::cR (i+1) ds
theorem pW:∀(i:Nat)(ds:List D),(cR i ds).length=ds.length
|_,[]=>rfl
|i,d::ds=>congrArg (· + 1) (pW (i+1) ds)
theorem pV:∀(i j:Nat)(ds:List D),(cR i ds)[j]? = (ds[j]?).map fun d=>D.tup [.int ((i+j:Nat):Int),d]
|_,_,[]=>by simp[cR]
|i,0,d::ds=>by simp[cR]
|i,j+1,d::ds=>by show(cR (i+1) ds)[j]? = _;rw[pV (i+1) j ds];simp only[Jn];rw[show i+1+j=i+(j+1)by omega]
theorem wJ{K:W.Frag}{ds:List D}{G0:GH}{sq:Hp->List V->Prop}(h:∀G H,ax G0 G->aC K G H->∃xs,sq H xs/\bj K G xs ds):Yields K (jE sq) (cR 0 ds) G0:=by
 refine⟨fun G H i w gk hi=>?_,fun G H i x H' d w gk y e=>?_,fun G H w gk=>?_⟩
 .obtain⟨xs,s,r⟩:=h G H w gk;rw[pW]at hi;have hl:=Paired.length r;exact⟨xs,xs[i],s,m_ (by omega)⟩
 .obtain⟨xs,s,r⟩:=h G H w gk;obtain⟨p,v,hp,rfl,rfl,hv⟩:=y;rw[pV]at e;cases ed:ds[i]? with
 |none=>rw[ed]at e;cases e
 |some d0=>rw[ed]at e;simp only[ID,Kh,IW]at e;subst e;obtain⟨v',e1,rv⟩:=Paired.get r ed;have:=hv xs s;rw[e1]at this;cases this;exact⟨_,Grow.newF gk hp (.tup (.inl cj) (.cons (.scl (.int _)) (.cons rv .nil))),.ref cq⟩
 .obtain⟨xs,s,r⟩:=h G H w gk;rw[pW];exact⟨xs,s,Paired.length r⟩
def en(f:FE):FI:=fun r=>(f r).bind fun d=>(bz (bR d)).bind fun ds=>.ok (cR 0 ds)
section
variable{X:Cx}{g:GE}{m:List Md}{e a:Expr}{f:FE}{pos p pos2:Pos}{elts:List Expr}{kk:Nat}
theorem CW{te:TE}(hg:Gl X "enumerate")(hm:X.mg "enumerate" = none)(he:PE X e te)(hs:k_ [e] X.env=(false,eval e X.env)::k_ [] X.env:=by rfl):PI X (.Tuple elts kk pos2) (.Call (.Name "enumerate" p) [e] [] pos) (fun σ H R=>te σ H fun x H1=>(∃a,x=.ref a/\(∃xs,aL X.K H1 a xs)/\R (jE fun H xs=>aL X.K H a xs) H1)\/∃a,x=.ref a/\(∃xs,bp X.K H1 a xs)/\R (jE fun H xs=>bp X.K H a xs) H1):=by
 intro pz s σ H R I h;refine Call_ (iH I hg hm boot_enumerate (Hs (aE (cY he gK hs pos pz s σ H (fun vs H1=>match vs with
 |[x]=>(∃a,x=.ref a/\(∃xs,aL X.K H1 a xs)/\R (jE fun H xs=>aL X.K H a xs) H1)\/∃a,x=.ref a/\(∃xs,bp X.K H1 a xs)/\R (jE fun H xs=>bp X.K H a xs) H1
 |_=>False) I h) fun us s1 ⟨vs,H1,I1,r1,q1⟩=>?_) hs rfl))
 .cases r1 with
 |nil=>exact q1.elim
 |@cons x u xs us rx rt=>cases rt with
 |cons _ _=>exact q1.elim
 |nil=>
  have fin:∀{h':Heap},h'.objs.size=s1.heap.objs.size+2->(∀b o,s1.heap.get? b=some o->h'.get? b=some o)->∀b∈[s1.heap.objs.size+1,s1.heap.objs.size],cg X pz H1 b:=fun hz kp b hb=>by
   have hge:s1.heap.objs.size<=b:=by
    rcases n_.mp hb with rfl|hb
    .exact My _
    .rw[y_.mp hb];exact w_ _
   exact I1.fpOk hge (I1.hok.fresh hge)
  rcases q1 with⟨a,rfl,⟨xs,hq⟩,q⟩|⟨a,rfl,⟨xs,hq⟩,q⟩
  .cases rx;obtain⟨its,rv,pl,hz⟩:=I1.list hq;refine call_enumerate_list pl.isList fun h' he hi hsz kp=>Jv he ?_;exact⟨_,[s1.heap.objs.size+1,s1.heap.objs.size],_,_,H1,rfl,I1.kept (t':=s1.toks) kp,EY a _ _ (HC (HP _)),⟨⟨_,he⟩,hi⟩,fin hsz kp,q⟩
  .cases rx;obtain⟨its,rv,pl,hz⟩:=I1.tuple hq;refine FU (show s1.heap.IsTuple a its.toArray from pl) fun h' he hi hsz kp=>Jv he ?_;exact⟨_,[s1.heap.objs.size+1,s1.heap.objs.size],_,_,H1,rfl,I1.kept (t':=s1.toks) kp,EZ a _ _ (HC (HP _)),⟨⟨_,he⟩,hi⟩,fin hsz kp,q⟩
theorem tR(hg:Gl X "enumerate")(hm:X.mg "enumerate" = none)(he:SE X g m e f)(hs:k_ [e] X.env=(false,eval e X.env)::k_ [] X.env:=by rfl):c9 X g m (.Tuple elts kk pos2) (.Call (.Name "enumerate" p) [e] [] pos) (en f):=by
 refine PI.imp (CW hg hm he hs) fun σ H R ⟨r,G,si,q⟩=>⟨r,G,si,aK (aU q) fun d q v G' H' w rv=>?_⟩
 obtain⟨ds,e,q⟩:=cu (aU q);cases d with
|lst ds'=>cases e;obtain⟨a,xs,rfl,s,rs⟩:=rv.lst w.ok;refine .inl ⟨a,rfl,⟨xs,s⟩,q _ G' H' w (wJ fun G H le gk=>?_)⟩;obtain⟨b,ys,e,s',r'⟩:=(rv.mono le).lst gk;cases e;exact⟨ys,s',r'⟩
|tup ds'=>cases e;obtain⟨a,xs,rfl,s,rs⟩:=rv.tup w.ok;refine .inr ⟨a,rfl,⟨xs,s⟩,q _ G' H' w (wJ fun G H le gk=>?_)⟩;obtain⟨b,ys,e,s',r'⟩:=(rv.mono le).tup gk;cases e;exact⟨ys,s',r'⟩
|_=>cases e
end
inductive TupI(h:Heap):a_->List Int->Prop where
 |mk {a:Addr} {items:Array a_} {ns:List Int}:NY h a items->JZ items.toList ns->TupI h (.ref a) ns
inductive TupsI(h:Heap):List a_->List (List Int)->Prop where
 |nil:TupsI h [] []
 |cons {p:a_} {k:List Int} {ps:List a_} {ks:List (List Int)}:TupI h p k->TupsI h ps ks->TupsI h (p::ps) (k::ks)
theorem TupsI.length{h:Heap}:∀{ps:List a_}{ks:List (List Int)},TupsI h ps ks->ps.length=ks.length
|_,_,.nil=>rfl
|_,_,.cons _ t=>congrArg (· + 1) t.length
section
variable{prog:u_}{w:Gz}{A:GP}{s:e_}
inductive TupR(h:Heap):a_->List (List Int)->Prop where
 |mk {a:Addr} {items:List a_} {ks:List (List Int)}:NY h a items.toArray->TupsI h items ks->ks≠[]->TupR h (.ref a) ks
end
def dY(ns:List Int):List Int:=ns.foldl LQ []
theorem Fk(ns:List Int):Lm (fun i=>ns.getD i 0) ns.length=dY ns:=by unfold Lm dY;congr 1;refine List.ext_getElem (by simp) fun i h1 h2=>?_;simp[GO,h2]
def dk:List D->Option (List Int)
|[]=>some []
|.int i::ds=>(dk ds).map (i::·)
|_=>none
theorem pU{K:W.Frag}{G:GH}{H:Hp}(gk:aC K G H){ds:List D}{xs:List V}{ns:List Int}(h:bj K G xs ds)(e:dk ds=some ns):xs=ns.map V.int:=by induction h generalizing ns with
|nil=>cases e;rfl
|@cons x d xs ds r t ih=>cases d with
 |int i=>have e':(dk ds).map (i::·)=some ns:=e;cases q:dk ds with
  |none=>rw[q]at e';cases e'
  |some ms=>rw[q]at e';cases e';rw[r.int gk,ih q];rfl
 |_=>cases e
section
variable{X:Cx}{g:GE}{m:List Md}{e a:Expr}{f:FE}{pos p pos2 p2:Pos}
theorem DC(hc:X.calm=true):dD X (.type "set") (fun xs H Q=>∃p ns,xs=[.ref p]/\(aL X.K H p (ns.map V.int)\/bp X.K H p (ns.map V.int))/\ns.length+1<Iq/\∀l,H l=none->Q (.ref l) (upd H l (.set (fun k=>(dY ns).any (· == k)) (dY ns).length))):=by
 intro pz s σ H xs us Q I r h;obtain⟨p,ns,rfl,hq,hb,q⟩:=h;obtain⟨u,rfl,rx⟩:=bU r;cases rx;have fin:∀(its:List a_)(h':Heap)(tk:Nat),its.length=ns.length->h'.SetOf (LY X.prog X.w) s.heap.objs.size (fun k=>(Lm (fun i=>ns.getD i 0) its.toArray.size).any (· == k)) (Lm (fun i=>ns.getD i 0) its.toArray.size).length ->(∀b o,b<s.heap.objs.size->s.heap.get? b=some o->h'.get? b=some o)->EP X pz σ Q (.ref s.heap.objs.size) { s with heap:=h',toks:=tk }:=fun its h' tk hl hS kp=>by rw[show its.toArray.size=ns.length by rw[p_];exact hl,Fk]at hS;exact⟨.ref s.heap.objs.size,_,I.laid (t':=tk) (fun b o e=>kp b o (q_ e) e) (w_ _) (show bC X.prog X.w _ h' _ (.set _ _)from hS),rfl,q _ (I.hok.fresh (w_ _))⟩
 rcases hq with hq|hq
 .obtain⟨its,r',pl,hz⟩:=I.list hq;have hl:=r'.length;rw[t_]at hl;exact call_set_list (I.ok.hd hc) pl.isList (by simpa using qy r') (by rw[p_];omega) fun h' tk hS kp=>fin its h' tk hl.symm hS kp
 .obtain⟨its,r',pl,hz⟩:=I.tuple hq;have hl:=r'.length;rw[t_]at hl;exact Ft (I.ok.hd hc) (show s.heap.IsTuple p its.toArray from pl) (by simpa using qy r') (by rw[p_];omega) fun h' tk he=>fin its h' tk hl.symm he.1 he.2
theorem DB:dD X (.builtin "len") (fun xs H Q=>∃p S n,xs=[.ref p]/\H p=some (.set S n)/\Q (.int n) H):=by
 intro pz s σ H xs us Q I r h;obtain⟨p,S,n,rfl,hp,q⟩:=h;obtain⟨u,rfl,rx⟩:=bU r;cases rx;obtain⟨o,es,ep,t,ho,hex,hd,_,_,hb,hf,hn⟩:=(show bC X.prog X.w H s.heap p (.set S n)from I.hok p _ hp)
 refine call_len_set ho hex hd hf ?_ ⟨.int n,H,I.tok _,⟨_,by rw[hn]⟩,q⟩;have h4:(es.size:Int)<4096:=by unfold Iq at hb;omega
 exact Int.lt_of_lt_of_le h4 (by decide)
def sT:D->Option D
|.lst ds=>(dk ds).bind fun ns=>if ns.length+1<Iq then some (.int (dY ns).length)else none
|.tup ds=>(dk ds).bind fun ns=>if ns.length+1<Iq then some (.int (dY ns).length)else none
|_=>none
theorem DY(hc:X.calm=true)(hg:Gl X "len")(hm:X.mg "len" = none)(hgs:Gl X "set")(hms:X.mg "set" = none)(ha:SB X g m a f)(hs:k_ [a] X.env=(false,eval a X.env)::k_ [] X.env:=by rfl)(hs2:k_ [.Call (.Name "set" p2) [a] [] pos2] X.env=(false,eval (.Call (.Name "set" p2) [a] [] pos2) X.env)::k_ [] X.env:=by rfl):SE X g m (.Call (.Name "len" p) [.Call (.Name "set" p2) [a] [] pos2] [] pos) (f1 f sT):=by
 refine PE.imp (kR DB hg hm MW (cY (qt (DC hc) hgs hms (by first|exact PyProof.Rows.boot_set|rfl) (cY ha gK hs) (by decide) (by decide) hs rfl) gK hs2) (by decide) (by decide) hs2 rfl) fun σ H Q ⟨r,G,si,q⟩=>⟨r,G,si,aK (aU q) fun d q1 v G1 H1 w1 r1=>?_⟩
 obtain⟨d',e,q2⟩:=cu q1;have core:∀{ds:List D}{xs:List V}{b:Addr},bj X.K G1 xs ds->v=.ref b->(aL X.K H1 b xs\/bp X.K H1 b xs)->(dk ds).bind (fun ns=>if ns.length+1<Iq then some (D.int (dY ns).length)else none)=some d' ->∃p ns,[v]=[V.ref p]/\(aL X.K H1 p (ns.map V.int)\/bp X.K H1 p (ns.map V.int))/\ns.length+1<Iq/\∀l,H1 l=none->∃p S n,[V.ref l]=[V.ref p]/\upd H1 l (.set (fun k=>(dY ns).any (· == k)) (dY ns).length) p=some (.set S n)/\Q (.int n) (upd H1 l (.set (fun k=>(dY ns).any (· == k)) (dY ns).length)):=fun{ds xs b} rs ev hs he=>by cases ea:dk ds with
 |none=>rw[ea]at he;cases he
 |some ns=>
   rw[ea]at he;have he':(if ns.length+1<Iq then some (D.int (dY ns).length)else none)=some d':=he;by_cases hl:ns.length+1<Iq
   .rw[if_pos hl]at he';cases he';have ex:=pU w1.ok rs ea;subst ex;exact⟨b,ns,by rw[ev],hs,hl,fun l hl'=>⟨l,_,_,rfl,cj,q2 _ G1 _ (w1.trans (Grow.new w1.ok hl' _)) (.scl (.int _))⟩⟩
   .rw[if_neg hl]at he';cases he'
 cases d with
|lst ds=>obtain⟨b,xs,ev,hs,rs⟩:=r1.lst w1.ok;exact core rs ev (.inl hs) e
|tup ds=>obtain⟨b,xs,ev,hs,rs⟩:=r1.tup w1.ok;exact core rs ev (.inr hs) e
|_=>cases e
end
theorem bC.isS{P:u_}{w:Gz}{H:Hp}{h:Heap}{a:Addr}{o:HO}(x:bC P w H h a o):h.get? a≠none:=by
 have s:∀{u:Obj},h.get? a=some u->h.get? a≠none:=fun e z=>by rw[z]at e;cases e
 cases o with
|lst xs=>obtain⟨_,_,_,_,e⟩:=x;exact s e
|tup xs=>obtain⟨_,_,_,⟨_,e,_⟩,_⟩:=x;exact s e
|dK kvs=>obtain⟨_,_,_,_,o,_,_,e,_⟩:=x;exact s e
|dT kvs=>obtain⟨_,_,_,_,o,_,_,e,_⟩:=x;exact s e
|set S n=>obtain⟨o,_,_,_,e,_⟩:=x;exact s e
|ins C dx fs=>obtain⟨_,_,_,e,_⟩:=x;exact s e
|own y=>obtain⟨_,e⟩:=x;exact s e
|xd fs=>obtain⟨_,⟨_,_,_,e,_⟩,_⟩:=x;exact s e
|rng lo hi=>obtain⟨_,_,_,e⟩:=x;exact s e
|frz ob u=>obtain⟨e,_⟩:=x;exact s e
|tbl ps=>exact s (show h.get? a=some _ from x)
|met f y=>exact s (show h.get? a=some _ from x)
|ext φ=>obtain⟨_,⟨_,e⟩,_⟩:=x;exact s e
section
variable{X:Cx}{pz:List (Addr×Obj)}{σ:L2.St}{H:Hp}{s:e_}
theorem TupI.stay{h h':Heap}{L:Addr}{mm:Str->Option a_}(hL:h.Ns L mm)(k:∀b o,b≠L->h.get? b=some o->h'.get? b=some o){p:a_}{ns:List Int}(x:TupI h p ns):TupI h' p ns:=by cases x with
|mk ht hi=>
  obtain⟨o,h1,h2,n,h3⟩:=ht;refine .mk ⟨o,k _ _ ?_ h1,h2,n,h3⟩ hi
  rintro rfl
  obtain⟨o',es,ep,e,d,_⟩:=hL;rw[h1]at e;cases e;rw[h3]at d;cases d
theorem TupsI.stay{h h':Heap}{L:Addr}{mm:Str->Option a_}(hL:h.Ns L mm)(k:∀b o,b≠L->h.get? b=some o->h'.get? b=some o):∀{ps:List a_}{ks:List (List Int)},TupsI h ps ks->TupsI h' ps ks
|_,_,.nil=>.nil
|_,_,.cons x t=>.cons (x.stay hL k) (t.stay hL k)
theorem TupR.stay{h h':Heap}{L:Addr}{mm:Str->Option a_}(hL:h.Ns L mm)(k:∀b o,b≠L->h.get? b=some o->h'.get? b=some o){p:a_}{ks:List (List Int)}(x:TupR h p ks):TupR h' p ks:=by cases x with
|mk ht hi hn=>
  obtain⟨o,h1,h2,n,h3⟩:=ht;refine .mk ⟨o,k _ _ ?_ h1,h2,n,h3⟩ (hi.stay hL k) hn
  rintro rfl
  obtain⟨o',es,ep,e,d,_⟩:=hL;rw[h1]at e;cases e;rw[h3]at d;cases d
theorem BP{h:Heap}{L:Addr}{m m':Str->Option a_}(a:h.Ns L m)(b:h.Ns L m'):m=m':=by obtain⟨o,es,ep,e,d,_,f⟩:=a;obtain⟨o',es',ep',e',d',_,f'⟩:=b;rw[e]at e';cases e';rw[d]at d';cases d';funext x;rw[<-f,<-f']
end
end DL
namespace DL
open PySem PyProof.Rows PySem.SeqAt PySem.MeetsSeq PySem.MeetsSeq2 PySem.MeetsSeq3 L2
section
open PySem.AutoSeq1 (wpAny_loadPart')
end
end DL
namespace DL
open PySem PyProof.Rows L2
section
variable{prog:u_}{w:Gz}{A:GP}{E:a_->e_->Prop}{s:e_}
def jD(h:Heap)(u:a_)(ns:List Int):Prop:=∃a its,u=.ref a/\h.IsList a its/\JZ its.toList ns
end
end DL
namespace DL
open PySem PySem.Spec PyProof.Rows L2
section
variable{X:Cx}{pz:List (Addr×Obj)}{σ:L2.St}{H:Hp}{s:e_}
theorem jD.stay{h h':Heap}{L:Addr}{mm:Str->Option a_}(hL:h.Ns L mm)(k:∀b o,b≠L->h.get? b=some o->h'.get? b=some o){p:a_}{ns:List Int}(x:jD h p ns):jD h' p ns:=by
 obtain⟨a,its,rfl,⟨o,h1,h2,n,h3⟩,hi⟩:=x;refine⟨a,its,rfl,⟨o,k _ _ ?_ h1,h2,n,h3⟩,hi⟩
 rintro rfl
 obtain⟨o',es,ep,e,d,_⟩:=hL;rw[h1]at e;cases e;rw[h3]at d;cases d
end
section
variable{X:Cx}{pz:List (Addr×Obj)}{σ:L2.St}{H:Hp}{s:e_}
theorem Inv.keptN{h':Heap}(I:Inv X pz σ H s)(k:∀b o,b≠X.env.locals->s.heap.get? b=some o->h'.get? b=some o)(hns:∀m,s.heap.Ns X.env.locals m->h'.Ns X.env.locals m)(t':Nat):Inv X pz σ H { s with heap:=h',toks:=t' }:=by
 have trkL:∀b u,H b=some u->b≠X.env.locals:=fun b u e z=>by rw[z,I.free]at e;cases e
 refine I.step (g':=s.gens) (d':=s.drawn) (ch:=[]) (fun b hb=>absurd hb (by simp)) (fun b ob hL _ _ e _=>k b ob hL e) (fun b ob hL _ _ e _=>⟨ob.slots,k b ob hL e⟩) (fun b ob _ e n=>n)
  (fun b ob _ e=>?_) (fun b xs e=>e) (fun b ob u e=>e) (fun b ps e=>⟨#[],by rw[e];simp⟩) hns (fun b u e=>?_) I.bare
 .by_cases hb:b=X.env.locals
  .subst hb;obtain⟨m,hn,_⟩:=I.loc;obtain⟨o,_,_,ho',_⟩:=hns m hn;exact⟨o,ho'⟩
  .exact⟨ob,k b ob hb e⟩
 .refine(I.hok b u e).stay (fun cc v hc q=>k cc v ?_ q) (fun cc q=>q) fun cc xs q=>q;rcases hc with z|z
  .rw[z];exact trkL b u e
  .exact trkL cc _ z
theorem Inv.keptF{h':Heap}{mF:Str->Option a_}(I:Inv X pz σ H s)(F:Fr X.base X.env.locals s.heap mF)(F':Fr X.base X.env.locals h' mF)(N':News X.base X.env.locals h' (kH X.base s.heap X.env.locals))(t':Nat):Inv X pz σ H { s with heap:=h',toks:=t' }:=by refine Inv.keptN I (fun b o hb e=>?_) (fun m hm=>by rw[BP hm F.ns];exact F'.ns) t';cases z:X.base.get? b with
|some o'=>have:=I.bk b o' z;rw[e]at this;cases this;exact F'.keep b o z
|none=>exact(N' (b,o) (Fx hb z e)).1
end
end DL
namespace DL
open PySem PyProof.Rows L2
section
open PySem.AutoSeq1 (wpAny_loadPart')
end
end DL
namespace DL
open PySem PyProof.Rows PySem.W
abbrev nZ(p:Array Nat)(i:Nat):Nat:=p.getD i 0
section
variable{n:Nat}{c:Nat->Nat->Bool}(as:∀i j,c i j=true->c j i=false)(tr:∀i j k,c j i=false->c k j=false->c k i=false)
def Le(c:Nat->Nat->Bool)(i j:Nat):Prop:=c j i=false
def Dn(c:Nat->Nat->Bool)(p:Array Nat)(k:Nat):Prop:=∀i,i+1<k->Le c (nZ p (i+1)) (nZ p i)
def iX(c:Nat->Nat->Bool)(i j:Nat):Prop:=Le c i j/\Le c j i
include tr in
theorem iX.trans{i j k:Nat}(h1:iX c i j)(h2:iX c j k):iX c i k:=⟨tr _ _ _ h1.1 h2.1,tr _ _ _ h2.2 h1.2⟩
theorem iX.symm{i j:Nat}(h:iX c i j):iX c j i:=⟨h.2,h.1⟩
include as tr in
include tr in
theorem Dn.eqv{p p':Array Nat}{k:Nat}(h:Dn c p k)(e:∀i,iX c (nZ p' i) (nZ p i)):Dn c p' k:=fun i hi=>tr _ _ _ (e (i+1)).1 (tr _ _ _ (h i hi) (e i).2)
include as tr in
include as tr in
include as tr in
include as tr in
include as tr in
include as tr in
include as tr in
include as tr in
include as tr in
end
end DL
section
namespace DL
end DL
end
namespace DL
open PySem PySem.Spec PyProof.Rows L2
def iY(h0 H:Hp):Prop:=∀a o,h0 a=some o->H a=some o
structure YieldsB(K:W.Frag)(h0:Hp)(J:It)(ds:List D)(G0:GH):Prop where
 go:∀G H (i:Nat),ax G0 G->aC K G H->iY h0 H->i<ds.length->J.go i H
 yld:∀G H (i:Nat) x H' d,ax G0 G->aC K G H->iY h0 H->J.yld i H x H'->ds[i]? = some d->∃G',Grow K G H G' H'/\RG K G' x d
 stop:∀G H,ax G0 G->aC K G H->iY h0 H->J.stop ds.length H
theorem Yields.toH{K:W.Frag}{h0:Hp}{J:It}{ds:List D}{G0:GH}(y:Yields K J ds G0):YieldsB K h0 J ds G0:=⟨fun G H i w gk _ hi=>y.go G H i w gk hi,fun G H i x H' d w gk _ q e=>y.yld G H i x H' d w gk q e,fun G H w gk _=>y.stop G H w gk⟩
def Gf(X:Cx)(g:GE)(m:List Md)(f:FI):TI:=fun σ H R=>∃r G,SI X g m r G σ H/\fin (f r) (fun ds=>∀J G' H',Grow X.K G H G' H'->YieldsB X.K g.h0 J ds G'->R J H') (XW X σ G H)
def jB(X:Cx)(g:GE)(m:List Md)(tg iter:Expr)(f:FI):Prop:=PI X tg iter (Gf X g m f)
def Gh(X:Cx)(g:GE)(m:List Md)(f:FE):TE:=fun σ H Q=>∃r G,SI X g m r G σ H/\fin (f r) (fun d=>∀v G' H',Grow X.K G H G' H'->Bw X.K g.h0 G' H' v d->Q v H') (XW X σ G H)
def yP(X:Cx)(g:GE)(m:List Md)(e:Expr)(f:FE):Prop:=PE X e (Gh X g m f)
section
variable{X:Cx}{g:GE}{m m' mb:List Md}{tg e a iter:Expr}{f:FE}{pos p pos2:Pos}{ro:Bool}{sts:List Stmt}{s1:FS}{elts:List Expr}{kk:Nat}
theorem c9.toH{fi:FI}(h:c9 X g m tg iter fi):jB X g m tg iter fi:=PI.imp h fun σ H R ⟨r,G,si,q⟩=>⟨r,G,si,aK q fun ds k J G' H' w y=>k J G' H' w y.toH⟩
theorem yE(i:Nat){x:Str}(hm:m[i]? = some .bw:=by rfl)(hN:X.N[i]? = some x:=by rfl)(hv:dC X.env.scope x:=by first|exact Or.inl rfl|exact Or.inr (Or.inl rfl)|exact Or.inr (Or.inr rfl))(hd:(x==("__debug__" : Str))=false:=by decide)(hcd:(x==("__classdict__" : Str))=false:=by decide):yP X g m (.Name x pos) fun r=>cA r i:=by refine PE.imp (fO hN hv hd hcd) fun σ H Q ⟨r,G,si,q⟩=>?_;obtain⟨d,e,k⟩:=mV q;obtain⟨v,e1,e2⟩:=si.bw i d e hm;exact⟨v,e1,k _ G H (Grow.refl si.gok) e2⟩
theorem B5{K:W.Frag}{h0:Hp}{G0 G:GH}{H0 H:Hp}{a:Addr}{ds:List D}(o:Own K G0 H0 a (.lst ds))(h:h0 a≠none)(o0:iY h0 H0)(le:ax G0 G)(o1:iY h0 H):∃xs,aL K H a xs/\bj K G xs ds:=by cases e:h0 a with
|none=>exact absurd e h
|some u=>have h1:=o0 a u e;have h2:=o1 a u e;cases o.ob with
 |lst r s=>rw[h1]at r;cases r;exact⟨_,aL.of h2,bj.mono s le⟩
theorem CG{K:W.Frag}{h0:Hp}{ds:List D}{G0:GH}{a:Addr}(h:∀G H,ax G0 G->aC K G H->iY h0 H->∃xs,aL K H a xs/\bj K G xs ds):YieldsB K h0 (lW K a) ds G0:=by
 refine⟨fun G H i w gk o hi=>?_,fun G H i x H' d w gk o y e=>?_,fun G H w gk o=>?_⟩
 .obtain⟨xs,s,r⟩:=h G H w gk o;have hl:=Paired.length r;exact⟨xs,xs[i],s,m_ (by omega)⟩
 .obtain⟨xs,s,r⟩:=h G H w gk o;obtain⟨rfl,y⟩:=y;obtain⟨v,e1,rv⟩:=Paired.get r e;have:=y xs s;rw[e1]at this;cases this;exact⟨G,Grow.refl gk,rv⟩
 .obtain⟨xs,s,r⟩:=h G H w gk o;exact⟨xs,s,Jr (Paired.length r)⟩
theorem SI.oldIn{r:af}{G:GH}{st:L2.St}{H:Hp}(s:SI X g m r G st H):iY g.h0 H:=s.old
theorem tT(h:yP X g m e f):jB X g m tg e (aR bR f):=by
 refine PI.imp (oQ h) fun σ H R ⟨r,G,si,q⟩=>⟨r,G,si,aK (aU q) fun d q v G' H' w rv=>?_⟩
 obtain⟨ds,e,q⟩:=cu q;cases d with
|lst ds'=>
  cases e;rcases rv with rv|⟨a,rfl,o,ho⟩
  .obtain⟨a,xs,rfl,s,rs⟩:=rv.lst w.ok;exact .inl ⟨a,rfl,⟨xs,s⟩,q _ G' H' w (pB rv).toH⟩
  .cases o.ob with
  |lst r s=>exact .inl ⟨a,rfl,⟨_,aL.of r⟩,q _ G' H' w (CG fun G2 H2 le _ o2=>B5 o ho (si.grow w).oldIn le o2)⟩
|tup ds'=>
  cases e;rcases rv with rv|⟨a,rfl,o,ho⟩
  .obtain⟨a,xs,rfl,s,rs⟩:=rv.tup w.ok;exact .inr ⟨a,rfl,⟨xs,s⟩,q _ G' H' w (oY rv).toH⟩
  .cases o.ob
|_=>cases e
theorem vC(hp:JA (Gy X.prog X.w) X.A X.env X.xe)(hc:X.calm=true){ft:FT}{fi:FI}(hi:jB X g m tg iter fi)(hg:SG X g m tg ft m)(hb:eu X g ro m m sts s1 m)(hs:∀x,Hv iter X.env x=pure x:=by intro _;rfl):SS X g ro mb m (.For tg iter sts [] pos) (cM m fi ft s1) m:=by
 refine⟨rfl,PS.imp (kB hp hc hi hg.2 hb.2 hs) fun D σ H ⟨r,G,si,q⟩=>⟨r,G,si,aK (dI si rfl q) fun ds q J G0 H0 w0 Y=>?_⟩⟩;refine⟨fun i n σ H=>∃r G,SI X g m r G σ H/\ax G0 G/\i<=ds.length/\n=ds.length-i/\aX X g ro m mb G D (aF ft s1 (ds.drop i) r),⟨ds.length,r,G0,si.grow w0,ax.refl G0,GL _,rfl,aX.gle q w0.ge⟩,?_⟩
 rintro i n σ1 H1 ⟨r1,G1,si1,le1,hi,rfl,q1⟩
 by_cases hlt:i<ds.length
 .have hd:ds.drop i=ds[i]::ds.drop (i+1):=Hh hlt;rw[hd]at q1;unfold aF at q1;refine .inr ⟨Y.go G1 H1 i le1 si1.gok si1.oldIn hlt,fun σ' H'=>∃r G,SI X g m r G σ' H'/\ax G0 G/\aX X g ro m mb G D (aF ft s1 (ds.drop (i+1)) r),fun σ' H' ⟨r',G',si',le',q'⟩=>⟨ds.length-(i+1),by omega,r',G',si',le',hlt,rfl,q'⟩,fun x H' y=>?_⟩;obtain⟨G',w',rv⟩:=Y.yld G1 H1 i x H' ds[i] le1 si1.gok si1.oldIn y (m_ hlt);have le':ax G0 G':=le1.trans w'.ge;cases eft:ft ds[i] r1 with
 |none=>simp only[eft]at q1;exact q1.elim
 |some r2=>simp only[eft]at q1;refine⟨r1,G',ds[i],si1.grow w',rv,r2,eft,fun σ2 si2=>⟨r2,G',si2,?_⟩⟩;cases eb:s1 r2 with
  |nx r'=>simp only[eb]at q1;exact fun σ3 G3 H3 le3 si3=>⟨r',G3,si3,le'.trans le3,aX.gle q1 (ax.trans w'.ge le3)⟩
  |ct r'=>simp only[eb]at q1;exact fun σ3 G3 H3 le3 si3=>⟨r',G3,si3,le'.trans le3,aX.gle q1 (ax.trans w'.ge le3)⟩
  |bk r'=>simp only[eb]at q1;exact fun σ3 G3 H3 le3 si3=>q1 σ3 G3 H3 (ax.trans w'.ge le3) si3
  |rt d=>simp only[eb]at q1;exact q1
  |exc x r'=>simp only[eb]at q1;exact fun pz e s' σ3 G3 H3 le3=>q1 pz e s' σ3 G3 H3 (ax.trans w'.ge le3)
  |stuck=>simp only[eb]at q1;exact q1
 .have e:i=ds.length:=by omega
  subst e;rw[Ir]at q1;exact .inl ⟨Y.stop G1 H1 le1 si1.gok si1.oldIn,q1 σ1 G1 H1 (ax.refl _) si1⟩
end
section
open HT (Gs)
end
section
open AutoSeq1 (wpAny_loadPart')
structure ZA(zp ti to u1 u2:Addr)(f1 f2:List Addr):Prop where
 a1:ti≠zp
 a2:to≠zp
 a3:u1≠zp
 a4:u2≠zp
 a5:to≠u1
 a6:to≠u2
 a7:u1≠u2
 a8:ti≠to/\ti≠u1/\ti≠u2
 b1:zp∉f1/\to∉f1/\u2∉f1
 b2:zp∉f2/\to∉f2/\u1∉f2
theorem _root_.PySem.Draws.at'{prog:u_}{w:Gz}{A:GP}{it:Addr}{fp:List Addr}{n:Nat}{P:Nat->a_->Prop}{St:Nat->Heap->Prop}(D:LF prog w A it fp n P St){i:Nat}{h h':Heap}{c:Addr}(st:St i h)(e:N2 c h h')(hc:c∉fp):St i h':=D.frame i h h' st fun b hb o q=>e b o (by rintro rfl;exact hc hb) q
section
variable{prog:u_}{w:Gz}{A:GP}{E:a_->e_->Prop}{s:e_}{zp ti to u1 u2:Addr}{f1 f2:List Addr}{n1 n2:Nat}{P1 P2:Nat->a_->Prop}{St1 St2:Nat->Heap->Prop}{p q:a_}
theorem E8{i:Nat}{Q:a_->e_->Prop}(Z:ZA zp ti to u1 u2 f1 f2)(D1:LF prog w A u1 f1 n1 P1 St1)(D2:LF prog w A u2 f2 n2 P2 St2)(hz:Ka s.heap zp ti to .none)(hi:Ih s.heap ti (.ref u1) (.ref u2))(ho:Ih s.heap to p q)(s1:St1 i s.heap)(s2:St2 i s.heap)(l1:i<n1)(l2:i<n2)(hQ:∀x y h' tk,P1 i x->P2 i y->Ka h' zp ti to (KI s.heap.objs.size)->Ih h' to x y->St1 (i+1) h'->St2 (i+1) h'->Ih h' s.heap.objs.size x y->h'.objs.size=s.heap.objs.size+1 ->(∀c o,c≠zp->c≠to->c≠u1->c≠u2->s.heap.get? c=some o->h'.get? c=some o)->Q (.ref s.heap.objs.size) { s with heap:=h',toks:=tk }):B_ (Gy prog w) A (JH.«zip.__next__» ⟨[.ref zp],[]⟩) (fun fin s'=>∃v,fin=.done (.ret v)/\Q v s') E s:=by
 show B_ _ _ (MZ (.ref zp) 2 >>= _) _ _ _;refine c_ (HD hz rfl (x:=.bool false) rfl ?_);show B_ _ _ (MZ (.ref zp) 3 >>= _) _ _ _;refine c_ (HD hz rfl (x:=.ref ti) rfl (c_ (Hx hi rfl ?_)));show B_ _ _ (Hl (.ref zp) >>= _) _ _ _;refine c_ ?_;unfold Hl;refine c_ (HD hz rfl (x:=.none) rfl (s_ ?_));simp only[if_true];refine c_ (M0 (c_ (HD hz rfl (x:=.ref to) rfl (c_ (HV hz (by simp) fun g1 hz1 k1=>?_)))));replace hz1:Ka g1 zp ti to .ellipsis:=hz1;refine c_ ?_;simp only[Mp,ME,JS,M5];refine c_ (c_ (Ks ?_));show B_ _ _ (GV (.ref u1) >>= _) _ _ _;refine c_ (D1.item i _ _ _ l1 (D1.at' s1 k1.extBut Z.b1.1) fun x g2 t2 px st1 k2=>s_ ?_);have ho2:Ih g2 to p q:=k2.extBut _ _ Z.a5 (k1.extBut _ _ Z.a2 ho);refine c_ (Hx ho2 rfl (c_ (JM ho2 fun g3 ho3 k3=>?_)));replace ho3:Ih g3 to x q:=ho3;refine c_ (Mz (s_ ?_));refine c_ (c_ (Ks ?_));show B_ _ _ (GV (.ref u2) >>= _) _ _ _;refine c_ (D2.item i _ _ _ l2 (D2.at' (D2.at' (D2.at' s2 k1.extBut Z.b2.1) k2.extBut Z.b2.2.2) k3.extBut Z.b2.2.1) fun y g4 t4 py st2 k4=>s_ ?_);have ho4:Ih g4 to x q:=k4.extBut _ _ Z.a6 ho3;refine c_ (Hx ho4 rfl (c_ (JM ho4 fun g5 ho5 k5=>?_)));replace ho5:Ih g5 to x y:=ho5;refine c_ (Mz (s_ (s_ ?_)));refine c_ (Hx ho5 rfl (c_ (wpAny_newTuple ?_)));have hsz:g5.objs.size=s.heap.objs.size:=by rw[k5.1,k4.1,k3.1,k2.1,k1.1]
 have hz5:Ka g5 zp ti to .ellipsis:=k5.extBut _ _ Z.a2.symm (k4.extBut _ _ Z.a4.symm (k3.extBut _ _ Z.a2.symm (k2.extBut _ _ Z.a3.symm hz1)));have st15:St1 (i+1) g5:=D1.at' (D1.at' (D1.at' st1 k3.extBut Z.b1.2.1) k4.extBut Z.b1.2.2) k5.extBut Z.b1.2.1;have st25:St2 (i+1) g5:=D2.at' st2 k5.extBut Z.b2.2.1;have hzlt:zp<g5.objs.size:=q_ hz5;show B_ _ _ (I_ (.ref zp) (.ref g5.objs.size) >>= _) _ _ _;refine c_ ?_;unfold I_;have hz6:Ka (g5.push { cls:=.type "tuple",data:=.seq #[x,y] }) zp ti to .ellipsis:=d_ _ hz5;refine c_ (HV hz6 (by simp) fun g7 hz7 k7=>?_);replace hz7:Ka g7 zp ti to (KI g5.objs.size):=hz7;refine HV hz7 (by simp) fun g8 hz8 k8=>?_;replace hz8:Ka g8 zp ti to (KI g5.objs.size):=hz8;have up:∀c o,c≠zp->g5.get? c=some o->g8.get? c=some o:=fun c o c1 e=>k8.extBut _ _ c1 (k7.extBut _ _ c1 (d_ _ e));have hT8:Ih g8 g5.objs.size x y:=k8.extBut _ _ (HC hzlt) (k7.extBut _ _ (HC hzlt) (r_ _ rfl));have sz8:g8.objs.size=g5.objs.size+1:=by rw[k8.1,k7.1,GX]
 rw[hsz]at hz8 hT8 sz8;refine s_ ⟨_,rfl,?_⟩;show Q (.ref g5.objs.size) _;rw[hsz];refine hQ x y g8 _ px py hz8 (up _ _ Z.a2 ho5) (D1.frame _ _ _ st15 fun b hb o e=>up b o (by rintro rfl;exact Z.b1.1 hb) e) (D2.frame _ _ _ st25 fun b hb o e=>up b o (by rintro rfl;exact Z.b2.1 hb) e) hT8 sz8 fun c o c1 c2 c3 c4 e=>up c o c1 ?_;exact k5.extBut _ _ c2 (k4.extBut _ _ c4 (k3.extBut _ _ c2 (k2.extBut _ _ c3 (k1.extBut _ _ c1 e))))
theorem D7{i:Nat}{Q:Fin->e_->Prop}(Z:ZA zp ti to u1 u2 f1 f2)(D1:LF prog w A u1 f1 n1 P1 St1)(D2:LF prog w A u2 f2 n2 P2 St2)(hz:Ka s.heap zp ti to .none)(hi:Ih s.heap ti (.ref u1) (.ref u2))(ho:Ih s.heap to p q)(s1:St1 i s.heap)(s2:St2 i s.heap)(hend:i=n1\/(i<n1/\i=n2))(hE:∀h' e tk,(∀c o,c≠zp->c≠to->c≠u1->c≠u2->s.heap.get? c=some o->h'.get? c=some o)->(∃o,h'.get? e=some o/\o.cls=.type "StopIteration")->E (.ref e) { s with heap:=h',toks:=tk }):B_ (Gy prog w) A (JH.«zip.__next__» ⟨[.ref zp],[]⟩) Q E s:=by
 show B_ _ _ (MZ (.ref zp) 2 >>= _) _ _ _;refine c_ (HD hz rfl (x:=.bool false) rfl ?_);show B_ _ _ (MZ (.ref zp) 3 >>= _) _ _ _;refine c_ (HD hz rfl (x:=.ref ti) rfl (c_ (Hx hi rfl ?_)));show B_ _ _ (Hl (.ref zp) >>= _) _ _ _;refine c_ ?_;unfold Hl;refine c_ (HD hz rfl (x:=.none) rfl (s_ ?_));simp only[if_true];refine c_ (M0 (c_ (HD hz rfl (x:=.ref to) rfl (c_ (HV hz (by simp) fun g1 hz1 k1=>?_)))));replace hz1:Ka g1 zp ti to .ellipsis:=hz1;refine c_ ?_;simp only[Mp,ME,JS,M5];refine c_ (c_ (Ks ?_));show B_ _ _ (GV (.ref u1) >>= _) _ _ _;rcases hend with hend|⟨hlt,hend⟩
 .subst hend;refine c_ (D1.done _ _ _ (D1.at' s1 k1.extBut Z.b1.1) fun g2 e k2 he=>?_);obtain⟨oe,hoe,hce⟩:=he;have hz2:Ka g2 zp ti to .ellipsis:=k2 _ _ Z.a3.symm hz1;have hez:e≠zp:=fun x=>by subst x;rw[hz2]at hoe;cases hoe;simp at hce
  exact HV hz2 (by simp) fun g3 _ k3=>hE g3 e _ (fun c o c1 _ c3 _ x=>k3.extBut _ _ c1 (k2 _ _ c3 (k1.extBut _ _ c1 x))) ⟨oe,k3.extBut _ _ hez hoe,hce⟩
 .subst hend;refine c_ (D1.item _ _ _ _ hlt (D1.at' s1 k1.extBut Z.b1.1) fun x g2 t2 px st1 k2=>s_ ?_);have ho2:Ih g2 to p q:=k2.extBut _ _ Z.a5 (k1.extBut _ _ Z.a2 ho);refine c_ (Hx ho2 rfl (c_ (JM ho2 fun g3 ho3 k3=>?_)));refine c_ (Mz (s_ ?_));refine c_ (c_ (Ks ?_));show B_ _ _ (GV (.ref u2) >>= _) _ _ _;refine c_ (D2.done _ _ _ (D2.at' (D2.at' (D2.at' s2 k1.extBut Z.b2.1) k2.extBut Z.b2.2.2) k3.extBut Z.b2.2.1) fun g4 e k4 he=>?_);obtain⟨oe,hoe,hce⟩:=he;have hz4:Ka g4 zp ti to .ellipsis:=k4 _ _ Z.a4.symm (k3.extBut _ _ Z.a2.symm (k2.extBut _ _ Z.a3.symm hz1));have hez:e≠zp:=fun x=>by subst x;rw[hz4]at hoe;cases hoe;simp at hce
  exact HV hz4 (by simp) fun g5 _ k5=>hE g5 e _ (fun c o c1 c2 c3 c4 x=>k5.extBut _ _ c1 (k4 _ _ c4 (k3.extBut _ _ c2 (k2.extBut _ _ c3 (k1.extBut _ _ c1 x))))) ⟨oe,k5.extBut _ _ hez hoe,hce⟩
theorem FC{i:Nat}{Q:Option a_->e_->Prop}(Z:ZA zp ti to u1 u2 f1 f2)(D1:LF prog w A.in1 u1 f1 n1 P1 St1)(D2:LF prog w A.in1 u2 f2 n2 P2 St2)(hz:Ka s.heap zp ti to .none)(hi:Ih s.heap ti (.ref u1) (.ref u2))(ho:Ih s.heap to p q)(s1:St1 i s.heap)(s2:St2 i s.heap)(l1:i<n1)(l2:i<n2)(hQ:∀x y h' tk,P1 i x->P2 i y->Ka h' zp ti to (KI s.heap.objs.size)->Ih h' to x y->St1 (i+1) h'->St2 (i+1) h'->Ih h' s.heap.objs.size x y->h'.objs.size=s.heap.objs.size+1 ->(∀c o,c≠zp->c≠to->c≠u1->c≠u2->s.heap.get? c=some o->h'.get? c=some o)->Q (some (.ref s.heap.objs.size)) { s with heap:=h',toks:=tk }):B_ (Gy prog w) A (Li (.ref zp)) Q E s:=by
 have hT:s.TypeIs (.ref zp) "zip" := ⟨_,hz,rfl⟩
 unfold Li;exact c_ (wpAny_attempt (Iv (name:=KW "__next__") hT F.slot_zip_next (JD F.slot_zip_next hT F.entry_zip_next
   (E8 Z D1 D2 hz hi ho s1 s2 l1 l2 fun x y h' tk b1 b2 b3 b4 b5 b6 b7 b8 b9=>s_ (hQ x y h' tk b1 b2 b3 b4 b5 b6 b7 b8 b9)) (F.args_zip_next_1 _))))
theorem FZ{i:Nat}{Q:Option a_->e_->Prop}(Z:ZA zp ti to u1 u2 f1 f2)(D1:LF prog w A.in1 u1 f1 n1 P1 St1)(D2:LF prog w A.in1 u2 f2 n2 P2 St2)(hz:Ka s.heap zp ti to .none)(hi:Ih s.heap ti (.ref u1) (.ref u2))(ho:Ih s.heap to p q)(s1:St1 i s.heap)(s2:St2 i s.heap)(hend:i=n1\/(i<n1/\i=n2))(hQ:∀h' tk,(∀c o,c≠zp->c≠to->c≠u1->c≠u2->s.heap.get? c=some o->h'.get? c=some o)->Q none { s with heap:=h',toks:=tk }):B_ (Gy prog w) A (Li (.ref zp)) Q E s:=by
 have hT:s.TypeIs (.ref zp) "zip" := ⟨_,hz,rfl⟩
 unfold Li;refine c_ (wpAny_attempt (Iv (name:=KW "__next__") hT F.slot_zip_next (JD F.slot_zip_next hT F.entry_zip_next (D7 Z D1 D2 hz hi ho s1 s2 hend fun h' e tk hk he=>?_) (F.args_zip_next_1 _))));obtain⟨o,ho,hc⟩:=he;exact c_ (wpAny_isInstance (T := "StopIteration") (b:=true) ⟨o,ho,hc⟩ isSubtype_stop (s_ (hQ _ _ hk)))
end
abbrev eQ(c:String)(l:Addr):Obj:={ cls:=.type c,data:=.fields #[.ref l,.int 0 0] }
abbrev mH(h:Heap)(c1 c2:String)(l1 l2:Addr):Heap:=(h.push (eQ c1 l1)).push (eQ c2 l2)
abbrev mG(h:Heap)(c1 c2:String)(l1 l2:Addr):Heap:=(mH h c1 c2 l1 l2).push { cls:=.type "tuple",data:=.seq #[.ref h.objs.size,.ref (h.push (eQ c1 l1)).objs.size] }
abbrev gX(h:Heap)(c1 c2:String)(l1 l2:Addr):Heap:=(mG h c1 c2 l1 l2).push { cls:=.type "tuple",data:=.seq #[.none,.none] }
abbrev fM(h:Heap)(c1 c2:String)(l1 l2:Addr):Heap:=(gX h c1 c2 l1 l2).push { cls:=.type "zip",data:=.fields #[.none,.bool false,.bool false,.ref (mH h c1 c2 l1 l2).objs.size,.ref (mG h c1 c2 l1 l2).objs.size] }
theorem wO{h:Heap}{a:Addr}{xs:Array a_}(x:h.IsTuple a xs)(o:Obj):(h.push o).IsTuple a xs:=let⟨u,hu,r⟩:=x;⟨u,d_ _ hu,r⟩
theorem EC(l1 l2:Addr)(xs ys:Array a_):Meets (JH.«zip.__new__» ⟨[.type "zip",.ref l1,.ref l2],[]⟩) (fun _ R s=>s.heap.IsList l1 xs/\s.heap.IsList l2 ys /\R (.ok (.ret (.ref (gX s.heap "list_iterator" "list_iterator" l1 l2).objs.size))) { s with heap:=fM s.heap "list_iterator" "list_iterator" l1 l2 }):=
 .of_wp fun prog w A R s h=>by
  obtain⟨hp,gg,dd,tk,os⟩:=s;obtain⟨q1,q2,h⟩:=h;have hsub:=NT;have e1:Lp (Iz ⟨hp,gg,dd,tk,os⟩) l1 xs:=q1;have e2:Lp (Iz ⟨hp.push (eQ "list_iterator" l1),gg,dd,tk,os⟩) l2 ys:=Mq q2 _
  wp_walk using Ib e1,Ib e2
  exact⟨_,rfl,h⟩
theorem EE(l1 l2:Addr)(xs ys:Array a_):Meets (JH.«zip.__new__» ⟨[.type "zip",.ref l1,.ref l2],[]⟩) (fun _ R s=>s.heap.IsTuple l1 xs/\s.heap.IsList l2 ys /\R (.ok (.ret (.ref (gX s.heap "tuple_iterator" "list_iterator" l1 l2).objs.size))) { s with heap:=fM s.heap "tuple_iterator" "list_iterator" l1 l2 }):=
 .of_wp fun prog w A R s h=>by
  obtain⟨hp,gg,dd,tk,os⟩:=s;obtain⟨q1,q2,h⟩:=h;have hsub:=NT;have e1:J0 (Iz ⟨hp,gg,dd,tk,os⟩) l1 xs:=q1;have e2:Lp (Iz ⟨hp.push (eQ "tuple_iterator" l1),gg,dd,tk,os⟩) l2 ys:=Mq q2 _
  wp_walk using Hc e1,Ib e2
  exact⟨_,rfl,h⟩
theorem EF(l1 l2:Addr)(xs ys:Array a_):Meets (JH.«zip.__new__» ⟨[.type "zip",.ref l1,.ref l2],[]⟩) (fun _ R s=>s.heap.IsTuple l1 xs/\s.heap.IsTuple l2 ys /\R (.ok (.ret (.ref (gX s.heap "tuple_iterator" "tuple_iterator" l1 l2).objs.size))) { s with heap:=fM s.heap "tuple_iterator" "tuple_iterator" l1 l2 }):=
 .of_wp fun prog w A R s h=>by
  obtain⟨hp,gg,dd,tk,os⟩:=s;obtain⟨q1,q2,h⟩:=h;have hsub:=NT;have e1:J0 (Iz ⟨hp,gg,dd,tk,os⟩) l1 xs:=q1;have e2:J0 (Iz ⟨hp.push (eQ "tuple_iterator" l1),gg,dd,tk,os⟩) l2 ys:=wO q2 _
  wp_walk using Hc e1,Hc e2
  exact⟨_,rfl,h⟩
theorem ED(l1 l2:Addr)(xs ys:Array a_):Meets (JH.«zip.__new__» ⟨[.type "zip",.ref l1,.ref l2],[]⟩) (fun _ R s=>s.heap.IsList l1 xs/\s.heap.IsTuple l2 ys /\R (.ok (.ret (.ref (gX s.heap "list_iterator" "tuple_iterator" l1 l2).objs.size))) { s with heap:=fM s.heap "list_iterator" "tuple_iterator" l1 l2 }):=
 .of_wp fun prog w A R s h=>by
  obtain⟨hp,gg,dd,tk,os⟩:=s;obtain⟨q1,q2,h⟩:=h;have hsub:=NT;have e1:Lp (Iz ⟨hp,gg,dd,tk,os⟩) l1 xs:=q1;have e2:J0 (Iz ⟨hp.push (eQ "list_iterator" l1),gg,dd,tk,os⟩) l2 ys:=wO q2 _
  wp_walk using Ib e1,Hc e2
  exact⟨_,rfl,h⟩
section
variable{prog:u_}{w:Gz}{A:GP}{E:a_->e_->Prop}{s:e_}
def fE(s:e_)(c1 c2:String)(l1 l2:Addr)(Q:a_->e_->Prop):Prop:=∀h',Ka h' (s.heap.objs.size+4) (s.heap.objs.size+2) (s.heap.objs.size+3) .none->Ih h' (s.heap.objs.size+2) (.ref s.heap.objs.size) (.ref (s.heap.objs.size+1)) ->Ih h' (s.heap.objs.size+3) .none .none->h'.get? s.heap.objs.size=some (eQ c1 l1)->h'.get? (s.heap.objs.size+1)=some (eQ c2 l2) ->(∀c o,s.heap.get? c=some o->h'.get? c=some o)->Q (.ref (s.heap.objs.size+4)) { s with heap:=h' }
theorem mI{c1 c2:String}{l1 l2:Addr}{Q:a_->e_->Prop}(h:fE s c1 c2 l1 l2 Q):(∃o,(fM s.heap c1 c2 l1 l2).get? (gX s.heap c1 c2 l1 l2).objs.size=some o/\o.cls=.type "zip")/\Q (.ref (gX s.heap c1 c2 l1 l2).objs.size) { s with heap:=fM s.heap c1 c2 l1 l2 }:=by
 have z1:(s.heap.push (eQ c1 l1)).objs.size=s.heap.objs.size+1:=GX ..;have z2:(mH s.heap c1 c2 l1 l2).objs.size=s.heap.objs.size+2:=by rw[GX,z1]
 have z3:(mG s.heap c1 c2 l1 l2).objs.size=s.heap.objs.size+3:=by rw[GX,z2]
 have z4:(gX s.heap c1 c2 l1 l2).objs.size=s.heap.objs.size+4:=by rw[GX,z3]
 have g5:(fM s.heap c1 c2 l1 l2).get? (gX s.heap c1 c2 l1 l2).objs.size=some _:=r_ _ rfl;have g4:(fM s.heap c1 c2 l1 l2).get? (mG s.heap c1 c2 l1 l2).objs.size=some _:=d_ _ (r_ _ rfl);have g3:(fM s.heap c1 c2 l1 l2).get? (mH s.heap c1 c2 l1 l2).objs.size=some _:=d_ _ (d_ _ (r_ _ rfl));have g2:(fM s.heap c1 c2 l1 l2).get? (s.heap.push (eQ c1 l1)).objs.size=some (eQ c2 l2):=d_ _ (d_ _ (d_ _ (r_ _ rfl)));have g1:(fM s.heap c1 c2 l1 l2).get? s.heap.objs.size=some (eQ c1 l1):=d_ _ (d_ _ (d_ _ (d_ _ (r_ _ rfl))));rw[z2,z3,z4]at g5;rw[z1,z2]at g3;rw[z3]at g4;rw[z1]at g2;rw[z4];exact⟨⟨_,g5,rfl⟩,h _ g5 g3 g4 g1 g2 fun c o x=>d_ _ (d_ _ (d_ _ (d_ _ (d_ _ x))))⟩
theorem Dt{l1 l2:Addr}{xs ys:Array a_}{Q:a_->e_->Prop}(q1:s.heap.IsList l1 xs)(q2:s.heap.IsList l2 ys)(h:fE s "list_iterator" "list_iterator" l1 l2 Q):B_ (Gy prog w) A (call (.type "zip") [.ref l1,.ref l2]) Q E s:=J2 F.called_zip (by decide) (F.typeCall_zip_2 _ _) (F.newCall_zip_2 _ _) (fun obj=>F.args_object_init_3 obj _ _) F.entry_zip_new (EC l1 l2 xs ys) ⟨q1,q2,mI h⟩
theorem Dv{l1 l2:Addr}{xs ys:Array a_}{Q:a_->e_->Prop}(q1:s.heap.IsTuple l1 xs)(q2:s.heap.IsList l2 ys)(h:fE s "tuple_iterator" "list_iterator" l1 l2 Q):B_ (Gy prog w) A (call (.type "zip") [.ref l1,.ref l2]) Q E s:=J2 F.called_zip (by decide) (F.typeCall_zip_2 _ _) (F.newCall_zip_2 _ _) (fun obj=>F.args_object_init_3 obj _ _) F.entry_zip_new (EE l1 l2 xs ys) ⟨q1,q2,mI h⟩
theorem Dw{l1 l2:Addr}{xs ys:Array a_}{Q:a_->e_->Prop}(q1:s.heap.IsTuple l1 xs)(q2:s.heap.IsTuple l2 ys)(h:fE s "tuple_iterator" "tuple_iterator" l1 l2 Q):B_ (Gy prog w) A (call (.type "zip") [.ref l1,.ref l2]) Q E s:=J2 F.called_zip (by decide) (F.typeCall_zip_2 _ _) (F.newCall_zip_2 _ _) (fun obj=>F.args_object_init_3 obj _ _) F.entry_zip_new (EF l1 l2 xs ys) ⟨q1,q2,mI h⟩
theorem Du{l1 l2:Addr}{xs ys:Array a_}{Q:a_->e_->Prop}(q1:s.heap.IsList l1 xs)(q2:s.heap.IsTuple l2 ys)(h:fE s "list_iterator" "tuple_iterator" l1 l2 Q):B_ (Gy prog w) A (call (.type "zip") [.ref l1,.ref l2]) Q E s:=J2 F.called_zip (by decide) (F.typeCall_zip_2 _ _) (F.newCall_zip_2 _ _) (fun obj=>F.args_object_init_3 obj _ _) F.entry_zip_new (ED l1 l2 xs ys) ⟨q1,q2,mI h⟩
end
end
def dg(K:W.Frag)(t:Bool)(a:Addr)(H:Hp)(xs:List V):Prop:=match t with
|false=>aL K H a xs
|true=>bp K H a xs
def iT(t:Bool)(a u:Addr)(i:Nat)(h:Heap):Prop:=match t with
|false=>h.IsListIter u a i
|true=>h.IsTupleIter u a i
abbrev rP(t:Bool):String:=match t with
|false => "list_iterator"
|true => "tuple_iterator"
theorem wj{t:Bool}{a u:Addr}{h:Heap}(e:h.get? u=some (eQ (rP t) a)):iT t a u 0 h:=by cases t <;> exact⟨_,e,rfl,rfl⟩
theorem mR{t:Bool}{a u:Addr}{i:Nat}{h:Heap}(e:iT t a u i h):∃o,h.get? u=some o/\∀v,o.data≠.cell v:=by cases t <;> (obtain⟨o,ho,hc,hd⟩:=e;exact⟨o,ho,fun v z=>by rw[hd]at z;cases z⟩)
theorem mW{t:Bool}{a u:Addr}{i:Nat}{h h':Heap}(e:iT t a u i h)(k:∀o,h.get? u=some o->h'.get? u=some o):iT t a u i h':=by cases t <;> (obtain⟨o,ho,r⟩:=e;exact⟨o,k o ho,r⟩)
section
variable{X:Cx}{pz:List (Addr×Obj)}{σ:L2.St}{H:Hp}{s:e_}{t:Bool}{a u:Addr}{xs ys:List V}{i:Nat}
theorem lX(I:Inv X pz σ H s)(hc:X.calm=true)(hq:dg X.K t a H xs)(hau:a≠u)(hi:iT t a u i s.heap):∃(its:List a_)(St:Nat->Heap->Prop),ai xs its/\LF X.prog X.w X.A.in1 u [u,a] its.toArray.size (fun i v=>its.toArray[i]? = some v) St/\St i s.heap/\∀j h',St j h'->iT t a u j h':=by cases t with
|false=>obtain⟨its,rv,p,hz⟩:=I.list hq;exact⟨its,_,rv,M4 (A:=X.A.in1) (show X.A.in1.handled=none from I.ok.hd hc) u a hau its.toArray,⟨hi,p.isList⟩,fun j h' st=>st.1⟩
|true=>obtain⟨its,rv,p,hz⟩:=I.tuple hq;exact⟨its,_,rv,oV (A:=X.A.in1) (show X.A.in1.handled=none from I.ok.hd hc) u a hau its.toArray,⟨hi,p⟩,fun j h' st=>st.1⟩
theorem wC(I:Inv X pz σ H s)(h1:dg X.K t a H xs)(h2:dg X.K t a H ys):xs=ys:=by cases t with
|false=>exact I.list_inj h1 h2
|true=>exact I.tuple_inj h1 h2
theorem xU(I:Inv X pz σ H s)(h1:dg X.K t a H xs):a<s.heap.objs.size:=by cases t with
|false=>obtain⟨its,rv,p,hz⟩:=I.list h1;obtain⟨o,ho,_⟩:=p.isList;exact q_ ho
|true=>obtain⟨its,rv,p,hz⟩:=I.tuple h1;obtain⟨o,ho,_⟩:=id p;exact q_ ho
theorem Ey{h':Heap}{ch:List Addr}{t':Nat}(I:Inv X pz σ H s)(hch:∀b∈ch,cg X pz H b)(k:∀b ob,b∉ch->s.heap.get? b=some ob->h'.get? b=some ob):Inv X pz σ H { s with heap:=h',toks:=t' }:=by
 have trk:∀b u,H b=some u->b∉ch:=fun b u e hb=>by rw[(hch b hb).1]at e;cases e
 refine I.step (g':=s.gens) (d':=s.drawn) (ch:=ch) (fun b hb=>?_) (fun b ob _ _ hc e _=>k b ob hc e) (fun b ob _ _ hc e _=>⟨ob.slots,k b ob hc e⟩) (fun b ob hc e n=>n)
  (fun b ob hc e=>⟨ob,k b ob hc e⟩) (fun b xs e=>e) (fun b ob u e=>e) (fun b ps e=>⟨#[],by rw[e];simp⟩) (fun m hm=>?_) (fun b u e=>?_) I.bare
 .obtain⟨z0,z1,z2,z3,z4,z5⟩:=hch b hb;exact⟨z3,z1,z4,z5⟩
 .obtain⟨ob,es,ep,ho,r⟩:=hm;exact⟨ob,es,ep,k _ ob (fun hb=>(hch _ hb).2.1 rfl) ho,r⟩
 .refine(I.hok b u e).stay (fun c v hc q=>k c v ?_ q) (fun c q=>q) fun c xs q=>q;rcases hc with z|z
  .rw[z];exact trk b u e
  .exact trk c _ z
end
def n5(sq1 sq2:Hp->List V->Prop):It:=⟨fun i H=>∃xs ys x y,sq1 H xs/\sq2 H ys/\xs[i]? = some x/\ys[i]? = some y,fun i H x H'=>∃p v u,H p=none/\x=.ref p/\H'=upd H p (.tup [v,u])/\(∀xs,sq1 H xs->xs[i]? = some v)/\∀ys,sq2 H ys->ys[i]? = some u,fun i H=>∃xs ys,sq1 H xs/\sq2 H ys/\min xs.length ys.length=i⟩
theorem Ee{P:u_}{w:Gz}{H:Hp}{h:Heap}{T:Addr}{x y:a_}{v u:V}(hT:h.get? T=some { cls:=.type "tuple",data:=.seq #[x,y] })(r1:L2.aj v x)(r2:L2.aj u y):bC P w H h T (.tup [v,u]):=⟨by show 2<=sizeLine;decide,[x,y],.cons r1 (.cons r2 .nil),⟨_,hT,rfl,0,rfl⟩,_,hT,rfl⟩
theorem D6{P:u_}{w:Gz}{K:W.Frag}{elts:List Expr}{k:Nat}{pos:Pos}{t1 t2:Bool}(a b zp ti to u1 u2:Addr)(Z:ZA zp ti to u1 u2 [u1,a] [u2,b])(h1:a≠u1)(h2:b≠u2):Turn P w K (.Tuple elts k pos) (n5 (dg K t1 a) (dg K t2 b)) [zp,ti,to,u1,u2] zp (fun i h=>Ka h zp ti to .none/\Ih h ti (.ref u1) (.ref u2)/\(∃p q,Ih h to p q)/\iT t1 a u1 i h/\iT t2 b u2 i h) where
 mem:=by simp
 obj:=fun i h st c hc=>by
  obtain⟨hz,hi,⟨p,q,ho⟩,s1,s2⟩:=st;simp only[n_,GZ,or_false]at hc;rcases hc with rfl|rfl|rfl|rfl|rfl
  .exact⟨_,hz,fun v z=>by have z':Data.fields _=Data.cell v:=z;cases z'⟩
  .exact⟨_,hi,fun v z=>by have z':Data.seq _ _=Data.cell v:=z;cases z'⟩
  .exact⟨_,ho,fun v z=>by have z':Data.seq _ _=Data.cell v:=z;cases z'⟩
  .exact mR s1
  .exact mR s2
 keep:=fun i h h' st kk=>by obtain⟨hz,hi,⟨p,q,ho⟩,s1,s2⟩:=st;exact⟨kk zp (by simp) _ hz,kk ti (by simp) _ hi,⟨p,q,kk to (by simp) _ ho⟩,mW s1 fun o e=>kk u1 (by simp) o e,mW s2 fun o e=>kk u2 (by simp) o e⟩
 item:=by
  intro X hP hw hK hc i pz s σ H E I hf st hg;subst hP hw hK;obtain⟨xs,ys,x,y,q1,q2,hx,hy⟩:=hg;obtain⟨hz,hi,⟨p,q,ho⟩,s1,s2⟩:=st;obtain⟨its1,St1,rv1,D1,d1,f1⟩:=lX I hc q1 h1 s1;obtain⟨its2,St2,rv2,D2,d2,f2⟩:=lX I hc q2 h2 s2;have l1:i<its1.toArray.size:=by have:=(h_.mp hx).1;rw[p_,<-rv1.length];exact this
  have l2:i<its2.toArray.size:=by have:=(h_.mp hy).1;rw[p_,<-rv2.length];exact this
  refine FC Z D1 D2 hz hi ho d1 d2 l1 l2 fun vx vy h' tk px py hz' hto' st1' st2' hT hsz hk=>⟨_,rfl,wpAny_letOwnedTupleGo_zip hz' fun h'' hz'' hs''=>?_⟩
  obtain⟨wx,e1,r1⟩:=rv1.get hx;obtain⟨wy,e2,r2⟩:=rv2.get hy;have ex:vx=wx:=by
   have:its1[i]? = some vx:=by simpa using px
   rw[e1]at this;exact(Gw this).symm
  have ey:vy=wy:=by
   have:its2[i]? = some vy:=by simpa using py
   rw[e2]at this;exact(Gw this).symm
  subst ex ey;have nT:∀c o,s.heap.get? c=some o->s.heap.objs.size≠c:=fun c o e=>HC (q_ e);have hT'':h''.get? s.heap.objs.size=some { cls:=.type "tuple",data:=.seq #[vx,vy] }:=(hs''.2 _ (nT _ _ hz)).trans hT;obtain⟨o1,ho1,_⟩:=mR s1;obtain⟨o2,ho2,_⟩:=mR s2;refine⟨.ref s.heap.objs.size,upd H s.heap.objs.size (.tup [x,y]),qb (s:=s) (h':=h'') (t':=tk) (ch:=[zp,to,u1,u2]) I (fun c hc=>hf c ?_) (fun c ob hb e=>?_) (w_ _) (Ee hT'' r1 r2),rfl,⟨_,x,y,I.hok.fresh (w_ _),rfl,rfl,fun zs hz=>by rw[wC I hz q1];exact hx,fun zs hz=>by rw[wC I hz q2];exact hy⟩,⟨hz'',?_,⟨vx,vy,?_⟩,?_,?_⟩,fun c hc=>?_⟩
  .simp only[n_,GZ,or_false]at hc ⊢;rcases hc with rfl|rfl|rfl|rfl <;> simp
  .simp only[n_,GZ,or_false,not_or]at hb;exact(hs''.2 c hb.1).trans (hk c ob hb.1 hb.2.1 hb.2.2.1 hb.2.2.2 e)
  .exact(hs''.2 _ Z.a1).trans (hk _ _ Z.a1 Z.a8.1 Z.a8.2.1 Z.a8.2.2 hi)
  .exact(hs''.2 _ Z.a2).trans hto'
  .exact mW (f1 _ _ st1') fun o e=>(hs''.2 _ Z.a3).trans e
  .exact mW (f2 _ _ st2') fun o e=>(hs''.2 _ Z.a4).trans e
  .rw[aN ?_]
   .exact(hf c hc).1
   .simp only[n_,GZ,or_false]at hc;rcases hc with rfl|rfl|rfl|rfl|rfl
    .exact(nT _ _ hz).symm
    .exact(nT _ _ hi).symm
    .exact(nT _ _ ho).symm
    .exact(nT _ _ ho1).symm
    .exact(nT _ _ ho2).symm
 done:=by
  intro X hP hw hK hc i pz s σ H E I hf st hg;subst hP hw hK;obtain⟨xs,ys,q1,q2,hm⟩:=hg;obtain⟨hz,hi,⟨p,q,ho⟩,s1,s2⟩:=st;obtain⟨its1,St1,rv1,D1,d1,f1⟩:=lX I hc q1 h1 s1;obtain⟨its2,St2,rv2,D2,d2,f2⟩:=lX I hc q2 h2 s2;have l1:=rv1.length;have l2:=rv2.length;refine FZ Z D1 D2 hz hi ho d1 d2 ?_ fun h' tk hk=>⟨rfl,Ey (h':=h') (t':=tk) (ch:=[zp,to,u1,u2]) I (fun c hc=>hf c ?_) fun c ob hb e=>?_⟩
  .rw[p_,p_];omega
  .simp only[n_,GZ,or_false]at hc ⊢;rcases hc with rfl|rfl|rfl|rfl <;> simp
  .simp only[n_,GZ,or_false,not_or]at hb;exact hk c ob hb.1 hb.2.1 hb.2.2.1 hb.2.2.2 e
 self:=fun _ _ _ _ _ st h=>Mr st.1 h
def fu(fa fb:FE):FI:=fun r=>(fa r).bind fun d=>(fb r).bind fun e=>(bz (bR d)).bind fun ds=>(bz (bR e)).bind fun es=>.ok (Jt (fun a b=>D.tup [a,b]) ds es)
theorem D8{α β γ:Type}(f:α->β->γ):∀(l:List α)(r:List β)(i:Nat),(Jt f l r)[i]? = (match l[i]?,r[i]? with|some a,some b=>some (f a b)|_,_=>none):=fun l r i=>by rw[Jy];cases l[i]? <;> cases r[i]? <;> rfl
theorem Cb{K:W.Frag}{ds es:List D}{G0:GH}{sq1 sq2:Hp->List V->Prop}(h1:∀G H,ax G0 G->aC K G H->∃xs,sq1 H xs/\bj K G xs ds)(h2:∀G H,ax G0 G->aC K G H->∃xs,sq2 H xs/\bj K G xs es):Yields K (n5 sq1 sq2) (Jt (fun a b=>D.tup [a,b]) ds es) G0:=by
 refine⟨fun G H i w gk hi=>?_,fun G H i x H' d w gk y e=>?_,fun G H w gk=>?_⟩
 .obtain⟨xs,s1,r1⟩:=h1 G H w gk;obtain⟨ys,s2,r2⟩:=h2 G H w gk;rw[JV]at hi;have l1:=Paired.length r1;have l2:=Paired.length r2;exact⟨xs,ys,xs[i]'(by omega),ys[i]'(by omega),s1,s2,m_ _,m_ _⟩
 .obtain⟨xs,s1,r1⟩:=h1 G H w gk;obtain⟨ys,s2,r2⟩:=h2 G H w gk;obtain⟨p,v,u,hp,rfl,rfl,hv,hu⟩:=y;rw[D8]at e;cases e1:ds[i]? with
 |none=>rw[e1]at e;cases e
 |some d1=>cases e2:es[i]? with
  |none=>rw[e1,e2]at e;cases e
  |some d2=>rw[e1,e2]at e;cases e;obtain⟨v',z1,rv⟩:=Paired.get r1 e1;obtain⟨u',z2,ru⟩:=Paired.get r2 e2;have a1:=hv xs s1;have a2:=hu ys s2;rw[z1]at a1;cases a1;rw[z2]at a2;cases a2;exact⟨_,Grow.newF gk hp (.tup (.inl cj) (.cons rv (.cons ru .nil))),.ref cq⟩
 .obtain⟨xs,s1,r1⟩:=h1 G H w gk;obtain⟨ys,s2,r2⟩:=h2 G H w gk;refine⟨xs,ys,s1,s2,?_⟩;rw[JV,Paired.length r1,Paired.length r2]
section
variable{X:Cx}{g:GE}{m:List Md}{e1 e2:Expr}{fa fb:FE}{pos p pos2:Pos}{elts:List Expr}{kk:Nat}
theorem Ci{pz:List (Addr×Obj)}{σ:L2.St}{H:Hp}{s:e_}{t1 t2:Bool}{a b:Addr}{xs ys:List V}{E:a_->e_->Prop}{Q:a_->e_->Prop}(I:Inv X pz σ H s)(q1:dg X.K t1 a H xs)(q2:dg X.K t2 b H ys)(h:fE s (rP t1) (rP t2) a b Q):B_ (Gy X.prog X.w) X.A (call (.type "zip") [.ref a,.ref b]) Q E s:=by cases t1 with
|false=>obtain⟨its1,_,p1,_⟩:=I.list q1;cases t2 with
 |false=>obtain⟨its2,_,p2,_⟩:=I.list q2;exact Dt p1.isList p2.isList h
 |true=>obtain⟨its2,_,p2,_⟩:=I.tuple q2;exact Du p1.isList (show s.heap.IsTuple b its2.toArray from p2) h
|true=>obtain⟨its1,_,p1,_⟩:=I.tuple q1;cases t2 with
 |false=>obtain⟨its2,_,p2,_⟩:=I.list q2;exact Dv (show s.heap.IsTuple a its1.toArray from p1) p2.isList h
 |true=>obtain⟨its2,_,p2,_⟩:=I.tuple q2;exact Dw (show s.heap.IsTuple a its1.toArray from p1) (show s.heap.IsTuple b its2.toArray from p2) h
theorem gI{x y:Nat}(h:x≠y):(show Addr from x)≠(show Addr from y):=h
theorem jV{x u a:Nat}(h1:x≠u)(h2:x≠a):(show Addr from x)∉[(show Addr from u),(show Addr from a)]:=fun h=>by
 rcases n_.mp h with h|h
 .exact h1 h
 .exact h2 (y_.mp h)
theorem Cc{a b k:Nat}(la:a<k)(lb:b<k):ZA (show Addr from k+4) (show Addr from k+2) (show Addr from k+3) (show Addr from k) (show Addr from k+1) [(show Addr from k),(show Addr from a)] [(show Addr from k+1),(show Addr from b)]:=⟨gI (by omega),gI (by omega),gI (by omega),gI (by omega),gI (by omega),gI (by omega),gI (by omega),⟨gI (by omega),gI (by omega),gI (by omega)⟩,⟨jV (by omega) (by omega),jV (by omega) (by omega),jV (by omega) (by omega)⟩,⟨jV (by omega) (by omega),jV (by omega) (by omega),jV (by omega) (by omega)⟩⟩
theorem AE{c k:Nat}(h:c=k+4\/c=k+2\/c=k+3\/c=k\/c=k+1):k<=c:=by omega
theorem Bx{ta tb:TE}(hg:Gl X "zip")(hm:X.mg "zip" = none)(ha:PE X e1 ta)(hb:PE X e2 tb)(hs:k_ [e1,e2] X.env=(false,eval e1 X.env)::k_ [e2] X.env:=by rfl)(hs2:k_ [e2] X.env=(false,eval e2 X.env)::k_ [] X.env:=by rfl)(hpl:(backTo pos (k_ [e2] X.env)).any (·.1)=false:=by rfl):PI X (.Tuple elts kk pos2) (.Call (.Name "zip" p) [e1,e2] [] pos) (fun σ H R=>ta σ H fun x H1=>tb σ H1 fun y H2=>∃(t1 t2:Bool)(a b:Addr),x=.ref a/\y=.ref b/\(∃xs,dg X.K t1 a H2 xs)/\(∃ys,dg X.K t2 b H2 ys)/\R (n5 (dg X.K t1 a) (dg X.K t2 b)) H2):=by
 intro pz s σ H R I h;refine Call_ (iH I hg hm boot_zip (Hs (aE (cY ha (cY hb gK hs2) hs pos pz s σ H (fun vs H2=>match vs with
 |[x,y]=>∃(t1 t2:Bool)(a b:Addr),x=.ref a/\y=.ref b/\(∃xs,dg X.K t1 a H2 xs)/\(∃ys,dg X.K t2 b H2 ys)/\R (n5 (dg X.K t1 a) (dg X.K t2 b)) H2
 |_=>False) I h) fun us s1 ⟨vs,H1,I1,r1,q1⟩=>?_) hs hpl))
 cases r1 with
|nil=>exact q1.elim
|@cons x u xs us rx rt=>cases rt with
|nil=>exact q1.elim
|@cons y u' xs' us' ry rt'=>cases rt' with
|cons _ _=>exact q1.elim
|nil=>
 obtain⟨t1,t2,a,b,rfl,rfl,⟨zs,z1⟩,⟨ws,z2⟩,q⟩:=q1;cases rx;cases ry;have la:=xU I1 z1;have lb:=xU I1 z2;refine Ci I1 z1 z2 fun h' hz hi ho o1 o2 kp=>Mr hz ?_;refine⟨_,[s1.heap.objs.size+4,s1.heap.objs.size+2,s1.heap.objs.size+3,s1.heap.objs.size,s1.heap.objs.size+1],_,_,H1,rfl,I1.kept (t':=s1.toks) kp,D6 (t1:=t1) (t2:=t2) a b _ _ _ _ _ (Cc la lb) (F_ la) (F_ (HG lb)),⟨hz,hi,⟨_,_,ho⟩,wj o1,wj o2⟩,fun c hc=>?_,q⟩;have hge:s1.heap.objs.size<=c:=by simp only[n_,GZ,or_false]at hc;exact AE hc
 exact I1.fpOk hge (I1.hok.fresh hge)
theorem sJ(hg:Gl X "zip")(hm:X.mg "zip" = none)(ha:SE X g m e1 fa)(hb:SE X g m e2 fb)(hs:k_ [e1,e2] X.env=(false,eval e1 X.env)::k_ [e2] X.env:=by rfl)(hs2:k_ [e2] X.env=(false,eval e2 X.env)::k_ [] X.env:=by rfl)(hpl:(backTo pos (k_ [e2] X.env)).any (·.1)=false:=by rfl):c9 X g m (.Tuple elts kk pos2) (.Call (.Name "zip" p) [e1,e2] [] pos) (fu fa fb):=by
 refine PI.imp (Bx hg hm ha hb hs hs2 hpl) fun σ H R ⟨r,G,si,q⟩=>⟨r,G,si,aK (aU q) fun d q v G1 H1 w1 rv=>⟨r,G1,si.grow w1,?_⟩⟩
 refine fV (aU q) w1 fun e q u G2 H2 w2 ru=>?_;obtain⟨ds,ed,q⟩:=cu (aU q);obtain⟨es,ee,q⟩:=cu (aU q);have rv2:=rv.mono w2.ge;have one:∀{v:V}{d:D}{ds:List D},RG X.K G2 v d->bR d=some ds->∃(t:Bool)(a:Addr),v=.ref a/\(∃xs,dg X.K t a H2 xs)/\∀G H,ax G2 G->aC X.K G H->∃xs,dg X.K t a H xs/\bj X.K G xs ds:=by intro v d ds rv ed;cases d with
 |lst ds'=>cases ed;obtain⟨a,xs,rfl,s,rs⟩:=rv.lst w2.ok;refine⟨false,a,rfl,⟨xs,s⟩,fun G H le gk=>?_⟩;obtain⟨b,ys,e,s',r'⟩:=(rv.mono le).lst gk;cases e;exact⟨ys,s',r'⟩
 |tup ds'=>cases ed;obtain⟨a,xs,rfl,s,rs⟩:=rv.tup w2.ok;refine⟨true,a,rfl,⟨xs,s⟩,fun G H le gk=>?_⟩;obtain⟨b,ys,e,s',r'⟩:=(rv.mono le).tup gk;cases e;exact⟨ys,s',r'⟩
 |_=>cases ed
 obtain⟨t1,a,rfl,x1,y1⟩:=one rv2 ed;obtain⟨t2,b,rfl,x2,y2⟩:=one ru ee;exact⟨t1,t2,a,b,rfl,rfl,x1,x2,q _ G2 H2 (w1.trans w2) (Cb y1 y2)⟩
end
def jG:Nat:=2^2000
def jQ(i j:Int):Prop:=i.natAbs<jG/\j.natAbs<jG
def me(_i j:Int):Prop:=0<j/\j.natAbs<jG
instance decMulW(i j:Int):Decidable (jQ i j):=by unfold jQ;infer_instance
instance decDivW(i j:Int):Decidable (me i j):=by unfold me;infer_instance
theorem vI{i:Int}(h:i.natAbs<jG):Ja i<=2000:=by
 unfold Ja;split
 .exact GL _
 .rename_i z;have h0:i.natAbs≠0:=fun e=>z (by rw[Int.natAbs_eq_zero.mp e];rfl);have:=(N3 h0).mpr h;omega
theorem jQ.ok{i j:Int}(h:jQ i j):IntMulOk i j:=by
 have h1:=vI h.1;have h2:=vI h.2;unfold IntMulOk;have e:Lf ((Ja i:Int)+(Ja j:Int))=false:=by
  unfold Lf;have:((bitsLine:Nat):Int)=134217728:=by decide+kernel
  exact decide_eq_false (by omega)
 rw[e];simp
theorem B0:aV X (Im .Mult) (rI jQ fun i j=>.int (i*j)):=j9 fun _ _ _ _ _ _ _ hc q=>mul_int q hc.ok
theorem Ed:aV X (Im .FloorDiv) (rI me fun i j=>.int (i/j)):=j9 fun i j _ _ _ _ _ hc q=>by
 have h1:(0:Int)<j:=hc.1;have h2:j.natAbs<jG:=hc.2;have h0:j.natAbs≠0:=by omega
 have:=(N3 h0).mpr h2;exact floordiv_int (by omega) (by rw[J8 i (by omega)];exact q) (.inl (PyProof.noPylong_of_log2 (by omega)))
abbrev bX:D->D->Option D:=gC jQ fun a b=>.int (a*b)
abbrev i3:D->D->Option D:=gC me fun a b=>.int (a/b)
section
variable{X:Cx}{g:GE}{m:List Md}{e a b c o:Expr}{es:List Expr}{f fa fb fc fo:FE}{fl:af->Res (List D)}{pos p apos cpos:Pos}
theorem fQ(ha:SB X g m a fa)(hb:SB X g m b fb):SE X g m (.BinOp a .Mult b pos) (f2 fa fb bX):=iF B0 (jX fun _ _=>.int _) ha hb
theorem mL(ha:SB X g m a fa)(hb:SB X g m b fb):SE X g m (.BinOp a .FloorDiv b pos) (f2 fa fb i3):=iF Ed (jX fun _ _=>.int _) ha hb
def absD:List D->Option D
|[.int i]=>some (.int (if i<0 then-i else i))
|_=>none
theorem AR{K:W.Frag}:kh K (fun xs H Q=>∃i:Int,xs=[.int i]/\Q (.int (if i<0 then-i else i)) H) absD:=by
 intro G H vs ds d Q gk rs e q;unfold absD at e;split at e
 .cases e;cases rs with
 |cons r1 t=>cases t;exact⟨_,by rw[r1.int gk],q _ G H (Grow.refl gk) (.scl (.int _))⟩
 .cases e
theorem sR(hg:Gl X "abs")(hm:X.mg "abs" = none)(ha:gU X g m (e::es) fl)(he:k_ (e::es) X.env=(false,eval e X.env)::k_ es X.env:=by rfl)(hpl:(backTo pos (k_ es X.env)).any (·.1)=false:=by rfl):SE X g m (.Call (.Name "abs" p) (e::es) [] pos) (fC fl absD):=fZ AR (kR Dq hg hm PyProof.Rows.boot_abs ha (by decide) (by decide) he hpl)
theorem pH{x:Str}{d:D}(hg:Gl X x)(hk:∃a,X.mg x=some (.ref a)/\KC X.K a d)(hd:(x==("__debug__" : Str))=false:=by decide):SE X g m (.Name x pos) fun _=>.ok d:=by obtain⟨a,hm,k⟩:=hk;exact PE.imp (B8 (v:=.ref a) hg hm rfl hd) fun σ H Q ⟨r,G,si,q⟩=>q (.ref a) G H (Grow.refl si.gok) (.kc k)
theorem zD{K:W.Frag}{h:Heap}{mg:Str->Option a_}{x:Str}(KX:K.In h)(G:h.Ns Hr mg){a:Addr}{i j:Int}{t u:Tok}{n:Nat}{sl:Array (Option a_)}(z:W.nsIn K Hr x=some (some (.ref a)))(l:K.lookup a=some ⟨.type "tuple",none,.seq #[.int i t,.int j u] n,sl⟩):∃a,mg x=some (.ref a)/\KC K a (.tup [.int i,.int j]):=by refine⟨a,W.mg_of KX G z,.tup (xs:=[.int i,.int j]) (.inr ⟨_,_,_,l,rfl,rfl,?_,.cons ⟨_,rfl⟩ (.cons ⟨_,rfl⟩ .nil)⟩) (.cons (.int _) (.cons (.int _) .nil)) ⟨_,l,rfl,rfl⟩⟩;show 2<=sizeLine;rw[HA];decide
end
def lO:ap->D
|.inl i=>.int i
|.inr x=>.str x
theorem Ct(k:ap):Scl (kV k) (lO k):=by cases k with
|inl i=>exact .int i
|inr x=>exact .str x
def mC:D->Option (List D)
|.dic kvs=>some (kvs.map fun kv=>lO kv.1)
|_=>none
def ss(a:Addr)(ob:Obj)(ps:List (ap×V)):It:=⟨fun i H=>H a=some (.frz ob (.dK ps))/\i<ps.length,fun i H x H'=>H'=H/\∃kv,ps[i]? = some kv/\x=kV kv.1,fun i H=>H a=some (.frz ob (.dK ps))/\i=ps.length⟩
theorem AO{P:u_}{w:Gz}{k:ap}{u:a_}(h:(dH P w).is k u=true):aj (kV k) u:=by
 rcases keyIs_shape h with⟨i,t,rfl,rfl⟩|⟨x,t,rfl,rfl⟩
 .exact⟨t,rfl⟩
 .exact⟨t,rfl⟩
section
variable{X:Cx}{pz:List (Addr×Obj)}{σ:L2.St}{H:Hp}{s:e_}{a:Addr}{ob:Obj}{ps:List (ap×V)}
theorem pq(I:Inv X pz σ H s)(e:H a=some (.frz ob (.dK ps))){es:Array Mj}{ep:Nat}(hob:ob.data=.dict es ep):∃vs,KV ps vs/\s.heap.DictAt (dH X.prog X.w) a vs ep/\(a==Ig)=false:=by
 obtain⟨h1,z,y,vs,r,o',es',ep',h2,c1,c2,c3⟩:=(show bC X.prog X.w H s.heap a (.frz ob (.dK ps))from I.hok a _ e)
 rw[h1]at h2;cases h2;rw[hob]at c2;cases c2;exact⟨vs,r,⟨ob,es,h1,c1,hob,c3⟩,y⟩
theorem Co(I:Inv X pz σ H s)(e:H a=some (.frz ob (.dK ps))):∃(es:Array Mj)(ep:Nat),ob.data=.dict es ep:=by
 obtain⟨h1,z,y,vs,r,o',es',ep',h2,c1,c2,c3⟩:=(show bC X.prog X.w H s.heap a (.frz ob (.dK ps))from I.hok a _ e)
 rw[h1]at h2;cases h2;exact⟨es',ep',c2⟩
end
theorem E5{P:u_}{w:Gz}{K:W.Frag}{tg:Expr}(a it:Addr){ob:Obj}{ps:List (ap×V)}{es:Array Mj}{ep:Nat}(hob:ob.data=.dict es ep):Turn P w K tg (ss a ob ps) [it] it (fun i h=>h.IsKeyIter it a i ps.length ep) where
 mem:=by simp
 obj:=fun i h st b hb=>by
  have e:b=it:=by simpa using hb
  subst e;obtain⟨o,e,c,d⟩:=st;exact⟨o,e,fun v z=>by rw[d]at z;cases z⟩
 keep:=fun i h h' st k=>st.at fun o e=>k it (by simp) o e
 item:=by
  intro X hP hw hK hc i pz s σ H E I hf st hg;subst hP hw hK;obtain⟨he,hi⟩:=hg;obtain⟨vs,r,m,_⟩:=pq I he hob;have hl:ps.length=vs.length:=Paired.length r;have hiv:i<vs.length:=by omega
  obtain⟨kv,h1,h2⟩:=DL.Paired.get r (m_ hiv);obtain⟨f0,f1,f2,f3,f4,f5⟩:=hf it (by simp);rw[hl]at st;refine wpAny_pyNext_dict_item (k:=vs[i].1) (v:=vs[i].2) st m (m_ hiv) fun key h' hkey hit' sb=>?_;have I1:Inv X pz σ H { s with heap:=h' }:=I.turned (t':=s.toks) (fun b o hb e=>(sb.2 b hb).trans e) f0 f1 f3 f4 f5;obtain⟨o,e,c,d⟩:=id hit';exact⟨key,rfl,l5 (s:={ s with heap:=h' }) e c d (by decide) ⟨kV kv.1,H,I1,by rw[h2.1];exact AO hkey,⟨rfl,kv,h1,rfl⟩,by rw[hl];exact hit',fun b hb=>(hf b hb).1⟩⟩
 done:=by intro X hP hw hK hc i pz s σ H E I hf st hg;subst hP hw hK;obtain⟨he,hi⟩:=hg;obtain⟨vs,r,m,_⟩:=pq I he hob;have hl:ps.length=vs.length:=Paired.length r;obtain⟨f0,f1,f2,f3,f4,f5⟩:=hf it (by simp);rw[hl]at st;exact wpAny_pyNext_dict_end (I.ok.hd hc) st m (by rw[Hk];omega) fun h' eb=>⟨rfl,I.turned (t':=s.toks) (fun b o hb e=>eb b o hb e) f0 f1 f3 f4 f5⟩
 self:=fun _ _ _ _ _ st h=>wpAny_pyIter_keyiter st h
section
variable{X:Cx}{g:GE}{m m' m1 mb:List Md}{tg e a b c iter:Expr}{f fa fb:FE}{p:FQ}{pos pos':Pos}{ro:Bool}{fl:af->Res (List D)}{sts:List Stmt}{s1:FS}
theorem Ca{l:Expr}{tl:TE}(hl:PE X l tl):PI X tg l (fun σ H R=>tl σ H fun x H1=>∃a ob ps,x=.ref a/\H1 a=some (.frz ob (.dK ps))/\R (ss a ob ps) H1):=by
 intro pz s σ H R I h;refine aE (hl pz s σ H _ I h) fun v s1 ⟨x,H1,I1,r1,q1⟩=>?_;obtain⟨a,ob,ps,e,he,q⟩:=q1;subst e;cases r1;obtain⟨es,ep,hob⟩:=Co I1 he;obtain⟨vs,r,mm,hs⟩:=pq I1 he hob;have hl:ps.length=vs.length:=Paired.length r;refine wpAny_pyIter_dict hs mm ?_;refine⟨s1.heap.objs.size,[s1.heap.objs.size],_,_,H1,rfl,I1.kept (t':=s1.toks) fun b o e=>d_ _ e,E5 a _ hob,⟨_,r_ _ rfl,rfl,by rw[hl];rfl⟩,fun b hb=>?_,q⟩;have e:b=s1.heap.objs.size:=by simpa using hb
 subst e;exact I1.fpOk (w_ _) (I1.hok.fresh (w_ _))
theorem Aj{K:W.Frag}{G:GH}{ps:List (ap×V)}{kvs:List (ap×D)}(r:di K G ps kvs){i:Nat}{kv:ap×V}{d:D}(h:ps[i]? = some kv)(hd:(kvs.map fun kv=>lO kv.1)[i]? = some d):RG K G (kV kv.1) d:=by rw[o_]at hd;cases e:kvs[i]? with
|none=>rw[e]at hd;cases hd
|some q=>rw[e]at hd;cases hd;obtain⟨kv',h1,h2⟩:=DL.Paired.get r e;rw[h]at h1;cases h1;rw[h2.1];exact .scl (Ct _)
theorem RG.dicF{K:W.Frag}{G:GH}{H:Hp}{v:V}{kvs:List (ap×D)}(gk:aC K G H)(h:RG K G v (.dic kvs)):∃a ob ps,v=.ref a/\G a=some (.dic kvs)/\H a=some (.frz ob (.dK ps))/\di K G ps kvs:=by cases h with
|scl s=>cases s
|ref e=>cases gk _ _ e with
 |dic r s=>exact⟨_,_,_,rfl,e,r,s⟩
|kc k=>cases k
def dB(g:GE)(a:Addr)(d:D)(u:HO):GE:=⟨gset g.gh a d,upd g.h0 a u,g.hd⟩
theorem SI.up{r:af}{G:GH}{st:L2.St}{H:Hp}{a:Addr}{d:D}{u:HO}(s:SI X g m r G st H)(hG:G a=some d)(hH:H a=some u):SI X (dB g a d u) m r G st H where
 gok:=s.gok
 old:=fun b o e=>by
  by_cases hb:b=a
  .subst hb;have e':upd g.h0 b u b=some o:=e;rw[cj]at e';cases e';exact hH
  .have e':upd g.h0 a u b=some o:=e;rw[aN hb]at e';exact s.old b o e'
 ge:=fun b x e=>by
  by_cases hb:b=a
  .subst hb;have e':gset g.gh b d b=some x:=e;rw[cq]at e';cases e';exact hG
  .have e':gset g.gh a d b=some x:=e;rw[cE hb]at e';exact s.ge b x e'
 gf:=fun b h=>by
  show G b=gset g.gh a d b;by_cases hb:b=a
  .subst hb;rw[cq];exact hG
  .rw[cE hb];exact s.gf b fun z=>h (show upd g.h0 a u b=none by rw[aN hb];exact z)
 lm:=s.lm
 lr:=s.lr
 sh:=s.sh
 ow:=fun i x h1 h2=>by
  obtain⟨c,q1,q2,q3⟩:=s.ow i x h1 h2;refine⟨c,q1,q2,?_⟩;have hc:c≠a:=by rintro rfl;rw[q2.un]at hG;cases hG
  show upd g.h0 a u c=none;rw[aN hc];exact q3
 bw:=fun i x h1 h2=>by
  obtain⟨v,q1,q2⟩:=s.bw i x h1 h2;refine⟨v,q1,?_⟩;rcases q2 with q2|⟨c,e,q2,q3⟩
  .exact .inl q2
  .refine .inr ⟨c,e,q2,?_⟩;have hc:c≠a:=by rintro rfl;rw[q2.un]at hG;cases hG
   show upd g.h0 a u c≠none;rw[aN hc];exact q3
 dis:=s.dis
 lk:=s.lk
structure Had(g:GE)(a:Addr)(d:D)(u:HO):Prop where
 h0:∀o,g.h0 a=some o->o=u
 gh:∀x,g.gh a=some x->x=d
 gf:g.h0 a≠none->g.gh a=some d
theorem SI.had{r:af}{G:GH}{st:L2.St}{H:Hp}{a:Addr}{d:D}{u:HO}(s:SI X g m r G st H)(hG:G a=some d)(hH:H a=some u):Had g a d u:=⟨fun o e=>by have:=s.old a o e;rw[hH]at this;cases this;rfl,fun x e=>by have:=s.ge a x e;rw[hG]at this;cases this;rfl,fun h=>by rw[<-s.gf a h];exact hG⟩
theorem SI.down{r:af}{G:GH}{st:L2.St}{H:Hp}{a:Addr}{d:D}{u:HO}(hd:Had g a d u)(s:SI X (dB g a d u) m r G st H):SI X g m r G st H:=by
 have hH:H a=some u:=s.old a u cj;have hG:G a=some d:=s.ge a d cq;exact{
  gok:=s.gok
  old:=fun b o e=>by
   by_cases hb:b=a
   .subst hb;rw[hd.h0 o e];exact hH
   .exact s.old b o (show upd g.h0 a u b=some o by rw[aN hb];exact e)
  ge:=fun b x e=>by
   by_cases hb:b=a
   .subst hb;rw[hd.gh x e];exact hG
   .exact s.ge b x (show gset g.gh a d b=some x by rw[cE hb];exact e)
  gf:=fun b h=>by
   by_cases hb:b=a
   .subst hb;rw[hG,hd.gf h]
   .have:=s.gf b (show upd g.h0 a u b≠none by rw[aN hb];exact h);rw[this];exact cE hb
  lm:=s.lm
  lr:=s.lr
  sh:=s.sh
  ow:=fun i x h1 h2=>by
   obtain⟨c,q1,q2,q3⟩:=s.ow i x h1 h2;have hc:c≠a:=by rintro rfl;rw[q2.un]at hG;cases hG
   refine⟨c,q1,q2,?_⟩;have q3':upd g.h0 a u c=none:=q3;rw[aN hc]at q3';exact q3'
  bw:=fun i x h1 h2=>by
   obtain⟨v,q1,q2⟩:=s.bw i x h1 h2;refine⟨v,q1,?_⟩;rcases q2 with q2|⟨c,e,q2,q3⟩
   .exact .inl q2
   .have hc:c≠a:=by rintro rfl;rw[q2.un]at hG;cases hG
    refine .inr ⟨c,e,q2,?_⟩;have q3':upd g.h0 a u c≠none:=q3;rw[aN hc]at q3';exact q3'
  dis:=s.dis
  lk:=s.lk }
theorem Grow.down{K:W.Frag}{G':GH}{H':Hp}{a:Addr}{d:D}{u:HO}(hd:Had g a d u)(w:Grow K (dB g a d u).gh (dB g a d u).h0 G' H'):Grow K g.gh g.h0 G' H':=
 ⟨w.ok,fun b o e=>by
  by_cases hb:b=a
  .subst hb;rw[hd.h0 o e];exact w.he b u cj
  .exact w.he b o (show upd g.h0 a u b=some o by rw[aN hb];exact e),fun b x e=>by
  by_cases hb:b=a
  .subst hb;rw[hd.gh x e];exact w.ge b d cq
  .exact w.ge b x (show gset g.gh a d b=some x by rw[cE hb];exact e),fun b h=>by
  by_cases hb:b=a
  .subst hb;rw[hd.gf h];exact w.ge b d cq
  .have:=w.gf b (show upd g.h0 a u b≠none by rw[aN hb];exact h);rw[this];exact cE hb⟩
def Gd(X:Cx)(g:GE)(m:List Md)(f:FE):TI:=fun σ H R=>∃r G,SI X g m r G σ H/\fin (f r) (fun d=>∀a ob ps kvs G' H',d=.dic kvs->Grow X.K G H G' H'->G' a=some (.dic kvs)->H' a=some (.frz ob (.dK ps))->di X.K G' ps kvs->R (ss a ob ps) H') (XW X σ G H)
theorem AG(h:SE X g m e f)(hd:∀r d,f r=.ok d->∃kvs,d=.dic kvs):PI X tg e (Gd X g m f):=by
 refine PI.imp (Ca h) fun σ H R ⟨r,G,si,q⟩=>⟨r,G,si,?_⟩
 cases er:f r with
|ok d=>rw[er]at q;intro v G' H' w rv;obtain⟨kvs,rfl⟩:=hd r d er;obtain⟨a,ob,ps,rfl,hG,he,rs⟩:=RG.dicF w.ok rv;exact⟨a,ob,ps,rfl,he,q a ob ps kvs G' H' rfl w hG he rs⟩
|exc x=>rw[er]at q;exact q
|stuck=>rw[er]at q;exact q
def kj(f:FE):FE:=fun r=>(f r).bind fun d=>match d with
|.dic kvs=>.ok (.dic kvs)
|_=>.stuck
theorem CM(h:SE X g m e f):SE X g m e (kj f):=PE.imp h fun σ H Q ⟨r,G,si,q⟩=>⟨r,G,si,by refine aK (aU q) fun d q v G' H' w rv=>?_;cases d with
|dic kvs=>exact q v G' H' w rv
|_=>exact q.elim⟩
theorem Ek(f:FE):∀r d,kj f r=.ok d->∃kvs,d=.dic kvs:=by intro r d e;unfold kj at e;cases er:f r with
|ok x=>rw[er,bind_ok]at e;cases x with
 |dic kvs=>cases e;exact⟨kvs,rfl⟩
 |_=>cases e
|exc x=>rw[er]at e;cases e
|stuck=>rw[er]at e;cases e
theorem EH{r:af}{q:List D->Prop}{x:D->Prop}(h:fin (aR mC f r) q x):fin (kj f r) (fun d=>∀kvs,d=.dic kvs->q (kvs.map fun kv=>lO kv.1)) x:=by unfold aR at h;unfold kj;cases er:f r with
|ok d=>rw[er]at h;cases d with
 |dic kvs=>intro kvs' e;cases e;exact h
 |_=>exact h
|exc y=>rw[er]at h;exact h
|stuck=>rw[er]at h;exact h
theorem A6(hp:JA (Gy X.prog X.w) X.A X.env X.xe)(hc:X.calm=true){ft:FT}(hi:SE X g m iter f)(hg:∀g',SG X g' m tg ft m)(hb:∀g',eu X g' ro m m sts s1 m)(hs:∀x,Hv iter X.env x=pure x:=by intro _;rfl):SS X g ro mb m (.For tg iter sts [] pos) (cM m (aR mC f) ft s1) m:=by
 have hgA:PG X tg (fun v σ H Q=>∃g',tG X g' m m ft v σ H Q):=fun pz s σ H v u Q I r ⟨g',q⟩=>(hg g').2 pz s σ H v u Q I r q;have hbA:cm X sts (fun D σ H=>∃g',tS X g' ro m m m s1 D σ H):=fun pz s σ H D I ⟨g',q⟩=>(hb g').2 pz s σ H D I q;refine⟨rfl,PS.imp (kB hp hc (AG (CM hi) (Ek f)) hgA hbA hs) fun D σ H ⟨r,G,si,q⟩=>⟨r,G,si,aK (EH (dI si rfl q)) fun d q a ob ps kvs G0 H0 ed w0 hG0 hH0 rs0=>?_⟩⟩;replace q:=q kvs ed;have si0:=si.grow w0;have hl:ps.length=kvs.length:=Paired.length rs0;have had:=si0.had hG0 hH0;generalize hds:(kvs.map fun kv=>lO kv.1)=ds at q;have hdl:ds.length=ps.length:=by rw[<-hds,t_];omega
 refine⟨fun i n σ H=>∃r G,SI X (dB g a (.dic kvs) (.frz ob (.dK ps))) m r G σ H/\ax G0 G/\i<=ds.length/\n=ds.length-i/\aX X g ro m mb G D (aF ft s1 (ds.drop i) r),⟨ds.length,r,G0,si0.up hG0 hH0,ax.refl G0,GL _,rfl,aX.gle q w0.ge⟩,?_⟩
 rintro i n σ1 H1 ⟨r1,G1,si1,le1,hi,rfl,q1⟩
 have hH1:H1 a=some (.frz ob (.dK ps)):=si1.old a _ cj;by_cases hlt:i<ds.length
 .have hd:ds.drop i=ds[i]::ds.drop (i+1):=Hh hlt;rw[hd]at q1;unfold aF at q1;refine .inr ⟨⟨hH1,by omega⟩,fun σ' H'=>∃r G,SI X (dB g a (.dic kvs) (.frz ob (.dK ps))) m r G σ' H'/\ax G0 G/\aX X g ro m mb G D (aF ft s1 (ds.drop (i+1)) r),fun σ' H' ⟨r',G',si',le',q'⟩=>⟨ds.length-(i+1),by omega,r',G',si',le',hlt,rfl,q'⟩,fun x H' y=>?_⟩;obtain⟨rfl,kv,hk1,rfl⟩:=y;have rv:RG X.K G1 (kV kv.1) ds[i]:=Aj (di.mono rs0 le1) hk1 (by rw[hds];exact m_ hlt);cases eft:ft ds[i] r1 with
 |none=>simp only[eft]at q1;exact q1.elim
 |some r2=>simp only[eft]at q1;refine⟨dB g a (.dic kvs) (.frz ob (.dK ps)),r1,G1,ds[i],si1,rv,r2,eft,fun σ2 si2=>⟨dB g a (.dic kvs) (.frz ob (.dK ps)),r2,G1,si2,?_⟩⟩;cases eb:s1 r2 with
  |nx r'=>simp only[eb]at q1;exact fun σ3 G3 H3 le3 si3=>⟨r',G3,si3,le1.trans le3,aX.gle q1 le3⟩
  |ct r'=>simp only[eb]at q1;exact fun σ3 G3 H3 le3 si3=>⟨r',G3,si3,le1.trans le3,aX.gle q1 le3⟩
  |bk r'=>simp only[eb]at q1;exact fun σ3 G3 H3 le3 si3=>q1 σ3 G3 H3 le3 (si3.down had)
  |rt d=>simp only[eb]at q1;intro v G2 H2 wr rv2;refine q1 v G2 H2 (wr.down had) ?_;cases ro with
   |false=>exact rv2
   |true=>
     rcases rv2 with⟨c,e1,e2,e3⟩|z
     .refine .inl ⟨c,e1,?_,e3⟩;have hca:c≠a:=by
       rintro rfl
       have:=wr.ge c _ cq;rw[e3.un]at this;cases this
      have e2':upd g.h0 a (.frz ob (.dK ps)) c=none:=e2;rw[aN hca]at e2';exact e2'
     .exact .inr z
  |exc x r'=>simp only[eb]at q1;exact fun pz e s' σ3 G3 H3 le3 si3=>q1 pz e s' σ3 G3 H3 le3 (si3.down had)
  |stuck=>simp only[eb]at q1;exact q1
 .have e:i=ds.length:=by omega
  subst e;rw[Ir]at q1;exact .inl ⟨⟨hH1,by omega⟩,q1 σ1 G1 H1 (ax.refl _) (si1.down had)⟩
end
section
variable{X:Cx}{g:GE}{m:List Md}{e o:Expr}{es:List Expr}{fo:FE}{fl:af->Res (List D)}{pos p pos':Pos}
theorem DE(hc:X.calm=true):dD X (.builtin "sum") (fun xs H Q=>∃(p:Addr)(ks:List Int),xs=[.ref p]/\aL X.K H p (ks.map V.int)/\Q (.int ks.sum) H):=by intro pz s σ H xs us Q I r h;obtain⟨p,ks,rfl,hq,q⟩:=h;obtain⟨u,rfl,rx⟩:=bU r;cases rx;obtain⟨its,rv,pl,hz⟩:=I.list hq;obtain⟨mF,F⟩:=I.fr;exact Nl F (Dk (g:=X.base) (h:=s.heap) (L:=X.env.locals)) (I.ok.hd hc) pl.isList (qy rv) fun h' tk t' F' N'=>⟨.int ks.sum,_,Inv.keptF I F F' N' tk,⟨_,rfl⟩,q⟩
def sumD:List D->Option D
|[.lst ds]=>(dk ds).map fun ks=>.int ks.sum
|_=>none
theorem Bg{K:W.Frag}:kh K (fun xs H Q=>∃(p:Addr)(ks:List Int),xs=[.ref p]/\aL K H p (ks.map V.int)/\Q (.int ks.sum) H) sumD:=by
 intro G H vs ds d Q gk rs e q;unfold sumD at e;split at e
 .rename_i zs;cases ek:dk zs with
 |none=>rw[ek]at e;cases e
 |some ks=>rw[ek]at e;cases e;cases rs with
  |cons r1 t=>cases t;obtain⟨b,xs,rfl,s,r⟩:=r1.lst gk;have ex:=pU gk r ek;subst ex;exact⟨b,ks,rfl,s,q _ G H (Grow.refl gk) (.scl (.int _))⟩
 .cases e
theorem zg(hc:X.calm=true)(hg:Gl X "sum")(hm:X.mg "sum" = none)(ha:gU X g m (e::es) fl)(he:k_ (e::es) X.env=(false,eval e X.env)::k_ es X.env:=by rfl)(hpl:(backTo pos (k_ es X.env)).any (·.1)=false:=by rfl):SE X g m (.Call (.Name "sum" p) (e::es) [] pos) (fC fl sumD):=fZ Bg (kR (DE hc) hg hm PyProof.Rows.boot_sum ha (by decide) (by decide) he hpl)
end
def cV(g:GE)(H:Hp)(fp:List Addr)(i:Nat)(p:Addr):GE:=⟨g.gh,fun b=>if b∈fp then H b else g.h0 b,fun j=>if j=i then some (some (V.ref p),none)else g.hd j⟩
theorem pY{g:GE}{H H':Hp}{fp:List Addr}{i:Nat}{p:Addr}(h:∀b∈fp,H' b=H b):cV g H' fp i p=cV g H fp i p:=by
 unfold cV;congr 1;funext b;by_cases hb:b∈fp
 .rw[if_pos hb,if_pos hb,h b hb]
 .rw[if_neg hb,if_neg hb]
def fB(K:W.Frag)(G:GH)(H:Hp)(b:Addr)(ds:List D):Prop:=∃xs,H b=some (.lst xs)/\bj K G xs ds
structure LRw(K:W.Frag)(G:GH)(H:Hp)(p:Addr)(as:List Addr)(w:List (List D)):Prop where
 out:H p=some (.lst (as.map V.ref))
 nd:(p::as).Nodup
 un:∀b∈p::as,G b=none
 rw:Paired (fB K G H) as w
theorem fB.mono{K:W.Frag}{G G':GH}{H H':Hp}{b:Addr}{ds:List D}(h:fB K G H b ds)(ge:ax G G')(he:H' b=H b):fB K G' H' b ds:=by obtain⟨xs,h1,h2⟩:=h;exact⟨xs,by rw[he];exact h1,h2.mono ge⟩
theorem w9{α β:Type}{F F':α->β->Prop}{l:List α}{r:List β}(h:Paired F l r)(f:∀a∈l,∀b,F a b->F' a b):Paired F' l r:=by induction h with
|nil=>exact .nil
|cons h _ ih=>exact .cons (f _ i_ _ h) (ih fun a ha=>f a (g_ _ ha))
theorem LRw.isS{K:W.Frag}{G:GH}{H:Hp}{p:Addr}{as:List Addr}{w:List (List D)}(h:LRw K G H p as w){b:Addr}(hb:b∈p::as):H b≠none:=by
 rcases n_.mp hb with rfl|hb
 .rw[h.out];simp
 .have:∀{as:List Addr}{w:List (List D)},Paired (fB K G H) as w->b∈as->H b≠none:=fun{as w} q hb=>by induction q with
  |nil=>cases hb
  |cons r _ ih=>
    rcases n_.mp hb with rfl|hb
    .obtain⟨xs,e,_⟩:=r;rw[e];simp
    .exact ih hb
  exact this h.rw hb
theorem LRw.mono{K:W.Frag}{G G':GH}{H H':Hp}{p:Addr}{as:List Addr}{w:List (List D)}(h:LRw K G H p as w)(ge:ax G G')(he:∀b∈p::as,H' b=H b)(un:∀b∈p::as,G' b=none):LRw K G' H' p as w:=⟨by rw[he p i_];exact h.out,h.nd,un,w9 h.rw fun b hb ds r=>r.mono ge (he b (g_ _ hb))⟩
def iV(X:Cx)(g:GE)(i:Nat)(m:List Md)(r:af)(w:List (List D))(G:GH)(st:L2.St)(H:Hp):Prop:=∃p as,LRw X.K G H p as w/\(∀b∈p::as,g.h0 b=none)/\SI X (cV g H (p::as) i p) m r G st H/\m[i]? = some .bw
section
variable{X:Cx}{g:GE}{i:Nat}{m m' m1:List Md}{r r':af}{w:List (List D)}{G G':GH}{σ σ':L2.St}{H H':Hp}
theorem xO{p:Addr}{as:List Addr}(R:LRw X.K G H p as w)(h0:∀b∈p::as,g.h0 b=none)(si:SI X (cV g H (p::as) i p) m r G σ H)(le:ax G G')(si':SI X (cV g H (p::as) i p) m' r' G' σ' H')(hm:m'[i]? = some .bw):iV X g i m' r' w G' σ' H':=by
 have he:∀b∈p::as,H' b=H b:=fun b hb=>by have hs:=R.isS hb;cases e:H b with
 |none=>exact absurd e hs
 |some o=>
   have:(cV g H (p::as) i p).h0 b=some o:=by show(if b∈p::as then H b else g.h0 b)=_;rw[if_pos hb];exact e
   rw[si'.old b o this]
 have un:∀b∈p::as,G' b=none:=fun b hb=>by
  have h:(cV g H (p::as) i p).h0 b≠none:=by show(if b∈p::as then H b else g.h0 b)≠_;rw[if_pos hb];exact R.isS hb
  have e1:=si'.gf b h;have e2:=si.gf b h;rw[e1,<-e2];exact R.un b hb
 exact⟨p,as,R.mono le he un,h0,by rw[pY he];exact si',hm⟩
abbrev yT:=af->List (List D)->Option (af×List (List D))
variable{st:Stmt}{sts:List Stmt}{ro:Bool}{mb:List Md}{s1:FS}{f1 f2:yT}{tg iter:Expr}{pos:Pos}
theorem wd{K:W.Frag}{H:Hp}:∀{as:List Addr}{w:List (List D)}{G:GH},aC K G H->Paired (fB K G H) as w->as.Nodup->(∀b∈as,G b=none)->∃G',ax G G'/\(∀b,b∉as->G' b=G b)/\aC K G' H/\Paired (fun b ds=>G' b=some (.lst ds)) as w:=by
 intro as
 induction as with
|nil=>intro w G gk h _ _;cases h;exact⟨G,ax.refl G,fun _ _=>rfl,gk,.nil⟩
|cons b as ih=>intro w G gk h nd un;cases h with
 |@cons _ ds _ w r t=>
   rw[List.nodup_cons]at nd;have hb:=un b i_;obtain⟨xs,e,rs⟩:=r;have g1:aC K (gset G b (.lst ds)) H:=gk.gset hb (.lst (.inl e) rs);obtain⟨G',l,o,g,q⟩:=ih g1 (w9 t fun c hc ds r=>r.mono (cS hb) rfl) nd.2 fun c hc=>by rw[cE (by rintro rfl;exact nd.1 hc)];exact un c (g_ _ hc)
   refine⟨G',ax.trans (cS hb) l,fun c hc=>?_,g,.cons (l _ _ cq) q⟩;rw[o c fun z=>hc (g_ _ z),cE (by rintro rfl;exact hc i_)]
theorem xG{G:GH}{as:List Addr}{w:List (List D)}{b:Addr}(hb:b∈as)(q:Paired (fun b ds=>G b=some (.lst ds)) as w):∃ds,G b=some (.lst ds):=by induction q with
|nil=>cases hb
|cons h _ ih=>
  rcases n_.mp hb with rfl|hb
  .exact⟨_,h⟩
  .exact ih hb
theorem pZ{fp:List Addr}{p:Addr}{d0:D}(si:SI X (cV g H fp i p) m r G σ H)(hm:m[i]? = some .bw)(h0:∀b∈fp,g.h0 b=none)(hS:∀b∈fp,H b≠none)(hb:∀j,j≠i->m[j]?≠some .bw)(le:ax G G')(g2:aC X.K G' H)(out:∀b,b∉fp->G' b=G b)(hd:G' p=some d0):SI X g (m.set i .sh) (r.set i (some d0)) G' σ H:=by
 have hlt:i<m.length:=(h_.mp hm).1;have hst:σ[i]? = some (some (V.ref p)):=(si.lk i (some (V.ref p),none) (by show(if i=i then _ else _)=_;rw[if_pos rfl]) hm).1;have h0':∀b,b∉fp->(cV g H (fp) i p).h0 b=g.h0 b:=fun b hb=>by show(if b∈fp then H b else g.h0 b)=_;rw[if_neg hb]
 have h0i:∀b,b∈fp->(cV g H (fp) i p).h0 b≠none:=fun b hb=>by show(if b∈fp then H b else g.h0 b)≠_;rw[if_pos hb];exact hS b hb
 have nin:∀b,g.h0 b≠none->b∉fp:=fun b h z=>h (h0 b z);have mne:∀{j x},i≠j->(m.set i .sh)[j]? = some x->m[j]? = some x:=fun hij h=>by rw[b_ hij]at h;exact h
 refine⟨g2,fun a o e=>?_,fun a d e=>le a d (si.ge a d e),fun a h=>?_,by simpa using si.lm,by simpa using si.lr,fun j d h1 h2=>?_,fun j d h1 h2=>?_,fun j d h1 h2=>?_,fun j k a d e hjk h1 h2 m1 m2 z1 z2=>?_,fun j o hj hm'=>?_⟩
 .exact si.old a o (by rw[h0' a (nin a (by rw[e];simp))];exact e)
 .have hn:=nin a h;rw[out a hn];exact si.gf a (by rw[h0' a hn];exact h)
 .by_cases hij:i=j
  .subst hij;rw[l_ (by rw[si.lr,<-si.lm];exact hlt)]at h1;cases h1;exact⟨_,hst,.ref hd⟩
  .rw[b_ hij]at h1;obtain⟨v,y1,y2⟩:=si.sh j d h1 (mne hij h2);exact⟨v,y1,y2.mono le⟩
 .by_cases hij:i=j
  .subst hij;rw[l_ hlt]at h2;cases h2
  .rw[b_ hij]at h1;obtain⟨a,y1,y2,y3⟩:=si.ow j d h1 (mne hij h2);have hn:a∉fp:=fun z=>h0i a z y3;exact⟨a,y1,⟨by rw[out a hn];exact y2.un,y2.ob.mono le fun _ z=>z⟩,by rw[<-h0' a hn];exact y3⟩
 .by_cases hij:i=j
  .subst hij;rw[l_ hlt]at h2;cases h2
  .exact absurd (mne hij h2) (hb j (H_ hij))
 .have hij:i≠j:=by rintro rfl;rw[l_ hlt]at m1;cases m1
  have hik:i≠k:=by rintro rfl;rw[l_ hlt]at m2;cases m2
  rw[b_ hij]at h1;rw[b_ hik]at h2;exact si.dis j k a d e hjk h1 h2 (mne hij m1) (mne hik m2) z1 z2
 .by_cases hij:i=j
  .subst hij;rw[l_ hlt]at hm';cases hm'
  .exact absurd (mne hij hm') (hb j (H_ hij))
theorem iV.frz(s:iV X g i m r w G σ H)(hb:∀j,j≠i->m[j]?≠some .bw):∃G',ax G G'/\(∀b d,G b=none->G' b=some d->∃ds,d=.lst ds)/\SI X g (m.set i .sh) (r.set i (some (.lst (w.map D.lst)))) G' σ H:=by
 obtain⟨p,as,R,h0,si,hm⟩:=s;have nd:=GS.mp R.nd;obtain⟨G1,l1,o1,g1,q1⟩:=wd si.gok R.rw nd.2 fun b hb=>R.un b (g_ _ hb);have hp1:G1 p=none:=by rw[o1 p nd.1];exact R.un p i_
 have rs:bj X.K G1 (as.map V.ref) (w.map D.lst):=by
  have:∀{as:List Addr}{w:List (List D)},Paired (fun b ds=>G1 b=some (.lst ds)) as w->bj X.K G1 (as.map V.ref) (w.map D.lst):=fun{as w} q=>by induction q with
  |nil=>exact .nil
  |cons h _ ih=>exact .cons (.ref h) ih
  exact this q1
 have g2:aC X.K (gset G1 p (.lst (w.map D.lst))) H:=g1.gset hp1 (.lst (.inl R.out) rs);have le:ax G (gset G1 p (.lst (w.map D.lst))):=ax.trans l1 (cS hp1);have out:∀b,b∉p::as->gset G1 p (.lst (w.map D.lst)) b=G b:=fun b hb=>by rw[cE (by rintro rfl;exact hb i_),o1 b fun z=>hb (g_ _ z)]
 refine⟨_,le,fun b d hn e=>?_,pZ si hm h0 (fun b hb=>R.isS hb) hb le g2 out cq⟩;by_cases hbp:b=p
 .subst hbp;rw[cq]at e;cases e;exact⟨_,rfl⟩
 .rw[cE hbp]at e;by_cases hba:b∈as
  .obtain⟨ds,e1⟩:=xG hba q1;rw[e1]at e;cases e;exact⟨_,rfl⟩
  .rw[o1 b hba,hn]at e;cases e
def yO(X:Cx)(g:GE)(ro:Bool)(mb:List Md)(i:Nat)(m:List Md)(sts:List Stmt)(F:af->List (List D)->Out)(m':List Md):Prop:=m'.length=m.length/\cm X sts (fun D σ H=>∃r w G,iV X g i m r w G σ H/\aX X g ro m' mb G D (F r w))
end
def RO(K:W.Frag)(H2:Hp)(p:Addr)(G:GH)(H:Hp)(ws:List V)(ds:List D):Prop:=Paired (fun v d=>∃b,v=V.ref b/\H2 b=none/\b≠p/\Own K G H b d) ws ds/\ws.Nodup
section
variable{K:W.Frag}{H2:Hp}{p:Addr}{G G':GH}{H H':Hp}{ws:List V}{ds:List D}
theorem RO.grow(h:RO K H2 p G H ws ds)(w:Grow K G H G' H'):RO K H2 p G' H' ws ds:=⟨Paired.mono (fun v d ⟨b,e,h1,h2,h3⟩=>⟨b,e,h1,h2,h3.mono w⟩) h.1,h.2⟩
theorem RO.upd{o:HO}(h:RO K H2 p G H ws ds):RO K H2 p G (L2.upd H p o) ws ds:=⟨Paired.mono (fun v d ⟨b,e,h1,h2,h3⟩=>⟨b,e,h1,h2,h3.un,h3.ob.mono (fun _ _ z=>z) fun _ z=>by rw[aN h2];exact z⟩) h.1,h.2⟩
end
def vB(sc osc:Ii):Ii:={ sc with names:=sc.names.map fun(n,k)=>if (k==.free&&osc.kind==.function&&osc.names.lookup n==some .cell)then(n,.cell)else(n,k) }
theorem EL{X0:Cx}{s0:e_}{H0:Hp}{N0:List Str}{sc0:Ii}{cl:List (Str×Addr)}{C:Addr}{fp:List Addr}{osc:Ii}{ON:List Str}{sc:Ii}{N':List Str}{nl:Nat}{cap:List Nat}(h1:X0.env.scope=osc)(h2:N0=ON)(h:pf (vB sc0 osc) ON sc N' nl cap=true):CompSc (dh X0 s0 H0 N0 sc0 cl C fp) sc N' nl cap:=fU (osc:=vB sc0 osc) (ON:=ON) (by subst h1;rfl) h2 h
section
variable{X:Cx}{g:GE}{i:Nat}{m m' m1:List Md}{r r':af}{w:List (List D)}{G G':GH}{σ σ':L2.St}{H H':Hp}
theorem SI.row{p:Addr}{as:List Addr}(R:LRw X.K G H p as w)(si:SI X (cV g H (p::as) i p) m r G σ H)(hm:m[i]? = some .bw)(hb:∀j,j≠i->m[j]?≠some .bw){b:Addr}(hbm:b∈p::as)(o:HO):SI X (cV g (upd H b o) (p::as) i p) m r G σ (upd H b o):=by
 have un:=R.un b hbm;have h0':∀c,c∉p::as->(cV g H (p::as) i p).h0 c=g.h0 c:=fun c hc=>by show(if c∈p::as then H c else g.h0 c)=_;rw[if_neg hc]
 have h0i:∀c,c∈p::as->(cV g H (p::as) i p).h0 c=H c:=fun c hc=>by show(if c∈p::as then H c else g.h0 c)=_;rw[if_pos hc]
 have k0':∀c,c∉p::as->(cV g (upd H b o) (p::as) i p).h0 c=g.h0 c:=fun c hc=>by show(if c∈p::as then _ else g.h0 c)=_;rw[if_neg hc]
 have k0i:∀c,c∈p::as->(cV g (upd H b o) (p::as) i p).h0 c=upd H b o c:=fun c hc=>by show(if c∈p::as then upd H b o c else g.h0 c)=_;rw[if_pos hc]
 refine⟨fun c d e=>?_,fun c u e=>?_,si.ge,fun c h=>?_,si.lm,si.lr,si.sh,fun j d h1 h2=>?_,fun j d h1 h2=>?_,si.dis,si.lk⟩
 .have hc:c≠b:=by rintro rfl;rw[un]at e;cases e
  exact(si.gok c d e).mono (fun _ _ z=>z) fun u z=>by rw[aN hc];exact z
 .by_cases hc:c∈p::as
  .rw[k0i c hc]at e;exact e
  .rw[k0' c hc]at e;have hcb:c≠b:=by rintro rfl;exact hc hbm
   rw[aN hcb];exact si.old c u (by rw[h0' c hc];exact e)
 .by_cases hc:c∈p::as
  .exact si.gf c (by rw[h0i c hc];exact R.isS hc)
  .rw[k0' c hc]at h;exact si.gf c (by rw[h0' c hc];exact h)
 .obtain⟨a,q1,q2,q3⟩:=si.ow j d h1 h2;have ha:a∉p::as:=fun z=>by rw[h0i a z]at q3;exact R.isS z q3
  have hab:a≠b:=by rintro rfl;exact ha hbm
  rw[h0' a ha]at q3;exact⟨a,q1,⟨q2.un,q2.ob.mono (fun _ _ z=>z) fun u z=>by rw[aN hab];exact z⟩,by rw[k0' a ha];exact q3⟩
 .by_cases hj:j=i
  .subst hj;have:=(si.lk j (some (V.ref p),none) (by show(if j=j then _ else _)=_;rw[if_pos rfl]) hm).2 d h1;cases this
  .exact absurd h2 (hb j hj)
variable{ro:Bool}{mb:List Md}{pos p1 p2 p3 p4 p5 p6 p7 p8 p9 p10 p11:Pos}{x xa xb:Str}{jc:Nat}
end
def lessA(H:Hp)(a:Addr):Hp:=fun b=>if b=a then none else H b
theorem Dd{H:Hp}{a b:Addr}(h:b≠a):lessA H a b=H b:=if_neg h
theorem Grow.lessA{K:W.Frag}{G G' G2:GH}{H H' H2:Hp}{a:Addr}(w:Grow K G H G' H')(ha:H a=none)(w2:Grow K G' (lessA H' a) G2 H2):Grow K G H G2 H2:=by
 have ne:∀b,H b≠none->b≠a:=fun b h=>by rintro rfl;exact h ha
 have he:∀b o,H b=some o->DL.lessA H' a b=some o:=fun b o e=>by rw[Dd (ne b (by rw[e];simp))];exact w.he b o e
 refine⟨w2.ok,fun b o e=>w2.he b o (he b o e),fun b d e=>w2.ge b d (w.ge b d e),fun b h=>?_⟩;rw[w2.gf b ?_,w.gf b h];cases e:H b with
|none=>exact absurd e h
|some o=>rw[he b o e];simp
def Gm(K:W.Frag)(ro:Bool)(ms:List Md)(F:List D->Res D):Sp:=fun vs H Q _=>∃G us a ds d,aC K G H/\vs=us++[V.ref a]/\ArgsOk K G H ms us ds/\Own K G H a d /\fin (F (ds++[d])) (fun d'=>∀v G' H',Grow K G (lessA H a) G' H'->RV ro K (lessA H a) G' H' v d'->Q v H') fun _=>False
section
variable{K:W.Frag}{G:GH}{H:Hp}
theorem ArgsOk.snoc{ms:List Md}{us:List V}{ds:List D}{v:V}{d:D}(h:ArgsOk K G H ms us ds)(r:RB K G H v d):ArgsOk K G H (ms++[.bw]) (us++[v]) (ds++[d]):=by induction h with
|nil=>exact .bw r .nil
|sh h _ ih=>exact .sh h ih
|bw h _ ih=>exact .bw h ih
end
section
variable{P:u_}{w:Gz}{K:W.Frag}{mg:Str->Option a_}{base:Heap}
structure CalleeV(P:u_)(w:Gz)(K:W.Frag)(mg:Str->Option a_)(base:Heap)(x:Str)(ps:List Str)(k:Nat)(ro:Bool)(ms:List Md)(F:List D->Res D):Prop where
 ex:∃f fd,mg x=some (.ref f)/\W.keepIn K (.ref f)=true/\dj K fd ps []/\FnOk P w K mg base bH k f fd ps (Gm K ro ms F)
end
theorem LRw.grow{K:W.Frag}{G G':GH}{H H':Hp}{p:Addr}{as:List Addr}{w:List (List D)}(R:LRw K G H p as w)(wg:Grow K G H G' H'):LRw K G' H' p as w:=by
 refine R.mono wg.ge (fun b hb=>?_) fun b hb=>by rw[wg.gf b (R.isS hb)];exact R.un b hb
 cases e:H b with
|none=>exact absurd e (R.isS hb)
|some o=>rw[wg.he b o e]
inductive Cln:D->Prop where
 |non:Cln .non
 |bl (b:Bool):Cln (.bl b)
 |int (i:Int):Cln (.int i)
 |str (x:Str):Cln (.str x)
 |tup {ds:List D}:(∀d∈ds,Cln d)->Cln (.tup ds)
theorem Cln.lst{ds:List D}(h:Cln (.lst ds)):False:=nomatch h
theorem Cln.dic{ds:List (ap×D)}(h:Cln (.dic ds)):False:=nomatch h
theorem Cln.get{ds:List D}(h:Cln (.tup ds)):∀d∈ds,Cln d:=by cases h with
|tup h=>exact h
section
variable{X:Cx}{g:GE}{i:Nat}{m m' m1:List Md}{r r':af}{w:List (List D)}{G G':GH}{σ σ':L2.St}{H H':Hp}{e:Expr}{f:FE}{st:Stmt}{pos p1 p2 p3 p4 p5 p6 p7 p8 p9 p10:Pos}{x xa xb y:Str}
theorem iV.after(s:iV X g i m r w G σ H)(wg:Grow X.K G H G' H'):iV X g i m r w G' σ H':=by obtain⟨p,as,R,h0,si,hm⟩:=s;exact xO R h0 si wg.ge (si.grow wg) hm
abbrev rT(i:Nat)(r:af)(w:List (List D)):af:=r.set i (some (.lst (w.map D.lst)))
end
structure TL(K:W.Frag)(G:GH)(H:Hp)(p a:Addr)(d1:D)(ds:List D):Prop where
 tp:∃x xs,H p=some (.tup [x,.ref a])/\RG K G x d1/\H a=some (.lst xs)/\bj K G xs ds
 un:∀b∈[p,a],G b=none
 ne:p≠a
theorem TL.isS{K:W.Frag}{G:GH}{H:Hp}{p a:Addr}{d1:D}{ds:List D}(t:TL K G H p a d1 ds):∀b∈[p,a],H b≠none:=fun b hb=>by
 obtain⟨x,xs,h1,_,h2,_⟩:=t.tp;rcases n_.mp hb with rfl|hb
 .rw[h1];simp
 .rw[y_.mp hb,h2];simp
theorem TL.grow{K:W.Frag}{G G':GH}{H H':Hp}{p a:Addr}{d1:D}{ds:List D}(t:TL K G H p a d1 ds)(w:Grow K G H G' H'):TL K G' H' p a d1 ds:=by obtain⟨x,xs,h1,h2,h3,h4⟩:=t.tp;exact⟨⟨x,xs,w.he _ _ h1,h2.mono w.ge,w.he _ _ h3,h4.mono w.ge⟩,fun b hb=>by rw[w.gf b (t.isS b hb)];exact t.un b hb,t.ne⟩
def RW(K:W.Frag)(H0:Hp)(G:GH)(H:Hp)(v:V)(d:D):Prop:=∃p a d1 ds,v=.ref p/\d=.tup [d1,.lst ds]/\(∀b∈[p,a],H0 b=none)/\TL K G H p a d1 ds
def Gk(K:W.Frag)(ms:List Md)(F:List D->Res D):Sp:=fun vs H Q _=>∃G ds,aC K G H/\ArgsOk K G H ms vs ds/\fin (F ds) (fun d=>∀v G' H',Grow K G H G' H'->RW K H G' H' v d->Q v H') fun _=>False
abbrev FW:=af->Res D
section
variable{P:u_}{w:Gz}{K:W.Frag}{mg:Str->Option a_}{base:Heap}
structure CalleeW(P:u_)(w:Gz)(K:W.Frag)(mg:Str->Option a_)(base:Heap)(x:Str)(ps:List Str)(k:Nat)(ms:List Md)(F:List D->Res D):Prop where
 ex:∃f fd,mg x=some (.ref f)/\W.keepIn K (.ref f)=true/\dj K fd ps []/\FnOk P w K mg base bH k f fd ps (Gk K ms F)
end
section
variable{X:Cx}{g:GE}{ro:Bool}{i:Nat}{m m' m1 mb ms:List Md}{r r':af}{G G':GH}{σ σ':L2.St}{H H':Hp}{e c:Expr}{es:List Expr}{q:FQ}{st:Stmt}{sts sts1:List Stmt}{fl:af->Res (List D)}{F:List D->Res D}{k:Nat}{ps:List Str}{pos p1 p2 p3 p4 apos cpos:Pos}{x y:Str}{d1:D}{ds:List D}
def lR(X:Cx)(g:GE)(i:Nat)(m:List Md)(r:af)(d1:D)(ds:List D)(G:GH)(st:L2.St)(H:Hp):Prop:=∃p a,TL X.K G H p a d1 ds/\(∀b∈[p,a],g.h0 b=none)/\SI X (cV g H [p,a] i p) m r G st H/\m[i]? = some .bw
theorem lR.after(s:lR X g i m r d1 ds G σ H)(wg:Grow X.K G H G' H'):lR X g i m r d1 ds G' σ H':=by
 obtain⟨p,a,t,h0,si,hm⟩:=s;refine⟨p,a,t.grow wg,h0,?_,hm⟩;rw[pY (H:=H) fun b hb=>?_]
 .exact si.grow wg
 .cases e:H b with
 |none=>exact absurd e (t.isS b hb)
 |some o=>rw[wg.he b o e]
theorem lR.frz(s:lR X g i m r d1 ds G σ H)(hb:∀j,j≠i->m[j]?≠some .bw):∃G',ax G G'/\(∀b d,G b=none->G' b=some d->¬ Cln d)/\SI X g (m.set i .sh) (r.set i (some (.tup [d1,.lst ds]))) G' σ H:=by
 obtain⟨p,a,t,h0,si,hm⟩:=s;obtain⟨x,xs,h1,h2,h3,h4⟩:=t.tp;have ua:=t.un a (g_ _ i_);have up:=t.un p i_;have g1:aC X.K (gset G a (.lst ds)) H:=si.gok.gset ua (.lst (.inl h3) h4);have up1:gset G a (.lst ds) p=none:=by rw[cE t.ne];exact up
 have g2:aC X.K (gset (gset G a (.lst ds)) p (.tup [d1,.lst ds])) H:=g1.gset up1 (.tup (.inl h1) (.cons (h2.mono (cS ua)) (.cons (.ref cq) .nil)));refine⟨_,ax.trans (cS ua) (cS up1),fun b d hn e hc=>?_,pZ si hm h0 t.isS hb (ax.trans (cS ua) (cS up1)) g2 (fun b hb=>?_) cq⟩
 .by_cases hbp:b=p
  .subst hbp;rw[cq]at e;cases e;exact(hc.get _ (g_ _ i_)).lst
  .rw[cE hbp]at e;by_cases hba:b=a
   .subst hba;rw[cq]at e;cases e;exact hc.lst
   .rw[cE hba,hn]at e;cases e
 .rw[cE (by rintro rfl;exact hb i_),cE (by rintro rfl;exact hb (g_ _ i_))]
end
end DL
section
namespace DL
section
open PySem PyProof.Rows PySem.W PySem.Calls
variable{prog:u_}{w:Gz}{A:GP}{E:a_->e_->Prop}{s:e_}{l:Addr}{vs:List a_}{ns:List Int}
end
open PySem PySem.Spec PyProof.Rows L2
end DL
end
section
namespace DL
section
open PySem PyProof.Rows
variable{prog:u_}{w:Gz}{A:GP}{R:MO->e_->Prop}{I S:Addr}{fp wr:List Addr}{n:Nat}{P:Nat->a_->Prop}{St:Nat->Heap->Prop}{TP:Heap->Prop}{bt:Nat->Nat->Bool}
def mz(wr:List Addr)(S:Addr)(h h':Heap):Prop:=∀b o,b∉wr->b≠S->h.get? b=some o->h'.get? b=some o
theorem mz.trans{h h1 h2:Heap}(a:mz wr S h h1)(b:mz wr S h1 h2):mz wr S h h2:=fun c o hc hs e=>b c o hc hs (a c o hc hs e)
end
end DL
end
namespace DL
open PySem PySem.Spec PyProof.Rows L2
theorem vD{α:Type}{l:List α}{j:Nat}{a:α}(h:l[j]? = some a):l.set j a=l:=by
 refine II fun n=>?_;by_cases hn:j=n
 .subst hn;rw[l_ (h_.mp h).1,h]
 .rw[b_ hn]
def gw(X:Cx)(g:GE)(i jr:Nat)(m:List Md)(r:af)(w:List (List D))(k:Nat)(G:GH)(st:L2.St)(H:Hp):Prop:=∃p as q,LRw X.K G H p as w/\(∀b∈p::as,g.h0 b=none)/\SI X (cV g H (p::as) i p) m r G st H/\as[k]? = some q/\st[jr]? = some (some (V.ref q))/\m[i]? = some .bw/\m[jr]? = some .sh/\r[jr]? = some none
abbrev zF(i jr:Nat)(r:af)(w:List (List D))(k:Nat):af:=(rT i r w).set jr (some (.lst (w.getD k [])))
section
variable{X:Cx}{g:GE}{i jr k:Nat}{m m' m1:List Md}{r r':af}{w:List (List D)}{G G':GH}{σ σ':L2.St}{H H':Hp}{e ie:Expr}{f fi:FE}{st:Stmt}{sts:List Stmt}{pos p1 p2 p3 p4 p5 p6 p7 p8 p9 p10:Pos}{x y:Str}
theorem SI.slot{v:V}(s:SI X g m r G σ H)(hm:m[i]? = some .sh):SI X g m (r.set i none) G (σ.set i (some v)) H:=by
 have key:∀{j:Nat}{d:D},(r.set i none)[j]? = some (some d)->i≠j/\r[j]? = some (some d):=fun{j d} h=>by
  have hij:i≠j:=by
   rintro rfl
   rw[List.getElem?_set,if_pos rfl]at h;split at h <;> cases h
  rw[b_ hij]at h;exact⟨hij,h⟩
 refine⟨s.gok,s.old,s.ge,s.gf,by rw[Jg];exact s.lm,by rw[Jg,Jg];exact s.lr,fun j d h hj=>?_,fun j d h hj=>?_,fun j d h hj=>?_,fun j k a d e hjk h1 h2 m1 m2 q1 q2=>?_,fun j o h hj=>?_⟩
 .obtain⟨hij,h⟩:=key h;rw[b_ hij];exact s.sh j d h hj
 .obtain⟨hij,h⟩:=key h;rw[b_ hij];exact s.ow j d h hj
 .obtain⟨hij,h⟩:=key h;rw[b_ hij];exact s.bw j d h hj
 .obtain⟨z1,h1⟩:=key h1;obtain⟨z2,h2⟩:=key h2;rw[b_ z1]at q1;rw[b_ z2]at q2;exact s.dis j k a d e hjk h1 h2 m1 m2 q1 q2
 .have hij:i≠j:=by rintro rfl;rw[hm]at hj;cases hj
  obtain⟨q1,q2⟩:=s.lk j o h hj;exact⟨by rw[b_ hij];exact q1,fun d hd=>q2 d (by rw[b_ hij]at hd;exact hd)⟩
theorem gw.after(s:gw X g i jr m r w k G σ H)(wg:Grow X.K G H G' H'):gw X g i jr m r w k G' σ H':=by
 obtain⟨p,as,q,R,h0,si,h1,h2,h3,h4,h5⟩:=s;have he:∀b∈p::as,H' b=H b:=fun b hb=>by cases e:H b with
 |none=>exact absurd e (R.isS hb)
 |some o=>rw[wg.he b o e]
 exact⟨p,as,q,R.grow wg,h0,by rw[pY he];exact si.grow wg,h1,h2,h3,h4,h5⟩
theorem gw.frz(s:gw X g i jr m r w k G σ H)(hb:∀j,j≠i->m[j]?≠some .bw):∃G',ax G G'/\(∀b d,G b=none->G' b=some d->∃ds,d=.lst ds)/\SI X g (m.set i .sh) (zF i jr r w k) G' σ H:=by
 obtain⟨p,as,q,R,h0,si,ha,hs,hm,hmj,hr⟩:=s;have nd:=GS.mp R.nd;obtain⟨G1,l1,o1,g1,q1⟩:=wd si.gok R.rw nd.2 fun b hb=>R.un b (g_ _ hb);have hp1:G1 p=none:=by rw[o1 p nd.1];exact R.un p i_
 have rs:bj X.K G1 (as.map V.ref) (w.map D.lst):=by
  have:∀{as:List Addr}{w:List (List D)},Paired (fun b ds=>G1 b=some (.lst ds)) as w->bj X.K G1 (as.map V.ref) (w.map D.lst):=fun{as w} q=>by induction q with
  |nil=>exact .nil
  |cons h _ ih=>exact .cons (.ref h) ih
  exact this q1
 have g2:aC X.K (gset G1 p (.lst (w.map D.lst))) H:=g1.gset hp1 (.lst (.inl R.out) rs);have le:ax G (gset G1 p (.lst (w.map D.lst))):=ax.trans l1 (cS hp1);have out:∀b,b∉p::as->gset G1 p (.lst (w.map D.lst)) b=G b:=fun b hb=>by rw[cE (by rintro rfl;exact hb i_),o1 b fun z=>hb (g_ _ z)]
 have hk:k<w.length:=by rw[<-Paired.length q1];exact(h_.mp ha).1
 have hw:w[k]? = some (w.getD k []):=by rw[GO,m_ hk];rfl
 obtain⟨q',hq',hg'⟩:=Paired.get q1 hw;rw[ha]at hq';cases hq';have S:=pZ si hm h0 (fun b hb=>R.isS hb) hb le g2 out cq;have S2:=S.set jr (v:=.ref q) (.ref (cS hp1 _ _ hg'));have hji:i≠jr:=by rintro rfl;rw[hm]at hmj;cases hmj
 rw[vD (by rw[b_ hji];exact hmj),vD hs]at S2;refine⟨_,le,fun b d hn e=>?_,S2⟩;by_cases hbp:b=p
 .subst hbp;rw[cq]at e;cases e;exact⟨_,rfl⟩
 .rw[cE hbp]at e;by_cases hba:b∈as
  .obtain⟨ds,e1⟩:=xG hba q1;rw[e1]at e;cases e;exact⟨_,rfl⟩
  .rw[o1 b hba,hn]at e;cases e
end
end DL
namespace DL
open PySem PySem.Spec PyProof.Rows L2 PySem.W PySem.Calls
def Gj(K:W.Frag)(ro:Bool)(ms:List Md)(F:List D->Res D):Sp:=fun vs H Q E=>∃G ds,aC K G H/\ArgsOk K G H ms vs ds /\fin (F ds) (fun d=>∀v G' H',Grow K G H G' H'->RV ro K H G' H' v d->Q v H') fun x=>∀C od nm fs G' H',x=xD nm fs->XN K nm C->XF G' od fs->Grow K G H G' H'->E (.ref C) od H'
section
variable{P:u_}{w:Gz}{K:W.Frag}{mg:Str->Option a_}{base:Heap}
structure CalleeX(P:u_)(w:Gz)(K:W.Frag)(mg:Str->Option a_)(base:Heap)(x:Str)(ps:List Str)(ds:List a_)(k:Nat)(ro:Bool)(ms:List Md)(F:List D->Res D):Prop where
 ex:∃f fd,mg x=some (.ref f)/\W.keepIn K (.ref f)=true/\dj K fd ps ds/\FnOk P w K mg base (Gv P w) k f fd ps (Gj K ro ms F)
end
def XO(K:W.Frag)(C:Addr)(bm:List a_):Prop:=∃N nm q bs hdct sn sub ab col dd k0 k1 k2 k3 k5 newId,K.lookup C=some (excClassObj nm q C N bs bm hdct sn sub ab col dd k0 k1 k2 k3 k5 newId)
abbrev _root_.L2.Cx.held(X:Cx)(v:a_):Cx:={ X with A:=X.A.mark (some v),calm:=false,xe:=fun _ _=>False }
section
variable{X:Cx}{pz:List (Addr×Obj)}{σ:L2.St}{H H':Hp}{s s':e_}{a C:Addr}{od:Option Addr}
theorem Inv.held(I:Inv X pz σ H s)(v:a_):Inv (X.held v) pz σ H s:=⟨⟨I.ok.mod,I.ok.kind,I.ok.glob,I.ok.blt,I.ok.above,I.ok.inj,I.ok.has,I.ok.cab,(fun h=>nomatch h),I.ok.frames,I.ok.stk,I.ok.exf,I.ok.bs,I.ok.bsz,I.ok.noex,I.ok.exfs,I.ok.funs,I.ok.frf⟩,I.os,I.bare,I.base,I.loc,I.cell,I.free,I.freeC,I.pin,I.hok,I.len⟩
end
abbrev _root_.L2.Cx.tr(X:Cx)(ps:List (Addr×Obj))(E:a_->e_->Prop):Cx:={ X with pn:=ps,xe:=E }
section
variable{X:Cx}{pz pins':List (Addr×Obj)}{σ:L2.St}{H:Hp}{s:e_}{E:a_->e_->Prop}
theorem Inv.tr(I:Inv X pz σ H s)(E:a_->e_->Prop):Inv (X.tr (X.pn++pz) E) [] σ H s:=⟨⟨I.ok.mod,I.ok.kind,I.ok.glob,I.ok.blt,I.ok.above,I.ok.inj,I.ok.has,I.ok.cab,I.ok.hd,I.ok.frames,I.ok.stk,I.ok.exf,I.ok.bs,I.ok.bsz,I.ok.noex,I.ok.exfs,I.ok.funs,I.ok.frf⟩,I.os,I.bare,I.base,I.loc,I.cell,I.free,I.freeC,fun p hp=>I.pin p (by rw[Jf]at hp;exact hp),I.hok,I.len⟩
theorem Inv.untr(I:Inv (X.tr (X.pn++pz) E) pins' σ H s):Inv X pz σ H s:=⟨⟨I.ok.mod,I.ok.kind,I.ok.glob,I.ok.blt,I.ok.above,I.ok.inj,I.ok.has,I.ok.cab,I.ok.hd,I.ok.frames,I.ok.stk,I.ok.exf,I.ok.bs,I.ok.bsz,I.ok.noex,I.ok.exfs,I.ok.funs,I.ok.frf⟩,I.os,I.bare,I.base,I.loc,I.cell,I.free,I.freeC,fun p hp=>I.pin p (GJ _ hp),I.hok,I.len⟩
theorem SP.untr{D:Ends}{f:Flow}(h:SP (X.tr (X.pn++pz) E) [] D f s):SP X pz D f s:=by cases f with
|next=>obtain⟨σ',H',I,q⟩:=h;exact⟨σ',H',Inv.untr I,q⟩
|brk=>obtain⟨σ',H',I,q⟩:=h;exact⟨σ',H',Inv.untr I,q⟩
|cont=>obtain⟨σ',H',I,q⟩:=h;exact⟨σ',H',Inv.untr I,q⟩
|ret u=>obtain⟨v,σ',H',I,r,q⟩:=h;exact⟨v,σ',H',Inv.untr I,r,q⟩
end
structure XA(K:W.Frag)(C:Addr)(bm:List a_):Prop where
 ob:XO K C bm
 be:bm.contains (Value.type "BaseException")=true
 bo:bm.contains (Value.type "object")=true
 ga:findIn K (.ref C) "__getattribute__" = some (some (.builtin "BaseException.__getattribute__"))
 gn:findIn K (.ref C) "__getattr__" = some none
 gc:findIn K (.ref C) "__class__" = some (some (.builtin "object.__class__"))
 gg:specialIn K (.builtin "object.__class__") "__get__" = some (some (.builtin "getset_descriptor.__get__"))
 gt:takesIn K (.builtin "object.__class__")=some true
structure IsxOk(K:W.Frag)(c:a_)(tab:Str->Option Bool):Prop where
 no:kitOne K (.type "NoneType") c=some false
 ex:∀nm b C,tab nm=some b->XN K nm C->∃bm,XA K C bm/\kitOne K (.ref C) c=some b
section
variable{X:Cx}{g:GE}{m:List Md}{e:Expr}{f:FE}{pos p p2:Pos}
theorem RB.exc{K:W.Frag}{G:GH}{H:Hp}{v:V}{k:Str}{nm:Str}{ds:List (Str×D)}(gk:aC K G H)(h:RB K G H v (.obj 0 ((k,.str nm)::ds))):∃a C od,v=.ref a/\H a=some (.ext (yM a C od))/\XN K nm C:=by
 rcases h with h|⟨a,rfl,h⟩
 .cases h with
 |scl s=>cases s
 |ref e=>cases gk _ _ e with
  |exc r n f=>exact⟨_,_,_,rfl,r,n⟩
 |kc k=>cases k
 .cases h.ob
end
theorem XN.uniq{K:W.Frag}{nm:Str}{C c:Addr}(h:XN K nm C)(k:(K.all fun e=>match e.2.data with|.cls cd=>cd.name != nm || e.1==c|_=>true)=true):C=c:=by
 obtain⟨o,cd,h1,h2,h3⟩:=h;have hm:(C,o)∈(K:List (Addr×Obj)):=by
  have key:∀l:List (Addr×Obj),l.lookup C=some o->(C,o)∈l:=by
   intro l
   induction l with
  |nil=>intro h;cases h
  |cons q l ih=>
    intro h;rw[List.lookup]at h;split at h
    .rename_i hb;have:=LA hb;cases h;rw[this];exact i_
    .exact g_ _ (ih h)
  exact key K h1
 have:=Iu.mp k _ hm;simp only[h2]at this;rw[h3]at this;simpa using this
def Gu(f:Addr):Nat->Option (Option V×Option D):=fun j=>if j=0 then some (some (V.ref f),none)else none
theorem SI.fn{X:Cx}{m:List Md}{r:af}{G:GH}{st:L2.St}{H:Hp}(f:Addr)(s:SI X ⟨G,H,fun _=>none⟩ m r G st H):SI X ⟨G,H,Gu f⟩ (.bw::m) (none::r) G (some (V.ref f)::st) H where
 gok:=s.gok
 old:=s.old
 ge:=s.ge
 gf:=s.gf
 lm:=congrArg (· + 1) s.lm
 lr:=congrArg (· + 1) s.lr
 sh:=fun i d h hm=>by cases i with
 |zero=>simp at h
 |succ i=>exact s.sh i d (by simpa using h) (by simpa using hm)
 ow:=fun i d h hm=>by cases i with
 |zero=>simp at h
 |succ i=>exact s.ow i d (by simpa using h) (by simpa using hm)
 bw:=fun i d h hm=>by cases i with
 |zero=>simp at h
 |succ i=>exact s.bw i d (by simpa using h) (by simpa using hm)
 dis:=fun i j a d e hij hi hj mi mj si sj=>by cases i with
 |zero=>simp at hi
 |succ i=>cases j with
  |zero=>simp at hj
  |succ j=>exact s.dis i j a d e (fun z=>hij (by rw[z])) (by simpa using hi) (by simpa using hj) (by simpa using mi) (by simpa using mj) (by simpa using si) (by simpa using sj)
 lk:=fun i o h _=>by cases i with
 |zero=>have h:some (some (V.ref f),none)=some o:=h;cases h;exact⟨rfl,fun d e=>by simp at e⟩
 |succ i=>exact nomatch (show none=some o from h)
def Gq(K:W.Frag)(mg:Str->Option a_)(y:Str)(ro:Bool)(ms:List Md)(F:List D->Res D):Sp:=fun vs H Q E=>∃f vs',mg y=some (.ref f)/\vs=V.ref f::vs'/\fI K ro ms F vs' H Q E
section
variable{P:u_}{w:Gz}{K:W.Frag}{mg:Str->Option a_}{base:Heap}
structure CalleeF(P:u_)(w:Gz)(K:W.Frag)(mg:Str->Option a_)(base:Heap)(x y:Str)(ps:List Str)(k:Nat)(ro:Bool)(ms:List Md)(F:List D->Res D):Prop where
 ex:∃f fd,mg x=some (.ref f)/\W.keepIn K (.ref f)=true/\dj K fd ps []/\FnOk P w K mg base bH k f fd ps (Gq K mg y ro ms F)
end
end DL
namespace DL
open PySem PySem.Spec PyProof.Rows L2
section
variable{X:Cx}{g:GE}{i:Nat}{m m' m1:List Md}{r r':af}{w:List (List D)}{G G':GH}{σ σ':L2.St}{H H':Hp}{st:Stmt}{sts sts':List Stmt}{ro:Bool}{mb:List Md}{c e:Expr}{q:FQ}{f:FE}{s1:FS}{f1:yT}{pos p1 p2 p3 apos cpos:Pos}{x y:Str}
abbrev FM:=af->List (List D)->Out
def tM(X:Cx)(g:GE)(ro:Bool)(mb:List Md)(i:Nat)(m m':List Md)(F:FM):TS:=fun D σ H=>∃r w G,iV X g i m r w G σ H/\aX X g ro m' mb G D (F r w)
def SM(X:Cx)(g:GE)(ro:Bool)(mb:List Md)(i:Nat)(m:List Md)(st:Stmt)(F:FM)(m':List Md):Prop:=m'.length=m.length/\PS X st (tM X g ro mb i m m' F)
def yJ(q:FQ)(F1 F2:FM):FM:=fun r w=>match q r with
|.ok true=>F1 r w
|.ok false=>F2 r w
|_=>.stuck
theorem sm_if{F1 F2:FM}(hc:∀g',SQ X g' m c q)(h1:yO X g ro mb i m sts F1 m')(h2:yO X g ro mb i m sts' F2 m'):SM X g ro mb i m (.If c sts sts' pos) (yJ q F1 F2) m':=by have hcA:PT X c (fun σ H Q=>∃g',tQ X g' m q σ H Q):=fun pz s σ H Q I ⟨g',k⟩=>hc g' pz s σ H Q I k;refine⟨h1.1,PS.imp (mh hcA h1.2 h2.2) fun D σ H ⟨r,w,G,⟨p,as,R,h0,si,hm⟩,k⟩=>⟨_,r,G,si,?_⟩⟩;unfold yJ at k;cases z:q r with
|exc x=>rw[z]at k;exact k.elim
|stuck=>rw[z]at k;exact k.elim
|ok b=>rw[z]at k;intro G1 H1 w1;have S1:=xO R h0 si w1.ge (si.grow w1) hm;cases b with
 |true=>rw[if_pos rfl];exact⟨r,w,G1,S1,aX.gle k w1.ge⟩
 |false=>rw[if_neg j_];exact⟨r,w,G1,S1,aX.gle k w1.ge⟩
end
def Go(K:W.Frag)(ms:List Md)(F:List D->Option (List (List D))):Sp:=fun vs H Q _=>∃G ds w',aC K G H/\ArgsOk K G H ms vs ds/\F ds=some w'/\∀p as G' H',Grow K G H G' H'->LRw K G' H' p as w'->(∀b∈p::as,H b=none)->Q (V.ref p) H'
structure CalleeR(P:u_)(w:Gz)(K:W.Frag)(mg:Str->Option a_)(base:Heap)(x:Str)(ps:List Str)(k:Nat)(ms:List Md)(F:List D->Option (List (List D))):Prop where
 ex:∃f fd,mg x=some (.ref f)/\W.keepIn K (.ref f)=true/\dj K fd ps []/\FnOk P w K mg base bH k f fd ps (Go K ms F)
def lessL(H:Hp)(fp:List Addr):Hp:=fun b=>if b∈fp then none else H b
theorem qe{H:Hp}{fp:List Addr}{b:Addr}(h:b∈fp):lessL H fp b=none:=if_pos h
theorem ig{H:Hp}{fp:List Addr}{b:Addr}(h:b∉fp):lessL H fp b=H b:=if_neg h
def Gr(K:W.Frag)(ms:List Md)(F:List (List D)->List D->Res D):Sp:=fun vs H Q _=>∃G p as w us ds,aC K G H/\LRw K G H p as w/\vs=V.ref p::us/\ArgsOk K G H ms us ds /\fin (F w ds) (fun d=>∀v G' H',Grow K G (lessL H (p::as)) G' H'->RV true K (lessL H (p::as)) G' H' v d->Q v H') fun _=>False
structure CalleeD(P:u_)(w:Gz)(K:W.Frag)(mg:Str->Option a_)(base:Heap)(x:Str)(ps:List Str)(k:Nat)(ms:List Md)(F:List (List D)->List D->Res D):Prop where
 ex:∃f fd,mg x=some (.ref f)/\W.keepIn K (.ref f)=true/\dj K fd ps []/\FnOk P w K mg base bH k f fd ps (Gr K ms F)
section
variable{X:Cx}{g:GE}{i:Nat}{m ms:List Md}{mb:List Md}{e:Expr}{es:List Expr}{fl:af->Res (List D)}{k:Nat}{ps:List Str}{F:List (List D)->List D->Res D}{r:af}{w:List (List D)}{G G1 G':GH}{σ:L2.St}{H H1 H':Hp}{x y:Str}{p p1 p3 pos cpos:Pos}
theorem Grow.lessL{K:W.Frag}{G0:GH}{H0:Hp}{fp:List Addr}(w1:Grow K G0 H0 G1 H1)(h0:∀b∈fp,H0 b=none)(w2:Grow K G1 (lessL H1 fp) G' H'):Grow K G0 H0 G' H':=by
 have ne:∀b,H0 b≠none->b∉fp:=fun b h z=>h (h0 b z);have he:∀b o,H0 b=some o->DL.lessL H1 fp b=some o:=fun b o e=>by rw[ig (ne b (by rw[e];simp))];exact w1.he b o e
 refine⟨w2.ok,fun b o e=>w2.he b o (he b o e),fun b d e=>w2.ge b d (w1.ge b d e),fun b h=>?_⟩;rw[w2.gf b ?_,w1.gf b h];cases e:H0 b with
|none=>exact absurd e h
|some o=>rw[he b o e];simp
end
def Gn(K:W.Frag)(ms:List Md)(F:List D->Res D):Sp:=fun vs H Q _=>∃G a us d ds,aC K G H/\vs=V.ref a::us/\ArgsOk K G H ms us ds/\Own K G H a d /\fin (F (d::ds)) (fun d'=>∀v G' H',Grow K G (lessA H a) G' H'->RV true K (lessA H a) G' H' v d'->Q v H') fun _=>False
structure CalleeU(P:u_)(w:Gz)(K:W.Frag)(mg:Str->Option a_)(base:Heap)(x:Str)(ps:List Str)(k:Nat)(ms:List Md)(F:List D->Res D):Prop where
 ex:∃f fd,mg x=some (.ref f)/\W.keepIn K (.ref f)=true/\dj K fd ps []/\FnOk P w K mg base bH k f fd ps (Gn K ms F)
end DL
namespace HS
open PySem PySem.Spec PyProof.Rows
def tb(m mv:Nat)(led:Bool)(ks:List Nat):Iw:={ mask:=m,place:=ks.toArray,dummies:=#[],finger:=0,led:=led,moves:=mv,plain:=true }
def ins(k:Nat):List Nat->List Nat
|[]=>[k]
|a::l=>if k<a then k::a::l else a::ins k l
def pos(k:Nat)(ks:List Nat):Nat:=(ks.filter (· < k)).length
def lB:List (List Nat):=(f_ 128).map fun b=>(f_ 7).filter fun i=>b.testBit i
structure Mk(m mv:Nat)(ks:List Nat):Prop where
 mem:ks∈lB
 mode:(m,mv)=(7,0)/\ks.length<=4\/(m,mv)=(31,1)
structure Tk(m mv:Nat)(led:Bool)(ks:List Nat)(k:Nat):Prop where
 free:(tb m mv led ks).freeSlot (k:Int)=some (k,false)
 put:(tb m mv led ks).put k=(tb m mv led (ins k ks),pos k ks)
 fits:(tb m mv led (ins k ks)).fits (ks.length+1)=true
 full:(tb m mv led (ins k ks)).tooFull=(m==7&&ks.length==4)
 mem:ins k ks∈lB
 eq:ins k ks=ks.take (pos k ks)++k::ks.drop (pos k ks)
 le:pos k ks<=ks.length
structure Es(es:Array (Int×a_))(ks:List Nat):Prop where
 keys:es.toList.map (·.1)=ks.map fun k:Nat=>(k:Int)
 vals:∀e∈es.toList,∃t,e.2=.int e.1 t
theorem Es.size{es:Array (Int×a_)}{ks:List Nat}(h:Es es ks):es.size=ks.length:=by have:=congrArg Ia h.keys;simpa using this
theorem Es.key{es:Array (Int×a_)}{ks:List Nat}(h:Es es ks){e:Int×a_}(he:e∈es.toList):∃k∈ks,e.1=((k:Nat):Int):=by have:e.1∈es.toList.map (·.1):=D_.mpr ⟨e,he,rfl⟩;rw[h.keys]at this;obtain⟨k,hk,e2⟩:=D_.mp this;exact⟨k,hk,e2.symm⟩
def SA(h:Heap)(a:Addr)(led:Bool)(ks:List Nat):Prop:=∃es ep m mv,h.get? a=some { cls:=.type "set",dict:=none,data:=.set es ep (tb m mv led ks) }/\Mk m mv ks/\Es es ks
section
variable{prog:u_}{w:Gz}{A:GP}{E:a_->e_->Prop}{s:e_}
theorem put_heap{h:Heap}{a:Addr}{es es':Array (Int×a_)}{ep:Nat}{t t':Iw}(ho:h.get? a=some { cls:=.type "set",dict:=none,data:=.set es ep t }):(h.update a (Kb es' t')).get? a=some { cls:=.type "set",dict:=none,data:=.set es' (ep+1) t' }:=by have:=Jx (Kb es' t') ho (by rw[putSet_of es' t' rfl];rfl);rw[putSet_of es' t' rfl]at this;exact this
end
def stp(ks:List Nat)(k:Nat):List Nat:=if k∈ks then ks else ins k ks
abbrev ledOf(w:Gz):Bool:=! w.params.followText "set-order"
theorem SA.keep{h h':Heap}{a:Addr}{led:Bool}{ks:List Nat}(x:SA h a led ks)(e:∀o,h.get? a=some o->h'.get? a=some o):SA h' a led ks:=by obtain⟨es,ep,m,mv,ho,M,E⟩:=x;exact⟨es,ep,m,mv,e _ ho,M,E⟩
section
variable{prog:u_}{w:Gz}{A:GP}{E:a_->e_->Prop}{s:e_}
abbrev freshSet(led:Bool):Obj:={ cls:=.type "set",dict:=none,data:=.set #[] 0 (.fresh 0 0 led) }
theorem new_set(a:a_){Q:a_->e_->Prop}(h:Q (.ref s.heap.objs.size) { s with heap:=s.heap.push (freshSet (ledOf w)) }):JY (Gy prog w) A (.call (.builtin "set.__new__") ⟨[.type "set",a],[]⟩) (wants Q E) s:=by
 refine K8 ?_;show B_ _ A.in1 (checkBuiltinCall "set.__new__" ⟨[.type "set",a],[]⟩ >>= fun _=>again (.builtin "set.__new__" ⟨[.type "set",a],[]⟩)) _ _ s;refine c_ (wpAny_of_eq (F.newCall_set_1 a) (s_ ⟨plainId_quiet F.plain_set_new _,Jh F.entry_set_new ?_⟩));rw[JN F.plain_set_new _];have hsub:=sub_set_self;obtain⟨hp,g,d,tk,os⟩:=s;unfold JH.«set.__new__» M6
 dsimp only
 wp_walk
 refine wpAny_askSetting (s_ ?_);simp only[newObj];exact c_ (wpAny_alloc (s_ (s_ h)))
end
end HS
namespace DL
open PySem PySem.Spec PyProof.Rows L2
inductive OutK where
 |nx (r:af)|rt (d:D) (r:af)|stuck
abbrev FK:=af->OutK
def Kp(m:List Md)(σ σ':L2.St):Prop:=∀(i:Nat),m[i]? = some Md.ow->σ'[i]? = σ[i]?
theorem Kp.refl{m:List Md}{σ:L2.St}:Kp m σ σ:=fun _ _=>rfl
theorem Kp.trans{m:List Md}{σ σ1 σ2:L2.St}(a:Kp m σ σ1)(b:Kp m σ1 σ2):Kp m σ σ2:=fun i h=>(b i h).trans (a i h)
def iS(X:Cx)(g:GE)(m:List Md)(G:GH)(σ:L2.St)(D:Ends):OutK->Prop
|.nx r'=>∀σ' G' H',ax G G'->Kp m σ σ'->SI X g m r' G' σ' H'->D.nx σ' H'
|.rt d r'=>∀v σ' G' H',ax G G'->Kp m σ σ'->SI X g m r' G' σ' H'->RG X.K G' v d->D.rt v H'
|.stuck=>False
def tK(X:Cx)(g:GE)(m:List Md)(f:FK):TS:=fun D σ H=>∃r G,SI X g m r G σ H/\iS X g m G σ D (f r)
def SK(X:Cx)(g:GE)(m:List Md)(st:Stmt)(f:FK):Prop:=PS X st (tK X g m f)
def iA(X:Cx)(g:GE)(m:List Md)(st:List Stmt)(f:FK):Prop:=cm X st (tK X g m f)
section
variable{X:Cx}{g:GE}{m ms:List Md}{r r':af}{G G' G1:GH}{σ σ1:L2.St}{H H':Hp}{st:Stmt}{sts sts':List Stmt}{c e a b iter:Expr}{es:List Expr}{p:FQ}{f fb:FE}{s1 s2:FK}{pos p1 p2 pn cpos pos':Pos}{x y x1 x2:Str}{i i1 i2 k:Nat}{ps:List Str}
theorem iS.on{D:Ends}{o:OutK}(h:iS X g m G σ D o)(w:ax G G1)(kp:Kp m σ σ1):iS X g m G1 σ1 D o:=by cases o with
|nx r'=>exact fun σ' G' H' q k si=>h σ' G' H' (w.trans q) (kp.trans k) si
|rt d r'=>exact fun v σ' G' H' q k si=>h v σ' G' H' (w.trans q) (kp.trans k) si
|stuck=>exact h
def bD(s1 s2:FK):FK:=fun r=>match s1 r with
|.nx r'=>s2 r'
|o=>o
def g9:FK:=fun r=>.nx r
theorem jK:iA X g m [] g9:=cm.imp vU fun D σ H ⟨r,G,si,q⟩=>q σ G H (ax.refl G) Kp.refl si
theorem je(h1:SK X g m st s1)(h2:iA X g m sts s2):iA X g m (st::sts) (bD s1 s2):=by
 refine cm.imp (xc h1 h2) fun D σ H ⟨r,G,si,q⟩=>⟨r,G,si,?_⟩
 unfold bD at q;cases e:s1 r with
|nx r'=>rw[e]at q;exact fun σ' G' H' w kp si'=>⟨r',G',si',q.on w kp⟩
|rt d r'=>rw[e]at q;exact q
|stuck=>rw[e]at q;exact q
def gP{α:Type}(x:Res α)(k:α->OutK):OutK:=match x with
|.ok a=>k a
|_=>.stuck
theorem iL{α:Type}{x:Res α}{k:α->OutK}{D:Ends}{Z:DL.D->Prop}(h:iS X g m G σ D (gP x k)):fin x (fun a=>iS X g m G σ D (k a)) Z:=by cases x with
|ok a=>exact h
|exc e=>exact(show False from h).elim
|stuck=>exact h
def d6(f:FE):FK:=fun r=>gP (f r) fun d=>.rt d r
theorem sy(he:SE X g m e f):SK X g m (.Return (some e) pos) (d6 f):=PS.imp (oR he) fun D σ H ⟨r,G,si,q⟩=>⟨r,G,si,aK (iL q) fun d q v G' H' w rv=>q v σ G' H' w.ge Kp.refl (si.grow w) rv⟩
def kb(p:FQ)(s1 s2:FK):FK:=fun r=>gP (p r) fun c=>if c=true then s1 r else s2 r
theorem rW(hc:SQ X g m c p)(h1:iA X g m sts s1)(h2:iA X g m sts' s2):SK X g m (.If c sts sts' pos) (kb p s1 s2):=by
 refine PS.imp (mh hc h1 h2) fun D σ H ⟨r,G,si,q⟩=>⟨r,G,si,aK (iL q) fun c q G' H' w=>?_⟩
 cases c with
|true=>rw[if_pos rfl]at q ⊢;exact⟨r,G',si.grow w,q.on w.ge Kp.refl⟩
|false=>rw[if_neg j_]at q ⊢;exact⟨r,G',si.grow w,q.on w.ge Kp.refl⟩
def putK(i:Nat)(fk fv:FE):FK:=fun r=>gP (fv r) fun v=>match r[i]? with
|some (some d)=>gP (fk r) fun k=>(match cH d k v with
 |some d'=>.nx (r.set i (some d'))
 |none=>.stuck)
|_=>.stuck
theorem sx(i:Nat)(hu:X.A.units+1<Ij)(hm:m[i]? = some .ow)(hN:X.N[i]? = some x)(hv:dC X.env.scope x)(hk:SB X g m b fb)(he:SE X g m e f)(hd:(x==("__debug__" : Str))=false:=by decide)(hcd:(x==("__classdict__" : Str))=false:=by decide)(ha:∀v,Jz (.Subscript (.Name x p1) b p2) X.env v=(do
   let ov <-Je [v] (eval (.Name x p1) X.env);let iv <-Je [v,ov] (eval b X.env)
   L0 p2
   Je [v,ov,iv] (MK ov iv v)
   release [v,ov,iv] []):=by intro _;rfl)(hs:LC [.Subscript (.Name x p1) b p2] e pos.line X.env=pure false:=by rfl)(hw:LD [.Subscript (.Name x p1) b p2] e X.env=pure none:=by rfl)(h1:(Hu [.Subscript (.Name x p1) b p2] X.env).map (·.2)=[Jz (.Subscript (.Name x p1) b p2) X.env]:=by rfl):SK X g m (.Assign [.Subscript (.Name x p1) b p2] e pos) (putK i fb f):=by
 refine PS.imp (uC he (uB (fO hN hv hd hcd) hk (dc.or xi (ww hu)) ha) hs hw h1) fun D0 σ H ⟨r,G,si,k⟩=>⟨r,G,si,?_⟩
 refine aK (iL k) fun v k1 vv G1 H1 w1 rv=>?_;cases er:r[i]? with
|none=>simp only[er]at k1;exact(show False from k1).elim
|some oo=>cases oo with
 |none=>simp only[er]at k1;exact(show False from k1).elim
 |some d=>simp only[er]at k1;obtain⟨a,h1,h2,h3⟩:=(si.grow w1).mut hm er;refine⟨_,h1,r,G1,si.grow w1,?_⟩;refine aK (iL (k1.on w1.ge Kp.refl)) fun kk k2 kv G2 H2 w2 rk=>?_;cases es:cH d kk v with
  |none=>simp only[es]at k2;exact(show False from k2).elim
  |some d'=>simp only[es]at k2;obtain⟨a',h1',h2',h3'⟩:=((si.grow w1).grow w2).mut hm er;rw[h1]at h1';cases h1';exact uN w2.ok h2' rk (rv.mono w2.ge) es fun o' ob=>k2 σ G2 _ w2.ge Kp.refl (h3' o' d' ob)
def cf(i:Nat)(body:FK):List D->FK
|[],r=>.nx r
|d::ds,r=>match body (r.set i (some d))with
 |.nx r'=>cf i body ds r'
 |o=>o
def l9(fi:FI)(i:Nat)(body:FK):FK:=fun r=>gP (fi r) fun ds=>cf i body ds r
theorem zC(i:Nat)(hp:JA (Gy X.prog X.w) X.A X.env X.xe)(hc:X.calm=true){fi:FI}(hi:c9 X g m (.Name x p1) iter fi)(hm:m[i]? = some .sh)(hN:X.N.Nodup)(hNi:X.N[i]? = some x)(hx:fK X.env.scope x)(hb:iA X g m sts s1)(hf:X.fn x=true\/X.env.scope.names.lookup x=some .local:=by first|exact .inl rfl|exact .inr rfl|assumption)(hs:∀x,Hv iter X.env x=pure x:=by intro _;rfl):SK X g m (.For (.Name x p1) iter sts [] pos) (l9 fi i s1):=by
 have hmi:m.set i .sh=m:=by obtain⟨hlt,e⟩:=h_.mp hm;rw[<-e];exact List.set_getElem_self hlt
 refine PS.imp (kB hp hc hi (vT hN hNi hx hf) hb hs) fun D σ H ⟨r,G,si,q⟩=>⟨r,G,si,aK (iL q) fun ds q J G0 H0 w0 Y=>?_⟩
 refine⟨fun j n σ' H'=>∃r G,SI X g m r G σ' H'/\Kp m σ σ'/\ax G0 G/\j<=ds.length/\n=ds.length-j/\iS X g m G σ' D (cf i s1 (ds.drop j) r),⟨ds.length,r,G0,si.grow w0,Kp.refl,ax.refl G0,GL _,rfl,q.on w0.ge Kp.refl⟩,?_⟩
 rintro j n σ1 H1 ⟨r1,G1,si1,kp1,le1,hi,rfl,q1⟩
 by_cases hlt:j<ds.length
 .have hd:ds.drop j=ds[j]::ds.drop (j+1):=Hh hlt;rw[hd]at q1;unfold cf at q1;refine .inr ⟨Y.go G1 H1 j le1 si1.gok hlt,fun σ' H'=>∃r G,SI X g m r G σ' H'/\Kp m σ σ'/\ax G0 G/\iS X g m G σ' D (cf i s1 (ds.drop (j+1)) r),fun σ' H' ⟨r',G',si',kp',le',q'⟩=>⟨ds.length-(j+1),by omega,r',G',si',kp',le',hlt,rfl,q'⟩,fun x H' y=>?_⟩;obtain⟨G',w',rv⟩:=Y.yld G1 H1 j x H' ds[j] le1 si1.gok y (m_ hlt);have le':ax G0 G':=le1.trans w'.ge;have si2:=(si1.grow w').set i rv;rw[hmi]at si2;have kp2:Kp m σ1 (σ1.set i (some x)):=fun z hz=>by
   have hne:i≠z:=by rintro rfl;rw[hm]at hz;cases hz
   rw[b_ hne]
  refine⟨r1.set i (some ds[j]),G',si2,?_⟩;cases eb:s1 (r1.set i (some ds[j]))with
 |nx r'=>simp only[eb]at q1;exact fun σ3 G3 H3 le3 kp3 si3=>⟨r',G3,si3,(kp1.trans kp2).trans kp3,le'.trans le3,q1.on (ax.trans w'.ge le3) (kp2.trans kp3)⟩
 |rt d r'=>simp only[eb]at q1;exact fun v σ3 G3 H3 le3 kp3 si3=>q1 v σ3 G3 H3 (ax.trans w'.ge le3) (kp2.trans kp3) si3
 |stuck=>simp only[eb]at q1;exact q1
 .have e:j=ds.length:=by omega
  subst e;rw[Ir]at q1;exact .inl ⟨Y.stop G1 H1 le1 si1.gok,q1 σ1 G1 H1 (ax.refl _) Kp.refl si1⟩
theorem SI.back{fp:List Addr}(s:SI X g m r G σ H)(w:Grow X.K G (lessL H fp) G' H')(hf:∀b∈fp,g.h0 b=none)(hl:r'.length=r.length)(hr:∀(j:Nat),m[j]?≠some Md.ow->r'[j]? = r[j]?)(ho:∀(j:Nat) d,m[j]? = some .ow->r'[j]? = some (some d)->∃a,σ[j]? = some (some (V.ref a))/\Own X.K G' H' a d/\g.h0 a=none/\∃d0,r[j]? = some (some d0)):SI X g m r' G' σ H':=by
 have nin:∀b,g.h0 b≠none->b∉fp:=fun b h z=>h (hf b z);have isS:∀b,g.h0 b≠none->lessL H fp b≠none:=fun b h=>by rw[ig (nin b h)];cases e:g.h0 b with
 |none=>exact absurd e h
 |some o=>rw[s.old b o e];simp
 refine⟨w.ok,fun b o e=>w.he b o ?_,fun b d e=>w.ge b d (s.ge b d e),fun b h=>(w.gf b (isS b h)).trans (s.gf b h),s.lm,hl.trans s.lr,fun j d h1 h2=>?_,fun j d h1 h2=>?_,fun j d h1 h2=>?_,fun j k b d e hjk h1 h2 m1 m2 z1 z2=>?_,fun j o hj hm=>?_⟩
 .rw[ig (nin b (by rw[e];simp))];exact s.old b o e
 .rw[hr j (by rw[h2];simp)]at h1;obtain⟨v,y1,y2⟩:=s.sh j d h1 h2;exact⟨v,y1,y2.mono w.ge⟩
 .obtain⟨a,y1,y2,y3,_⟩:=ho j d h2 h1;exact⟨a,y1,y2,y3⟩
 .rw[hr j (by rw[h2];simp)]at h1;obtain⟨v,y1,y2⟩:=s.bw j d h1 h2;refine⟨v,y1,?_⟩;rcases y2 with y2|⟨b,rfl,y2,y3⟩
  .exact .inl (y2.mono w.ge)
  .exact .inr ⟨b,rfl,⟨by rw[w.gf b (isS b y3)];exact y2.un,y2.ob.mono w.ge fun o z=>w.he b o (by rw[ig (nin b y3)];exact z)⟩,y3⟩
 .obtain⟨_,_,_,_,d0,e1⟩:=ho j d m1 h1;obtain⟨_,_,_,_,d1,e2⟩:=ho k e m2 h2;exact s.dis j k b d0 d1 hjk e1 e2 m1 m2 z1 z2
 .have:=s.lk j o hj hm;exact⟨this.1,fun d h=>this.2 d (by rw[<-hr j (by rw[hm];simp)];exact h)⟩
end
abbrev fL:=List D->Option (Bool×D×D)
def Gp(K:W.Frag)(ms:List Md)(F:fL):Sp:=fun vs H Q _=>∃G us a1 a2 ds d1 d2 t,aC K G H/\vs=us++[V.ref a1,V.ref a2]/\ArgsOk K G H ms us ds/\Own K G H a1 d1/\Own K G H a2 d2/\a1≠a2/\F (ds++[d1,d2])=some t /\∀G' H',Grow K G (lessL H [a1,a2]) G' H'->Own K G' H' a1 t.2.1->Own K G' H' a2 t.2.2->Q (.bl t.1) H'
structure CalleeK(P:u_)(w:Gz)(K:W.Frag)(mg:Str->Option a_)(base:Heap)(x:Str)(ps:List Str)(k:Nat)(ms:List Md)(F:fL):Prop where
 ex:∃f fd,mg x=some (.ref f)/\W.keepIn K (.ref f)=true/\dj K fd ps []/\FnOk P w K mg base bH k f fd ps (Gp K ms F)
def d8(i1 i2:Nat):OutK->Option (Bool×D×D)
|.rt (.bl b) r=>(match r[i1]?,r[i2]? with
 |some (some d1),some (some d2)=>some (b,d1,d2)
 |_,_=>none)
|_=>none
theorem SI.moved2{X:Cx}{m:List Md}{r:af}{G:GH}{st:L2.St}{H:Hp}(s:SI X ⟨G,H,fun _=>none⟩ m r G st H){i1 i2:Nat}{a1 a2:Addr}{d1 d2:D}(hm1:i1<m.length)(hm2:i2<m.length)(h12:i1≠i2)(ha:a1≠a2)(hsh:∀(j:Nat),j≠i1->j≠i2->∀x,m[j]? = some x->x=.sh)(hr1:r[i1]? = some (some d1))(hs1:st[i1]? = some (some (V.ref a1)))(ho1:Own X.K G H a1 d1)(hr2:r[i2]? = some (some d2))(hs2:st[i2]? = some (some (V.ref a2)))(ho2:Own X.K G H a2 d2):SI X ⟨G,lessL H [a1,a2],fun _=>none⟩ ((m.set i1 .ow).set i2 .ow) r G st H:=by
 have mne:∀{j:Nat}{x:Md},i1≠j->i2≠j->((m.set i1 .ow).set i2 .ow)[j]? = some x->x=.sh:=fun h1 h2 h=>by rw[b_ h2,b_ h1]at h;exact hsh _ (H_ h1) (H_ h2) _ h
 have m1:((m.set i1 .ow).set i2 .ow)[i1]? = some .ow:=by rw[b_ (H_ h12),l_ hm1]
 have m2:((m.set i1 .ow).set i2 .ow)[i2]? = some .ow:=by rw[l_ (by simpa using hm2)]
 refine⟨s.gok,fun b o e=>?_,fun _ _ e=>e,fun _ _=>rfl,by simpa using s.lm,s.lr,fun j e h1 h2=>?_,fun j e h1 h2=>?_,fun j e h1 h2=>?_,fun j k b e1 e2 hjk h1 h2 y1 y2 z1 z2=>?_,fun j o hj=>nomatch hj⟩
 .have e':lessL H [a1,a2] b=some o:=e;by_cases hb:b∈[a1,a2]
  .rw[qe hb]at e';cases e'
  .rw[ig hb]at e';exact e'
 .by_cases q1:i1=j
  .subst q1;rw[m1]at h2;cases h2
  .by_cases q2:i2=j
   .subst q2;rw[m2]at h2;cases h2
   .rw[b_ q2,b_ q1]at h2;exact s.sh j e h1 h2
 .by_cases q1:i1=j
  .subst q1;rw[hr1]at h1;cases h1;exact⟨a1,hs1,ho1,qe (by simp)⟩
  .by_cases q2:i2=j
   .subst q2;rw[hr2]at h1;cases h1;exact⟨a2,hs2,ho2,qe (by simp)⟩
   .cases mne q1 q2 h2
 .by_cases q1:i1=j
  .subst q1;rw[m1]at h2;cases h2
  .by_cases q2:i2=j
   .subst q2;rw[m2]at h2;cases h2
   .cases mne q1 q2 h2
 .have key:∀(j:Nat),((m.set i1 .ow).set i2 .ow)[j]? = some .ow->j=i1\/j=i2:=fun j h=>by
   by_cases q1:i1=j
   .exact .inl q1.symm
   .by_cases q2:i2=j
    .exact .inr q2.symm
    .cases mne q1 q2 h
  rcases key j y1 with rfl|rfl <;> rcases key k y2 with rfl|rfl
  .exact hjk rfl
  .rw[hs1]at z1;rw[hs2]at z2;cases z1;cases z2;exact ha rfl
  .rw[hs2]at z1;rw[hs1]at z2;cases z1;cases z2;exact ha rfl
  .exact hjk rfl
section
variable{P:u_}{w:Gz}{K:W.Frag}{mg:Str->Option a_}{base:Heap}
theorem wo{x:Str}{st:Stmt}{N ps:List Str}{k:Nat}{ms:List Md}{fs:FK}(A:DefAt K mg x st)(S:FnScope N ps (aB st))(hms:ms.length+2=ps.length)(hsh:∀x∈ms,x=Md.sh)(hb:∀(kV doc pm:a_)(an:Option Addr)(cdv ct:a_)(us:List a_),us.length=ps.length->Lj (W.fnOf x x (gM st) (dW st) (aB st) .none kV doc pm an cdv ct) ⟨us,[]⟩=pure (ps.zip us))(hbody:∀(f:Addr)(cdv:a_)(A:GP)(outer:List Env)(s:e_)(H:Hp)(g:GE)(E:XK),Room k (A.deeper (JB x (aB st) s.heap.objs.size f cdv)) ->iA (bb bH P w K mg base N x (aB st) f cdv A outer s H E).nox g (cW N.length (ms++[.ow,.ow])) (dW st) fs):CalleeK P w K mg base x ps (k+1) ms fun ds=>d8 ms.length (ms.length+1) (fs (aT N.length ds)):=by
 obtain⟨f,fd,h1,F⟩:=A.ex;refine⟨f,fd,h1,F.kp,F.binds hb,?_⟩;refine F.ok S (fun vs H Q E ⟨G,us,a1,a2,ds,d1,d2,t,gk,hv,rs,_⟩=>by rw[hv,GB,rs.len.1,<-hms];rfl) fun cdv A outer s H vs Q E hr h=>?_;obtain⟨G,us,a1,a2,ds,d1,d2,t,gk,rfl,rs,o1,o2,ha,hF,q⟩:=h;have hpl:ps.length<=N.length:=by have:=congrArg Ia S.pre;rw[IV]at this;omega
 obtain⟨l1,l2⟩:=rs.len;have rs2:=(rs.snoc (v:=V.ref a1) (.inr ⟨a1,rfl,o1⟩)).snoc (v:=V.ref a2) (.inr ⟨a2,rfl,o2⟩);rw[Ju,Ju,Ju]at rs2;have s0:=xj (X:=(bb bH P w K mg base N x (aB st) f cdv A outer s H E).nox) (N:=N) gk rs2 (by simp;omega);have eN:N.length=ms.length+(2+(N.length-(ms.length+2))):=by omega
 have e0:cW N.length (ms++([.bw]++[.bw]))=ms++(.bw::.bw::GT (N.length-(ms.length+2)) .sh):=by unfold cW;simp
 have em:((cW N.length (ms++([.bw]++[.bw]))).set ms.length .ow).set (ms.length+1) .ow=cW N.length (ms++[.ow,.ow]):=by rw[e0];unfold cW;rw[Lg _ _ (w_ _),KZ,List.set_cons_zero,Lg _ _ (My _),show ms.length+1-ms.length=1 by omega];simp
 have r1:(aT N.length (ds++([d1]++[d2])))[ms.length]? = some (some d1):=by unfold aT;rw[C_ (by simp;omega),o_,GG (by omega),show ms.length-ds.length=0 by omega];rfl
 have r2:(aT N.length (ds++([d1]++[d2])))[ms.length+1]? = some (some d2):=by unfold aT;rw[C_ (by simp;omega),o_,GG (by omega),show ms.length+1-ds.length=1 by omega];rfl
 have t1:(L2.start N (us++([V.ref a1]++[V.ref a2])))[ms.length]? = some (some (V.ref a1)):=by unfold L2.start;rw[C_ (by simp;omega),o_,GG (by omega),show ms.length-us.length=0 by omega];rfl
 have t2:(L2.start N (us++([V.ref a1]++[V.ref a2])))[ms.length+1]? = some (some (V.ref a2)):=by unfold L2.start;rw[C_ (by simp;omega),o_,GG (by omega),show ms.length+1-us.length=1 by omega];rfl
 have lm:(cW N.length (ms++([Md.bw]++[Md.bw]))).length=N.length:=by rw[e0];simp;omega
 have si:=SI.moved2 s0 (i1:=ms.length) (i2:=ms.length+1) (d1:=d1) (d2:=d2) (by omega) (by omega) (by omega) ha (fun j j1 j2 x hx=>?_) r1 t1 o1 r2 t2 o2
 .rw[em]at si;refine⟨_,hbody f cdv A outer s H ⟨G,lessL H [a1,a2],fun _=>none⟩ E hr,_,G,si,?_⟩;have hF':d8 ms.length (ms.length+1) (fs (aT N.length (ds++([d1]++[d2]))))=some t:=hF;have mi1:(cW N.length (ms++[Md.ow,Md.ow]))[ms.length]? = some .ow:=by unfold cW;rw[C_ (by simp),GG (w_ _)];simp
  have mi2:(cW N.length (ms++[Md.ow,Md.ow]))[ms.length+1]? = some .ow:=by unfold cW;rw[C_ (by simp),GG (by omega)];simp
  cases eo:fs (aT N.length (ds++([d1]++[d2])))with
 |nx r'=>rw[eo]at hF';cases hF'
 |stuck=>rw[eo]at hF';cases hF'
 |rt d r'=>rw[eo]at hF';cases d with
  |bl b=>
    unfold d8 at hF';simp only at hF';split at hF'
    .rename_i y1 y2 e1 e2;cases hF';intro v σ' G' H' le kp si' rv;have hv:=rv.bl si'.gok;subst hv;obtain⟨b1,z1,w1,_⟩:=si'.ow _ _ e1 mi1;obtain⟨b2,z2,w2,_⟩:=si'.ow _ _ e2 mi2;rw[kp _ mi1]at z1;rw[kp _ mi2]at z2;have z1':=t1.symm.trans z1;have z2':=t2.symm.trans z2;cases z1';cases z2';exact q G' H' si'.grown w1 w2
    .cases hF'
  |_=>cases hF'
 .rw[e0]at hx;by_cases hj:j<ms.length
  .rw[C_ hj]at hx;exact hsh x (JL hx)
  .rw[GG (by omega)]at hx;obtain⟨n,hn⟩:∃n,j-ms.length=n+2:=⟨j-ms.length-2,by omega⟩
   rw[hn,Jn,Jn,Hb]at hx;split at hx
   .cases hx;rfl
   .cases hx
end
end DL
section
namespace DL
open PySem PySem.Spec PyProof.Rows L2
section
variable{X:Cx}{g:GE}{m ms mb:List Md}{r r':af}{G G' G1:GH}{σ σ1:L2.St}{H H':Hp}{st:Stmt}{sts sts':List Stmt}{a e0 e1:Expr}{p:FQ}{fa fb:FE}{s1 s2:FK}{pos p1 p2 pn cpos pos' dp:Pos}{x y x1 x2:Str}{k:Nat}{ps:List Str}{F:fL}{ro:Bool}
theorem SI.back2{a1 a2:Addr}{i1 i2:Nat}{d1 d2 d1' d2':D}(s:SI X g m r G σ H)(hm1:m[i1]? = some .ow)(hm2:m[i2]? = some .ow)(h12:i1≠i2)(hr1:r[i1]? = some (some d1))(hr2:r[i2]? = some (some d2))(hs1:σ[i1]? = some (some (V.ref a1)))(hs2:σ[i2]? = some (some (V.ref a2)))(n1:g.h0 a1=none)(n2:g.h0 a2=none)(w:Grow X.K G (lessL H [a1,a2]) G' H')(o1:Own X.K G' H' a1 d1')(o2:Own X.K G' H' a2 d2'):SI X g m ((r.set i1 (some d1')).set i2 (some d2')) G' σ H':=by
 refine s.back w (fun b hb=>?_) (by simp) (fun j hj=>?_) fun j d hj hd=>?_
 .rcases n_.mp hb with rfl|hb
  .exact n1
  .rw[y_.mp hb];exact n2
 .have j1:i1≠j:=by rintro rfl;exact hj hm1
  have j2:i2≠j:=by rintro rfl;exact hj hm2
  rw[b_ j2,b_ j1]
 .have l1:i1<r.length:=(h_.mp hr1).1;have l2:i2<r.length:=(h_.mp hr2).1;by_cases j2:i2=j
  .subst j2;rw[l_ (by simpa using l2)]at hd;cases hd;exact⟨a2,hs2,o2,n2,d2,hr2⟩
  .rw[b_ j2]at hd;by_cases j1:i1=j
   .subst j1;rw[l_ l1]at hd;cases hd;exact⟨a1,hs1,o1,n1,d1,hr1⟩
   .rw[b_ j1]at hd;obtain⟨b,y1,y2,y3⟩:=s.ow j d hd hj;have hb:b∉[a1,a2]:=fun z=>by
     rcases n_.mp z with rfl|z
     .exact s.dis i1 j b _ _ j1 hr1 hd hm1 hj hs1 y1
     .cases y_.mp z;exact s.dis i2 j _ _ _ j2 hr2 hd hm2 hj hs2 y1
    have hS:lessL H [a1,a2] b≠none:=by rw[ig hb];exact y2.ob.isS
    exact⟨b,y1,⟨by rw[w.gf b hS];exact y2.un,y2.ob.mono w.ge fun o z=>w.he b o (by rw[ig hb];exact z)⟩,y3,d,hd⟩
def j8(p:FQ)(fa fb:FE)(i1 i2:Nat)(F:fL)(s1:FK):FK:=fun r=>gP (p r) fun c=>
 if c=true then s1 r else gP (fa r) fun da=>gP (fb r) fun db=>match r[i1]?,r[i2]? with
 |some (some d1),some (some d2)=>(match F [da,db,d1,d2]with
  |some t=>if t.1=true then s1 ((r.set i1 (some t.2.1)).set i2 (some t.2.2))else .nx ((r.set i1 (some t.2.1)).set i2 (some t.2.2))
  |none=>.stuck)
 |_,_=>.stuck
theorem AQ(i1 i2:Nat)(c:CalleeK X.prog X.w X.K X.mg X.base y ps k [.sh,.sh] F)(hr:Room k X.A)(ha:SQ X g m a p)(h0:SE X g m e0 fa)(h1:SE X g m e1 fb)(hm1:m[i1]? = some .ow)(hm2:m[i2]? = some .ow)(h12:i1≠i2)(hN1:X.N[i1]? = some x1)(hN2:X.N[i2]? = some x2)(hv1:dC X.env.scope x1)(hv2:dC X.env.scope x2)(hb:iA X g m sts s1)(hd1:(x1==("__debug__" : Str))=false:=by decide)(hcd1:(x1==("__classdict__" : Str))=false:=by decide)(hd2:(x2==("__debug__" : Str))=false:=by decide)(hcd2:(x2==("__classdict__" : Str))=false:=by decide)(hg:Gl X y:=by rfl)(hdb:(y==("__debug__" : Str))=false:=by decide)(he:k_ [e0,e1,.Name x1 p1,.Name x2 p2] X.env=(false,eval e0 X.env)::k_ [e1,.Name x1 p1,.Name x2 p2] X.env:=by rfl)(he1:k_ [e1,.Name x1 p1,.Name x2 p2] X.env=(false,eval e1 X.env)::k_ [.Name x1 p1,.Name x2 p2] X.env:=by rfl)(he2:k_ [.Name x1 p1,.Name x2 p2] X.env=(false,eval (.Name x1 p1) X.env)::k_ [.Name x2 p2] X.env:=by rfl)(he3:k_ [.Name x2 p2] X.env=(false,eval (.Name x2 p2) X.env)::k_ [] X.env:=by rfl)(hpl:(backTo cpos (k_ [e1,.Name x1 p1,.Name x2 p2] X.env)).any (·.1)=false:=by rfl):SK X g m (.If (.BoolOp .Or [a,.Call (.Name y pn) [e0,e1,.Name x1 p1,.Name x2 p2] [] cpos] pos') sts [] pos) (j8 p fa fb i1 i2 F s1):=by
 obtain⟨f,fd,q1,q2,q3,q4⟩:=c.ex;refine PS.imp (mh (PW.pt (sX ha (uY (BA (kL q4 hr hg q1 q2 q3 .nil km (cY h0 (cY h1 (cY (fO hN1 hv1 hd1 hcd1) (cY (fO hN2 hv2 hd2 hcd2) gK he3) he2) he1) he) hdb he hpl))))) hb (jK (g:=g) (m:=m))) fun D σ H ⟨r,G,si,q⟩=>⟨r,G,si,aK (iL q) fun c q G1 H1 w1=>?_⟩
 cases c with
|true=>rw[if_pos rfl]at q ⊢;show(if true=true then tK X g m s1 D σ H1 else _);rw[if_pos rfl];exact⟨r,G1,si.grow w1,q.on w1.ge Kp.refl⟩
|false=>rw[if_neg j_]at q ⊢;refine⟨r,G1,si.grow w1,aK (iL q) fun da q va G2 H2 w2 ra=>⟨r,G2,(si.grow w1).grow w2,aK (iL q) fun db q vb G3 H3 w3 rb=>?_⟩⟩;have s3:=((si.grow w1).grow w2).grow w3;cases z1:r[i1]? with
 |none=>simp only[z1]at q;exact(show False from q).elim
 |some o1=>cases o1 with
  |none=>simp only[z1]at q;exact(show False from q).elim
  |some d1=>cases z2:r[i2]? with
   |none=>simp only[z1,z2]at q;exact(show False from q).elim
   |some o2=>cases o2 with
    |none=>simp only[z1,z2]at q;exact(show False from q).elim
    |some d2=>simp only[z1,z2]at q;obtain⟨a1,t1,w1',n1⟩:=s3.ow i1 d1 z1 hm1;obtain⟨a2,t2,w2',n2⟩:=s3.ow i2 d2 z2 hm2;refine⟨_,t1,_,t2,?_⟩;cases eF:F [da,db,d1,d2]with
     |none=>simp only[eF]at q;exact(show False from q).elim
     |some t=>
       simp only[eF]at q;refine⟨G3,[va,vb],a1,a2,[da,db],d1,d2,t,w3.ok,rfl,.sh (ra.mono w3.ge) (.sh rb .nil),w1',w2',fun z=>?_,eF,fun G' H' w o1 o2=>⟨t.1,rfl,?_⟩⟩
       .subst z;exact s3.dis i1 i2 a1 d1 d2 h12 z1 z2 hm1 hm2 t1 t2
       .have sb:=s3.back2 hm1 hm2 h12 z1 z2 t1 t2 n1 n2 w o1 o2;have le:ax G G':=fun b d e=>w.ge b d (w3.ge b d (w2.ge b d (w1.ge b d e)));cases eb:t.1 with
       |true=>rw[eb,if_pos rfl]at q;show(if true=true then tK X g m s1 D σ H' else _);rw[if_pos rfl];exact⟨_,G',sb,q.on le Kp.refl⟩
       |false=>rw[eb,if_neg j_]at q;show(if false=true then _ else tK X g m g9 D σ H');rw[if_neg j_];exact⟨_,G',sb,fun σ' G'' H'' le' kp s'=>q σ' G'' H'' (le.trans le') kp s'⟩
def l0(m:List Md)(fa fb:FE)(i:Nat)(F:fL):FS:=fun r=>dO m r (fa r) fun da=>dO m r (fb r) fun db=>match r[i]? with
|some (some d2)=>(match F [da,db,.dic [],d2]with
 |some t=>.nx (r.set i (some t.2.2))
 |none=>.stuck)
|_=>.stuck
theorem C4(i:Nat)(c:CalleeK X.prog X.w X.K X.mg X.base y ps k [.sh,.sh] F)(hr:Room k X.A)(h0:SE X g m e0 fa)(h1:SE X g m e1 fb)(hm:m[i]? = some .ow)(hN:X.N[i]? = some x)(hv:dC X.env.scope x)(hd:(x==("__debug__" : Str))=false:=by decide)(hcd:(x==("__classdict__" : Str))=false:=by decide)(hg:Gl X y:=by rfl)(hdb:(y==("__debug__" : Str))=false:=by decide)(he:k_ [e0,e1,.Dict [] [] dp,.Name x p2] X.env=(false,eval e0 X.env)::k_ [e1,.Dict [] [] dp,.Name x p2] X.env:=by rfl)(he1:k_ [e1,.Dict [] [] dp,.Name x p2] X.env=(false,eval e1 X.env)::k_ [.Dict [] [] dp,.Name x p2] X.env:=by rfl)(he2:k_ [.Dict [] [] dp,.Name x p2] X.env=(false,eval (.Dict [] [] dp) X.env)::k_ [.Name x p2] X.env:=by rfl)(he3:k_ [.Name x p2] X.env=(false,eval (.Name x p2) X.env)::k_ [] X.env:=by rfl)(hpl:(backTo cpos (k_ [e1,.Dict [] [] dp,.Name x p2] X.env)).any (·.1)=false:=by rfl)(hs:J6 (.Call (.Name y pn) [e0,e1,.Dict [] [] dp,.Name x p2] [] cpos) none pos.line X.env=pure false:=by rfl):SS X g ro mb m (.Expr (.Call (.Name y pn) [e0,e1,.Dict [] [] dp,.Name x p2] [] cpos) pos) (l0 m fa fb i F) m:=by
 obtain⟨f,fd,q1,q2,q3,q4⟩:=c.ex;refine⟨rfl,PS.imp (pG (kL q4 hr hg q1 q2 q3 .nil km (cY h0 (cY h1 (cY (oP (g:=g) (m:=m)) (cY (fO hN hv hd hcd) gK he3) he2) he1) he) hdb he hpl) hs) fun D σ H ⟨r,G,si,q⟩=>⟨r,G,si,aK (dI si rfl q) fun da q va G1 H1 w1 ra=>⟨r,G1,si.grow w1,?_⟩⟩⟩;refine aK (dI (m:=m) (si.grow w1) rfl (aX.gle q w1.ge)) fun db q vb G2 H2 w2 rb=>⟨r,G2,(si.grow w1).grow w2,fun a1 G3 H3 w3 hn o1=>?_⟩
 have s2:=(si.grow w1).grow w2;have s3:=s2.grow w3;cases z2:r[i]? with
|none=>simp only[z2]at q;exact(show False from q).elim
|some oo=>cases oo with
 |none=>simp only[z2]at q;exact(show False from q).elim
 |some d2=>simp only[z2]at q;obtain⟨a2,t2,w2',n2⟩:=s3.ow i d2 z2 hm;refine⟨_,t2,?_⟩;cases eF:F [da,db,.dic [],d2]with
  |none=>simp only[eF]at q;exact(show False from q).elim
  |some t=>
    simp only[eF]at q;have old:∀b,H2 b≠none->b≠a1:=fun b h z=>by subst z;exact h hn
    have n1:g.h0 a1=none:=by cases e:g.h0 a1 with
    |none=>rfl
    |some o=>exact absurd rfl (old a1 (by rw[s2.old a1 o e];simp))
    have isS:∀{j:Nat}{d:DL.D}{b:Addr},r[j]? = some (some d)->m[j]? = some .ow->σ[j]? = some (some (V.ref b))->b≠a1:=fun{j d b} e1 e2 e3=>by obtain⟨b',y1,y2,_⟩:=s2.ow j d e1 e2;rw[e3]at y1;cases y1;exact old b y2.ob.isS
    refine⟨G3,[va,vb],a1,a2,[da,db],.dic [],d2,t,w3.ok,rfl,.sh (ra.mono fun b d e=>w3.ge b d (w2.ge b d e)) (.sh (rb.mono w3.ge) .nil),o1,w2',(isS z2 hm t2).symm,eF,fun G' H' w p1 p2=>?_⟩;refine q σ G' H' (fun b d e=>w.ge b d (w3.ge b d (w2.ge b d e))) (s3.back w (fun b hb=>?_) (by simp) (fun j hj=>?_) fun j d hj hd=>?_)
    .rcases n_.mp hb with rfl|hb
     .exact n1
     .rw[y_.mp hb];exact n2
    .have j1:i≠j:=by rintro rfl;exact hj hm
     rw[b_ j1]
    .have l1:i<r.length:=(h_.mp z2).1;by_cases j1:i=j
     .subst j1;rw[l_ l1]at hd;cases hd;exact⟨a2,t2,p2,n2,d2,z2⟩
     .rw[b_ j1]at hd;obtain⟨b,y1,y2,y3⟩:=s3.ow j d hd hj;have hb:b∉[a1,a2]:=fun z=>by
       rcases n_.mp z with rfl|z
       .exact isS hd hj y1 rfl
       .cases y_.mp z;exact s3.dis i j _ _ _ j1 z2 hd hm hj t2 y1
      have hS:lessL H3 [a1,a2] b≠none:=by rw[ig hb];exact y2.ob.isS
      exact⟨b,y1,⟨by rw[w.gf b hS];exact y2.un,y2.ob.mono w.ge fun o z=>w.he b o (by rw[ig hb];exact z)⟩,y3,d,hd⟩
end
end DL
namespace DL
theorem Cs{X:L2.Cx}{g:GE}{m:List Md}{sts:List PySem.Stmt}:iA X g m sts (fun _=>.stuck):=cm.imp L2.fj fun D σ H ⟨r,G,si,q⟩=>q
end DL
end
namespace HT
open PySem PySem.Spec PyProof.Rows SetTable
def c6(mask:Nat):Nat->Nat×Nat->Nat×Nat
|0,x=>x
|k+1,x=>c6 mask k (leap mask x.1 x.2)
theorem kK(mask:Nat):∀(a b:Nat)(x:Nat×Nat),c6 mask (a+b) x=c6 mask b (c6 mask a x)
|0,b,x=>by rw[IW];rfl
|a+1,b,x=>by rw[Nat.add_right_comm];exact kK mask a b _
theorem pE(mask:Nat):∀(k:Nat)(x:Nat×Nat),(c6 mask k x).2=x.2/32^k
|0,x=>by simp[c6]
|k+1,x=>by show(c6 mask k (leap mask x.1 x.2)).2=_;rw[pE mask k];show x.2/32/32^k=_;rw[Nat.div_div_eq_div_mul,J3,IX]
theorem tX(mask:Nat):∀(k:Nat)(x:Nat×Nat),x.1<=mask->(c6 mask k x).1<=mask
|0,x,h=>h
|k+1,x,_=>tX mask k _ (IJ (Jm _ (L9 _)))
def M3:List Nat:=[7,31,127]
def orb(mask:Nat):Nat->Nat->List Nat
|0,_=>[]
|n+1,i=>i::orb mask n ((i*5+1)%(mask+1))
theorem uA(mask:Nat):∀(n i k:Nat),k<n->(orb mask n i)[k]? = some (c6 mask k (i,0)).1
|n+1,i,0,_=>rfl
|n+1,i,k+1,h=>by show(orb mask n ((i*5+1)%(mask+1)))[k]? = _;rw[uA mask n _ k (by omega)];show _=some (c6 mask k (leap mask i 0)).1;unfold leap;simp
theorem orb_len(mask:Nat):∀(n i:Nat),(orb mask n i).length=n
|0,_=>rfl
|n+1,i=>congrArg (· + 1) (orb_len mask n _)
theorem yL:(M3.all fun m=>decide (c6 m (m+1) (0,0)=(0,0))&&(f_ (m+1)).all fun j=>(orb m (m+1) 0).contains j)=true:=by decide+kernel
theorem vQ{m:Nat}(hm:m∈M3){j:Nat}(hj:j<=m):∃k,k<=m/\c6 m k (0,0)=(j,0):=by have h:=Iu.mp yL m hm;rw[GR]at h;have h2:=Iu.mp h.2 j (z_.mpr (by omega));obtain⟨k,hk,e⟩:=LB (List.contains_iff_mem.mp h2);rw[orb_len]at hk;have:=uA m (m+1) 0 k hk;rw[m_ (by rw[orb_len];exact hk),e]at this;refine⟨k,by omega,M7 (Gw this).symm ?_⟩;rw[pE];simp
theorem B3{m:Nat}(hm:m∈M3){i j:Nat}(hi:i<=m)(hj:j<=m):∃k,k<=m/\(c6 m k (i,0)).1=j:=by
 obtain⟨a,ha,ea⟩:=vQ hm hi;obtain⟨b,hb,eb⟩:=vQ hm hj;by_cases h:a<=b
 .refine⟨b-a,by omega,?_⟩;rw[<-ea,<-kK,show a+(b-a)=b by omega,eb]
 .refine⟨b+(m+1)-a,by omega,?_⟩;have h0:=Iu.mp yL m hm;rw[GR]at h0;rw[<-ea,<-kK,show a+(b+(m+1)-a)=(m+1)+b by omega,kK,of_decide_eq_true h0.1,eb]
theorem sO{m:Nat}(hm:m∈M3){i q j:Nat}(hi:i<=m)(hq:q<2^64)(hj:j<=m):∃k,1<=k/\k<=m+13/\(c6 m k (i,q)).1=j:=by
 have e2:(c6 m 13 (i,q)).2=0:=by rw[pE];exact Nat.div_eq_of_lt (x_ hq (by decide))
 obtain⟨k,hk,e⟩:=B3 hm (tX m 13 (i,q) hi) hj;refine⟨13+k,by omega,by omega,?_⟩;rw[kK];rw[<-e,<-e2]
theorem mem_M3{m:Nat}(h:m∈M3):m=7\/m=31\/m=127:=by simpa[M3]using h
theorem tZ:∀{a l:List Nat},a.Nodup->(∀x∈a,x∈l)->a.length<=l.length
|[],_,_,_=>GL _
|x::a,l,hn,h=>by have hx:=h x i_;have hn':=GS.mp hn;have:=tZ (l:=l.erase x) hn'.2 fun y hy=>(JO (by rintro rfl;exact hn'.1 hy)).mpr (h y (g_ _ hy));rw[Jc hx]at this;have:=K0 hx;rw[E_];omega
theorem D4{l:List Nat}{m:Nat}(h:l.length<=m):∃j,j<=m/\j∉l:=by apply G_;intro hn;have hall:∀j∈f_ (m+1),j∈l:=fun j hj=>G_ fun z=>hn ⟨j,IJ (z_.mp hj),z⟩;have:=tZ HQ hall;rw[Ic]at this;omega
section
variable{t:Iw}{hashAt:Nat->Int}{h:Int}
theorem slot_cases(hd:t.dummies = #[])(j:Nat):(t.slot j=.empty/\True)\/∃i,t.slot j=.live i/\t.place[i]? = some j:=by
 unfold SetTable.slot;simp only;by_cases e:(t.place[below t.place j]? == some j)=true
 .rw[if_pos e];exact .inr ⟨_,rfl,by simpa using e⟩
 .rw[if_neg e];have:has t.dummies j=false:=by rw[hd];unfold has;simp
  rw[this];exact .inl ⟨rfl,trivial⟩
theorem D3(hd:t.dummies = #[]){j:Nat}(hj:j∉t.place.toList):t.slot j=.empty:=by
 rcases slot_cases hd j with e|⟨i,_,e⟩
 .exact e.1
 .exact absurd (by rw[<-HY]at e;exact JL e) hj
abbrev go(t:Iw)(hashAt:Nat->Int)(h:Int):=Hy t hashAt h
theorem ku(hd:t.dummies = #[]){n:Nat}{p:Probe}(e:go t hashAt h (n+1) p=none):t.slot p.j≠.empty/\go t hashAt h n (t.advance p)=none:=by
 unfold go Hy at e;rcases slot_cases hd p.j with z|⟨i,z,_⟩
 .rw[z.1]at e;cases e
 .rw[z]at e ⊢;simp only at e;split at e
  .cases e
  .exact⟨fun z=>Slot.noConfusion z,e⟩
theorem pP(hd:t.dummies = #[]):∀{n m:Nat}{p:Probe},go t hashAt h n p=none->m<=n->go t hashAt h m p=none
|n,0,p,_,_=>rfl
|0,m+1,p,_,hl=>absurd hl (by omega)
|n+1,m+1,p,e,hl=>by
  obtain⟨e1,e2⟩:=ku hd e;have ih:=pP hd e2 (K4 hl);unfold go Hy at e ⊢;rcases slot_cases hd p.j with z|⟨i,z,_⟩
  .exact absurd z.1 e1
  .rw[z]at e ⊢;simp only at e ⊢;split at e
   .cases e
   .rename_i hh;rw[if_neg hh];exact ih
def l7(t:Iw)(p:Probe):Probe:={ p with j:=(leap t.mask p.i p.perturb).1,more:=runEnd t.mask (leap t.mask p.i p.perturb).1-(leap t.mask p.i p.perturb).1,i:=(leap t.mask p.i p.perturb).1,perturb:=(leap t.mask p.i p.perturb).2 }
theorem tP(hd:t.dummies = #[]):∀(more n:Nat)(p:Probe),p.more=more->go t hashAt h (n+more+1) p=none->go t hashAt h n (l7 t p)=none
|0,n,p,hm,e=>by have:=(ku hd e).2;unfold KB at this;rw[hm,if_neg (by omega)]at this;exact this
|more+1,n,p,hm,e=>by have:=(ku hd e).2;unfold KB at this;rw[hm,if_pos (by omega)]at this;exact tP hd more n { p with j:=p.j+1,more:=more+1-1 } rfl this
theorem EN(t:Iw)(p:Probe):(l7 t p).more<=9:=by show runEnd t.mask _-_<=9;unfold runEnd;split <;> omega
theorem tJ(hd:t.dummies = #[]):∀(K:Nat)(p:Probe),p.more<=9->go t hashAt h (10*K+1) p=none->∀k,1<=k->k<=K->t.slot (c6 t.mask k (p.i,p.perturb)).1≠.empty
|0,p,_,_,k,h1,h2=>absurd h1 (by omega)
|K+1,p,hm,e,k,h1,h2=>by
  have e2:go t hashAt h (10*K+1) (l7 t p)=none:=tP hd p.more _ p rfl (pP hd e (by omega));obtain⟨k',rfl⟩:∃k',k=k'+1:=⟨k-1,by omega⟩
  show t.slot (c6 t.mask k' (leap t.mask p.i p.perturb)).1≠.empty;by_cases hk:k'=0
  .subst hk;exact(ku hd e2).1
  .exact tJ hd K (l7 t p) (EN t p) e2 k' (by omega) (by omega)
theorem vJ(h:Int):bits h<2^64:=by unfold bits;have:=LR h (show(0:Int)<2^64 by decide);have:=JU h (show(2^64:Int)≠0 by decide);omega
structure Tb(t:Iw):Prop where
 mask:t.mask∈M3
 dum:t.dummies = #[]
 room:t.place.size<=t.mask
theorem DM(T:Tb t):go t hashAt h (10*turns t.mask) (t.probeStart h)≠none:=by
 intro e;obtain⟨j,hj,ho⟩:=D4 (l:=t.place.toList) (m:=t.mask) (by simpa using T.room);have hi:bits h%(t.mask+1)<=t.mask:=IJ (Jm _ (L9 _));obtain⟨k,k1,k2,ek⟩:=sO T.mask hi (vJ h) hj;refine tJ T.dum (t.mask+14) (t.probeStart h) ?_ (pP T.dum e (by unfold turns;omega)) k k1 (by omega) ?_
 .show runEnd t.mask _-_<=9;unfold runEnd;split <;> omega
 .show t.slot (c6 t.mask k (bits h%(t.mask+1),bits h)).1=.empty;rw[ek];exact D3 T.dum ho
abbrev sk(t:Iw)(h:Int):=go t (fun _=>h+1) h
theorem wz{n:Nat}{p:Probe}{i:Nat}(e:t.slot p.j=.live i):sk t h (n+1) p=sk t h n (t.advance p):=by unfold sk go;rw[Hy,e];simp only;rw[if_neg (by simp;omega)]
theorem ql(p:Probe):(t.advance p).dummy=p.dummy:=by unfold KB;split <;> rfl
theorem we(hd:t.dummies = #[]):∀{m n:Nat}{p:Probe}{j i:Nat}{next:Probe}{e:Met},go t hashAt h m p=some (.candidate j i next)->sk t h n p=some e->∃n',n'<n/\sk t h n' next=some e/\t.slot j=.live i/\next.dummy=p.dummy
|0,_,_,_,_,_,_,q,_=>by cases q
|m+1,0,_,_,_,_,_,_,q=>by cases q
|m+1,n+1,p,j,i,next,e,q,qs=>by
  rcases slot_cases hd p.j with z|⟨i',z,_⟩
  .unfold go at q;rw[Hy,z.1]at q;cases q
  .rw[wz z]at qs;unfold go at q;rw[Hy,z]at q;simp only at q;split at q
   .cases q;exact⟨n,by omega,qs,z,ql p⟩
   .obtain⟨n',h1,h2,h3,h4⟩:=we hd q qs;exact⟨n',by omega,h2,h3,h4.trans (ql p)⟩
theorem wf(hd:t.dummies = #[]):∀{n m:Nat}{p:Probe}{e:Met},sk t h n p=some e->n<=m->go t hashAt h m p≠none
|0,_,_,_,q,_=>by cases q
|n+1,0,_,_,_,hl=>absurd hl (by omega)
|n+1,m+1,p,e,q,hl=>by
  intro z;obtain⟨z1,z2⟩:=ku hd z;rcases slot_cases hd p.j with y|⟨i,y,_⟩
  .exact z1 y.1
  .rw[wz y]at q;exact wf hd q (K4 hl) z2
theorem tN(hd:t.dummies = #[]):∀{m:Nat}{p:Probe}{j:Nat}{d:Option Nat},go t hashAt h m p=some (.empty j d)->d=p.dummy
|0,_,_,_,q=>by cases q
|m+1,p,j,d,q=>by
  rcases slot_cases hd p.j with z|⟨i',z,_⟩
  .unfold go at q;rw[Hy,z.1]at q;cases q;rfl
  .unfold go at q;rw[Hy,z]at q;simp only at q;split at q
   .cases q
   .exact(tN hd q).trans (ql p)
end
theorem wc{mask:Nat}{owner:Array (Option Nat)}:∀{fuel i q j:Nat},Ha mask owner fuel i q=some j->owner[j]? = some none
|0,_,_,_,e=>by cases e
|fuel+1,i,q,j,e=>by
  rw[Ha]at e;split at e
  .rename_i k hk;cases e;have:=MF hk;rw[IK]at this;cases z:owner[i+k]? with
  |none=>rw[z]at this;cases this
  |some o=>rw[z]at this;cases o with
   |none=>rfl
   |some v=>cases this
  .exact wc e
theorem xC{mask:Nat}{owner:Array (Option Nat)}:∀{fuel i q:Nat},Ha mask owner fuel i q=none->∀k,k<fuel->owner[(c6 mask k (i,q)).1]?≠some none
|0,_,_,_,k,hk=>absurd hk (by omega)
|fuel+1,i,q,e,k,hk=>by
  rw[Ha]at e;split at e
  .cases e
  .rename_i hf;cases k with
  |zero=>intro z;have z:owner[i]? = some none:=z;have:=LS.mp hf 0 (z_.mpr (by unfold runEnd;split <;> omega));rw[J4,IK,z]at this;exact this rfl
  |succ k=>exact xC e k (by omega)
theorem tD{v:Nat}:∀{l:List (Option Nat)}{j:Nat},l[j]? = some none->((l.set j (some v)).filterMap id).length=(l.filterMap id).length+1/\∀x∈(l.set j (some v)).filterMap id,x=v\/x∈l.filterMap id
|[],_,h=>by simp at h
|o::l,0,h=>by simp at h;subst h;simp
|o::l,j+1,h=>by obtain⟨h1,h2⟩:=tD (v:=v) (l:=l) (j:=j) (by simpa using h);rw[List.set_cons_succ];cases o with
 |none=>exact⟨h1,h2⟩
 |some a=>
   have c:∀l:List (Option Nat),(some a::l).filterMap id=a::l.filterMap id:=fun _=>rfl;rw[c,c];refine⟨by rw[E_,h1,E_],fun x hx=>?_⟩;rcases n_.mp hx with e|hx
   .exact .inr (by rw[e];exact i_)
   .rcases h2 x hx with e|e
    .exact .inl e
    .exact .inr (g_ _ e)
theorem tz:∀{l:List (Option Nat)},(l.filterMap id).length<l.length->∃j,j<l.length/\l[j]? = some none
|[],h=>by simp at h
|none::l,h=>⟨0,by simp,rfl⟩
|some a::l,h=>by have c:(some a::l).filterMap id=a::l.filterMap id:=rfl;rw[c,E_,E_]at h;obtain⟨j,hj,e⟩:=tz (l:=l) (by omega);exact⟨j+1,by rw[E_];omega,by simpa using e⟩
structure Ow(mask:Nat)(owner:Array (Option Nat))(k:Nat):Prop where
 size:owner.size=mask+1
 cnt:(owner.toList.filterMap id).length=k
 lt:∀x∈owner.toList.filterMap id,x<k
abbrev oC(mask:Nat)(acc:Option (Array (Option Nat)×Nat))(h:Int):Option (Array (Option Nat)×Nat):=do
 let(owner,k) <-acc;let j <-Ha mask owner (turns mask) (bits h%(mask+1)) (bits h)
 pure (owner.setIfInBounds j (some k),k+1)
theorem CT{mask:Nat}(hm:mask∈M3){owner:Array (Option Nat)}{k:Nat}(O:Ow mask owner k)(hk:k<=mask)(h:Int):∃owner',oC mask (some (owner,k)) h=some (owner',k+1)/\Ow mask owner' (k+1):=by
 have hfr:∃j,Ha mask owner (turns mask) (bits h%(mask+1)) (bits h)=some j:=by cases e:Ha mask owner (turns mask) (bits h%(mask+1)) (bits h)with
 |some j=>exact⟨j,rfl⟩
 |none=>obtain⟨j,hj,ej⟩:=tz (l:=owner.toList) (by rw[O.cnt,Hi,O.size];omega);rw[Hi,O.size]at hj;obtain⟨k',k1,k2,ek⟩:=sO hm (IJ (Jm (bits h) (L9 mask))) (vJ h) (IJ hj);have:=xC e k' (by unfold turns;omega);rw[ek]at this;rw[HY]at ej;exact absurd ej this
 obtain⟨j,ej⟩:=hfr;have hj:=wc ej;refine⟨owner.setIfInBounds j (some k),?_,?_⟩
 .show(Ha mask owner (turns mask) (bits h%(mask+1)) (bits h)).bind _=_;rw[ej];rfl
 .obtain⟨h1,h2⟩:=tD (v:=k) (l:=owner.toList) (j:=j) (by rw[HY];exact hj);have et:(owner.setIfInBounds j (some k)).toList=owner.toList.set j (some k):=Array.toList_setIfInBounds;refine⟨by rw[Array.size_setIfInBounds];exact O.size,by rw[et,h1,O.cnt],fun x hx=>?_⟩;rw[et]at hx;rcases h2 x hx with e|e
  .omega
  .have:=O.lt x e;omega
theorem wu{mask:Nat}(hm:mask∈M3):∀(hs:List Int){owner:Array (Option Nat)}{k:Nat},Ow mask owner k->k+hs.length<=mask+1->∃owner',hs.foldl (oC mask) (some (owner,k))=some (owner',k+hs.length)/\Ow mask owner' (k+hs.length)
|[],owner,k,O,_=>⟨owner,rfl,O⟩
|h::hs,owner,k,O,hl=>by
  rw[E_]at hl;obtain⟨o1,e1,O1⟩:=CT hm O (by omega) h;obtain⟨o2,e2,O2⟩:=wu hm hs O1 (by omega);refine⟨o2,?_,?_⟩
  .rw[Ji,e1,e2,E_];congr 2;omega
  .rw[E_,show k+(hs.length+1)=k+1+hs.length by omega];exact O2
theorem Al{mask:Nat}(hm:mask∈M3)(hs:Array Int)(hl:hs.size<=mask):∃owner,layClean mask hs=some owner/\Ow mask owner hs.size:=by
 have O0:Ow mask (K_ (mask+1) none) 0:=by
  have e:(K_ (mask+1) (none:Option Nat)).toList.filterMap id=[]:=by rw[Array.toList_replicate];exact List.filterMap_eq_nil_iff.mpr fun x hx=>by rw[(List.mem_replicate.mp hx).2];rfl
  exact⟨by simp,by rw[e];rfl,fun x hx=>by rw[e]at hx;cases hx⟩
 obtain⟨o,e,O⟩:=wu hm hs.toList O0 (by rw[Hi];omega);rw[IW,Hi]at e O;refine⟨o,?_,O⟩;unfold layClean;rw[<-Array.foldl_toList];show N9 _ (List.foldl (oC mask) (some (K_ (mask+1) none,0)) hs.toList)=_;rw[e];rfl
theorem De(owner:Array (Option Nat)):(((f_ owner.size).filterMap fun j=>(owner.getD j none).map (j,·)).map (·.2))=owner.toList.filterMap id:=by
 rw[List.map_filterMap];have:(f_ owner.size).map (fun j=>owner.getD j none)=owner.toList:=by
  refine II fun j=>?_;rw[o_];by_cases hj:j<owner.size
  .rw[GU hj,ID,IK,HY,IZ hj];rfl
  .rw[Hk (by simp;omega),Hk (by simp;omega)];rfl
 rw[<-this,List.filterMap_map];congr 1;funext j;show N9 (·.2) ((owner.getD j none).map (j,·))=owner.getD j none;cases owner.getD j none <;> rfl
theorem DU{t:Iw}{hs:Array Int}{wanted:Nat}(hm:sizeAbove wanted-1∈M3)(hl:hs.size<=sizeAbove wanted-1):∃t' order,t.relaid hs wanted=some (t',order)/\t'.mask=sizeAbove wanted-1/\t'.dummies = #[]/\t'.place.size=hs.size/\order.size=hs.size/\∀x∈order.toList,x<hs.size:=by
 obtain⟨owner,e,O⟩:=Al hm hs hl;have hL:=De owner;rw[O.size]at hL;refine⟨_,_,by unfold relaid laid;rw[e];rfl,rfl,rfl,?_,?_,fun x hx=>?_⟩
 .have:=congrArg Ia hL;rw[t_,O.cnt]at this;simpa using this
 .have:=congrArg Ia hL;rw[t_,O.cnt]at this;simpa using this
 .have hx':x∈(((f_ (sizeAbove wanted-1+1)).filterMap fun j=>(owner.getD j none).map (j,·)).map (·.2)):=hx;rw[hL]at hx';exact O.lt x hx'
section
variable{prog:u_}{w:Gz}{A:GP}{E:a_->e_->Prop}{s:e_}
abbrev aZ(prog:u_)(w:Gz)(h:Heap)(k:List Int)(b:Addr):Prop:=IsTupleKey (LY prog w) h k b
theorem wN{k:List Int}{b:Addr}{Q:Bool->e_->Prop}(hk:aZ prog w s.heap k b)(h:Q false s):B_ (Gy prog w) A (Jw 8 (.ref b)) Q E s:=by
 have hT:=hk.typeIs;obtain⟨o,items,n,ho,hc,hd,hi⟩:=hk;unfold Jw;refine c_ (wpAny_typeOf_ref ho ?_);rw[hc];show B_ _ _ ((if ("tuple" == "tuple")=true then pure true else NK (.type "tuple") (.type "tuple")) >>= _) _ _ s;rw[if_pos (by decide)];refine c_ (s_ ?_);simp only[JI,GC,if_false];refine c_ (Hx ho hd ?_);show B_ _ _ (N1 items _ _ >>= _) _ _ s;rw[<-LU];refine c_ (KF _ (fun rest r s'=>r.1=none/\s'=s/\∀v∈rest,Lq v=true) _ ?_ ?_ _ _ ⟨rfl,rfl,hi.byValue⟩)
 .rintro v rest r s' ⟨hr,rfl,hall⟩
  have hv:=hall v i_;have e:Jw 7 v=pure false:=by cases v with
  |ref a=>simp[Lq]at hv
  |_=>first|rfl|(unfold Jw;rfl)
  rw[e];refine c_ (s_ ?_);simp only[GC,if_false];exact s_ ⟨rfl,rfl,fun u hu'=>hall u (g_ _ hu')⟩
 .rintro⟨r1,r2⟩ s' ⟨hr,rfl,_⟩
  simp only at hr;subst hr;exact s_ h
theorem E4{k:List Int}{b:Addr}{Q:Bool->e_->Prop}(hk:aZ prog w s.heap k b)(h:Q true s):B_ (Gy prog w) A (Lr 8 (.ref b)) Q E s:=by
 have hT:=hk.typeIs;obtain⟨o,items,n,ho,hc,hd,hi⟩:=hk;have hall:∀v∈items.toList,∃i t,v=.int i t:=by
  clear ho hd hT hc h;generalize items.toList=l at hi
  induction hi with
 |nil=>intro v hv;simp at hv
 |@cons k' v' ks vs h1 _ ih=>
   intro v hv;rcases n_.mp hv with rfl|hv
   .cases v with
   |int i t=>exact⟨i,t,rfl⟩
   |_=>exact absurd h1 j_
   .exact ih v hv
 unfold Lr;refine c_ (wpAny_specialOf hT F.slot_tuple_hash.lookup ?_)
 dsimp only
 refine c_ (Hx ho hd ?_);show B_ _ _ (N1 items _ _ >>= _) _ _ s;rw[<-LU];refine c_ (KF _ (fun rest r s'=>r.1=none/\s'=s/\∀v∈rest,∃i t,v=.int i t) _ ?_ ?_ _ _ ⟨rfl,rfl,hall⟩)
 .rintro v rest r s' ⟨hr,rfl,hall⟩
  obtain⟨i,t,rfl⟩:=hall v i_;have e:Lr 7 (.int i t)=pure true:=by unfold Lr;rfl
  rw[e];refine c_ (s_ ?_);simp only[JI,GC,if_false];exact s_ ⟨rfl,rfl,fun u hu'=>hall u (g_ _ hu')⟩
 .rintro⟨r1,r2⟩ s' ⟨hr,rfl,_⟩
  simp only at hr;subst hr;exact s_ h
theorem CD{kx:List Int}{b:Addr}{stored:List a_}{Q:Bool->e_->Prop}(hx:aZ prog w s.heap kx b)(hs:∀v∈stored,∃y ky,v=.ref y/\aZ prog w s.heap ky y)(h:Q false s):B_ (Gy prog w) A (L_ (.ref b) stored) Q E s:=by
 unfold L_;refine c_ (KF _ (fun rest r s'=>r.1=none/\s'=s/\∀v∈rest,∃y ky,v=.ref y/\aZ prog w s.heap ky y) _ ?_ ?_ _ _ ⟨rfl,rfl,hs⟩)
 .rintro v rest r s' ⟨hr,rfl,hall⟩
  obtain⟨y,ky,rfl,hy⟩:=hall v i_;have next:∀{r':Option Bool×Unit},r'.1=none->(r'.1=none/\s'=s'/\∀v∈rest,∃y ky,v=Value.ref y/\aZ prog w s'.heap ky y):=fun e=>⟨e,rfl,fun u hu'=>hall u (g_ _ hu')⟩
  dsimp only
  by_cases hyb:(b==y)=true
  .rw[hyb];simp only[NP,if_true];exact s_ (next rfl)
  .have hyb:(b==y)=false:=by simpa using hyb
   rw[hyb];simp only[Lq,ND,Bool.or_self,GC,if_false,Ls];refine c_ (Lh hx ?_);simp only[JI,GC,if_false];refine c_ (Lh hy ?_);simp only[JI,GC,if_false];refine c_ (wN hx ?_);simp only[GC,if_false];refine c_ (wN hy ?_);simp only[GC,if_false];exact s_ (next rfl)
 .rintro⟨r1,r2⟩ s' ⟨hr,rfl,_⟩
  simp only at hr;subst hr;exact s_ h
theorem Dh{m:Nat}(h:m∈M3):(m%2==0)=false:=by rcases mem_M3 h with rfl|rfl|rfl <;> rfl
theorem FH{S b:Addr}{o:Obj}{es:Array (Int×a_)}{ep:Nat}{t:Iw}{kx:List Int}{h:Int}{Q:SetFound->e_->Prop}(hu:A.units<Ij)(ho:s.heap.get? S=some o)(hd:o.data=.set es ep t)(hf:t.fits es.size=true)(T:Tb t)(hes:∀e∈es.toList,∃y ky,e.2=.ref y/\aZ prog w s.heap ky y/\ky≠kx)(hx:aZ prog w s.heap kx b)(hQ:∀j,Q (.free j false) s):∀(n F:Nat)(stand:Option Probe)(e:Met),n<=10*turns t.mask->n<F->(stand.getD (t.probeStart h)).dummy=none->sk t h n (stand.getD (t.probeStart h))=some e->B_ (Gy prog w) A (setSearchFrom S (.ref b) h true F stand) Q E s:=by
 intro n
 induction n using MG with
|_ n ih=>
  intro F stand e hn hF hdm hsk;obtain⟨F,rfl⟩:∃F',F=F'+1:=⟨F-1,by omega⟩
  unfold setSearchFrom;refine c_ (Ie ho hd hf ?_)
  dsimp only
  have hg:t.gaveWay=false:=Dh T.mask;rw[hg];simp only[GC,if_false];unfold SetTable.probe;generalize hgo:probe.go t _ h (10*turns t.mask) (stand.getD (t.probeStart h))=R;cases R with
 |none=>exact absurd hgo (wf T.dum hsk hn)
 |some met=>cases met with
  |empty j dm=>have:=tN T.dum hgo;rw[hdm]at this;subst this;exact s_ (hQ j)
  |candidate j i next=>
    obtain⟨n',hn',hsk',hsl,hdm'⟩:=we T.dum hgo hsk;have hpl:t.place[i]? = some j:=by
     rcases slot_cases T.dum j with z|⟨i',z,e⟩
     .rw[z.1]at hsl;cases hsl
     .rw[z]at hsl;cases hsl;exact e
    have hi:i<es.size:=by
     have:i<t.place.size:=by obtain⟨z,_⟩:=Array.getElem?_eq_some_iff.mp hpl;exact z
     simp only[NE,GR,beq_iff_eq,decide_eq_true_eq]at hf;omega
    obtain⟨hv,y0,e1⟩:∃hv y0,es[i]=(hv,y0):=⟨es[i].1,es[i].2,rfl⟩
    have hei:es[i]? = some (hv,y0):=by rw[IZ hi,e1]
    obtain⟨y,ky,ey,hyk,hne⟩:=hes (hv,y0) (by rw[<-e1];exact Kt hi);have ey:y0=.ref y:=ey;subst ey;have hsm:t.sameMemory t.moves t.mask=some true:=by unfold SetTable.sameMemory;rw[if_pos (by simp)]
    have hsame:isSame (.ref y) (.ref y)=pure true:=by show(if (y==y)=true then pure true else _)=_;rw[if_pos (by simp)]
    have hsto:∀v∈Ma (fun x=>x.snd) (Array.filter (fun x=>x.fst==h) es).toList,∃y ky,v=Value.ref y/\aZ prog w s.heap ky y:=fun v hv=>by obtain⟨x,hx1,rfl⟩:=D_.mp hv;obtain⟨y,ky,q1,q2,_⟩:=hes x (by rw[Array.toList_filter]at hx1;exact(Jd.mp hx1).1);exact⟨y,ky,q1,q2⟩
    have fin:=ih n' hn' F (some next) e (by omega) (by omega) (by rw[Option.getD_some,hdm',hdm]) hsk'
    dsimp only
    simp only[hei];cases hl:t.led
    .simp only[Bool.not_false,if_true];refine c_ (CD hx hsto ?_);simp only[GC,if_false];refine c_ (HN (LV hu hyk hx ?_));rw[decide_eq_false hne];refine c_ (Ie ho hd hf ?_);simp only[Ls,GC,if_false,hsm,if_true,hsl,hei,hsame];exact c_ (s_ (c_ (s_ fin)))
    .simp only[JI,GC,if_false];refine c_ (HN (LV hu hyk hx ?_));rw[decide_eq_false hne];refine c_ (Ie ho hd hf ?_);simp only[Ls,GC,if_false,hsm,if_true,hsl,hei,hsame];exact c_ (s_ (c_ (s_ fin)))
theorem EX{S b:Addr}{o:Obj}{es:Array (Int×a_)}{ep:Nat}{t:Iw}{kx:List Int}{h:Int}{Q:SetFound->e_->Prop}(hu:A.units<Ij)(ho:s.heap.get? S=some o)(hd:o.data=.set es ep t)(hf:t.fits es.size=true)(T:Tb t)(hes:∀e∈es.toList,∃y ky,e.2=.ref y/\aZ prog w s.heap ky y/\ky≠kx)(hx:aZ prog w s.heap kx b)(hQ:∀j,Q (.free j false) s):B_ (Gy prog w) A (setSearch S (.ref b) h true) Q E s:=by have h0:sk t h (10*turns t.mask) (t.probeStart h)≠none:=DM T;cases e:sk t h (10*turns t.mask) (t.probeStart h)with
|none=>exact absurd e h0
|some met=>refine FH (h:=h) hu ho hd hf T hes hx hQ (10*turns t.mask) 100000 none met (w_ _) ?_ rfl e;unfold turns;rcases mem_M3 T.mask with z|z|z <;> rw[z] <;> decide
end
theorem qa{α:Type}(xs:Array α)(p:Nat)(x:α):(G9 xs p x).size=xs.size+1:=by unfold G9;rw[Array.size_append,Array.size_push,LW,LW];omega
theorem ins_mem{α:Type}{xs:Array α}{p:Nat}{x y:α}(h:y∈(G9 xs p x).toList):y=x\/y∈xs.toList:=by
 unfold G9 at h;rw[Array.toList_append,Array.toList_push,Lu,Lu]at h;rcases He.mp h with z|z
 .rcases He.mp z with z|z
  .exact .inr (Lv (Lw z))
  .exact .inl (y_.mp z)
 .exact .inr (Lv (Lw z))
def ke(m n:Nat):Prop:=m=7/\n<=4\/m=31/\n<=18\/m=127/\n<=76
theorem ke.m3{m n:Nat}(h:ke m n):m∈M3/\n<=m:=by
 rcases h with⟨rfl,h⟩|⟨rfl,h⟩|⟨rfl,h⟩
 .exact⟨by simp[M3],by omega⟩
 .exact⟨by simp[M3],by omega⟩
 .exact⟨by simp[M3],by omega⟩
structure SX0(h:Heap)(S:Addr)(bks:List (Addr×List Int))(es:Array (Int×a_))(ep:Nat)(t:Iw):Prop where
 at_:h.get? S=some { cls:=.type "set",dict:=none,data:=.set es ep t }
 dum:t.dummies = #[]
 size:es.size=bks.length
 psz:t.place.size=bks.length
 mem:∀e∈es.toList,∃x∈bks,e.2=.ref x.1
def SX(h:Heap)(S:Addr)(bks:List (Addr×List Int)):Prop:=∃es ep t,SX0 h S bks es ep t/\ke t.mask bks.length
theorem SX0.fits{h:Heap}{S:Addr}{bks:List (Addr×List Int)}{es:Array (Int×a_)}{ep:Nat}{t:Iw}(X:SX0 h S bks es ep t)(hm:bks.length<=t.mask):t.fits es.size=true:=by unfold NE NF;rw[X.size,X.psz,X.dum];simp;exact hm
section
variable{prog:u_}{w:Gz}{A:GP}{E:a_->e_->Prop}{s:e_}
theorem Eu{S:Addr}{bks:List (Addr×List Int)}{es:Array (Int×a_)}{ep:Nat}{t:Iw}{wanted:Nat}{Q:Unit->e_->Prop}(X:SX0 s.heap S bks es ep t)(hm:bks.length<=t.mask)(hm3:sizeAbove wanted-1∈M3)(hN:ke (sizeAbove wanted-1) bks.length)(hw:sizeAbove wanted<=128)(h:∀h',Jq S s.heap h'->SX h' S bks->Q () { s with heap:=h' }):B_ (Gy prog w) A (Mb S wanted) Q E s:=by
 unfold Mb;refine c_ (Ie X.at_ rfl (X.fits hm) ?_)
 dsimp only
 rw[if_neg (by rw[HA];omega)];obtain⟨t',order,e,m1,m2,m3,m4,m5⟩:=DU (t:=t) (hs:=es.map (·.1)) (wanted:=wanted) hm3 (by rw[M8,X.size];exact hN.m3.2);rw[M8]at m3 m4 m5;rw[e];have hfm:∀{l:List Nat},(∀x∈l,x<es.size)->(l.filterMap (es[·]?)).length=l.length/\∀y∈l.filterMap (es[·]?),y∈es.toList:=by
  intro l
  induction l with
 |nil=>intro _;exact⟨rfl,fun _ h=>(nomatch h)⟩
 |cons a l ih=>
   intro hl;obtain⟨h1,h2⟩:=ih fun x hx=>hl x (g_ _ hx);have ha:=hl a i_;rw[List.filterMap_cons_some (b:=es[a]) (IZ ha)];refine⟨by rw[E_,h1,E_],fun y hy=>?_⟩;rcases n_.mp hy with rfl|hy
   .exact Kt ha
   .exact h2 y hy
 obtain⟨f1,f2⟩:=hfm m5;have f0:(order.filterMap (es[·]?)).toList=order.toList.filterMap (es[·]?):=Array.toList_filterMap;have fs:(order.filterMap (es[·]?)).size=es.size:=by rw[<-Hi,f0,f1,Hi,m4]
 show B_ _ _ ((if ((order.filterMap (es[·]?)).size != es.size)=true then(unsupported "internal:set-table-lost-an-element" >>= fun _=>pure (order.filterMap (es[·]?),t'))else pure (order.filterMap (es[·]?),t')) >>= _) _ _ s;rw[if_neg (by rw[fs];simp)];refine c_ (s_ (Mc X.at_ rfl ?_ (by rw[fs,X.size,HA];have:=hN.m3.2;omega)));refine h _ (I0 s.heap S _) ⟨_,_,_,⟨HS.put_heap X.at_,m2,by rw[fs,X.size],by rw[m3,X.size],fun e' he=>?_⟩,by rw[m1];exact hN⟩;rw[f0]at he;exact X.mem e' (f2 e' he)
theorem Cf{S b:Addr}{bks:List (Addr×List Int)}{kx:List Int}{hh:Int}{Q:Bool->e_->Prop}(hu:A.units<Ij)(hS:SX s.heap S bks)(hk:∀x∈bks,aZ prog w s.heap x.2 x.1/\x.2≠kx)(hx:aZ prog w s.heap kx b)(hl:bks.length<76)(h:∀h' b',Jq S s.heap h'->SX h' S ((b,kx)::bks)->Q b' { s with heap:=h' }):B_ (Gy prog w) A (setAddHashed S (.ref b) hh) Q E s:=by
 obtain⟨es,ep,t,X,M⟩:=hS;obtain⟨hm3,hmn⟩:=M.m3;have hf:=X.fits hmn;have T:Tb t:=⟨hm3,X.dum,by rw[X.psz];exact hmn⟩
 unfold setAddHashed setAddHashedIn;refine HN (c_ (Ie X.at_ rfl hf ?_))
 dsimp only
 have hbs:byScan (.ref b) es=false:=rfl;rw[hbs];simp only[GC,if_false];refine c_ (EX hu X.at_ rfl hf T (fun e he=>?_) hx fun j=>?_)
 .obtain⟨x,hx1,hx2⟩:=X.mem e he;exact⟨x.1,x.2,hx2,(hk x hx1).1,(hk x hx1).2⟩
 .dsimp only
  refine c_ (Ie X.at_ rfl hf ?_)
  dsimp only
  have hpd:(t.put j).1.dummies = #[]:=by
   show(if has t.dummies j=true then _ else t.dummies)=_;have:has t.dummies j=false:=by rw[X.dum];unfold has;simp
   rw[this,X.dum];rfl
  have hpp:(t.put j).1.place.size=bks.length+1:=by show(G9 t.place _ j).size=_;rw[qa,X.psz]
  have hpm:(t.put j).1.mask=t.mask:=rfl;generalize hP:t.put j=P at hpd hpp hpm;obtain⟨t1,p⟩:=P;simp only at hpd hpp hpm;have fin:B_ (Gy prog w) A (storeSet S (G9 es p (hh,.ref b)) t1 >>= fun _=>if (! false&&t1.tooFull)=true then Mb S (Kc (es.size+1)) >>= fun _=>pure true else pure true) Q E s:=by
   refine c_ (Mc X.at_ rfl ?_ (by rw[qa,X.size,HA];omega));have sb1:=I0 s.heap S (Kb (G9 es p (hh,.ref b)) t1);have X1:SX0 (s.heap.update S (Kb (G9 es p (hh,.ref b)) t1)) S ((b,kx)::bks) (G9 es p (hh,.ref b)) (ep+1) t1:=
    ⟨HS.put_heap X.at_,hpd,by rw[qa,X.size,E_],by rw[hpp,E_],fun e he=>by
     rcases ins_mem he with rfl|he
     .exact⟨(b,kx),i_,rfl⟩
     .obtain⟨x,hx1,hx2⟩:=X.mem e he;exact⟨x,g_ _ hx1,hx2⟩⟩
   have full:t1.tooFull=decide ((bks.length+1)*5>=t.mask*3):=by unfold SetTable.tooFull NF;rw[hpp,hpd,hpm];rfl
   rw[full];have go:∀{m':Nat},SetTable.sizeAbove (Kc (es.size+1))=m'+1->m'∈M3->ke m' (bks.length+1)->m'+1<=128->t.mask*3<=(bks.length+1)*5->B_ (Gy prog w) A (if (! false&&decide ((bks.length+1)*5>=t.mask*3))=true then Mb S (Kc (es.size+1)) >>= fun _=>pure true else pure true) Q E { s with heap:=s.heap.update S (Kb (G9 es p (hh,.ref b)) t1) }:=fun{m'} e1 e2 e3 e4 e5=>by
    rw[if_pos (by rw[decide_eq_true e5];rfl)];refine c_ (Eu X1 ?_ (by rw[e1];exact e2) (by rw[e1,E_];exact e3) (by rw[e1];exact e4) fun h' sb hS'=>?_)
    .rw[E_,hpm];rcases M with⟨e,z⟩|⟨e,z⟩|⟨e,z⟩ <;> omega
    .exact s_ (h h' true (sb1.trans sb) hS')
   have stay:¬ t.mask*3<=(bks.length+1)*5->ke t.mask (bks.length+1)->B_ (Gy prog w) A (if (! false&&decide ((bks.length+1)*5>=t.mask*3))=true then Mb S (Kc (es.size+1)) >>= fun _=>pure true else pure true) Q E { s with heap:=s.heap.update S (Kb (G9 es p (hh,.ref b)) t1) }:=fun e5 e3=>by rw[if_neg (by rw[decide_eq_false e5];simp)];exact s_ (h _ true sb1 ⟨_,_,_,X1,by rw[hpm,E_];exact e3⟩)
   rcases M with⟨e,z⟩|⟨e,z⟩|⟨e,z⟩
   .by_cases h4:bks.length=4
    .exact go (m':=31) (by rw[X.size,h4];decide) (by simp[M3]) (.inr (.inl ⟨rfl,by omega⟩)) (by omega) (by rw[e,h4];decide)
    .exact stay (by rw[e];omega) (.inl ⟨e,by omega⟩)
   .by_cases h4:bks.length=18
    .exact go (m':=127) (by rw[X.size,h4];decide) (by simp[M3]) (.inr (.inr ⟨rfl,by omega⟩)) (by omega) (by rw[e,h4];decide)
    .exact stay (by rw[e];omega) (.inr (.inl ⟨e,by omega⟩))
   .exact stay (by rw[e];omega) (.inr (.inr ⟨e,by omega⟩))
  cases hpl:t1.plain with
 |true=>simp only[if_true];refine c_ (E4 hx ?_);simp only[if_true];exact fin
 |false=>simp only[GC,if_false];refine c_ (s_ ?_);simp only[if_true];exact fin
end
theorem SX.keep{h h':Heap}{S:Addr}{bks:List (Addr×List Int)}(x:SX h S bks)(e:∀o,h.get? S=some o->h'.get? S=some o):SX h' S bks:=by obtain⟨es,ep,t,X,M⟩:=x;exact⟨es,ep,t,⟨e _ X.at_,X.dum,X.size,X.psz,X.mem⟩,M⟩
theorem mq{prog:u_}{w:Gz}{h h':Heap}{k:List Int}{b:Addr}(x:aZ prog w h k b)(e:∀o,h.get? b=some o->h'.get? b=some o):aZ prog w h' k b:=by obtain⟨o,items,n,ho,z⟩:=x;exact⟨o,items,n,e o ho,z⟩
theorem D5{h:Heap}{a:Addr}{led:Bool}(ho:h.get? a=some (HS.freshSet led)):SX h a []:=⟨#[],0,.fresh 0 0 led,⟨ho,rfl,rfl,rfl,fun _ h=>by simp at h⟩,.inl ⟨rfl,by decide⟩⟩
section
variable{prog:u_}{w:Gz}{A:GP}{R:MO->e_->Prop}{I:Addr}{fp wr:List Addr}{G:Array MM->Array MM->Prop}{n:Nat}{P:Nat->a_->Prop}{St:Nat->e_->Prop}
theorem E7(W:WalksS prog w A.in1 I fp wr G n P St){S:Addr}(hSf:S∉fp)(bs:Nat->Addr)(kk:Nat->List Int)(hval:∀i v,P i v->v=.ref (bs i))(hne:∀i,i<n->bs i≠S/\bs i∉wr)(hnd:∀i j,i<n->j<n->i≠j->kk i≠kk j)(hn:n<=76)(hu:A.in1.units<Ij):∀(k i:Nat)(s:e_)(bks:List (Addr×List Int)),i+k=n->St i s->SX s.heap S bks->bks.length=i->(∀x∈bks,∃j,j<i/\x=(bs j,kk j))->(∀j,j<n->aZ prog w s.heap (kk j) (bs j)) ->(∀s',Moved (S::wr) G s s'->(∃bks:List (Addr×List Int),bks.length=n/\SX s'.heap S bks)->R (.ok (.ret .none)) s') ->JY (Gy prog w) A (.builtin "set.update.loop" ⟨[.ref S,.ref I],[]⟩) R s:=by
 have hSw:S∉wr:=fun h=>hSf (W.sub _ h);have hsub:∀b∈wr,b∈S::wr:=fun b hb=>g_ _ hb;intro k
 induction k with
|zero=>
  intro i s bks hi hst hS hl hb hT hR;have hi':i=n:=by omega
  rw[hi']at hst;refine Jh F.entry_set_update_loop ?_;rw[JN F.plain_set_update_loop _];show B_ _ A.in1 (Li (.ref I) >>= _) _ _ s;refine c_ (W.done s _ _ hst fun s' hm=>?_);exact s_ (hR s' (hm.mono hsub) ⟨bks,by omega,hS.keep fun o e=>hm.heap S o hSw e⟩)
|succ k ih=>
  intro i s bks hi hst hS hl hb hT hR;refine Jh F.entry_set_update_loop ?_;rw[JN F.plain_set_update_loop _];show B_ _ A.in1 (Li (.ref I) >>= _) _ _ s;refine c_ (W.item i s _ _ (by omega) hst fun v s' hP hst' hm=>?_);have hv:=hval i v hP;subst hv;have hi1:i<n:=by omega
  have hS':=hS.keep (h':=s'.heap) fun o e=>hm.heap S o hSw e;have hT':∀j,j<n->aZ prog w s'.heap (kk j) (bs j):=fun j hj=>mq (hT j hj) fun o e=>hm.heap _ o (hne j hj).2 e;show B_ _ A.in1 (Je [Value.ref (bs i)] (setAdd S (.ref (bs i))) >>= _) _ _ s';refine c_ (HN ?_);unfold setAdd;refine HN (c_ (wpAny_pyHash_tuple hu (hT' i hi1) ?_));refine Cf (s:={ s' with toks:=s'.toks+((kk i).length+1) }) hu hS' (fun x hx=>?_) (hT' i hi1) (by omega) fun h' b hsb hS2=>?_
  .obtain⟨j,hj,rfl⟩:=hb x hx;exact⟨hT' j (by omega),hnd j i (by omega) hi1 (by omega)⟩
  .have hT2:∀j,j<n->aZ prog w h' (kk j) (bs j):=fun j hj=>mq (hT' j hj) fun o e=>by rw[hsb.2 _ (hne j hj).1];exact e
   refine s_ ⟨plainId_quiet F.plain_set_update_loop _,ih (i+1) _ _ (by omega) (W.frame _ s' _ _ hst' (Ms _ _) fun b hb o e=>?_) hS2 (by rw[E_,hl]) (fun x hx=>?_) hT2 fun s'' hm'' hS''=>?_⟩
   .rw[hsb.2 b fun z:b=S=>hSf (by rw[<-z];exact hb)];exact e
   .rcases n_.mp hx with rfl|hx
    .exact⟨i,by omega,rfl⟩
    .obtain⟨j,hj,e⟩:=hb x hx;exact⟨j,by omega,e⟩
   .refine hR s'' (Moved.trans W.gtrans ((hm.mono hsub).then_heap (Ms _ _) fun b o hb e=>?_) hm'') hS'';rw[hsb.2 b fun z:b=S=>hb (by rw[z];exact i_)];exact e
end
section
variable{prog:u_}{w:Gz}{A:GP}{E:a_->e_->Prop}{s:e_}
theorem fw{l:Addr}{items:Array a_}{bs:Nat->Addr}{kk:Nat->List Int}{Q:a_->e_->Prop}(hh:A.handled=none)(hu:A.units+64<Ij)(hl:s.heap.IsList l items)(hv:∀(i:Nat)(v:a_),items[i]? = some v->v=.ref (bs i))(hk:∀i,i<items.size->aZ prog w s.heap (kk i) (bs i))(hnd:∀i j,i<items.size->j<items.size->i≠j->kk i≠kk j)(hn:items.size<=76)(h:∀(h':Heap)(tk:Nat),(∃bks:List (Addr×List Int),bks.length=items.size/\SX h' s.heap.objs.size bks)->(∀b o,s.heap.get? b=some o->h'.get? b=some o)->Q (.ref s.heap.objs.size) { s with heap:=h',toks:=tk }):B_ (Gy prog w) A (call (.type "set") [.ref l]) Q E s:=by
 obtain⟨c,tl,hmro⟩:=F.called_set.mro;have hmade:=F.called_set.made;have hsub:=F.called_set.sub;refine MP (K8 ?_);show B_ _ _ (callAny (.type "set") _) _ _ _;refine s_ ⟨LM _ (by decide+kernel),Jh F.entry_type_call ?_⟩;rw[LO (Ld "set" [.ref l] []) rfl];have h1:=F.called_set.notType;have h2:=F.called_set.canCreate;have hct:=F.typeCall_set_1 (.ref l)
 repeat (any_goals (first|assumption|wp_step))
 refine IU (HS.new_set (.ref l) (E:=E) (Q:=fun obj s₁=>obj=.ref s.heap.objs.size/\s₁={ s with heap:=s.heap.push (HS.freshSet (HS.ledOf w)) }) ⟨rfl,rfl⟩) fun r s₁ hr=>?_;cases r with
|error e=>exact hr
|ok fl=>cases fl with
 |next=>exact hr.elim
 |brk=>exact hr.elim
 |cont=>exact hr.elim
 |ret obj=>
   obtain⟨rfl,rfl⟩:=hr;have hS:(s.heap.push (HS.freshSet (HS.ledOf w))).get? s.heap.objs.size=some (HS.freshSet (HS.ledOf w)):=r_ _ rfl;have hT:NC { s with heap:=s.heap.push (HS.freshSet (HS.ledOf w)) } (.ref s.heap.objs.size) "set" := ⟨_,hS,rfl⟩
   have hli:=F.called_set.init.lookup;have hbi:=F.called_set.init.bind (.ref s.heap.objs.size)
   repeat (any_goals (first|assumption|wp_step))
   refine IU (Ln (R:=wants (fun r s₂=>r=.none/\∃h' tk,s₂={ s with heap:=h',toks:=tk }/\(∃bks:List (Addr×List Int),bks.length=items.size/\SX h' s.heap.objs.size bks)/\∀b o,s.heap.get? b=some o->h'.get? b=some o) E) F.called_set.init.plain F.entry_set_init (Ml hT ?_)) fun r₂ s₂ hr₂=>?_
   .obtain⟨ol,hol,hcl,nl,hdl⟩:=hl;obtain⟨ocls,odict,odata,oslots⟩:=ol;simp only at hcl hdl;subst hcl;subst hdl;have hol':(s.heap.push (HS.freshSet (HS.ledOf w))).get? l=some { cls:=.type "list",dict:=odict,data:=.seq items nl,slots:=oslots }:=d_ _ hol;have hsls:=F.sub_list_set;have hslf:=F.sub_list_frozenset;have hne:(Value.type "list" == Value.type "dict")=false:=by decide
    have hl1:(s.heap.push (HS.freshSet (HS.ledOf w))).IsList l items:=⟨_,hol',rfl,nl,rfl⟩
    unfold JH.«set.__init__» noKeywords JR;generalize hPI:NM=PI
    wp_walk
    subst hPI;refine Ib hl1 (c_ (wpAny_runValue ?_));have hlS:l<s.heap.objs.size:=q_ hol;have hh3:A.in1.in1.in1.handled=none:=by simp[hh]
    have hneI:l≠(s.heap.push (HS.freshSet (HS.ledOf w))).objs.size:=by rw[GX];exact F_ (HG hlS)
    have hSf:s.heap.objs.size∉[(s.heap.push (HS.freshSet (HS.ledOf w))).objs.size,l]:=by rw[GX];simp only[n_,GZ,or_false,not_or];exact⟨F_ (HP _),HC hlS⟩
    have hu3:A.in1.in1.in1.units<Ij:=by simp only[Around.in1_units];omega
    have kpT:∀{b:Addr}{k:List Int},aZ prog w s.heap k b->aZ prog w (s.heap.push (HS.freshSet (HS.ledOf w))) k b:=fun{b k} z=>mq z fun o e=>d_ _ e;have lts:∀{b:Addr}{k:List Int},aZ prog w s.heap k b->b<s.heap.objs.size:=fun{b k} ⟨o,_,_,e,_⟩=>q_ e;refine E7 ((Walks.list hh3 _ l hneI items).toS) hSf bs kk (fun i v z=>hv i v z) (fun i hi=>?_) hnd hn hu3 items.size 0 _ [] (by omega) ⟨⟨_,r_ _ rfl,rfl,rfl⟩,hl1.push _⟩ (D5 (d_ _ hS)) rfl (fun _ h=>(nomatch h)) (fun j hj=>mq (kpT (hk j hj)) fun o e=>d_ _ e) fun s' hm hS'=>?_
    .have:=lts (hk i hi);refine⟨F_ this,fun z=>?_⟩;have e:=y_.mp z;rw[GX]at e;exact F_ (HG this) e
    obtain⟨h',g',d',tk',os'⟩:=s';have eg:g'=s.gens:=hm.gens;have ed:d'=s.drawn:=hm.drawn;have eo:os'=s.os:=hm.os;subst eg;subst ed;subst eo;show B_ _ _ _ _ _ _;refine s_ ?_;show B_ _ _ (ret Value.none) _ _ _;refine s_ ⟨rfl,h',tk',rfl,hS',fun b o e=>?_⟩;have hb:b<s.heap.objs.size:=q_ e;refine hm.heap b o ?_ (d_ _ (d_ _ e));rw[GX];simp only[n_,GZ,or_false,not_or];exact⟨F_ hb,F_ (HG hb)⟩
   .cases r₂ with
   |error e=>exact hr₂
   |ok fl₂=>cases fl₂ with
    |ret r=>
      obtain⟨rfl,h',tk,rfl,hS',hk'⟩:=hr₂
      repeat (any_goals (first|assumption|wp_step))
      exact h _ _ hS' hk'
    |next=>exact hr₂.elim
    |brk=>exact hr₂.elim
    |cont=>exact hr₂.elim
end
end HT
namespace DL
open PySem PySem.Spec PyProof.Rows L2
def oA(X:Cx):List V->Hp->VK->Prop:=fun xs H Q=>∃p,∃bks:List (Addr×List Int),xs=[.ref p]/\aL X.K H p (bks.map fun x=>V.ref x.1)/\(∀x∈bks,bp X.K H x.1 (x.2.map V.int))/\(bks.map (·.2)).Nodup/\bks.length<=76/\Q (.int bks.length) H
theorem wT{prog:u_}{w:Gz}:∀{ns:List Int}{its:List a_},ai (ns.map V.int) its->ItemsAre (LY prog w) ns its
|[],_,r=>by cases r;exact .nil
|n::ns,_,r=>by cases r with
 |@cons _ u _ us r1 t=>
   obtain⟨t',rfl⟩:=(show ∃t,u=Value.int n t from r1)
   exact .cons (intKind_is _ _ _ _) (wT t)
theorem v7:∀{bks:List (Addr×List Int)}{its:List a_},ai (bks.map fun x=>V.ref x.1) its->its=bks.map fun x=>Value.ref x.1
|[],_,r=>by cases r;rfl
|b::bks,_,r=>by cases r with
 |cons r1 t=>cases r1;rw[v7 t];rfl
section
variable{X:Cx}{g:GE}{m:List Md}{a:Expr}{t:TA}{fl:af->Res (List D)}{pos p pos2 p2:Pos}
theorem EU(hc:X.calm=true)(hu:X.A.units+64<Ij)(hg:Gl X "len")(hm:X.mg "len" = none)(hg2:Gl X "set")(hm2:X.mg "set" = none)(ha:PA X [a] t)(he:k_ [.Call (.Name "set" p2) [a] [] pos2] X.env=(false,eval (.Call (.Name "set" p2) [a] [] pos2) X.env)::k_ [] X.env:=by rfl)(he2:k_ [a] X.env=(false,eval a X.env)::k_ [] X.env:=by rfl):PE X (.Call (.Name "len" p) [.Call (.Name "set" p2) [a] [] pos2] [] pos) (lz (oA X) t):=by
 intro pz s σ H Q I h;have hh:=I.ok.hd hc;refine IA (iH I hg hm boot_len ?_ (by decide) (by decide));refine JC ?_ he rfl;rw[he];show B_ _ _ (spliced ((false,eval (.Call (.Name "set" p2) [a] [] pos2) X.env)::backTo pos (k_ [] X.env))) _ _ s;refine LK (aE (Q:=fun u s1=>∃(S:Addr)(bks:List (Addr×List Int))(H1:Hp),u=.ref S/\Inv X pz σ H1 s1/\HT.SX s1.heap S bks/\bks.length<=76/\Q (.int bks.length) H1) ?_ ?_)
 .refine IA (iH I hg2 hm2 boot_set ?_ (by decide) (by decide));refine Hs (aE (ha pos2 pz s σ H _ I h) fun us s1 ⟨vs,H1,I1,r1,q1⟩=>?_) he2 rfl;obtain⟨b,bks,rfl,hq,hT,hnd,h76,q⟩:=q1;obtain⟨u,rfl,rx⟩:=L2.bU r1;cases rx;obtain⟨its,rv,pl,hz⟩:=I1.list hq;have ei:=v7 rv;subst ei;have sz:(bks.map fun x=>Value.ref x.1).toArray.size=bks.length:=by simp
  have at_:∀i (hi:i<bks.length),(bks.getD i default)=bks[i]:=fun i hi=>by rw[GO,m_ hi];rfl
  refine HT.fw (bs:=fun i=>(bks.getD i default).1) (kk:=fun i=>(bks.getD i default).2) hh hu pl.isList (fun i v e=>?_) (fun i hi=>?_) (fun i j hi hj hij=>?_) (by rw[sz];exact h76) fun h' tk hS kp=>?_
  .rw[List.getElem?_toArray,o_]at e;cases z:bks[i]? with
  |none=>rw[z]at e;cases e
  |some x=>rw[z]at e;cases e;rw[GO,z];rfl
  .rw[sz]at hi;rw[at_ i hi];obtain⟨its,r',pl',_⟩:=I1.tuple (hT bks[i] (IY hi));obtain⟨o,h1,h2,n,h3⟩:=(show s1.heap.IsTuple bks[i].1 its.toArray from pl')
   exact⟨o,its.toArray,n,h1,h2,h3,by simpa using wT r'⟩
  .rw[sz]at hi hj;rw[at_ i hi,at_ j hj];intro z;refine hij ((Ky (xs:=bks.map fun x=>x.2) (h₀:=by simpa using hi) (h₁:=by simpa using hj) hnd).mp ?_);rw[Mt,Mt];exact z
  .obtain⟨bks',hl,hS'⟩:=hS;rw[sz]at hl;exact⟨_,bks',H1,rfl,I1.kept kp,hS',by omega,by rw[hl];exact q⟩
 .rintro u s1 ⟨S,bks,H1,rfl,I1,hS,h76,q⟩
  refine L4 ?_;obtain⟨es,ep,t,X0,M⟩:=hS;refine call_len_set X0.at_ ⟨rfl,rfl,rfl⟩ rfl (X0.fits M.m3.2) ?_ ⟨.int bks.length,H1,I1.tok _,⟨_,by rw[X0.size]⟩,q⟩;rw[X0.size];have h4:(bks.length:Int)<=76:=by omega
  exact Int.lt_of_le_of_lt h4 (by decide)
def hJ:List D->Option (List (List Int))
|[]=>some []
|.tup ks::ds=>(dk ks).bind fun ns=>(hJ ds).map (ns::·)
|_=>none
def mo:List D->Option D
|[.lst ds]=>(hJ ds).bind fun nss=>if nss.Nodup/\nss.length<=76 then some (.int nss.length)else none
|_=>none
theorem wF{K:W.Frag}{G:GH}{H:Hp}(gk:aC K G H):∀{ds:List D}{xs:List V}{nss:List (List Int)},bj K G xs ds->hJ ds=some nss->∃bks:List (Addr×List Int),xs=(bks.map fun x=>V.ref x.1)/\bks.map (·.2)=nss/\∀x∈bks,bp K H x.1 (x.2.map V.int)
|[],_,_,r,e=>by cases r;cases e;exact⟨[],rfl,rfl,fun _ h=>(nomatch h)⟩
|d::ds,_,nss,r,e=>by cases r with
 |@cons x _ xs _ r1 t=>
  unfold hJ at e;split at e
  .rename_i q;cases q
  .rename_i ks ds' q;cases q;cases ek:dk ks with
  |none=>rw[ek]at e;cases e
  |some ns=>rw[ek]at e;cases et:hJ ds with
   |none=>rw[et]at e;cases e
   |some nss'=>
     rw[et]at e;cases e;obtain⟨bks,h1,h2,h3⟩:=wF gk t et;obtain⟨b,zs,rfl,hs,rs⟩:=r1.tup gk;have ez:=pU gk rs ek;subst ez;refine⟨(b,ns)::bks,by rw[h1];rfl,by rw[<-h2];rfl,fun y hy=>?_⟩;rcases n_.mp hy with rfl|hy
     .exact hs
     .exact h3 y hy
  .cases e
theorem Fi(hc:X.calm=true)(hu:X.A.units+64<Ij)(hg:Gl X "len")(hm:X.mg "len" = none)(hg2:Gl X "set")(hm2:X.mg "set" = none)(ha:gU X g m [a] fl)(he:k_ [.Call (.Name "set" p2) [a] [] pos2] X.env=(false,eval (.Call (.Name "set" p2) [a] [] pos2) X.env)::k_ [] X.env:=by rfl)(he2:k_ [a] X.env=(false,eval a X.env)::k_ [] X.env:=by rfl):SE X g m (.Call (.Name "len" p) [.Call (.Name "set" p2) [a] [] pos2] [] pos) (fC fl mo):=by
 refine fZ (R:=oA X) ?_ (EU hc hu hg hm hg2 hm2 ha he he2);intro G H vs ds d Q gk rs e q;unfold mo at e;split at e
 .rename_i zs;cases ek:hJ zs with
 |none=>rw[ek]at e;cases e
 |some nss=>
   rw[ek]at e;have e':(if nss.Nodup/\nss.length<=76 then some (D.int nss.length)else none)=some d:=e;split at e'
   .rename_i hn;cases e';cases rs with
   |cons r1 t=>
    cases t;have core:∀{b:Addr}{xs:List V},aL X.K H b xs->bj X.K G xs zs->oA X [.ref b] H Q:=fun{b xs} hs r2=>by
     obtain⟨bks,h1,h2,h3⟩:=wF gk r2 ek;subst h1;have hl:bks.length=nss.length:=by rw[<-h2,t_]
     exact⟨b,bks,rfl,hs,h3,by rw[h2];exact hn.1,by rw[hl];exact hn.2,by rw[hl];exact q _ G H (Grow.refl gk) (.scl (.int _))⟩
    obtain⟨b,xs,rfl,hs,r2⟩:=r1.lst gk;exact core hs r2
   .cases e'
 .cases e
end
end DL
namespace DL
open PySem PySem.Spec PyProof.Rows L2 PySem.W PySem.Calls
def rh(K:W.Frag)(nm:Str)(c:Addr):Bool:=K.all fun e=>match e.2.data with
|.cls cd=>cd.name != nm || e.1==c
|_=>true
structure CF(K:W.Frag)(nm:Str)(c:Addr)(bm:List a_):Prop where
 xa:XA K c bm
 xn:XN K nm c
 un:rh K nm c=true
theorem CF.eq{K:W.Frag}{nm:Str}{c C:Addr}{bm:List a_}(f:CF K nm c bm)(h:XN K nm C):C=c:=XN.uniq h f.un
end DL
namespace DL
open PySem PySem.Spec PyProof.Rows L2 PySem.W PySem.Calls PySem.Builtin PySem.Builtin.Str
end DL
section
namespace L2
open PySem PySem.Spec PyProof.Rows
theorem eO{sc:Ii}{x:Str}(h:(match sc.names.lookup x with|some .local=>true|some .cell=>true|_=>false)=true):fK sc x:=by
 revert h;unfold fK;split <;> intro h
 .exact .inl (by assumption)
 .exact .inr (by assumption)
 .cases h
theorem ce{N P:List Str}{sc:Ii}(h:(decide (sc.kind=.function) && ! sc.isCoroutine && ! sc.isGenerator&&decide N.Nodup&&decide (N.take P.length=P)&&(P.all fun x=>match sc.names.lookup x with|some .local=>true|some .cell=>true|_=>false)&&sc.names.all fun y=>decide (y.2≠.free))=true:=by decide+kernel):FnScope N P sc:=by simp only[GR,decide_eq_true_eq,Bool.not_eq_true',Iu]at h;obtain⟨⟨⟨⟨⟨⟨a,b⟩,c⟩,d⟩,e⟩,f⟩,k⟩:=h;exact⟨a,b,c,d,e,fun x hx=>eO (f x hx),k⟩
end L2
namespace DL
open PySem PySem.Spec PyProof.Rows L2
section
variable{X:Cx}{g:GE}{m mb ms:List Md}{e a b:Expr}{es:List Expr}{f fa fb:FE}{x:Str}{p pos pos':Pos}{ro:Bool}{fl:af->Res (List D)}{k:Nat}{ps:List Str}{F:List D->Res D}
theorem bE(h:SE X g m e f):SB X g m e f:=SE.toB h
theorem iB{i:Int}{j:Nat}:SB X g m (.Constant (.int i) j pos) fun _=>.ok (.int i):=bE gD
theorem xB(hu:X.A.units+1<Ij)(ha:SB X g m a fa)(hb:SB X g m b fb)(hs:pc b:=by intro _ _;rfl):SB X g m (.Subscript a b pos) (f2 fa fb az):=bE (gZ hu ha hb hs)
theorem bM(i:Nat)(hN:X.N.Nodup)(he:SE X g m e f)(hi:X.N[i]? = some x:=by rfl)(hx:fK X.env.scope x:=by exact eO rfl)(hs:J6 e (some (.Name x pos')) pos.line X.env=pure false:=by rfl)(hf:X.fn x=true\/X.env.scope.names.lookup x=some .local:=by first|exact .inl rfl|exact .inr rfl|assumption):SS X g ro mb m (.Assign [.Name x pos'] e pos) (ao m i f) (m.set i .sh):=zf i hN hi hx he hs hf
theorem bN(i:Nat)(hN:X.N.Nodup)(hi:X.N[i]? = some x:=by rfl)(hx:fK X.env.scope x:=by exact eO rfl)(hf:X.fn x=true\/X.env.scope.names.lookup x=some .local:=by first|exact .inl rfl|exact .inr rfl|assumption):SG X g m (.Name x pos) (aI i) (m.set i .sh):=AD i hN hi hx hf
theorem bv(c:Callee X.prog X.w X.K X.mg X.base x ps [] k false ms F)(ha:fJ X g m (e::es) ms fl)(hr:Room k X.A:=by exact Room.mono ‹_› (by decide))(hg:Gl X x:=by rfl)(hdb:(x==("__debug__" : Str))=false:=by decide)(he:k_ (e::es) X.env=(false,eval e X.env)::k_ es X.env:=by rfl)(hpl:(backTo pos (k_ es X.env)).any (·.1)=false:=by rfl):SE X g m (.Call (.Name x p) (e::es) [] pos) (aG fl [] F):=AS (dds:=[]) c hr ha (by simp) hg .nil .nil hdb he hpl
end
theorem cn{P:u_}{w:Gz}{K:W.Frag}{mg:Str->Option a_}{base:Heap}{x:Str}{st:Stmt}{N ps:List Str}{k:Nat}{ro:Bool}{ms:List Md}{fs:FS}{m':List Md}(A:DefAt K mg x st)(S:FnScope N ps (aB st))(hbody:∀(f:Addr)(cdv:a_)(A:GP)(outer:List Env)(s:e_)(H:Hp)(g:GE)(E:XK),Room k (A.deeper (JB x (aB st) s.heap.objs.size f cdv))->(A.deeper (JB x (aB st) s.heap.objs.size f cdv)).units+1<Ij ->eu (bb bH P w K mg base N x (aB st) f cdv A outer s H E).nox g ro [] (cW N.length ms) (dW st) fs m')(hms:ms.length=ps.length:=by rfl)(hb:∀(kV doc pm:a_)(an:Option Addr)(cdv ct:a_)(us:List a_),us.length=ps.length->Lj (W.fnOf x x (gM st) (dW st) (aB st) .none kV doc pm an cdv ct) ⟨us,[]⟩=pure (ps.zip us):=by intro _ _ _ _ _ _ us hl;rcases us with _|⟨_,_|⟨_,_|⟨_,_|⟨_,_|⟨_,_|⟨_,_⟩⟩⟩⟩⟩⟩ <;> first|(exfalso;revert hl;simp;done)|kernel_rfl):Callee P w K mg base x ps [] (k+1) ro ms fun ds=>aH ro (fs (aT N.length ds)):=Ar A S hms hb fun f cdv A outer s H g E hr=>hbody f cdv A outer s H g E hr (oi hr)
end DL
end
section
namespace Rg
theorem hV{α:Type}[DecidableEq α]:∀{l m:List α},l.Nodup->(∀x∈l,x∈m)->l.length<=m.length
|[],_,_,_=>GL _
|a::l,m,hn,hs=>by
  have hn':=GS.mp hn;have h1:=hV (l:=l) (m:=m.erase a) hn'.2 fun x hx=>by
   have hxa:x≠a:=by rintro rfl;exact hn'.1 hx
   exact(JO hxa).mpr (hs x (g_ _ hx))
  have ha:a∈m:=hs a i_;rw[Jc ha]at h1;have:=K0 ha;simp only[E_];omega
structure S where
 line:List Nat
 things:List Nat
section
variable(W:Nat->List Nat)(O:Nat->Option Nat)
def fA(row things:List Nat):Nat:=(row.find? fun x=>decide (x∈things)).getD 0
def rl(s:S)(h:Nat):Nat:=fA (W h) s.things
def pt(s:S)(x:Nat):Nat:=(s.line.find? fun h=>decide (O h=some x)).getD (s.line.headD 0)
def lL(s:S)(h:Nat):Nat:=pt O s (rl W s h)
def minus(s:S)(C:List Nat):S:=⟨s.line.filter fun h=>decide (h∉C),s.things.filter fun x=>decide (x∉C.map (rl W s))⟩
def it{α:Type}(f:α->α):Nat->α->α
|0,x=>x
|n+1,x=>it f n (f x)
structure Ok(s:S):Prop where
 nl:s.line.Nodup
 nt:s.things.Nodup
 le:s.line.length<=s.things.length
 row:∀h∈s.line,∀x∈s.things,x∈W h
 inj:∀h k x,O h=some x->O k=some x->h=k
 own:∀h∈s.line,∀x,O h=some x->x∈s.things
structure Cyc(s:S)(C:List Nat):Prop where
 sub:∀h∈C,h∈s.line
 cl:∀h∈C,lL W O s h∈C
 per:∀h∈C,∃k,it (lL W O s) (k+1) h=h
variable{W O}
theorem Do{row things:List Nat}(h:∃x∈row,x∈things):fA row things∈things:=by unfold fA;cases e:row.find? fun x=>decide (x∈things)with
|none=>obtain⟨x,h1,h2⟩:=h;have:=LS.mp e x h1;simp[h2]at this
|some x=>have:=MF e;simpa using this
variable{s:S}
theorem Cyc.it_mem{C:List Nat}(c:Cyc W O s C){h:Nat}(hh:h∈C):∀n,it (lL W O s) n h∈C:=by
 intro n
 induction n generalizing h with
|zero=>exact hh
|succ n ih=>exact ih (c.cl h hh)
theorem Cyc.out{C E:List Nat}(c:Cyc W O s C)(e:Cyc W O s E){h:Nat}(hc:h∈C)(he:h∉E):lL W O s h∉E:=by intro z;obtain⟨k,hk⟩:=c.per h hc;exact he (by rw[<-hk];exact e.it_mem z k)
def less(E C:List Nat):List Nat:=E.filter fun h=>decide (h∉C)
inductive TTC(W:Nat->List Nat)(O:Nat->Option Nat)(a:Nat->Nat):S->Prop where
 |nil {s:S}:s.line=[]->TTC W O a s
 |step {s:S} (C:List Nat):Cyc W O s C->(∀h∈C,a h=rl W s h)->TTC W O a (minus W s C)->TTC W O a s
end
end Rg
end
section
namespace Rg
section
variable{W:Nat->List Nat}{O:Nat->Option Nat}{s:S}{a:Nat->Nat}
theorem least{P:Nat->Prop}:(∃n,P n)->∃n,P n/\∀k,k<n->¬ P k:=by
 rintro⟨n,hn⟩
 induction n using MG with
|_ n ih=>
  by_cases h:∃k,k<n/\P k
  .obtain⟨k,h1,h2⟩:=h;exact ih k h1 h2
  .exact⟨n,hn,fun k hk hp=>h ⟨k,hk,hp⟩⟩
def sQ(f:Nat->Nat)(n first:Nat):Nat->List Nat->Nat->Option (List Nat)
|0,_,_=>none
|k+1,ring,hand=>if first<hand/\ring.length<n then sQ f n first k (ring++[hand]) (f hand)else if hand=first then some ring else none
def BE(f:Nat->Nat)(n first:Nat):Option (List Nat):=sQ f n first (n+1) [first] (f first)
def orb(f:Nat->Nat)(x n:Nat):List Nat:=(f_ n).map fun i=>it f i x
theorem orb_len(f:Nat->Nat)(x n:Nat):(orb f x n).length=n:=by simp[orb]
def AY(W:Nat->List Nat)(O:Nat->Option Nat)(s:S):List (List Nat):=s.line.filterMap fun h=>BE (lL W O s) s.line.length h
def gone(W:Nat->List Nat)(O:Nat->Option Nat)(s:S):List Nat:=(AY W O s).flatten
end
end Rg
end
section
namespace Rg
end Rg
end
section
namespace Rg
end Rg
end
section
namespace Fq
theorem wS(a:Int)(b:Nat):Ho a b=Ho b (a%(b:Int)):=by
 refine Mu (N4 (HI _ _) ?_) (N4 ?_ (JE _ _))
 .rw[Int.emod_def];exact Int.dvd_sub (JE _ _) (NG (HI a b) (Me _ _))
 .have h:=Int.mul_ediv_add_emod a b;rw[<-h];exact Int.dvd_add (NG (JE (b:Int) _) (Me _ _)) (by rw[h];exact HI _ _)
theorem mQ(t:Int){b:Nat}(h:0<b):0<Ho t b:=LX fun z=>by have:=Int.gcd_eq_zero_iff.mp z;omega
def low(t:Int)(b:Nat):Int×Nat:=(t/(Ho t b:Int),b/Ho t b)
def jN(a b:Int×Nat):Int×Nat:=low (a.1*b.2+b.1*a.2) (a.2*b.2)
def Same(a b:Int×Nat):Prop:=a.1*(b.2:Int)=b.1*(a.2:Int)
theorem pD(t:Int){b:Nat}(h:0<b):Ho (low t b).1 ((low t b).2:Nat)=1:=by have:=Int.gcd_ediv_gcd_ediv_gcd (mQ t h);unfold low;rw[KG];exact this
theorem eY(t:Int){b:Nat}(h:0<b):0<(low t b).2:=by have h1:Ho t b∣b:=Jo.mp (HI t b);exact Nat.div_pos (LG h h1) (mQ t h)
theorem Aq(t:Int)(b:Nat):(low t b).2<=b:=Nat.div_le_self _ _
theorem Cw(t:Int)(b:Nat):(low t b).1.natAbs<=t.natAbs:=Int.natAbs_ediv_le_natAbs _ _
theorem eZ(t:Int)(b:Nat):Same (low t b) (t,b):=by
 unfold Same low;have h1:(Ho t b:Int)∣t:=JE t b;have h2:(Ho t b:Int)∣(b:Int):=HI t b;obtain⟨x,hx⟩:=h1;obtain⟨y,hy⟩:=h2;generalize hg:(Ho t b:Int)=g at hx hy;show t/g*(b:Int)=t*((b/Ho t b:Nat):Int);rw[KG,hg];by_cases z:g=0
 .subst z;rw[Int.zero_mul]at hx hy;rw[hx,hy];simp
 .rw[hx,hy,Ku _ z,Ku _ z];rw[<-GA,GN x g]
structure Bd(k:Nat)(a:Int×Nat):Prop where
 pos:0<a.2
 bot:a.2<2^k
 top:a.1.natAbs<2^k
theorem Bd.mono{k l:Nat}{a:Int×Nat}(h:Bd k a)(hl:k<=l):Bd l a:=⟨h.pos,x_ h.bot (IQ (by omega) hl),x_ h.top (IQ (by omega) hl)⟩
theorem Bd.low{k:Nat}{t:Int}{b:Nat}(h:0<b)(h1:b<2^k)(h2:t.natAbs<2^k):Bd k (low t b):=⟨eY t h,HU (Aq t b) h1,HU (Cw t b) h2⟩
theorem qz{a b k l:Nat}(h1:a<2^k)(h2:b<2^l):a*b<2^(k+l):=by rw[Nat.pow_add];exact Nat.mul_lt_mul'' h1 h2
theorem jj{k l:Nat}{a b:Int×Nat}(ha:Bd k a)(hb:Bd l b):0<a.2*b.2/\a.2*b.2<2^(k+l):=⟨IR ha.pos hb.pos,qz ha.bot hb.bot⟩
theorem DK{k l:Nat}{a b:Int×Nat}(ha:Bd k a)(hb:Bd l b):(a.1*b.2+b.1*a.2).natAbs<2^(k+l+1):=by
 have h1:(a.1*(b.2:Int)).natAbs<2^(k+l):=by rw[Kd,Gx];exact qz ha.top hb.bot
 have h2:(b.1*(a.2:Int)).natAbs<2^(k+l):=by rw[Kd,Gx,Nat.add_comm k l];exact qz hb.top ha.bot
 have h3:=Int.natAbs_add_le (a.1*(b.2:Int)) (b.1*(a.2:Int));rw[J3];omega
theorem Bd.plus{k l:Nat}{a b:Int×Nat}(ha:Bd k a)(hb:Bd l b):Bd (k+l+1) (jN a b):=by obtain⟨h1,h2⟩:=jj ha hb;exact Bd.low h1 (x_ h2 (IQ (by omega) (by omega))) (DK ha hb)
def l8(a b:Int×Nat):Bool:=decide (a.1*(b.2:Int)<b.1*(a.2:Int))
end Fq
end
section
namespace Rg
end Rg
namespace Fq
def W(N:Nat)(a:Int×Nat)(S:Nat):Prop:=0<a.2/\a.1*(N:Int)=(S:Int)*(a.2:Int)
theorem W.low{N c:Nat}(hN:0<N):W N (low c N) c:=by have:=eZ (c:Int) N;exact⟨eY _ hN,this⟩
theorem W.plus{N S c:Nat}{a b:Int×Nat}(ha:W N a S)(hb:W N b c):W N (jN a b) (S+c):=by
 have hp:0<a.2*b.2:=IR ha.1 hb.1;refine⟨eY _ hp,?_⟩;have h:=eZ (a.1*(b.2:Int)+b.1*(a.2:Int)) (a.2*b.2);unfold Same at h;unfold jN;generalize Fq.low (a.1*(b.2:Int)+b.1*(a.2:Int)) (a.2*b.2)=p at h ⊢;have h1:=ha.2;have h2:=hb.2;have hq:((a.2*b.2:Nat):Int)≠0:=by omega
 refine HW hq ?_;have e1:p.1*(N:Int)*((a.2*b.2:Nat):Int)=(p.1*((a.2*b.2:Nat):Int))*(N:Int):=by rw[GA,GN (N:Int),<-GA]
 rw[e1,h];show(a.1*(b.2:Int)+b.1*(a.2:Int))*(p.2:Int)*(N:Int)=(((S+c:Nat):Int))*(p.2:Int)*((a.2*b.2:Nat):Int);have e2:(a.1*(b.2:Int)+b.1*(a.2:Int))*(p.2:Int)*(N:Int)=((a.1*(N:Int))*(b.2:Int)+(b.1*(N:Int))*(a.2:Int))*(p.2:Int):=by
  rw[JP,JP,JP];congr 1
  .simp only[GA,GN,GD]
  .simp only[GA,GN,GD]
 rw[e2,h1,h2,Jj,GQ];simp only[JP];congr 1 <;> simp only[GA,GN,GD]
theorem W.ge{N S S':Nat}{a b:Int×Nat}(hN:0<N)(ha:W N a S)(hb:W N b S')(h:S'<=S):l8 a b=false:=by
 refine decide_eq_false fun hlt=>?_;have h1:=IL hlt (show(0:Int)<(N:Int)by omega);have e1:a.1*(b.2:Int)*(N:Int)=(S:Int)*((a.2:Int)*(b.2:Int)):=by rw[GA,GN (b.2:Int),<-GA,ha.2,GA]
 have e2:b.1*(a.2:Int)*(N:Int)=(S':Int)*((a.2:Int)*(b.2:Int)):=by rw[GA,GN (a.2:Int),<-GA,hb.2,GA,GN (b.2:Int)]
 rw[e1,e2]at h1;have hp:(0:Int)<=(a.2:Int)*(b.2:Int):=by rw[<-GQ];exact IB _
 have:=IS h1 hp;omega
end Fq
end
section
namespace Fq
theorem nI{t u:Int}{b d:Nat}(hb:0<b)(hd:0<d)(h:t*(d:Int)=u*(b:Int)):low t b=low u d:=by
 have s1:(low t b).1*(b:Int)=t*((low t b).2:Int):=eZ t b;have s2:(low u d).1*(d:Int)=u*((low u d).2:Int):=eZ u d;have c1:=pD t hb;have c2:=pD u hd;have p1:=eY t hb;have p2:=eY u hd;generalize low t b=p at *;generalize low u d=q at *;have hx:p.1*(q.2:Int)=q.1*(p.2:Int):=by
  have hne:((b*d:Nat):Int)≠0:=by have:=IR hb hd;omega
  refine HW hne ?_;rw[GQ];have e1:p.1*(q.2:Int)*((b:Int)*(d:Int))=(p.1*(b:Int))*((d:Int)*(q.2:Int)):=by simp only[GA,GN,GD]
  have e2:q.1*(p.2:Int)*((b:Int)*(d:Int))=(q.1*(d:Int))*((b:Int)*(p.2:Int)):=by simp only[GA,GN,GD]
  rw[e1,e2,s1,s2];have e3:t*(p.2:Int)*((d:Int)*(q.2:Int))=(t*(d:Int))*((p.2:Int)*(q.2:Int)):=by simp only[GA,GN,GD]
  have e4:u*(q.2:Int)*((b:Int)*(p.2:Int))=(u*(b:Int))*((p.2:Int)*(q.2:Int)):=by simp only[GA,GN,GD]
  rw[e3,e4,h]
 have hab:p.1.natAbs*q.2=q.1.natAbs*p.2:=by have:=congrArg Int.natAbs hx;rw[Kd,Kd,Gx,Gx]at this;exact this
 have k1:N5 p.2 p.1.natAbs:=by have:Nat.gcd p.1.natAbs p.2=1:=c1;rw[NU]at this;exact this
 have k2:N5 q.2 q.1.natAbs:=by have:Nat.gcd q.1.natAbs q.2=1:=c2;rw[NU]at this;exact this
 have d1:p.2∣q.2:=k1.dvd_of_dvd_mul_left (by rw[hab];exact JF _ _);have d2:q.2∣p.2:=k2.dvd_of_dvd_mul_left (by rw[<-hab];exact JF _ _);have e:p.2=q.2:=Mu d1 d2;have e':p.1=q.1:=by rw[e]at hx;exact HW (by omega) hx
 exact M7 e' e
def DD:Nat:=420^7
theorem jF:0<DD:=by decide
def tY(a b:Int×Nat):Int×Nat:=low (a.1*b.2-b.1*a.2) (a.2*b.2)
theorem lN(t:Int):low t 1=(t,1):=by
 unfold low;have:Ho t (1:Nat)=1:=by show Ho t 1=1;simp
 rw[this];simp
end Fq
namespace Et
open Rg
def cb:List Nat->Nat
|[]=>0
|x::l=>l.foldl (fun m y=>if y<m then y else m) x
theorem pO:∀(l:List Nat)(m:Nat),l.foldl (fun m y=>if y<m then y else m) m<=m/\(∀y∈l,l.foldl (fun m y=>if y<m then y else m) m<=y)/\(l.foldl (fun m y=>if y<m then y else m) m=m\/l.foldl (fun m y=>if y<m then y else m) m∈l)
|[],m=>⟨w_ _,fun _ h=>(nomatch h),.inl rfl⟩
|y::l,m=>by
  rw[Ji];obtain⟨h1,h2,h3⟩:=pO l (if y<m then y else m);have hm:(if y<m then y else m)<=m/\(if y<m then y else m)<=y:=by split <;> omega
  refine⟨GY h1 hm.1,fun z hz=>?_,?_⟩
  .rcases n_.mp hz with rfl|hz
   .exact GY h1 hm.2
   .exact h2 z hz
  .rcases h3 with h3|h3
   .rw[h3];by_cases hy:y<m
    .rw[if_pos hy];exact .inr i_
    .rw[if_neg hy];exact .inl rfl
   .exact .inr (g_ _ h3)
theorem gq{l:List Nat}{y:Nat}(h:y∈l):cb l<=y:=by cases l with
|nil=>cases h
|cons x l=>
  obtain⟨h1,h2,_⟩:=pO l x;rcases n_.mp h with rfl|h
  .exact h1
  .exact h2 y h
theorem cT{l:List Nat}(h:l≠[]):cb l∈l:=by cases l with
|nil=>exact absurd rfl h
|cons x l=>
  obtain⟨_,_,h3⟩:=pO l x;rcases h3 with h3|h3
  .show l.foldl (fun m y=>if y<m then y else m) x∈_;rw[h3];exact i_
  .exact g_ _ h3
variable(W:Nat->List Nat)(n:Nat)
def tgs(T:List Nat):List Nat:=(f_ n).map fun h=>fA (W h) T
def nX(T:List Nat)(a:Nat->Nat):Nat:=cb ((tgs W n T).map fun x=>a x/(tgs W n T).count x)
def n0(T:List Nat)(a:Nat->Nat)(x:Nat):Nat:=a x-(tgs W n T).count x*nX W n T a
def rS(T:List Nat)(a:Nat->Nat):List Nat:=T.filter fun x=>decide (n0 W n T a x≠0)
structure Ok(T:List Nat)(a:Nat->Nat):Prop where
 nd:T.Nodup
 lt:∀x∈T,x<n
 pos:∀x∈T,0<a x
 dv:∀x∈T,420^T.length∣a x
variable{W n}
variable{T:List Nat}{a:Nat->Nat}
structure Rw(W:Nat->List Nat)(n:Nat):Prop where
 n1:1<=n
 n7:n<=7
 has:∀h x,h<n->x<n->x∈W h
theorem Bj(R:Rw W n)(S:Ok n T a)(hT:T≠[]){h:Nat}(hh:h<n):fA (W h) T∈T:=by have hp:=JW.mpr hT;exact Do ⟨T[0],R.has h _ hh (S.lt _ (IY _)),IY _⟩
theorem wD:(tgs W n T).length=n:=by unfold tgs;simp
theorem pM(R:Rw W n)(S:Ok n T a)(hT:T≠[]){x:Nat}(h:x∈tgs W n T):x∈T:=by obtain⟨k,hk,rfl⟩:=D_.mp h;exact Bj R S hT (z_.mp hk)
theorem uG(x:Nat):(tgs W n T).count x<=n:=by have:=List.count_le_length (a:=x) (l:=tgs W n T);rw[wD]at this;exact this
theorem uK{c:Nat}(h1:1<=c)(h7:c<=7):c∣420:=by match c,h1,h7 with
|1,_,_=>decide
|2,_,_=>decide
|3,_,_=>decide
|4,_,_=>decide
|5,_,_=>decide
|6,_,_=>decide
|7,_,_=>decide
theorem vL(R:Rw W n)(S:Ok n T a)(hT:T≠[]){x:Nat}(hx:x∈tgs W n T):(tgs W n T).count x∣a x/\0<(tgs W n T).count x:=by
 have h1:0<(tgs W n T).count x:=List.count_pos_iff.mpr hx;have h2:=uG (W:=W) (n:=n) (T:=T) x;have hp:=JW.mpr hT;have hd:=S.dv x (pM R S hT hx);obtain⟨k,hk⟩:∃k,T.length=k+1:=⟨T.length-1,by omega⟩
 rw[hk,J3]at hd;exact⟨JJ (uK h1 (by have:=R.n7;omega)) (JJ (JF _ _) hd),h1⟩
theorem vE(R:Rw W n):∃x∈tgs W n T,nX W n T a=a x/(tgs W n T).count x:=by
 have hne:(tgs W n T).map (fun x=>a x/(tgs W n T).count x)≠[]:=by intro e;have h1:=congrArg Ia e;rw[t_,wD]at h1;have h2:=R.n1;rw[K7]at h1;omega
 obtain⟨x,h1,h2⟩:=D_.mp (cT hne);exact⟨x,h1,h2.symm⟩
theorem Bc(R:Rw W n)(S:Ok n T a)(hT:T≠[]):420^(T.length-1)∣nX W n T a:=by
 obtain⟨x,h1,h2⟩:=vE (T:=T) (a:=a) R;have hp:=JW.mpr hT;have hd:=S.dv x (pM R S hT h1);obtain⟨hc,hc0⟩:=vL R S hT h1;have hc7:=uK (c:=(tgs W n T).count x) hc0 (by have:=uG (W:=W) (n:=n) (T:=T) x;have:=R.n7;omega);obtain⟨k,hk⟩:∃k,T.length=k+1:=⟨T.length-1,by omega⟩
 rw[hk,J3]at hd;obtain⟨q,hq⟩:=hd;obtain⟨m,hm⟩:=hc7;rw[h2,hk,Nat.add_sub_cancel,hq];generalize(tgs W n T).count x=c at *;refine⟨m*q,?_⟩;rw[hm];have:420^k*(c*m)*q=c*(420^k*(m*q)):=by simp only[Nat.mul_assoc,IX,Nat.mul_left_comm]
 rw[<-hm]at this ⊢;rw[hm]at this ⊢;rw[this,Nat.mul_div_cancel_left _ hc0]
theorem Ao(R:Rw W n)(S:Ok n T a)(hT:T≠[]):(rS W n T a).length<T.length:=by
 obtain⟨x,h1,h2⟩:=vE (T:=T) (a:=a) R;obtain⟨hc,hc0⟩:=vL R S hT h1;have hx:=pM R S hT h1;have h0:n0 W n T a x=0:=by unfold n0;rw[h2,Nat.mul_div_cancel' hc,KZ]
 unfold rS;refine Nat.lt_of_le_of_ne (List.length_filter_le _ _) fun e=>?_;have:=List.length_filter_eq_length_iff.mp e x hx;simp[h0]at this
theorem Ok.next(R:Rw W n)(S:Ok n T a)(hT:T≠[]):Ok n (rS W n T a) (n0 W n T a) where
 nd:=S.nd.sublist List.filter_sublist
 lt:=fun x hx=>S.lt x (Jd.mp hx).1
 pos:=fun x hx=>LX (by simpa using(Jd.mp hx).2)
 dv:=fun x hx=>by have hx':=(Jd.mp hx).1;have hlt:=Ao R S hT;have h1:420^(T.length-1)∣a x:=JJ (La 420 (by omega)) (S.dv x hx');have h2:420^(T.length-1)∣(tgs W n T).count x*nX W n T a:=JJ (Bc R S hT) (JF _ _);exact JJ (La 420 (by omega)) (Nat.dvd_sub h1 h2)
theorem Ok.init(R:Rw W n):Ok n (f_ n) fun _=>Fq.DD:=⟨HQ,fun x hx=>z_.mp hx,fun _ _=>Fq.jF,fun _ _=>by rw[Ic];exact La 420 R.n7⟩
end Et
end
section
namespace Rg
theorem xH:∀{l m:List Nat},l.Nodup->(∀x∈l,x∈m)->m.length<=l.length->l.Perm m
|[],m,_,_,hl=>by have:m=[]:=List.eq_nil_of_length_eq_zero (by simpa using hl);rw[this]
|a::l,m,hn,hs,hl=>by
  have hn':=GS.mp hn;have ha:=hs a i_;refine List.Perm.trans ?_ (List.perm_cons_erase ha).symm;refine List.Perm.cons a (xH hn'.2 (fun x hx=>?_) ?_)
  .have:x≠a:=by rintro rfl;exact hn'.1 hx
   exact(JO this).mpr (hs x (g_ _ hx))
  .rw[Jc ha];simp at hl;omega
section
variable(W:Nat->List Nat)(d:Nat->Nat)
def Mn(o:List Nat)(x:Nat):Prop:=fA (W x) (o.map d)=d x
def Ps(v:Nat)(o:List Nat)(f:Nat->Nat)(c:Nat):Prop:=c∈o/\∀k,Mn W d (v::o) (it f k c)
inductive Bl:List Nat->(Nat->Nat)->Prop where
 |nil:Bl [] id
|alone {v:Nat} {o:List Nat} {f:Nat->Nat}:Bl o f->(∀c,Ps W d v o f c->v<c)->Bl (v::o) (fun x=>if x=v then v else f x)
|ins {v c:Nat} {o:List Nat} {f:Nat->Nat}:Bl o f->Ps W d v o f c->(∀b,Ps W d v o f b->c<=b)->c<v->Bl (v::o) (fun x=>if x=v then f c else if x=c then v else f x)
variable{W d}
end
end Rg
end
section
namespace Fq
theorem wW{N:Nat}(hN:0<N)(a b:Int):jN (low a N) (low b N)=low (a+b) N:=by
 have h1:(low a N).1*(N:Int)=a*((low a N).2:Int):=eZ a N;have h2:(low b N).1*(N:Int)=b*((low b N).2:Int):=eZ b N;have p1:=eY a hN;have p2:=eY b hN;refine nI (IR p1 p2) hN ?_;generalize low a N=p at *;generalize low b N=q at *;rw[GQ,JP,JP];have e1:p.1*(q.2:Int)*(N:Int)=(p.1*(N:Int))*(q.2:Int):=by simp only[GA,GN,GD]
 have e2:q.1*(p.2:Int)*(N:Int)=(q.1*(N:Int))*(p.2:Int):=by simp only[GA,GN,GD]
 rw[e1,e2,h1,h2];simp only[GA,GN,GD]
theorem Dg{N M:Nat}(hN:0<N)(hM:0<M)(a b:Int):l8 (low a N) (low b M)=decide (a*(M:Int)<b*(N:Int)):=by
 have h1:(low a N).1*(N:Int)=a*((low a N).2:Int):=eZ a N;have h2:(low b M).1*(M:Int)=b*((low b M).2:Int):=eZ b M;have p1:=eY a hN;have p2:=eY b hM;unfold l8;generalize low a N=p at *;generalize low b M=q at *;have hp:(0:Int)<(p.2:Int)*(q.2:Int):=by rw[<-GQ];have:=IR p1 p2;omega
 have hD:(0:Int)<(N:Int)*(M:Int):=by rw[<-GQ];have:=IR hN hM;omega
 rw[Hf,decide_eq_true_iff,decide_eq_true_iff];have e1:p.1*(q.2:Int)*((N:Int)*(M:Int))=(a*(M:Int))*((p.2:Int)*(q.2:Int)):=by
  have:p.1*(q.2:Int)*((N:Int)*(M:Int))=(p.1*(N:Int))*((M:Int)*(q.2:Int)):=by simp only[GA,GN,GD]
  rw[this,h1];simp only[GA,GN,GD]
 have e2:q.1*(p.2:Int)*((N:Int)*(M:Int))=(b*(N:Int))*((p.2:Int)*(q.2:Int)):=by
  have:q.1*(p.2:Int)*((N:Int)*(M:Int))=(q.1*(M:Int))*((N:Int)*(p.2:Int)):=by simp only[GA,GN,GD]
  rw[this,h2];simp only[GA,GN,GD]
 constructor
 .intro h;have:=IL h hD;rw[e1,e2]at this;exact IS this (NV hp)
 .intro h;have:=IL h hp;rw[<-e1,<-e2]at this;exact IS this (NV hD)
theorem zG{N:Nat}(hN:0<N):low ((0:Nat):Int) N=(0,1):=by rw[<-lN 0];exact nI hN (by decide) (by simp)
end Fq
namespace Et
open Rg
variable{W:Nat->List Nat}{n:Nat}
end Et
end
section
namespace Bk
def sm:Nat->(Nat->Nat)->Nat
|0,_=>0
|n+1,f=>sm n f+f n
theorem il(n:Nat)(f:Nat->Nat):sm (n+1) f=sm n f+f n:=rfl
theorem eM{f g:Nat->Nat}:∀{n:Nat},(∀i,i<n->f i=g i)->sm n f=sm n g
|0,_=>rfl
|n+1,h=>by unfold sm;rw[eM fun i hi=>h i (by omega),h n (by omega)]
theorem hW(f g:Nat->Nat):∀n,sm n (fun i=>f i+g i)=sm n f+sm n g
|0=>rfl
|n+1=>by rw[il,il,il,hW f g n];omega
theorem pL:∀n,sm n (fun _=>0)=0
|0=>rfl
|n+1=>by rw[il,pL n]
theorem kE(f:Nat->Nat)(k:Nat):∀n,sm n (fun i=>f i*k)=sm n f*k
|0=>by simp[sm]
|n+1=>by unfold sm;rw[kE f k n,MA]
theorem oB{f g:Nat->Nat}:∀{n:Nat},(∀i,i<n->f i<=g i)->sm n f<=sm n g
|0,_=>w_ _
|n+1,h=>by unfold sm;have h1:=oB (n:=n) fun i hi=>h i (by omega);have h2:=h n (by omega);omega
theorem wB(f:Nat->Nat->Nat)(m:Nat):∀n,sm n (fun i=>sm m (f i))=sm m (fun j=>sm n (fun i=>f i j))
|0=>(pL m).symm
|n+1=>by show sm n (fun i=>sm m (f i))+sm m (f n)=sm m (fun j=>sm n (fun i=>f i j)+f n j);rw[wB f m n,hW]
theorem ji{f:Nat->Nat}{n:Nat}(h:∀i,i<n->f i=0):sm n f=0:=(eM h).trans (pL n)
theorem sm_if{x:Nat->Nat}{a:Nat}:∀{n:Nat},a<n->sm n (fun i=>if i=a then x i else 0)=x a
|0,h=>by omega
|n+1,h=>by
  unfold sm;by_cases e:n=a
  .subst e;rw[ji (n:=n) fun i hi=>if_neg (by omega)];simp
  .rw[sm_if (n:=n) (by omega)];simp[e]
theorem sU{f:Nat->Nat}{i:Nat}:∀{n:Nat},i<n->f i<=sm n f
|0,h=>by omega
|n+1,h=>by
  unfold sm;by_cases e:i=n
  .subst e;omega
  .have:=sU (f:=f) (i:=i) (n:=n) (by omega);omega
theorem wA(f:Nat->Nat):∀n,((f_ n).map f).sum=sm n f
|0=>rfl
|n+1=>by rw[IE,GM,Lb,wA f n];simp[sm]
def ct(n:Nat)(p:Nat->Bool):Nat:=sm n fun i=>if p i=true then 1 else 0
theorem vM{n:Nat}{p:Nat->Bool}(h:∀i,i<n->p i=true):ct n p=n:=by
 have h2:∀n,sm n (fun _=>1)=n:=fun n=>by induction n with
 |zero=>rfl
 |succ n ih=>unfold sm;rw[ih]
 exact(eM fun i hi=>by rw[h i hi];rfl).trans (h2 n)
theorem mD{n a:Nat}{p:Nat->Bool}(ha:a<n)(hp:p a=false):ct n (fun i=>p i || decide (i=a))=ct n p+1:=by
 have h:ct n (fun i=>p i || decide (i=a))=sm n (fun i=>(if p i=true then 1 else 0)+(if i=a then(fun _=>1) i else 0)):=eM fun i _=>by
  by_cases e:i=a
  .subst e;simp[hp]
  .simp[e]
 rw[h,hW,sm_if ha];rfl
theorem pi{n:Nat}:∀{l:List Nat},l.Nodup->(∀x∈l,x<n)->ct n (fun i=>decide (i∈l))=l.length
|[],_,_=>ji fun i _=>by simp
|x::l,hn,hl=>by have h1:=GS.mp hn;have ih:=pi (n:=n) h1.2 fun y hy=>hl y (g_ _ hy);have h2:=mD (n:=n) (p:=fun i=>decide (i∈l)) (hl x i_) (decide_eq_false h1.1);rw[ih]at h2;rw[E_,<-h2];refine eM fun i _=>?_;by_cases e:i=x <;> by_cases e2:i∈l <;> simp[e,e2]
structure DS(n:Nat)(A:Nat->Nat->Nat)(s:Nat):Prop where
 row:∀i,i<n->sm n (A i)=s
 col:∀j,j<n->sm n (fun i=>A i j)=s
section
variable{n s:Nat}{A:Nat->Nat->Nat}
theorem DS.rows(d:DS n A s)(r:Nat->Bool):sm n (fun i=>sm n fun j=>A i j*(if r i=true then 1 else 0))=s*ct n r:=by
 have:sm n (fun i=>sm n fun j=>A i j*(if r i=true then 1 else 0))=sm n (fun i=>(if r i=true then 1 else 0)*s):=eM fun i hi=>by rw[kE,d.row i hi,IX]
 rw[this,kE,IX];rfl
theorem DS.cols(d:DS n A s)(c:Nat->Bool):sm n (fun i=>sm n fun j=>A i j*(if c j=true then 1 else 0))=s*ct n c:=by
 rw[wB];have:sm n (fun j=>sm n fun i=>A i j*(if c j=true then 1 else 0))=sm n (fun j=>(if c j=true then 1 else 0)*s):=eM fun j hj=>by rw[kE,d.col j hj,IX]
 rw[this,kE,IX];rfl
theorem DS.le(d:DS n A s){i j:Nat}(hi:i<n)(hj:j<n):A i j<=s:=by rw[<-d.row i hi];exact sU hj
theorem DS.hall(d:DS n A s)(hs:0<s){S T:List Nat}(hS:S.Nodup)(hT:T.Nodup)(lS:∀i∈S,i<n)(lT:∀i∈T,i<n)(h:∀i∈S,∀j,j<n->0<A i j->j∈T):S.length<=T.length:=by
 have h1:=d.rows fun i=>decide (i∈S);have h2:=d.cols fun j=>decide (j∈T);rw[pi hS lS]at h1;rw[pi hT lT]at h2;have:s*S.length<=s*T.length:=by
  rw[<-h1,<-h2];refine oB fun i hi=>oB fun j hj=>?_;by_cases e:i∈S
  .by_cases z:A i j=0
   .rw[z,J5];exact GL _
   .have:=h i e j hj (by omega);simp[e,this]
  .simp[e]
 exact Nat.le_of_mul_le_mul_left this hs
theorem DS.bridge1(d:DS n A s){r c:Nat->Bool}{a b:Nat}(ha:a<n)(hb:b<n)(h0:0<A a b)(h1:A a b<s)(hr:r a=true)(hc:c b=false)(h:∀i j,i<n->j<n->¬ (i=a/\j=b)->0<A i j->r i=c j):False:=by
 have h2:=d.rows r;have h3:=d.cols c;have e:sm n (fun i=>sm n fun j=>A i j*(if r i=true then 1 else 0))=sm n (fun i=>sm n fun j=>A i j*(if c j=true then 1 else 0))+sm n (fun i=>if i=a then(fun i=>sm n fun j=>if j=b then(fun j=>A i j) j else 0) i else 0):=by
  rw[<-hW];refine eM fun i hi=>?_;by_cases ei:i=a
  .rw[if_pos ei,<-hW];refine eM fun j hj=>?_;by_cases ej:j=b
   .subst ei;subst ej;simp[hr,hc]
   .rw[if_neg ej,J4];by_cases z:A i j=0
    .rw[z,J5,J5]
    .rw[h i j hi hj (fun q=>ej q.2) (by omega)]
  .rw[if_neg ei,J4];refine eM fun j hj=>?_;by_cases z:A i j=0
   .rw[z,J5,J5]
   .rw[h i j hi hj (fun q=>ei q.1) (by omega)]
 rw[sm_if ha,sm_if hb,h2,h3]at e;have hm:(s*ct n c+A a b)%s=0:=by rw[<-e];exact Nat.mul_mod_right _ _
 rw[MH,KH h1]at hm;omega
theorem DS.bridge(d:DS n A s){r c:Nat->Bool}{a b:Nat}(ha:a<n)(hb:b<n)(h0:0<A a b)(h1:A a b<s)(hrc:r a≠c b)(h:∀i j,i<n->j<n->¬ (i=a/\j=b)->0<A i j->r i=c j):False:=by cases er:r a with
|true=>exact d.bridge1 ha hb h0 h1 er (by cases ec:c b with|false=>rfl|true=>exact absurd (er.trans ec.symm) hrc) h
|false=>
  have ec:c b=true:=by cases ec:c b with|true=>rfl|false=>exact absurd (er.trans ec.symm) hrc
  exact d.bridge1 (r:=fun i=>! r i) (c:=fun j=>! c j) ha hb h0 h1 (by simp[er]) (by simp[ec]) fun i j hi hj q z=>by simp[h i j hi hj q z]
end
def eD(n:Nat)(Rm:List (Nat×Nat)):Prop:=∀r c:Nat->Bool,((∃i,i<n/\r i=true)\/∃j,j<n/\c j=true)->((∃i,i<n/\r i=false)\/∃j,j<n/\c j=false)->∃i j,i<n/\j<n/\r i≠c j/\(i,j)∉Rm
theorem Dy(n:Nat):eD n []:=by
 intro r c h1 h2;rcases h1 with⟨i,hi,e1⟩|⟨j,hj,e1⟩ <;> rcases h2 with⟨i',hi',e2⟩|⟨j',hj',e2⟩
 .cases ec:c i with
 |false=>exact⟨i,i,hi,hi,by rw[e1,ec];simp,by simp⟩
 |true=>exact⟨i',i,hi',hi,by rw[e2,ec];simp,by simp⟩
 .exact⟨i,j',hi,hj',by rw[e1,e2];simp,by simp⟩
 .exact⟨i',j,hi',hj,by rw[e1,e2];simp,by simp⟩
 .cases er:r j with
 |false=>exact⟨j,j,hj,hj,by rw[e1,er];simp,by simp⟩
 |true=>exact⟨j,j',hj,hj',by rw[e2,er];simp,by simp⟩
theorem DH{n s:Nat}{A:Nat->Nat->Nat}{Rm:List (Nat×Nat)}{a b:Nat}(d:DS n A s)(h:eD n Rm)(hz:∀e∈Rm,A e.1 e.2=0)(ha:a<n)(hb:b<n)(h0:0<A a b)(h1:A a b<s):eD n ((a,b)::Rm):=by
 intro r c y1 y2;refine G_ fun no=>?_;have key:∀i j,i<n->j<n->r i≠c j->(i,j)∈(a,b)::Rm:=fun i j hi hj z=>G_ fun q=>no ⟨i,j,hi,hj,z,q⟩;obtain⟨i,j,hi,hj,z,q⟩:=h r c y1 y2;have e:i=a/\j=b:=by
  rcases n_.mp (key i j hi hj z)with w|w
  .exact⟨congrArg Mf w,congrArg Mg w⟩
  .exact absurd w q
 obtain⟨rfl,rfl⟩:=e;refine d.bridge ha hb h0 h1 z fun i' j' hi' hj' nq pos=>G_ fun w=>?_;rcases n_.mp (key i' j' hi' hj' w)with u|u
 .exact nq ⟨congrArg Mf u,congrArg Mg u⟩
 .have:=hz _ u;simp only at this;omega
theorem lx{n:Nat}{Rm:List (Nat×Nat)}(h:eD n Rm)(hn:1<=n):∀k,k+1<=2*n->∃(r c:Nat->Bool)(T:List (Nat×Nat)),ct n r+ct n c=k+1/\T.length=k/\T.Nodup/\∀e∈T,e.1<n/\e.2<n/\r e.1=true/\c e.2=true/\e∉Rm
|0,_=>by refine⟨fun i=>false || decide (i=0),fun _=>false,[],?_,rfl,Ke,fun e he=>by cases he⟩;rw[mD (p:=fun _=>false) (by omega) rfl];have:ct n (fun _=>false)=0:=ji fun i _=>rfl;omega
|k+1,hk=>by
  obtain⟨r,c,T,h1,h2,h3,h4⟩:=lx h hn k (by omega);have nf:(∃i,i<n/\r i=false)\/∃j,j<n/\c j=false:=G_ fun no=>by
   have f1:ct n r=n:=vM fun i hi=>by cases e:r i with
   |true=>rfl
   |false=>exact absurd (Or.inl ⟨i,hi,e⟩) no
   have f2:ct n c=n:=vM fun i hi=>by cases e:c i with
   |true=>rfl
   |false=>exact absurd (Or.inr ⟨i,hi,e⟩) no
   omega
  have nt:(∃i,i<n/\r i=true)\/∃j,j<n/\c j=true:=G_ fun no=>by have f1:ct n r=0:=ji fun i hi=>if_neg fun e=>no (.inl ⟨i,hi,e⟩);have f2:ct n c=0:=ji fun i hi=>if_neg fun e=>no (.inr ⟨i,hi,e⟩);omega
  obtain⟨i,j,hi,hj,z,q⟩:=h r c nt nf;cases er:r i with
 |true=>
   have ec:c j=false:=by cases ec:c j with|false=>rfl|true=>exact absurd (er.trans ec.symm) z
   refine⟨r,fun x=>c x || decide (x=j),(i,j)::T,by rw[mD hj ec];omega,by simp[h2],GS.mpr ⟨fun w=>?_,h3⟩,fun e he=>?_⟩
   .have:=(h4 _ w).2.2.2.1;simp only[ec]at this;cases this
   .rcases n_.mp he with rfl|he
    .exact⟨hi,hj,er,by simp,q⟩
    .obtain⟨u1,u2,u3,u4,u5⟩:=h4 e he;exact⟨u1,u2,u3,by simp[u4],u5⟩
 |false=>
   have ec:c j=true:=by cases ec:c j with|true=>rfl|false=>exact absurd (er.trans ec.symm) z
   refine⟨fun x=>r x || decide (x=i),c,(i,j)::T,by rw[mD hi er];omega,by simp[h2],GS.mpr ⟨fun w=>?_,h3⟩,fun e he=>?_⟩
   .have:=(h4 _ w).2.2.1;simp only[er]at this;cases this
   .rcases n_.mp he with rfl|he
    .exact⟨hi,hj,by simp,ec,q⟩
    .obtain⟨u1,u2,u3,u4,u5⟩:=h4 e he;exact⟨u1,u2,by simp[u3],u4,u5⟩
theorem Ef{n:Nat}{l:List (Nat×Nat)}(hn:l.Nodup)(hl:∀e∈l,e.1<n/\e.2<n):l.length<=n*n:=by
 have h:(l.map fun e=>e.1*n+e.2).Nodup:=by
  refine IM.mpr ((IH.mp hn).imp fun{a b} w z=>w.2.2 ?_);obtain⟨a1,a2⟩:=hl a w.1;obtain⟨b1,b2⟩:=hl b w.2.1;have e2:a.2=b.2:=by have:=congrArg (· % n) z;simpa[MH,KH a2,KH b2,IX _ n]using this
  have e1:a.1=b.1:=by
   rw[e2]at z;have:a.1*n=b.1*n:=by omega
   exact Nat.eq_of_mul_eq_mul_right (by omega) this
  exact M7 e1 e2
 have:=Rg.hV (m:=f_ (n*n)) h fun x hx=>by obtain⟨e,he,rfl⟩:=D_.mp hx;obtain⟨u1,u2⟩:=hl e he;refine z_.mpr ?_;have:(e.1+1)*n<=n*n:=Nat.mul_le_mul_right _ u1;rw[MA]at this;omega
 simpa using this
theorem eD.few{n:Nat}{Rm:List (Nat×Nat)}(h:eD n Rm)(hn:1<=n)(hd:Rm.Nodup)(hl:∀e∈Rm,e.1<n/\e.2<n):Rm.length<=(n-1)*(n-1):=by
 obtain⟨r,c,T,h1,h2,h3,h4⟩:=lx h hn (2*n-1) (by omega);have:=Ef (n:=n) (l:=T++Rm) (HJ.mpr ⟨h3,hd,fun a ha b hb e=>(h4 a ha).2.2.2.2 (e▸hb)⟩) fun e he=>by
  rcases He.mp he with q|q
  .exact⟨(h4 e q).1,(h4 e q).2.1⟩
  .exact hl e q
 rw[GB,h2]at this;obtain⟨m,rfl⟩:∃m,n=m+1:=⟨n-1,by omega⟩
 have e:(m+1)*(m+1)=m*m+2*m+1:=by rw[MA,Nat.mul_add];omega
 rw[e]at this;show Rm.length<=m*m;omega
def dA(d:List Nat)(h:Nat):Nat:=(d[h]?).getD 0
theorem uH{d:List Nat}{h:Nat}(hh:h<d.length):d[h]? = some (dA d h):=by unfold dA;rw[m_ hh];rfl
theorem gz{d:List Nat}{h n:Nat}(hp:d.Perm (f_ n))(hh:h<n):h<d.length/\dA d h<n:=by
 have hl:h<d.length:=by rw[hp.length_eq];simpa using hh
 refine⟨hl,?_⟩;unfold dA;rw[m_ hl];exact z_.mp (hp.mem_iff.mp (IY _))
theorem uI{d:List Nat}{h k n:Nat}(hp:d.Perm (f_ n))(hh:h<n)(hk:k<n)(e:dA d h=dA d k):h=k:=by have h1:=(gz hp hh).1;have h2:=(gz hp hk).1;have nd:d.Nodup:=hp.nodup_iff.mpr HQ;unfold dA at e;rw[m_ h1,m_ h2]at e;exact(Ky nd).mp e
theorem vN{d:List Nat}{x n:Nat}(hp:d.Perm (f_ n))(hx:x<n):∃h,h<n/\dA d h=x:=by obtain⟨h,hh,e⟩:=LB (hp.mem_iff.mpr (z_.mpr hx));refine⟨h,by rw[hp.length_eq]at hh;simpa using hh,?_⟩;unfold dA;rw[m_ hh];exact e
def taken(A:Nat->Nat->Nat)(p:Nat)(d:List Nat):Nat->Nat->Nat:=fun i j=>if j=dA d i then A i j-p else A i j
theorem DS.taken{n s p:Nat}{A:Nat->Nat->Nat}{d:List Nat}(D:DS n A s)(hd:d.Perm (f_ n))(hp:∀i,i<n->p<=A i (dA d i)):DS n (taken A p d) (s-p):=by
 constructor
 .intro i hi;have h:sm n (A i)=sm n (Bk.taken A p d i)+sm n (fun j=>if j=dA d i then(fun _=>p) j else 0):=by
   rw[<-hW];refine eM fun j hj=>?_;unfold Bk.taken;by_cases e:j=dA d i
   .have:=hp i hi;subst e;simp only[if_true];omega
   .simp only[if_neg e,J4]
  rw[D.row i hi,sm_if (gz hd hi).2]at h;omega
 .intro j hj;obtain⟨h,hh,rfl⟩:=vN hd hj;have e:sm n (fun i=>A i (dA d h))=sm n (fun i=>Bk.taken A p d i (dA d h))+sm n (fun i=>if i=h then(fun _=>p) i else 0):=by
   rw[<-hW];refine eM fun i hi=>?_;unfold Bk.taken;by_cases e:i=h
   .have:=hp i hi;subst e;simp only[if_true];omega
   .have:dA d h≠dA d i:=fun z=>e (uI hd hi hh z.symm);simp only[if_neg e,if_neg this,J4]
  rw[D.col _ hj,sm_if hh]at e;omega
def aq(ps:List (Nat×List Nat))(h x:Nat):Nat:=((ps.filter fun q=>decide (dA q.2 h=x)).map (·.1)).sum
theorem Di(ps:List (Nat×List Nat))(q:Nat×List Nat)(h x:Nat):aq (ps++[q]) h x=aq ps h x+if x=dA q.2 h then q.1 else 0:=by
 unfold aq;rw[List.filter_append,GM,Lb];by_cases e:x=dA q.2 h
 .simp[e]
 .have:¬ dA q.2 h=x:=fun z=>e z.symm;simp[e,this]
structure Pg(n N:Nat)(A0 A:Nat->Nat->Nat)(s:Nat)(ps:List (Nat×List Nat)):Prop where
 ds:DS n A s
 mix:∀i j,i<n->j<n->A0 i j=A i j+aq ps i j
 sum:s+(ps.map (·.1)).sum=N
 pos:∀q∈ps,0<q.1/\q.2.Perm (f_ n)
 gone:∀q∈ps,∃i,i<n/\A i (dA q.2 i)=0
 nd:(ps.map (·.2)).Nodup
 few:ps.length<=(n-1)*(n-1)+1
 rm:0<s->∃Rm:List (Nat×Nat),Rm.length=ps.length/\Rm.Nodup/\(∀e∈Rm,e.1<n/\e.2<n/\A e.1 e.2=0)/\eD n Rm
section
variable{n N s:Nat}{A0 A:Nat->Nat->Nat}{ps:List (Nat×List Nat)}
theorem Pg.start(h:DS n A N):Pg n N A A N []:=⟨h,fun i j _ _=>by simp[aq],by simp,(fun q hq=>(nomatch hq)),(fun q hq=>(nomatch hq)),Ke,by simp,fun _=>⟨[],rfl,Ke,(fun e he=>(nomatch he)),Dy n⟩⟩
theorem Pg.step(P:Pg n N A0 A s ps)(hn:1<=n)(hs:0<s){d:List Nat}{a p:Nat}(hd:d.Perm (f_ n))(hpos:∀i,i<n->0<A i (dA d i))(hp:∀i,i<n->p<=A i (dA d i))(ha:a<n)(hpa:p=A a (dA d a)):Pg n N A0 (taken A p d) (s-p) (ps++[(p,d)])/\p<=s/\0<p:=by
 have p0:0<p:=by rw[hpa];exact hpos a ha
 have hlt:=(gz hd ha).2;have ps':p<=s:=by rw[hpa];exact P.ds.le ha hlt
 obtain⟨Rm,r1,r2,r3,r4⟩:=P.rm hs;have dec:∀i j,taken A p d i j<=A i j:=fun i j=>by unfold taken;split <;> omega
 refine⟨⟨P.ds.taken hd hp,fun i j hi hj=>?_,?_,fun q hq=>?_,fun q hq=>?_,?_,?_,fun h0=>?_⟩,ps',p0⟩
 .rw[P.mix i j hi hj,Di];unfold taken;by_cases e:j=dA d i
  .have:=hp i hi;subst e;simp only[if_true];omega
  .simp only[if_neg e];omega
 .have:=P.sum;rw[GM,Lb];simp only[A_,KM,Ht,List.sum_nil];omega
 .rcases He.mp hq with q'|q'
  .exact P.pos q q'
  .rw[y_.mp q'];exact⟨p0,hd⟩
 .rcases He.mp hq with q'|q'
  .obtain⟨i,hi,e⟩:=P.gone q q';have:=dec i (dA q.2 i);exact⟨i,hi,by omega⟩
  .rw[y_.mp q'];exact⟨a,ha,by unfold taken;rw[if_pos rfl,<-hpa,KZ]⟩
 .rw[GM];refine HJ.mpr ⟨P.nd,by simp,fun x hx y hy e=>?_⟩;have hy':y=d:=by simpa using hy
  obtain⟨q,hq,rfl⟩:=D_.mp hx;obtain⟨i,hi,z⟩:=P.gone q hq;have:=hpos i hi;rw[e,hy']at z;omega
 .rw[GB,<-r1];have:=r4.few hn r2 fun e he=>⟨(r3 e he).1,(r3 e he).2.1⟩
  simp only[E_,K7];omega
 .have hlt':A a (dA d a)<s:=by rw[<-hpa];omega
  have h0':0<A a (dA d a):=hpos a ha;refine⟨(a,dA d a)::Rm,by simp[r1],GS.mpr ⟨fun w=>?_,r2⟩,fun e he=>?_,DH P.ds r4 (fun e he=>(r3 e he).2.2) ha hlt h0' hlt'⟩
  .have:=(r3 _ w).2.2;simp only at this;omega
  .rcases n_.mp he with rfl|he
   .exact⟨ha,hlt,by show taken A p d a (dA d a)=0;unfold taken;rw[if_pos rfl,<-hpa,KZ]⟩
   .obtain⟨u1,u2,u3⟩:=r3 e he;have:=dec e.1 e.2;exact⟨u1,u2,by omega⟩
theorem Pg.lt(P:Pg n N A0 A s ps)(hn:1<=n)(hs:0<s):ps.length<=(n-1)*(n-1):=by obtain⟨Rm,r1,r2,r3,r4⟩:=P.rm hs;rw[<-r1];exact r4.few hn r2 fun e he=>⟨(r3 e he).1,(r3 e he).2.1⟩
theorem Pg.done(P:Pg n N A0 A 0 ps):(∀i j,i<n->j<n->A0 i j=aq ps i j)/\(ps.map (·.1)).sum=N:=by refine⟨fun i j hi hj=>?_,by have:=P.sum;omega⟩;have:=P.ds.le hi hj;rw[P.mix i j hi hj];omega
end
end Bk
end
section
namespace Bk
structure Kok(n:Nat)(E:Nat->List Nat)(K:List (Nat×Nat)):Prop where
 nd:(K.map (·.1)).Nodup
 ed:∀t g,(t,g)∈K->g<n/\t∈E g
theorem pQ{K:List (Nat×Nat)}(h:(K.map (·.1)).Nodup){t g g':Nat}(h1:(t,g)∈K)(h2:(t,g')∈K):g=g':=by induction K with
|nil=>cases h1
|cons p K ih=>
  have hn:=GS.mp h;rcases n_.mp h1 with e1|e1 <;> rcases n_.mp h2 with e2|e2
  .rw[<-e1]at e2;exact(congrArg Mg e2).symm
  .exact absurd (D_.mpr ⟨_,e2,by rw[<-e1]⟩) hn.1
  .exact absurd (D_.mpr ⟨_,e1,by rw[<-e2]⟩) hn.1
  .exact ih hn.2 e1 e2
def kg(T:List Nat)(K:List (Nat×Nat)):Prop:=∀t u g,t∉T->u∉T->(t,g)∈K->(u,g)∈K->t=u
def Nh(T:List Nat)(K:List (Nat×Nat))(h:Nat):Prop:=∀t,t∉T->(t,h)∉K
def Fl(E:Nat->List Nat)(T:List Nat)(K:List (Nat×Nat))(T':List Nat):Prop:=∀t∈T',t∉T->∃g,(t,g)∈K/\∀u∈E g,u∈T'
structure Sc(n:Nat)(E:Nat->List Nat)(T:List Nat)(K:List (Nat×Nat))(h:Nat)(K':List (Nat×Nat)):Prop where
 ok:Kok n E K'
 old:∀t∈T,∀g,(t,g)∈K'↔(t,g)∈K
 img:∀g,(∃t,t∉T/\(t,g)∈K')↔g=h\/∃t,t∉T/\(t,g)∈K
 inj:kg T K'
def sg(K:List (Nat×Nat))(x h:Nat)(K':List (Nat×Nat)):Prop:=(K'.map (·.1)).Nodup/\∀u g,(u,g)∈K'↔(u=x/\g=h)\/(u≠x/\(u,g)∈K)
section
variable{n h x g0:Nat}{E:Nat->List Nat}{T T2:List Nat}{K K1 K':List (Nat×Nat)}
theorem CN(ok:Kok n E K)(inj:kg T K)(nh:Nh T K h)(hx:x∉T)(hf:∀g,(x,g)∉K)(hh:h<n)(he:x∈E h)(P:sg K x h K'):Sc n E T K h K':=by
 obtain⟨nd,P⟩:=P;refine⟨⟨nd,fun t g m=>?_⟩,fun t ht g=>?_,fun g=>⟨fun⟨t,ht,m⟩=>?_,fun w=>?_⟩,fun t u g ht hu m1 m2=>?_⟩
 .rcases(P t g).mp m with⟨rfl,rfl⟩|⟨_,m⟩
  .exact⟨hh,he⟩
  .exact ok.ed t g m
 .rw[P];have ne:t≠x:=fun e=>hx (e▸ht);exact⟨fun w=>(w.resolve_left fun q=>ne q.1).2,fun w=>.inr ⟨ne,w⟩⟩
 .rcases(P t g).mp m with⟨rfl,rfl⟩|⟨_,m⟩
  .exact .inl rfl
  .exact .inr ⟨t,ht,m⟩
 .rcases w with rfl|⟨t,ht,m⟩
  .exact⟨x,hx,(P _ _).mpr (.inl ⟨rfl,rfl⟩)⟩
  .exact⟨t,ht,(P _ _).mpr (.inr ⟨fun e=>hf g (e▸m),m⟩)⟩
 .rcases(P t g).mp m1 with⟨rfl,rfl⟩|⟨n1,m1⟩ <;> rcases(P u g).mp m2 with⟨rfl,e⟩|⟨n2,m2⟩
  .rfl
  .exact absurd m2 (nh u hu)
  .subst e;exact absurd m1 (nh t ht)
  .exact inj t u g ht hu m1 m2
theorem CP(ok:Kok n E K)(inj:kg T K)(nh:Nh T K h)(hx:x∉T)(hx2:x∈T2)(hs:∀t∈T,t∈T2)(hg:(x,g0)∈K)(S:Sc n E T2 K g0 K1)(hh:h<n)(he:x∈E h)(P:sg K1 x h K'):Sc n E T K h K':=by
 obtain⟨nd,P⟩:=P;have back:∀t g,t∉T->t≠x->(t,g)∈K1->∃u,u∉T/\(u,g)∈K:=fun t g ht hne m=>by
  by_cases z:t∈T2
  .exact⟨t,ht,(S.old t z g).mp m⟩
  .rcases(S.img g).mp ⟨t,z,m⟩with rfl|⟨u,hu,m⟩
   .exact⟨x,hx,hg⟩
   .exact⟨u,fun w=>hu (hs u w),m⟩
 refine⟨⟨nd,fun t g m=>?_⟩,fun t ht g=>?_,fun g=>⟨fun⟨t,ht,m⟩=>?_,fun w=>?_⟩,fun t u g ht hu m1 m2=>?_⟩
 .rcases(P t g).mp m with⟨rfl,rfl⟩|⟨_,m⟩
  .exact⟨hh,he⟩
  .exact S.ok.ed t g m
 .rw[P];have ne:t≠x:=fun e=>hx (e▸ht);rw[<-S.old t (hs t ht) g];exact⟨fun w=>(w.resolve_left fun q=>ne q.1).2,fun w=>.inr ⟨ne,w⟩⟩
 .rcases(P t g).mp m with⟨rfl,rfl⟩|⟨hne,m⟩
  .exact .inl rfl
  .exact .inr (back t g ht hne m)
 .rcases w with rfl|⟨t,ht,m⟩
  .exact⟨x,hx,(P _ _).mpr (.inl ⟨rfl,rfl⟩)⟩
  .have key:(∃t,t∉T2/\(t,g)∈K1)->∃t,t∉T/\(t,g)∈K':=fun⟨u,hu,mu⟩=>⟨u,fun w=>hu (hs u w),(P _ _).mpr (.inr ⟨fun e=>hu (e▸hx2),mu⟩)⟩
   by_cases e:t=x
   .subst e;have:=pQ ok.nd m hg;subst this;exact key ((S.img g).mpr (.inl rfl))
   .by_cases z:t∈T2
    .exact⟨t,ht,(P _ _).mpr (.inr ⟨e,(S.old t z g).mpr m⟩)⟩
    .exact key ((S.img g).mpr (.inr ⟨t,z,m⟩))
 .rcases(P t g).mp m1 with⟨rfl,rfl⟩|⟨n1,m1⟩ <;> rcases(P u g).mp m2 with⟨rfl,e⟩|⟨n2,m2⟩
  .rfl
  .obtain⟨v,hv,mv⟩:=back u _ hu n2 m2;exact absurd mv (nh v hv)
  .subst e;obtain⟨v,hv,mv⟩:=back t _ ht n1 m1;exact absurd mv (nh v hv)
  .by_cases z1:t∈T2 <;> by_cases z2:u∈T2
   .exact inj t u g ht hu ((S.old t z1 g).mp m1) ((S.old u z2 g).mp m2)
   .have mk:=(S.old t z1 g).mp m1;rcases(S.img g).mp ⟨u,z2,m2⟩with rfl|⟨v,hv,mv⟩
    .exact absurd (inj t x _ ht hx mk hg) n1
    .have:=inj t v g ht (fun w=>hv (hs v w)) mk mv;subst this;exact absurd z1 hv
   .have mk:=(S.old u z2 g).mp m2;rcases(S.img g).mp ⟨t,z1,m1⟩with rfl|⟨v,hv,mv⟩
    .exact absurd (inj u x _ hu hx mk hg) n2
    .have:=inj u v g hu (fun w=>hv (hs v w)) mk mv;subst this;exact absurd z2 hv
   .exact S.inj t u g z1 z2 m1 m2
theorem BO{s:Nat}{A:Nat->Nat->Nat}(d:DS n A s)(hs:0<s)(hE:∀i j,i<n->j<n->0<A i j->j∈E i)(ok:Kok n E K)(inj:kg [] K)(nh:Nh [] K h)(hh:h<n){T':List Nat}(nd:T'.Nodup)(lt:∀t∈T',t<n)(h1:∀t∈E h,t∈T')(F:Fl E [] K T'):False:=by
 have hc:∀t,∃g,t∈T'->(t,g)∈K/\∀u∈E g,u∈T':=fun t=>by
  by_cases e:t∈T'
  .obtain⟨g,w⟩:=F t e (by simp);exact⟨g,fun _=>w⟩
  .exact⟨0,fun w=>absurd w e⟩
 obtain⟨κ,hk⟩:=Ix hc;have:=d.hall hs (S:=h::T'.map κ) (T:=T') (GS.mpr ⟨fun w=>?_,?_⟩) nd (fun i hi=>?_) lt (fun i hi j hj pos=>?_)
 .simp at this;omega
 .obtain⟨t,ht,e⟩:=D_.mp w;exact nh t (by simp) (e▸(hk t ht).1)
 .refine IM.mpr ((IH.mp nd).imp fun{a b} w z=>w.2.2 ?_);exact inj a b (κ a) (by simp) (by simp) (hk a w.1).1 (z▸(hk b w.2.1).1)
 .rcases n_.mp hi with rfl|hi
  .exact hh
  .obtain⟨t,ht,rfl⟩:=D_.mp hi;exact(ok.ed t _ (hk t ht).1).1
 .rcases n_.mp hi with rfl|hi
  .exact h1 j (hE i j hh hj pos)
  .obtain⟨t,ht,rfl⟩:=D_.mp hi;exact(hk t ht).2 j (hE _ j (ok.ed t _ (hk t ht).1).1 hj pos)
structure Kps(n:Nat)(E:Nat->List Nat)(h:Nat)(K:List (Nat×Nat)):Prop where
 ok:Kok n E K
 inj:kg [] K
 img:∀g,(∃t,(t,g)∈K)↔g<h
theorem Ak:Kps n E 0 []:=⟨⟨by simp,fun _ _ h=>(nomatch h)⟩,(fun _ _ _ _ _ h=>(nomatch h)),fun g=>⟨fun⟨_,h⟩=>(nomatch h),fun h=>by omega⟩⟩
theorem Kps.nh(k:Kps n E h K):Nh [] K h:=fun t _ m=>by have:=(k.img h).mp ⟨t,m⟩;omega
theorem Kps.next(k:Kps n E h K)(S:Sc n E [] K h K'):Kps n E (h+1) K':=by refine⟨S.ok,S.inj,fun g=>?_⟩;have:=S.img g;simp only[GZ,not_false_eq_true,true_and]at this;rw[this,k.img g];omega
theorem Kps.all(k:Kps n E n K)(hE:∀g,g<n->∀t∈E g,t<n):∃f:Nat->Nat,(∀p∈K,p.1=f p.2)/\(∀g,g<n->f g∈E g)/\((f_ n).map f).Perm (f_ n)/\(K.map (·.2)).Nodup/\(∀g,g∈K.map (·.2)↔g<n):=by
 have hc:∀g,∃t,g<n->(t,g)∈K:=fun g=>by
  by_cases e:g<n
  .obtain⟨t,w⟩:=(k.img g).mpr e;exact⟨t,fun _=>w⟩
  .exact⟨0,fun w=>absurd w e⟩
 obtain⟨f,hf⟩:=Ix hc;refine⟨f,fun p hp=>?_,fun g hg=>(k.ok.ed _ _ (hf g hg)).2,Rg.xH ?_ ?_ (by simp),?_,fun g=>?_⟩
 .have lt:=(k.ok.ed p.1 p.2 hp).1;exact k.inj p.1 (f p.2) p.2 (by simp) (by simp) hp (hf _ lt)
 .refine IM.mpr ((IH.mp HQ).imp fun{a b} w z=>w.2.2 ?_);exact pQ k.ok.nd (hf a (z_.mp w.1)) (z▸hf b (z_.mp w.2.1))
 .intro x hx;obtain⟨g,hg,rfl⟩:=D_.mp hx;have hg:=z_.mp hg;exact z_.mpr (hE g hg _ (k.ok.ed _ _ (hf g hg)).2)
 .have nd:K.Nodup:=(List.pairwise_map.mp k.ok.nd).imp fun{a b} w z=>w (by rw[z]);refine IM.mpr ((IH.mp nd).imp fun{a b} w z=>w.2.2 ?_);have:=k.inj a.1 b.1 a.2 (by simp) (by simp) w.1 (by rw[z];exact w.2.1);exact M7 this z
 .rw[<-k.img g];constructor
  .intro w;obtain⟨p,hp,rfl⟩:=D_.mp w;exact⟨p.1,hp⟩
  .rintro⟨t,m⟩
   exact D_.mpr ⟨(t,g),m,rfl⟩
end
end Bk
end
namespace Law
open PySem PySem.Spec PyProof.Rows L2 DL
abbrev gv(i:Nat):DL.FE:=fun r=>DL.cA r i
abbrev ci(i:Int):DL.FE:=fun _=>.ok (.int i)
abbrev q0:List DL.Md:=[.bw,.bw]
abbrev aW:List DL.Md:=[.sh,.sh,.sh]
abbrev bF:List DL.Md:=[.sh,.sh]
abbrev bK:List DL.Md:=[.bw,.sh,.sh,.sh]
abbrev bV:List DL.Md:=[.bw,.bw,.sh,.sh,.sh]
abbrev cx:List DL.Md:=[.bw,.bw,.sh,.sh]
abbrev cI:List DL.Md:=[.bw,.sh,.sh]
abbrev cZ:List DL.Md:=[.bw,.sh]
abbrev dw:List DL.Md:=[.sh,.sh,.ow,.sh,.sh]
abbrev d7:List DL.Md:=[.bw,.bw,.bw,.sh]
abbrev fh:List DL.Md:=[.bw,.bw,.bw]
abbrev fg:List DL.Md:=[.sh,.sh,.sh,.ow,.sh]
abbrev gi:List DL.Md:=[.bw,.bw,.ow,.sh,.sh,.sh,.sh]
abbrev gb:List DL.Md:=[.sh,.bw,.ow,.sh]
abbrev f8:List DL.Md:=[.sh,.sh,.sh,.sh,.sh]
abbrev iu:List DL.Md:=[.bw,.bw,.ow,.sh,.ow,.sh,.sh]
abbrev ir:List DL.Md:=[.bw,.bw,.bw,.bw,.ow,.sh,.sh,.sh]
abbrev iq:List DL.Md:=[.bw,.sh,.sh,.sh,.sh,.ow,.sh]
abbrev ip:List DL.Md:=[.bw,.sh,.ow,.sh]
abbrev jt:List DL.Md:=[.bw,.ow,.sh,.sh,.sh,.sh,.sh]
abbrev js:List DL.Md:=[.bw,.sh,.sh,.ow,.sh,.sh,.sh]
abbrev jq:List DL.Md:=[.sh,.bw,.sh,.sh,.sh,.sh]
abbrev lJ:List DL.Md:=[.bw,.bw,.bw,.bw,.ow,.sh,.ow,.sh]
abbrev lI:List DL.Md:=[.bw,.bw,.bw,.bw,.sh,.sh,.sh,.sh]
theorem sB{α:Type}(us:List α)(h:us.length=4):∃a0 a1 a2 a3,us=[a0,a1,a2,a3]:=by match us,h with
|[_,_,_,_],_=>exact⟨_,_,_,_,rfl⟩
def top(i:Nat):Stmt:=Kv.main.body.getD i (.Pass ⟨0,0,0,0⟩)
structure Txt(K:W.Frag)(mg:Str->Option a_):Prop where
 b_abs:mg "abs" = none
 b_range:mg "range" = none
 b_tuple:mg "tuple" = none
 b_len:mg "len" = none
 b_sum:mg "sum" = none
 b_isinstance:mg "isinstance" = none
 b_bool:mg "bool" = none
 b_int:mg "int" = none
 b_enumerate:mg "enumerate" = none
 b_zip:mg "zip" = none
 b_set:mg "set" = none
 b_list:mg "list" = none
 k_NOUGHT:∃a,mg "NOUGHT" = some (.ref a)/\KC K a (.tup [.int 0,.int 1])
abbrev qx:Stmt:=top 26
abbrev yn:List Str:=["_law_one","_law_other","_law_rest"]
abbrev nM:List Str:=["_law_one","_law_other"]
theorem nO:FnScope yn nM (aB qx):=ce
abbrev lq:FQ:=(a9 (f2 (gv 1) (ci 0) neD))
abbrev lv:FS:=(aa (ao aW 2 (f2 (gv 0) (gv 1) aO)) (aa (ao aW 0 (gv 1)) (aa (ao aW 1 (gv 2)) ay)))
def qR:FS:=(aa (cX aW lq lv 1000) (aa (av aW (fC (ah (gv 0) ae) absD)) ay))
def j6:List D->Res D:=fun ds=>aH false (qR (aT yn.length ds))
variable{P:u_}{w:Gz}{K:W.Frag}{mg:Str->Option a_}{base:Heap}
theorem D9(T:Txt K mg)(A:DefAt K mg "_law_common" qx):Callee P w K mg base "_law_common" nM [] 1 false bF j6:=
 cn (m':=aW) A nO fun f cdv A outer s H g E hr hu1=>have hu64:=hr.units;(al (pI 1000 GK (du hu64 (ag 1) iB) (al (bM 2 nO.nd (eU (ag 0) (ag 1)))
   (al (bM 0 nO.nd (v_ 1))
   (al (bM 1 nO.nd (v_ 2))
   aA))))
   (al (bx (sR (by rfl) T.b_abs (bA (ag 0) bB)))
   aA))
abbrev qf:Stmt:=top 27
abbrev xJ:List Str:=["_law_top","_law_bottom","_law_by"]
abbrev nG:List Str:=["_law_top","_law_bottom"]
theorem x9:FnScope xJ nG (aB qf):=ce
def qC:FS:=(aa (ao aW 2 (aG (ah (gv 0) (ah (gv 1) ae)) [] j6)) (aa (av aW (fm (ah (f2 (gv 0) (gv 2) i3) (ah (f2 (gv 1) (gv 2) i3) ae)))) ay))
def j3:List D->Res D:=fun ds=>aH false (qC (aT xJ.length ds))
theorem BR(T:Txt K mg)(A:DefAt K mg "_law_low" qf)(c__law_common:Callee P w K mg base "_law_common" nM [] 1 false bF j6):Callee P w K mg base "_law_low" nG [] 2 false bF j3:=
 cn (m':=aW) A x9 fun f cdv A outer s H g E hr hu1=>(al (bM 2 x9.nd (bv c__law_common (bf (v_ 0) (bf (v_ 1) br))))
   (al (bx (iG (cC (mL (ag 0) (ag 2)) (cC (mL (ag 1) (ag 2)) cK))))
   aA))
abbrev qB:Stmt:=top 28
abbrev yf:List Str:=["_law_a","_law_b"]
abbrev nB:List Str:=["_law_a","_law_b"]
theorem FO:FnScope yf nB (aB qB):=ce
def qv:FS:=(aa (av q0 (aG (ah (f2 (f2 (f2 (gv 0) (ci 0) az) (f2 (gv 1) (ci 1) az) bX) (f2 (f2 (gv 1) (ci 0) az) (f2 (gv 0) (ci 1) az) bX) addA) (ah (f2 (f2 (gv 0) (ci 1) az) (f2 (gv 1) (ci 1) az) bX) ae)) [] j3)) ay)
def jl:List D->Res D:=fun ds=>aH false (qv (aT yf.length ds))
theorem CK(T:Txt K mg)(A:DefAt K mg "_law_plus" qB)(c__law_low:Callee P w K mg base "_law_low" nG [] 2 false bF j3):Callee P w K mg base "_law_plus" nB [] 3 false q0 jl:=
 cn (m':=q0) A FO fun f cdv A outer s H g E hr hu1=>(al (bx (bv c__law_low (bf (dX (bE (fQ (xB hu1 (ag 0) iB) (xB hu1 (ag 1) iB))) (bE (fQ (xB hu1 (ag 1) iB) (xB hu1 (ag 0) iB)))) (bf (fQ (xB hu1 (ag 0) iB) (xB hu1 (ag 1) iB)) br))))
   aA)
abbrev lg:Stmt:=top 32
abbrev nr:List Str:=["_law_parts_here","_law_n","_law_rows","_law_hand","_law_row_here","_law_part","_law_got"]
abbrev ny:List Str:=["_law_parts_here","_law_n"]
theorem j7:FnScope nr ny (aB lg):=ce
abbrev yi:FS:=(aa (putF iu 4 (f2 (gv 6) (gv 3) az) (aG (ah (f2 (gv 4) (f2 (gv 6) (gv 3) az) az) (ah (gv 5) ae)) [] jl)) ay)
abbrev yj:FS:=(aa (ao gi 4 (cU 1 [] (bn bc (ah (gv 1) ae)) (aI 0) (fun _=>Res.ok true) (fm (ah (ci 0) (ah (ci 1) ae))))) (aa (cM iu (aR bR (gv 0)) (dP (bQ (aI 5) (bQ (aI 6) dG))) yi) (aa (bW "list" iu 2 (ah (fC (ah (gv 4) ae) tupD) ae) appD) ay)))
def qL:FS:=(aa (ao [.bw,.bw,.sh,.sh,.sh,.sh,.sh] 2 (gp ae)) (aa (cM gi (bn bc (ah (gv 1) ae)) (aI 3) yj) (aa (av gi (fC (ah (gv 2) ae) tupD)) ay)))
def iR:List D->Res D:=fun ds=>aH false (qL (aT nr.length ds))
theorem Dl(T:Txt K mg)(A:DefAt K mg "_law_mixed" lg)(c__law_plus:Callee P w K mg base "_law_plus" nB [] 3 false q0 jl):Callee P w K mg base "_law_mixed" ny [] 4 false q0 iR:=
 cn (m':=gi) A j7 fun f cdv A outer s H g E hr hu1=>(al (gL 2 j7.nd (by rfl) (eO rfl) (i5 cK))
   (al (jP GK rfl (fR (by rfl) T.b_range (bA (ag 1) bB)) (bN 3 j7.nd) (E3 (m':=iu) 4 (al (x8 4 (X:=(bb bH P w K mg base nr "_law_mixed" (aB lg) f cdv A outer s H E).nox) (m:=gi) (N':=["_law_thing"]) (nl:=1) (cap:=[]) j7.nd rfl (by rfl) (by rfl) (fU (osc:=(aB lg)) (ON:=nr) rfl rfl (by decide+kernel)) (c9.toC (fR (by rfl) T.b_range (bA (ag 1) bB))) (fun _ _ _ _ _ _=>(bN 0 (show Hj (["_law_thing"]:List Str)by decide+kernel))) (dJ (by decide)) (fun _ _ _ _ _ _=>ia) (fun _ _ _ _ _ _=>(iG (cC gD (cC gD cK)))))
   (al (vC GK rfl (tT (yE 0)) (i8 rfl (eI (bN 5 j7.nd) (eI (bN 6 j7.nd) i7))) (al (sS 4 hu1 rfl (by rfl) (dN rfl) (xB hu1 (ag 6) (ag 3)) (bv c__law_plus (ar (xB hu1 (ag 4) (xB hu1 (ag 6) (ag 3))) (ar (ag 5) br))))
   aA))
   (al (i6 2 rfl G6 Hm Hn jn jR (by rfl) (dN rfl) (cC (iN (by rfl) T.b_tuple (bA (ag 4) bB)) cK))
   aA))) rfl))
   (al (bx (iN (by rfl) T.b_tuple (bA (ag 2) bB)))
   aA)))
abbrev qj:Stmt:=top 24
abbrev ye:List Str:=["_law_script","_law_k","_law_cell_here","_law_stirred"]
abbrev ll:List Str:=["_law_script","_law_k"]
theorem nz:FnScope ye ll (aB qj):=ce
def nA:FS:=(aa (ao cx 2 (ci 0)) (aa (cF cx (a9 (f2 (gv 1) (fC (ah (gv 0) ae) lenD) gQ)) (aa (ao cx 2 (f2 (f2 (gv 0) (gv 1) az) (f2 (ci 10) (ci 60) gj) aO)) ay) ay) (aa (cF cx (dy (a9 (f2 (fC (ah (gv 0) ae) lenD) (ci 0) kd)) (a9 (f2 (f2 (f2 (gv 0) (ci 0) az) (ci 2) aO) (ci 0) eqD))) (aa (av cx (gv 2)) ay) ay) (aa (ao cx 3 (f2 (f2 (f2 (f2 (f2 (f2 (f2 (gv 2) (f2 (f2 (ci 7) (gv 1) bd) (gv 1) bd) addA) (f2 (ci 13) (gv 1) bd) addA) (ci 5) addA) (ci 48271) bd) (ci 2147483647) aO) (ci 69621) bd) (ci 1000000007) aO)) (aa (av cx (f2 (f2 (f2 (f2 (f2 (gv 3) (ci 1) addA) (ci 40692) bd) (ci 2147483629) aO) (ci 39373) bd) (ci 999999937) aO)) ay)))))
def dL:List D->Res D:=fun ds=>aH false (nA (aT ye.length ds))
theorem CJ(T:Txt K mg)(A:DefAt K mg "_law_cell" qj):Callee P w K mg base "_law_cell" ll [] 1 false q0 dL:=
 cn (m':=cx) A nz fun f cdv A outer s H g E hr hu1=>have hu64:=hr.units;(al (bM 2 nz.nd gD)
   (al (bJ (lH (ag 1) (bE (fN (by rfl) T.b_len (bA (ag 0) bB)))) (al (bM 2 nz.nd (eU (xB hu1 (ag 0) (ag 1)) (bE (ze iB iB))))
   aA)
   aA)
   (al (bJ (SW.toQ (zX (rO (bE (fN (by rfl) T.b_len (bA (ag 0) bB))) iB) (BD (e8 hu64 (bE (eU (xB hu1 (ag 0) iB) iB)) iB)))) (al (bx (v_ 2))
   aA)
   aA)
   (al (bM 3 nz.nd (eU (bE (gF (bE (eU (bE (gF (bE (dX (bE (dX (bE (dX (ag 2) (bE (gF (bE (gF iB (ag 1))) (ag 1))))) (bE (gF iB (ag 1))))) iB)) iB)) iB)) iB)) iB))
   (al (bx (eU (bE (gF (bE (eU (bE (gF (bE (dX (ag 3) iB)) iB)) iB)) iB)) iB))
   aA)))))
abbrev qg:Stmt:=top 25
abbrev xK:List Str:=["_law_cell_here","_law_m","_law_row_here","_law_thing"]
abbrev qG:List Str:=["_law_cell_here","_law_m"]
theorem nC:FnScope xK qG (aB qg):=ce
abbrev yb:FS:=(aa (bW "list" gb 2 (ah (f2 (gv 0) (f2 (gv 3) (ci 1) addA) aO) (ah (gv 3) ae)) insD) (aa (ao gb 0 (f2 (gv 0) (f2 (gv 3) (ci 1) addA) gA)) ay))
def qD:FS:=(aa (ao [.sh,.bw,.sh,.sh] 2 (gp ae)) (aa (cM gb (bn bc (ah (gv 1) ae)) (aI 3) yb) (aa (av gb (fC (ah (gv 2) ae) tupD)) ay)))
def nE:List D->Res D:=fun ds=>aH false (qD (aT xK.length ds))
theorem BS(T:Txt K mg)(A:DefAt K mg "_law_row" qg):Callee P w K mg base "_law_row" qG [] 1 false [.sh,.bw] nE:=
 cn (m':=gb) A nC fun f cdv A outer s H g E hr hu1=>(al (gL 2 nC.nd (by rfl) (eO rfl) (i5 cK))
   (al (jP GK rfl (fR (by rfl) T.b_range (bA (ag 1) bB)) (bN 3 nC.nd) (al (i6 2 rfl G6 Kr PySem.F.type_list_insert EG AI (by rfl) (dN rfl) (cC (eU (ag 0) (bE (dX (ag 3) iB))) (cC (v_ 3) cK)))
   (al (bM 0 nC.nd (oZ (ag 0) (bE (dX (ag 3) iB))))
   aA)))
   (al (bx (iN (by rfl) T.b_tuple (bA (ag 2) bB)))
   aA)))
abbrev lh:Stmt:=top 31
abbrev nu:List Str:=["_law_script","_law_at","_law_n","_law_many","_law_weights","_law_whole","_law_found","_law_k"]
abbrev qO:List Str:=["_law_script","_law_at","_law_n","_law_many"]
theorem lc:FnScope nu qO (aB lh):=ce
abbrev yk:FS:=(aa (bW "list" lJ 6 (ah (fm (ah (aG (ah (f2 (gv 4) (gv 7) az) (ah (gv 5) ae)) [] j3) (ah (aG (ah (aG (ah (gv 0) (ah (f2 (f2 (gv 1) (f2 (ci 2) (gv 7) bd) addA) (ci 1) addA) ae)) [] dL) (ah (gv 2) ae)) [] nE) ae))) ae) appD) ay)
def qM:FS:=(aa (ao lI 4 (cU 1 [0,1] (bn bc (ah (gv 3) ae)) (aI 0) (fun _=>Res.ok true) (f2 (ci 1) (f2 (aG (ah (gv 1) (ah (f2 (gv 2) (f2 (ci 2) (gv 0) bd) addA) ae)) [] dL) (ci 60) aO) addA))) (aa (ao ir 5 (fC (ah (gv 4) ae) sumD)) (aa (ao ir 6 (gp ae)) (aa (cM lJ (bn bc (ah (gv 3) ae)) (aI 7) yk) (aa (av ir (gv 6)) ay)))))
def jZ:List D->Res D:=fun ds=>aH false (qM (aT nu.length ds))
theorem Ea(T:Txt K mg)(A:DefAt K mg "_law_parts" lh)(c__law_cell:Callee P w K mg base "_law_cell" ll [] 1 false q0 dL)(c__law_row:Callee P w K mg base "_law_row" qG [] 1 false [.sh,.bw] nE)(c__law_low:Callee P w K mg base "_law_low" nG [] 2 false bF j3):Callee P w K mg base "_law_parts" qO [] 3 false [.bw,.bw,.bw,.bw] jZ:=
 cn (m':=ir) A lc fun f cdv A outer s H g E hr hu1=>(al (x8 4 (X:=(bb bH P w K mg base nu "_law_parts" (aB lh) f cdv A outer s H E).nox) (m:=lI) (N':=["_law_k","_law_script","_law_at"]) (nl:=1) (cap:=[0,1]) lc.nd rfl (by rfl) (by rfl) (fU (osc:=(aB lh)) (ON:=nu) rfl rfl (by decide+kernel)) (c9.toC (fR (by rfl) T.b_range (bA (ag 3) bB))) (fun _ _ _ _ _ _=>(bN 0 (show Hj (["_law_k","_law_script","_law_at"]:List Str)by decide+kernel))) (dJ (by decide)) (fun _ _ _ _ _ _=>ia) (fun _ _ _ _ _ _=>(dX iB (bE (eU (bE (bv c__law_cell (ar (ag 1) (ar (bE (dX (ag 2) (bE (gF iB (ag 0))))) br)))) iB)))))
   (al (bM 5 lc.nd (zg rfl (by rfl) T.b_sum (bA (ag 4) bB)))
   (al (gL 6 lc.nd (by rfl) (eO rfl) (i5 cK))
   (al (jP GK rfl (fR (by rfl) T.b_range (bA (ag 3) bB)) (bN 7 lc.nd) (al (i6 6 rfl G6 Hm Hn jn jR (by rfl) (dN rfl) (cC (iG (cC (bv c__law_low (bf (gZ hu1 (ag 4) (ag 7)) (bf (v_ 5) br))) (cC (bv c__law_row (bf (bv c__law_cell (ar (ag 0) (ar (bE (dX (bE (dX (ag 1) (bE (gF iB (ag 7))))) iB)) br))) (ar (ag 2) br))) cK))) cK))
   aA))
   (al (mn 6 rfl (bx (v_ 6)))
   aA)))))
abbrev jY:Stmt:=top 33
abbrev nv:List Str:=["_law_script","_law_n","_law_way","_law_many"]
abbrev qP:List Str:=["_law_script","_law_n"]
theorem lf:FnScope nv qP (aB jY):=ce
def lj:FS:=(aa (ao bK 2 (f2 (f2 (aG (ah (gv 0) (ah (ci 1) ae)) [] dL) (ci 56) gA) (ci 5) aO)) (aa (cF bK (a9 (f2 (gv 2) (ci 0) eqD)) (aa (av bK (fC (ah (cU 1 [1] (bn bc (ah (gv 1) ae)) (aI 0) (fun _=>Res.ok true) (fC (ah (cU 1 [1] (bn bc (ah (gv 1) ae)) (aI 0) (fun _=>Res.ok true) (fm (ah (ci 1) (ah (gv 1) ae)))) ae) tupD)) ae) tupD)) ay) ay) (aa (ao bK 3 (f2 (ci 1) (f2 (f2 (aG (ah (gv 0) (ah (ci 1) ae)) [] dL) (ci 7) gA) (ci 8) aO) addA)) (aa (cF bK (a9 (f2 (gv 2) (ci 1) eqD)) (aa (ao bK 3 (ci 1)) ay) ay) (aa (av bK (aG (ah (aG (ah (gv 0) (ah (ci 2) (ah (gv 1) (ah (gv 3) ae)))) [] jZ) (ah (gv 1) ae)) [] iR)) ay)))))
def ni:List D->Res D:=fun ds=>aH false (lj (aT nv.length ds))
theorem Eb(T:Txt K mg)(A:DefAt K mg "_law_table" jY)(c__law_cell:Callee P w K mg base "_law_cell" ll [] 1 false q0 dL)(c__law_parts:Callee P w K mg base "_law_parts" qO [] 3 false [.bw,.bw,.bw,.bw] jZ)(c__law_mixed:Callee P w K mg base "_law_mixed" ny [] 4 false q0 iR):Callee P w K mg base "_law_table" qP [] 5 false cZ ni:=
 cn (m':=bK) A lf fun f cdv A outer s H g E hr hu1=>have hu64:=hr.units;(al (bM 2 lf.nd (eU (bE (oZ (bE (bv c__law_cell (ar (ag 0) (ar iB br)))) iB)) iB))
   (al (bJ (e8 hu64 (ag 2) iB) (al (bx (iN (by rfl) T.b_tuple (bA (SO.toB (h9 (X:=(bb bH P w K mg base nv "_law_table" (aB jY) f cdv A outer s H E).nox) (N':=["_law_hand","_law_n"]) (nl:=1) (cap:=[1]) lf.nd rfl (fU (osc:=(aB jY)) (ON:=nv) rfl rfl (by decide+kernel)) (c9.toC (fR (by rfl) T.b_range (bA (ag 1) bB))) (fun _ _ _ _ _ _=>(bN 0 (show Hj (["_law_hand","_law_n"]:List Str)by decide+kernel))) (dJ (by decide)) (fun _ _ _ _ _ _=>ia) (fun _ _ _ _ _ _=>(iN (by rfl) T.b_tuple (bA (SO.toB (h9 (N':=["_law_thing","_law_n"]) (nl:=1) (cap:=[1]) (show Hj (["_law_hand","_law_n"]:List Str)by decide+kernel) rfl (EL (osc:=(aB jY)) (ON:=(["_law_hand","_law_n"]:List Str)) rfl rfl (by decide+kernel)) (c9.toC (fR (by rfl) T.b_range (bA (ag 1) bB))) (fun _ _ _ _ _ _=>(bN 0 (show Hj (["_law_thing","_law_n"]:List Str)by decide+kernel))) (dJ (by decide)) (fun _ _ _ _ _ _=>ia) (fun _ _ _ _ _ _=>(iG (cC gD (cC (v_ 1) cK)))))) bB))))) bB)))
   aA)
   aA)
   (al (bM 3 lf.nd (dX iB (bE (eU (bE (oZ (bE (bv c__law_cell (ar (ag 0) (ar iB br)))) iB)) iB))))
   (al (bJ (e8 hu64 (ag 2) iB) (al (bM 3 lf.nd gD)
   aA)
   aA)
   (al (bx (bv c__law_mixed (ar (bE (bv c__law_parts (ar (ag 0) (ar iB (ar (ag 1) (ar (ag 3) br)))))) (ar (ag 1) br))))
   aA)))))
abbrev qY:Stmt:=top 9
abbrev yw:List Str:=["one","other","rest"]
abbrev qW:List Str:=["one","other"]
theorem nR:FnScope yw qW (aB qY):=ce
abbrev F6:FQ:=(a9 (f2 (gv 1) (ci 0) neD))
abbrev F3:FS:=(aa (ao aW 2 (f2 (gv 0) (gv 1) aO)) (aa (ao aW 0 (gv 1)) (aa (ao aW 1 (gv 2)) ay)))
def F5:FS:=(aa (cX aW F6 F3 1000) (aa (av aW (fC (ah (gv 0) ae) absD)) ay))
def nQ:List D->Res D:=fun ds=>aH false (F5 (aT yw.length ds))
theorem FB(T:Txt K mg)(A:DefAt K mg "greatest_divisor" qY):Callee P w K mg base "greatest_divisor" qW [] 1 false bF nQ:=
 cn (m':=aW) A nR fun f cdv A outer s H g E hr hu1=>have hu64:=hr.units;(al (pI 1000 GK (du hu64 (ag 1) iB) (al (bM 2 nR.nd (eU (ag 0) (ag 1)))
   (al (bM 0 nR.nd (v_ 1))
   (al (bM 1 nR.nd (v_ 2))
   aA))))
   (al (bx (sR (by rfl) T.b_abs (bA (ag 0) bB)))
   aA))
abbrev qi:Stmt:=top 4
abbrev xM:List Str:=["value"]
abbrev qH:List Str:=["value"]
theorem FG:FnScope xM qH (aB qi):=ce
def Fa:FS:=(aa (av [Md.bw] (d4 (f1 (gv 0) (cz "int")) (jo (f1 (gv 0) (cz "bool"))))) ay)
def kU:List D->Res D:=fun ds=>aH false (Fa (aT xM.length ds))
theorem BV(T:Txt K mg)(A:DefAt K mg "is_whole" qi):Callee P w K mg base "is_whole" qH [] 1 false [Md.bw] kU:=
 cn (m':=[Md.bw]) A FG fun f cdv A outer s H g E hr hu1=>(al (bx (oE (gE "int" "int" rfl (pC _) (by rfl) T.b_isinstance (by rfl) T.b_int (ag 0)) (ou (zd (gE "bool" "bool" rfl (qc _) (by rfl) T.b_isinstance (by rfl) T.b_bool (ag 0))))))
   aA)
abbrev qh:Stmt:=top 10
abbrev xL:List Str:=["top","bottom","divisor"]
abbrev nH:List Str:=["top","bottom"]
theorem qw:FnScope xL nH (aB qh):=ce
def qE:FS:=(aa (cF aW (dQ (bG (bg (aG (ah (gv 0) ae) [] kU))) (dQ (bG (bg (aG (ah (gv 1) ae) [] kU))) (a9 (f2 (gv 1) (ci 0) eqD)))) (aa (fun _=>Out.stuck) ay) ay) (aa (ao aW 2 (aG (ah (gv 0) (ah (gv 1) ae)) [] nQ)) (aa (cF aW (a9 (f2 (gv 1) (ci 0) gQ)) (aa (ao aW 2 (f1 (gv 2) jv)) ay) ay) (aa (av aW (fm (ah (f2 (gv 0) (gv 2) i3) (ah (f2 (gv 1) (gv 2) i3) ae)))) ay))))
def j4:List D->Res D:=fun ds=>aH false (qE (aT xL.length ds))
theorem BU(T:Txt K mg)(A:DefAt K mg "fraction" qh)(c_is_whole:Callee P w K mg base "is_whole" qH [] 1 false [Md.bw] kU)(c_greatest_divisor:Callee P w K mg base "greatest_divisor" qW [] 1 false bF nQ):Callee P w K mg base "fraction" nH [] 2 false bF j4:=
 cn (m':=aW) A qw fun f cdv A outer s H g E hr hu1=>have hu64:=hr.units;(al (bJ (SW.toQ (cw (eT (dU (bE (bv c_is_whole (ar (ag 0) br))))) (cw (eT (dU (bE (bv c_is_whole (ar (ag 1) br))))) (iE (e8 hu64 (ag 1) iB))))) (al CL
   aA)
   aA)
   (al (bM 2 qw.nd (bv c_greatest_divisor (bf (v_ 0) (bf (v_ 1) br))))
   (al (bJ (lH (ag 1) iB) (al (bM 2 qw.nd (zc (ag 2)))
   aA)
   aA)
   (al (bx (iG (cC (mL (ag 0) (ag 2)) (cC (mL (ag 1) (ag 2)) cK))))
   aA))))
abbrev oX:Stmt:=top 11
abbrev uE:List Str:=["a","b"]
abbrev oI:List Str:=["a","b"]
theorem CQ:FnScope uE oI (aB oX):=ce
def oH:FS:=(aa (av q0 (aG (ah (f2 (f2 (f2 (gv 0) (ci 0) az) (f2 (gv 1) (ci 1) az) bX) (f2 (f2 (gv 1) (ci 0) az) (f2 (gv 0) (ci 1) az) bX) addA) (ah (f2 (f2 (gv 0) (ci 1) az) (f2 (gv 1) (ci 1) az) bX) ae)) [] j4)) ay)
def kr:List D->Res D:=fun ds=>aH false (oH (aT uE.length ds))
theorem zN(T:Txt K mg)(A:DefAt K mg "plus" oX)(c_fraction:Callee P w K mg base "fraction" nH [] 2 false bF j4):Callee P w K mg base "plus" oI [] 3 false q0 kr:=
 cn (m':=q0) A CQ fun f cdv A outer s H g E hr hu1=>(al (bx (bv c_fraction (bf (dX (bE (fQ (xB hu1 (ag 0) iB) (xB hu1 (ag 1) iB))) (bE (fQ (xB hu1 (ag 1) iB) (xB hu1 (ag 0) iB)))) (bf (fQ (xB hu1 (ag 0) iB) (xB hu1 (ag 1) iB)) br))))
   aA)
abbrev pA:Stmt:=top 14
abbrev vH:List Str:=["shares","told","share"]
abbrev mP:List Str:=["shares"]
theorem m6:FnScope vH mP (aB pA):=ce
abbrev xt:FS:=(aa (ao cI 1 (aG (ah (gv 1) (ah (gv 2) ae)) [] kr)) ay)
def o7:FS:=(aa (ao cI 1 (fun _=>Res.ok (D.tup [D.int 0,D.int 1]))) (aa (cM cI (aR bR (gv 0)) (aI 2) xt) (aa (av cI (gv 1)) ay)))
def jg:List D->Res D:=fun ds=>aH false (o7 (aT vH.length ds))
theorem zx(T:Txt K mg)(A:DefAt K mg "total" pA)(c_plus:Callee P w K mg base "plus" oI [] 3 false q0 kr):Callee P w K mg base "total" mP [] 4 false [Md.bw] jg:=
 cn (m':=cI) A m6 fun f cdv A outer s H g E hr hu1=>(al (bM 1 m6.nd (pH (by rfl) T.k_NOUGHT))
   (al (kC GK rfl (jd (ag 0)) (fun _=>(bN 2 m6.nd)) (fun _=>(al (bM 1 m6.nd (bv c_plus (ar (ag 1) (ar (ag 2) br))))
   aA)))
   (al (bx (v_ 1))
   aA)))
abbrev li:Stmt:=top 6
abbrev nw:List Str:=["got"]
abbrev qQ:List Str:=["got"]
theorem yo:FnScope nw qQ (aB li):=ce
def qN:FS:=(aa (av [Md.bw] (fC (ah (cU 1 [0] (bn bc (ah (fC (ah (gv 0) ae) lenD) ae)) (aI 0) (fun _=>Res.ok true) (f2 (gv 1) (gv 0) az)) ae) tupD)) ay)
def nj:List D->Res D:=fun ds=>aH false (qN (aT nw.length ds))
theorem Ec(T:Txt K mg)(A:DefAt K mg "dealing_of" li):Callee P w K mg base "dealing_of" qQ [] 1 false [Md.bw] nj:=
 cn (m':=[Md.bw]) A yo fun f cdv A outer s H g E hr hu1=>(al (bx (iN (by rfl) T.b_tuple (bA (SO.toB (h9 (X:=(bb bH P w K mg base nw "dealing_of" (aB li) f cdv A outer s H E).nox) (N':=["hand","got"]) (nl:=1) (cap:=[0]) yo.nd rfl (fU (osc:=(aB li)) (ON:=nw) rfl rfl (by decide+kernel)) (c9.toC (fR (by rfl) T.b_range (bA (bE (fN (by rfl) T.b_len (bA (ag 0) bB))) bB))) (fun _ _ _ _ _ _=>(bN 0 (show Hj (["hand","got"]:List Str)by decide+kernel))) (dJ (by decide)) (fun _ _ _ _ _ _=>ia) (fun _ _ _ _ _ _=>(gZ hu1 (ag 1) (ag 0))))) bB)))
   aA)
abbrev nN:Stmt:=top 19
abbrev yy:List Str:=["things_of","hand","tried","keepers","thing"]
abbrev lp:List Str:=["things_of","hand","tried","keepers"]
theorem q9:FnScope yy lp (aB nN):=ce
abbrev ii(Fr:fL):FK:=(bD (kb (a9 (f2 (gv 4) (gv 2) c0)) (bD (putK 2 (gv 4) (fun _=>Res.ok (D.bl true))) (bD (j8 (a9 (f2 (gv 4) (gv 3) c0)) (gv 0) (f2 (gv 3) (gv 4) az) 2 3 Fr (bD (putK 3 (gv 4) (gv 1)) (bD (d6 (fun _=>Res.ok (D.bl true))) g9))) g9)) g9) g9)
def iP(Fr:fL):FK:=(bD (l9 (aR bR (f2 (gv 0) (gv 1) az)) 4 (ii Fr)) (bD (d6 (fun _=>Res.ok (D.bl false))) g9))
def df:Nat->fL
|0=>fun ds=>d8 2 3 (OutK.stuck)
|n+1=>fun ds=>d8 2 3 (iP (df n) (aT yy.length ds))
abbrev rf:fL:=df 9
theorem yq(T:Txt K mg)(A:DefAt K mg "finds_a_thing" nN):∀n,CalleeK P w K mg base "finds_a_thing" lp (n+1) bF (df n)
|0=>wo (k:=0) (ms:=bF) (fs:=fun _=>OutK.stuck) A q9 rfl (by decide) (fun _ _ _ _ _ _ us hl=>by obtain⟨u0,u1,u2,u3,rfl⟩:=sB us hl;kernel_rfl) fun f cdv A outer s H g E hr=>Cs
|n+1=>by
  have cr:CalleeK P w K mg base "finds_a_thing" lp (n+1) bF (df n):=yq T A n;refine wo (k:=n+1) (ms:=bF) (fs:=iP (df n)) A q9 rfl (by decide) (fun _ _ _ _ _ _ us hl=>by obtain⟨u0,u1,u2,u3,rfl⟩:=sB us hl;kernel_rfl) fun f cdv A outer s H g E hr=>?_;have hu1:=oi hr;have hu64:=hr.units;exact(je (zC 4 GK rfl (Ae (gZ hu1 (ag 0) (ag 1))) rfl q9.nd (by rfl) (eO rfl) (je (rW (sY hu1 (ag 4) (ag 2)) (je (sx 2 hu1 rfl (by rfl) (dN rfl) (ag 4) cv)
   (je (AQ 2 3 cr (hr.mono (by omega)) (sY hu1 (ag 4) (ag 3)) (v_ 0) (gZ hu1 (ag 3) (ag 4)) rfl rfl (by decide) (by rfl) (by rfl) (dN rfl) (dN rfl) (je (sx 3 hu1 rfl (by rfl) (dN rfl) (ag 4) (v_ 1))
   (je (sy cv)
   jK)))
   jK))
   jK)
   jK))
   (je (sy cv)
   jK))
theorem E9(T:Txt K mg)(A:DefAt K mg "finds_a_thing" nN):CalleeK P w K mg base "finds_a_thing" lp 10 bF rf:=yq T A 9
abbrev oW:Stmt:=top 13
abbrev uD:List Str:=["a","b"]
abbrev mB:List Str:=["a","b"]
theorem CO:FnScope uD mB (aB oW):=ce
def oN:FS:=(aa (av q0 (f2 (f2 (f2 (gv 0) (ci 0) az) (f2 (gv 1) (ci 1) az) bX) (f2 (f2 (gv 1) (ci 0) az) (f2 (gv 0) (ci 1) az) bX) gQ)) ay)
def hX:List D->Res D:=fun ds=>aH false (oN (aT uD.length ds))
theorem zM(T:Txt K mg)(A:DefAt K mg "less" oW):Callee P w K mg base "less" mB [] 1 false q0 hX:=
 cn (m':=q0) A CO fun f cdv A outer s H g E hr hu1=>(al (bx (rK (bE (fQ (xB hu1 (ag 0) iB) (xB hu1 (ag 1) iB))) (bE (fQ (xB hu1 (ag 1) iB) (xB hu1 (ag 0) iB)))))
   aA)
abbrev lu:Stmt:=top 20
abbrev nL:List Str:=["table","things_of","row","keepers","hand","got","thing"]
abbrev q8:List Str:=["table"]
theorem iQ:FnScope nL q8 (aB lu):=ce
abbrev yr:FS:=(aa (bW "list" jt 1 (ah (cU 2 [] (en (gv 2)) (dP (bQ (aI 0) (bQ (aI 1) dG))) (bg (aG (ah (fun _=>Res.ok (D.tup [D.int 0,D.int 1])) (ah (gv 1) ae)) [] hX)) (gv 0)) ae) appD) ay)
abbrev yt:FS:=(aa (l0 js (gv 1) (gv 4) 3 rf) ay)
abbrev yu:FS:=(aa (putF iq 5 (f2 (gv 3) (gv 6) az) (gv 6)) ay)
def qZ:FS:=(aa (ao [.bw,.sh,.sh,.sh,.sh,.sh,.sh] 1 (gp ae)) (aa (cM jt (aR bR (gv 0)) (aI 2) yr) (aa (ao jt 3 (fun _=>Res.ok (D.dic []))) (aa (cM js (bn bc (ah (fC (ah (gv 0) ae) lenD) ae)) (aI 4) yt) (aa (ao js 5 (fun _=>Res.ok (D.dic []))) (aa (cM iq (aR mC (gv 3)) (aI 6) yu) (aa (av iq (aG (ah (gv 5) ae) [] nj)) ay)))))))
def nK:List D->Res D:=fun ds=>aH false (qZ (aT nL.length ds))
theorem ES(T:Txt K mg)(A:DefAt K mg "dealing_within" lu)(c_less:Callee P w K mg base "less" mB [] 1 false q0 hX)(c_finds_a_thing:CalleeK P w K mg base "finds_a_thing" lp 10 bF rf)(c_dealing_of:Callee P w K mg base "dealing_of" qQ [] 1 false [Md.bw] nj):Callee P w K mg base "dealing_within" q8 [] 11 false [Md.bw] nK:=
 cn (m':=iq) A iQ fun f cdv A outer s H g E hr hu1=>(al (gL 1 iQ.nd (by rfl) (eO rfl) (i5 cK))
   (al (vC GK rfl (tT (yE 0)) (bN 2 iQ.nd) (al (i6 1 rfl G6 Hm Hn jn jR (by rfl) (dN rfl) (cC (SO.toE (h9 (X:=(bb bH P w K mg base nL "dealing_within" (aB lu) f cdv A outer s H E).nox) (N':=["thing","share"]) (nl:=2) (cap:=[]) iQ.nd rfl (fU (osc:=(aB lu)) (ON:=nL) rfl rfl (by decide+kernel)) (c9.toC (tR (by rfl) T.b_enumerate (v_ 2))) (fun _ _ _ _ _ _=>(i8 rfl (eI (bN 0 (show Hj (["thing","share"]:List Str)by decide+kernel)) (eI (bN 1 (show Hj (["thing","share"]:List Str)by decide+kernel)) i7)))) (kt (gN (dJ (by decide)) (gN (dJ (by decide)) kQ))) (fun _ _ _ _ _ _=>(uZ (dU (bE (bv c_less (ar (bE (pH (by rfl) T.k_NOUGHT)) (ar (ag 1) br))))))) (fun _ _ _ _ _ _=>(v_ 0)))) cK))
   aA))
   (al (gL 3 iQ.nd (by rfl) (eO rfl) oP)
   (al (mn 1 rfl (jP GK rfl (fR (by rfl) T.b_range (bA (bE (fN (by rfl) T.b_len (bA (ag 0) bB))) bB)) (bN 4 iQ.nd) (al (C4 3 c_finds_a_thing (hr.mono (by decide)) (v_ 1) (v_ 4) (by rfl) (by rfl) (dN rfl))
   aA)))
   (al (gL 5 iQ.nd (by rfl) (eO rfl) oP)
   (al (mn 3 rfl (A6 GK rfl (v_ 3) (fun _=>(bN 6 iQ.nd)) (fun _=>(al (sS 5 hu1 rfl (by rfl) (dN rfl) (xB hu1 (ag 3) (ag 6)) (v_ 6))
   aA))))
   (al (bx (bv c_dealing_of (ar (ag 5) br)))
   aA)))))))
abbrev pv:Stmt:=top 15
abbrev vF:List Str:=["shares","told","share"]
abbrev o8:List Str:=["shares"]
theorem mZ:FnScope vF o8 (aB pv):=ce
abbrev xq:FS:=(aa (cF cI (bg (aG (ah (gv 2) (ah (gv 1) ae)) [] hX)) (aa (ao cI 1 (gv 2)) ay) ay) ay)
def o4:FS:=(aa (ao cI 1 (f2 (gv 0) (ci 0) az)) (aa (cM cI (aR bR (gv 0)) (aI 2) xq) (aa (av cI (gv 1)) ay)))
def mM:List D->Res D:=fun ds=>aH false (o4 (aT vF.length ds))
theorem zu(T:Txt K mg)(A:DefAt K mg "least" pv)(c_less:Callee P w K mg base "less" mB [] 1 false q0 hX):Callee P w K mg base "least" o8 [] 2 false [Md.bw] mM:=
 cn (m':=cI) A mZ fun f cdv A outer s H g E hr hu1=>(al (bM 1 mZ.nd (gZ hu1 (ag 0) iB))
   (al (kC GK rfl (jd (ag 0)) (fun _=>(bN 2 mZ.nd)) (fun _=>(al (bJ (dU (bE (bv c_less (ar (ag 2) (ar (ag 1) br))))) (al (bM 1 mZ.nd (v_ 2))
   aA)
   aA)
   aA)))
   (al (bx (v_ 1))
   aA)))
abbrev pw:Stmt:=top 12
abbrev vG:List Str:=["a","b"]
abbrev o9:List Str:=["a","b"]
theorem DZ:FnScope vG o9 (aB pw):=ce
def o5:FS:=(aa (av q0 (aG (ah (f2 (f2 (f2 (gv 0) (ci 0) az) (f2 (gv 1) (ci 1) az) bX) (f2 (f2 (gv 1) (ci 0) az) (f2 (gv 0) (ci 1) az) bX) fX) (ah (f2 (f2 (gv 0) (ci 1) az) (f2 (gv 1) (ci 1) az) bX) ae)) [] j4)) ay)
def jW:List D->Res D:=fun ds=>aH false (o5 (aT vG.length ds))
theorem zv(T:Txt K mg)(A:DefAt K mg "minus" pw)(c_fraction:Callee P w K mg base "fraction" nH [] 2 false bF j4):Callee P w K mg base "minus" o9 [] 3 false q0 jW:=
 cn (m':=q0) A DZ fun f cdv A outer s H g E hr hu1=>(al (bx (bv c_fraction (bf (oy (bE (fQ (xB hu1 (ag 0) iB) (xB hu1 (ag 1) iB))) (bE (fQ (xB hu1 (ag 1) iB) (xB hu1 (ag 0) iB)))) (bf (fQ (xB hu1 (ag 0) iB) (xB hu1 (ag 1) iB)) br))))
   aA)
abbrev k6:Stmt:=top 21
abbrev nb:List Str:=["table","part","dealing","told","row","got"]
abbrev qk:List Str:=["table","part","dealing"]
theorem kZ:FnScope nb qk (aB k6):=ce
abbrev yd:FS:=(aa (bW "list" [.sh,.bw,.sh,.ow,.sh,.sh] 3 (ah (cU 2 [5,1] (en (gv 4)) (dP (bQ (aI 0) (bQ (aI 1) dG))) (fun _=>Res.ok true) (iU (a9 (f2 (gv 0) (gv 2) eqD)) (aG (ah (gv 1) (ah (gv 3) ae)) [] jW) (gv 1))) ae) appD) ay)
def qu:FS:=(aa (ao jq 3 (gp ae)) (aa (cM [.sh,.bw,.sh,.ow,.sh,.sh] (fu (gv 0) (gv 2)) (dP (bQ (aI 4) (bQ (aI 5) dG))) yd) (aa (av jq (gv 3)) ay)))
def na:List D->Res D:=fun ds=>aH false (qu (aT nb.length ds))
theorem Cd(T:Txt K mg)(A:DefAt K mg "without" k6)(c_minus:Callee P w K mg base "minus" o9 [] 3 false q0 jW):Callee P w K mg base "without" qk [] 4 false [.sh,.bw,.sh] na:=
 cn (m':=jq) A kZ fun f cdv A outer s H g E hr hu1=>have hu64:=hr.units;(al (gL 3 kZ.nd (by rfl) (eO rfl) (i5 cK))
   (al (jP GK rfl (sJ (by rfl) T.b_zip (v_ 0) (v_ 2)) (i8 rfl (eI (bN 4 kZ.nd) (eI (bN 5 kZ.nd) i7))) (al (i6 3 rfl G6 Hm Hn jn jR (by rfl) (dN rfl) (cC (SO.toE (h9 (X:=(bb bH P w K mg base nb "without" (aB k6) f cdv A outer s H E).nox) (N':=["thing","share","got","part"]) (nl:=2) (cap:=[5,1]) kZ.nd rfl (fU (osc:=(aB k6)) (ON:=nb) rfl rfl (by decide+kernel)) (c9.toC (tR (by rfl) T.b_enumerate (v_ 4))) (fun _ _ _ _ _ _=>(i8 rfl (eI (bN 0 (show Hj (["thing","share","got","part"]:List Str)by decide+kernel)) (eI (bN 1 (show Hj (["thing","share","got","part"]:List Str)by decide+kernel)) i7)))) (kt (gN (dJ (by decide)) (gN (dJ (by decide)) kQ))) (fun _ _ _ _ _ _=>ia) (fun _ _ _ _ _ _=>(zb (e8 hu64 (ag 0) (ag 2)) (bv c_minus (ar (ag 1) (ar (ag 3) br))) (v_ 1))))) cK))
   aA))
   (al (mn 3 rfl (bx (v_ 3)))
   aA)))
abbrev kM:Stmt:=top 22
abbrev mS:List Str:=["table","left","parts","dealing","part"]
abbrev pT:List Str:=["table"]
theorem jm:FnScope mS pT (aB kM):=ce
abbrev qJ:FQ:=(a9 (f2 (aG (ah (f2 (gv 1) (ci 0) az) ae) [] jg) (fun _=>Res.ok (D.tup [D.int 0,D.int 1])) neD))
abbrev xI:FS:=(aa (ao dw 3 (aG (ah (gv 1) ae) [] nK)) (aa (ao dw 4 (aG (ah (cU 2 [] (fu (gv 1) (gv 3)) (dP (bQ (aI 0) (bQ (aI 1) dG))) (fun _=>Res.ok true) (f2 (gv 0) (gv 1) az)) ae) [] mM)) (aa (bW "list" dw 2 (ah (fm (ah (gv 4) (ah (gv 3) ae))) ae) appD) (aa (ao dw 1 (aG (ah (gv 1) (ah (gv 4) (ah (gv 3) ae))) [] na)) ay))))
def pS:FS:=(aa (ao f8 1 (gv 0)) (aa (ao f8 2 (gp ae)) (aa (cX dw qJ xI 64) (aa (av dw (gv 2)) ay))))
def kO:List D->Res D:=fun ds=>aH true (pS (aT mS.length ds))
theorem BI(T:Txt K mg)(A:DefAt K mg "parted" kM)(c_total:Callee P w K mg base "total" mP [] 4 false [Md.bw] jg)(c_dealing_within:Callee P w K mg base "dealing_within" q8 [] 11 false [Md.bw] nK)(c_least:Callee P w K mg base "least" o8 [] 2 false [Md.bw] mM)(c_without:Callee P w K mg base "without" qk [] 4 false [.sh,.bw,.sh] na):Callee P w K mg base "parted" pT [] 12 true [Md.sh] kO:=
 cn (m':=dw) A jm fun f cdv A outer s H g E hr hu1=>have hu64:=hr.units;(al (bM 1 jm.nd (v_ 0))
   (al (gL 2 jm.nd (by rfl) (eO rfl) (i5 cK))
   (al (pI 64 GK (du hu64 (bE (bv c_total (ar (xB hu1 (ag 1) iB) br))) (bE (pH (by rfl) T.k_NOUGHT))) (al (bM 3 jm.nd (bv c_dealing_within (ar (ag 1) br)))
   (al (bM 4 jm.nd (bv c_least (ar (SO.toB (h9 (X:=(bb bH P w K mg base mS "parted" (aB kM) f cdv A outer s H E).nox) (N':=["row","thing"]) (nl:=2) (cap:=[]) jm.nd rfl (fU (osc:=(aB kM)) (ON:=mS) rfl rfl (by decide+kernel)) (c9.toC (sJ (by rfl) T.b_zip (v_ 1) (v_ 3))) (fun _ _ _ _ _ _=>(i8 rfl (eI (bN 0 (show Hj (["row","thing"]:List Str)by decide+kernel)) (eI (bN 1 (show Hj (["row","thing"]:List Str)by decide+kernel)) i7)))) (kt (gN (dJ (by decide)) (gN (dJ (by decide)) kQ))) (fun _ _ _ _ _ _=>ia) (fun _ _ _ _ _ _=>(gZ hu1 (ag 0) (ag 1))))) br)))
   (al (i6 2 rfl G6 Hm Hn jn jR (by rfl) (dN rfl) (cC (iG (cC (v_ 4) (cC (v_ 3) cK))) cK))
   (al (bM 1 jm.nd (bv c_without (bf (v_ 1) (ar (ag 4) (bf (v_ 3) br)))))
   aA)))))
   (al (A8 2 rfl (by rfl) (dN rfl))
   aA))))
abbrev qK:Stmt:=top 30
abbrev yp:List Str:=["_law_found","_law_n","_law_m","_law_thing"]
abbrev qS:List Str:=["_law_found","_law_n","_law_m"]
theorem yx:FnScope yp qS (aB qK):=ce
abbrev yC:FS:=(aa (cF d7 (dQ (bG (bg (f1 (gv 3) (cz "int")))) (dQ (bg (f1 (gv 3) (cz "bool"))) (bG (a9 (jb (ci 0) (gv 3) (gv 2) gR gQ))))) (aa (av d7 (fun _=>Res.ok (D.bl false))) ay) ay) ay)
def rc:FS:=(aa (cF d7 (dQ (bG (bg (f1 (gv 0) (cz "tuple")))) (a9 (f2 (fC (ah (gv 0) ae) lenD) (gv 1) neD))) (aa (av d7 (fun _=>Res.ok (D.bl false))) ay) ay) (aa (cM d7 (aR bR (gv 0)) (aI 3) yC) (aa (av d7 (f2 (f1 (gv 0) sT) (gv 1) eqD)) ay)))
def nS:List D->Res D:=fun ds=>aH false (rc (aT yp.length ds))
theorem Fm(T:Txt K mg)(A:DefAt K mg "_law_is_dealing" qK):Callee P w K mg base "_law_is_dealing" qS [] 1 false fh nS:=
 cn (m':=d7) A yx fun f cdv A outer s H g E hr hu1=>have hu64:=hr.units;(al (bJ (SW.toQ (cw (eT (dU (bE (gE "tuple" "tuple" rfl (qr _) (by rfl) T.b_isinstance (by rfl) T.b_tuple (ag 0))))) (iE (du hu64 (bE (fN (by rfl) T.b_len (bA (ag 0) bB))) (ag 1))))) (al (bx cv)
   aA)
   aA)
   (al (kC GK rfl (jd (ag 0)) (fun _=>(bN 3 yx.nd)) (fun _=>(al (bJ (SW.toQ (cw (eT (dU (bE (gE "int" "int" rfl (pC _) (by rfl) T.b_isinstance (by rfl) T.b_int (ag 3))))) (cw (dU (bE (gE "bool" "bool" rfl (qc _) (by rfl) T.b_isinstance (by rfl) T.b_bool (ag 3)))) (iE (eT (xf mr og oa zL iB (ag 3) (ag 2))))))) (al (bx cv)
   aA)
   aA)
   aA)))
   (al (bx (fY hu64 (bE (DY rfl (by rfl) T.b_len (by rfl) T.b_set (ag 0))) (ag 1)))
   aA)))
abbrev qX:Stmt:=top 29
abbrev yv:List Str:=["_law_found","_law_one"]
abbrev qV:List Str:=["_law_found"]
theorem yA:FnScope yv qV (aB qX):=ce
abbrev yB:FS:=(aa (cF cZ (dQ (bG (bg (f1 (gv 1) (cz "int")))) (bg (f1 (gv 1) (cz "bool")))) (aa (av cZ (fun _=>Res.ok (D.bl false))) ay) ay) ay)
def qU:FS:=(aa (cF cZ (dQ (bG (bg (f1 (gv 0) (cz "tuple")))) (a9 (f2 (fC (ah (gv 0) ae) lenD) (ci 2) neD))) (aa (av cZ (fun _=>Res.ok (D.bl false))) ay) ay) (aa (cM cZ (aR bR (gv 0)) (aI 1) yB) (aa (av cZ (d4 (f2 (f2 (gv 0) (ci 1) az) (ci 0) kd) (f2 (aG (ah (f2 (gv 0) (ci 0) az) (ah (f2 (gv 0) (ci 1) az) ae)) [] j6) (ci 1) eqD))) ay)))
def nP:List D->Res D:=fun ds=>aH false (qU (aT yv.length ds))
theorem FA(T:Txt K mg)(A:DefAt K mg "_law_is_fraction" qX)(c__law_common:Callee P w K mg base "_law_common" nM [] 1 false bF j6):Callee P w K mg base "_law_is_fraction" qV [] 2 false [Md.bw] nP:=
 cn (m':=cZ) A yA fun f cdv A outer s H g E hr hu1=>have hu64:=hr.units;(al (bJ (SW.toQ (cw (eT (dU (bE (gE "tuple" "tuple" rfl (qr _) (by rfl) T.b_isinstance (by rfl) T.b_tuple (ag 0))))) (iE (du hu64 (bE (fN (by rfl) T.b_len (bA (ag 0) bB))) iB)))) (al (bx cv)
   aA)
   aA)
   (al (kC GK rfl (jd (ag 0)) (fun _=>(bN 1 yA.nd)) (fun _=>(al (bJ (SW.toQ (cw (eT (dU (bE (gE "int" "int" rfl (pC _) (by rfl) T.b_isinstance (by rfl) T.b_int (ag 1))))) (iE (dU (bE (gE "bool" "bool" rfl (qc _) (by rfl) T.b_isinstance (by rfl) T.b_bool (ag 1))))))) (al (bx cv)
   aA)
   aA)
   aA)))
   (al (bx (oE (rL (xB hu1 (ag 0) iB) iB) (ou (fY hu64 (bE (bv c__law_common (bf (gZ hu1 (ag 0) iB) (bf (gZ hu1 (ag 0) iB) br)))) iB))))
   aA)))
abbrev ls:Stmt:=top 34
abbrev nV:List Str:=["_law_parts_here","_law_table_here","_law_n","_law_total","_law_one"]
abbrev qT:List Str:=["_law_parts_here","_law_table_here"]
theorem j5:FnScope nV qT (aB ls):=ce
abbrev yD:FS:=(aa (cF bV (dQ (bG (bg (f1 (gv 4) (cz "tuple")))) (dQ (a9 (f2 (fC (ah (gv 4) ae) lenD) (ci 2) neD)) (dQ (bG (bg (aG (ah (f2 (gv 4) (ci 0) az) ae) [] nP))) (a9 (f2 (f2 (f2 (gv 4) (ci 0) az) (ci 0) az) (ci 0) gR))))) (aa (av bV (fun _=>Res.ok (D.bl false))) ay) ay) (aa (cF bV (bG (bg (aG (ah (f2 (gv 4) (ci 1) az) (ah (gv 2) (ah (gv 2) ae))) [] nS))) (aa (av bV (fun _=>Res.ok (D.bl false))) ay) ay) (aa (ao bV 3 (aG (ah (gv 3) (ah (f2 (gv 4) (ci 0) az) ae)) [] jl)) ay)))
def re:FS:=(aa (ao bV 2 (fC (ah (gv 1) ae) lenD)) (aa (cF bV (dQ (bG (bg (f1 (gv 0) (cz "list")))) (bG (a9 (jb (ci 1) (fC (ah (gv 0) ae) lenD) (f2 (f2 (f2 (gv 2) (ci 1) fX) (f2 (gv 2) (ci 1) fX) bd) (ci 1) addA) gR gR)))) (aa (av bV (fun _=>Res.ok (D.bl false))) ay) ay) (aa (ao bV 3 (fm (ah (ci 0) (ah (ci 1) ae)))) (aa (cM bV (aR bR (gv 0)) (aI 4) yD) (aa (cF bV (a9 (f2 (fC (ah (cU 2 [] (aR bR (gv 0)) (dP (bQ (aI 0) (bQ (aI 1) dG))) (fun _=>Res.ok true) (gv 1)) ae) mo) (fC (ah (gv 0) ae) lenD) neD)) (aa (av bV (fun _=>Res.ok (D.bl false))) ay) ay) (aa (av bV (d4 (f2 (gv 3) (fm (ah (ci 1) (ah (ci 1) ae))) eqD) (f2 (aG (ah (gv 0) (ah (gv 2) ae)) [] iR) (gv 1) eqD))) ay))))))
def nU:List D->Res D:=fun ds=>aH false (re (aT nV.length ds))
theorem Fo(T:Txt K mg)(A:DefAt K mg "_law_parts_well" ls)(c__law_is_fraction:Callee P w K mg base "_law_is_fraction" qV [] 2 false [Md.bw] nP)(c__law_is_dealing:Callee P w K mg base "_law_is_dealing" qS [] 1 false fh nS)(c__law_plus:Callee P w K mg base "_law_plus" nB [] 3 false q0 jl)(c__law_mixed:Callee P w K mg base "_law_mixed" ny [] 4 false q0 iR):Callee P w K mg base "_law_parts_well" qT [] 5 false q0 nU:=
 cn (m':=bV) A j5 fun f cdv A outer s H g E hr hu1=>have hu64:=hr.units;(al (bM 2 j5.nd (fN (by rfl) T.b_len (bA (ag 1) bB)))
   (al (bJ (SW.toQ (cw (eT (dU (bE (gE "list" "list" rfl (Da _) (by rfl) T.b_isinstance (by rfl) T.b_list (ag 0))))) (iE (eT (xf mr mr oa oa iB (bE (fN (by rfl) T.b_len (bA (ag 0) bB))) (bE (dX (bE (gF (bE (oy (ag 2) iB)) (bE (oy (ag 2) iB)))) iB))))))) (al (bx cv)
   aA)
   aA)
   (al (bM 3 j5.nd (iG (cC gD (cC gD cK))))
   (al (kC GK rfl (jd (ag 0)) (fun _=>(bN 4 j5.nd)) (fun _=>(al (bJ (SW.toQ (cw (eT (dU (bE (gE "tuple" "tuple" rfl (qr _) (by rfl) T.b_isinstance (by rfl) T.b_tuple (ag 4))))) (cw (du hu64 (bE (fN (by rfl) T.b_len (bA (ag 4) bB))) iB) (cw (eT (dU (bE (bv c__law_is_fraction (ar (xB hu1 (ag 4) iB) br))))) (iE (rN (xB hu1 (xB hu1 (ag 4) iB) iB) iB)))))) (al (bx cv)
   aA)
   aA)
   (al (bJ (eT (dU (bE (bv c__law_is_dealing (ar (xB hu1 (ag 4) iB) (ar (ag 2) (ar (ag 2) br))))))) (al (bx cv)
   aA)
   aA)
   (al (bM 3 j5.nd (bv c__law_plus (ar (ag 3) (ar (xB hu1 (ag 4) iB) br))))
   aA)))))
   (al (bJ (du hu64 (bE (Fi rfl hu64 (by rfl) T.b_len (by rfl) T.b_set (bA (SO.toB (h9 (X:=(bb bH P w K mg base nV "_law_parts_well" (aB ls) f cdv A outer s H E).nox) (N':=["_law_part","_law_got"]) (nl:=2) (cap:=[]) j5.nd rfl (fU (osc:=(aB ls)) (ON:=nV) rfl rfl (by decide+kernel)) (jd (ag 0)) (fun _ _ _ _ _ _=>(i8 rfl (eI (bN 0 (show Hj (["_law_part","_law_got"]:List Str)by decide+kernel)) (eI (bN 1 (show Hj (["_law_part","_law_got"]:List Str)by decide+kernel)) i7)))) (kt (gN (dJ (by decide)) (gN (dJ (by decide)) kQ))) (fun _ _ _ _ _ _=>ia) (fun _ _ _ _ _ _=>(v_ 1)))) bB))) (bE (fN (by rfl) T.b_len (bA (ag 0) bB)))) (al (bx cv)
   aA)
   aA)
   (al (bx (oE (fY hu64 (ag 3) (bE (iG (cC gD (cC gD cK))))) (ou (fY hu64 (bE (bv c__law_mixed (ar (ag 0) (ar (ag 2) br)))) (ag 1)))))
   aA))))))
abbrev kT:Stmt:=top 17
abbrev nF:List Str:=["parts","hand","thing"]
abbrev qI:List Str:=["parts","hand","thing"]
theorem ya:FnScope nF qI (aB kT):=ce
def qF:FS:=(aa (av fh (aG (ah (cU 2 [2,1] (aR bR (gv 0)) (dP (bQ (aI 0) (bQ (aI 1) dG))) (a9 (f2 (f2 (gv 1) (gv 3) az) (gv 2) eqD)) (gv 0)) ae) [] jg)) ay)
def kW:List D->Res D:=fun ds=>aH false (qF (aT nF.length ds))
theorem BW(T:Txt K mg)(A:DefAt K mg "share_in" kT)(c_total:Callee P w K mg base "total" mP [] 4 false [Md.bw] jg):Callee P w K mg base "share_in" qI [] 5 false fh kW:=
 cn (m':=fh) A ya fun f cdv A outer s H g E hr hu1=>have hu64:=hr.units;(al (bx (bv c_total (ar (SO.toB (h9 (X:=(bb bH P w K mg base nF "share_in" (aB kT) f cdv A outer s H E).nox) (N':=["part","dealing","thing","hand"]) (nl:=2) (cap:=[2,1]) ya.nd rfl (fU (osc:=(aB kT)) (ON:=nF) rfl rfl (by decide+kernel)) (jd (ag 0)) (fun _ _ _ _ _ _=>(i8 rfl (eI (bN 0 (show Hj (["part","dealing","thing","hand"]:List Str)by decide+kernel)) (eI (bN 1 (show Hj (["part","dealing","thing","hand"]:List Str)by decide+kernel)) i7)))) (kt (gN (dJ (by decide)) (gN (dJ (by decide)) kQ))) (fun _ _ _ _ _ _=>(uZ (e8 hu64 (xB hu1 (ag 1) (ag 3)) (ag 2)))) (fun _ _ _ _ _ _=>(v_ 0)))) br)))
   aA)
abbrev kG:Stmt:=top 18
abbrev mO:List Str:=["parts","many","table","hand"]
abbrev pb:List Str:=["parts"]
theorem kS:FnScope mO pb (aB kG):=ce
abbrev xr:FS:=(aa (bW "list" ip 2 (ah (fC (ah (cU 1 [0,3] (bn bc (ah (gv 1) ae)) (aI 0) (fun _=>Res.ok true) (aG (ah (gv 1) (ah (gv 2) (ah (gv 0) ae))) [] kW)) ae) tupD) ae) appD) ay)
def o6:FS:=(aa (ao bK 1 (fC (ah (f2 (f2 (gv 0) (ci 0) az) (ci 1) az) ae) lenD)) (aa (ao bK 2 (gp ae)) (aa (cM ip (bn bc (ah (gv 1) ae)) (aI 3) xr) (aa (av ip (fC (ah (gv 2) ae) tupD)) ay))))
def mN:List D->Res D:=fun ds=>aH false (o6 (aT mO.length ds))
theorem zw(T:Txt K mg)(A:DefAt K mg "mixed" kG)(c_share_in:Callee P w K mg base "share_in" qI [] 5 false fh kW):Callee P w K mg base "mixed" pb [] 6 false [Md.bw] mN:=
 cn (m':=ip) A kS fun f cdv A outer s H g E hr hu1=>(al (bM 1 kS.nd (fN (by rfl) T.b_len (bA (xB hu1 (xB hu1 (ag 0) iB) iB) bB)))
   (al (gL 2 kS.nd (by rfl) (eO rfl) (i5 cK))
   (al (jP GK rfl (fR (by rfl) T.b_range (bA (ag 1) bB)) (bN 3 kS.nd) (al (i6 2 rfl G6 Hm Hn jn jR (by rfl) (dN rfl) (cC (iN (by rfl) T.b_tuple (bA (SO.toB (h9 (X:=(bb bH P w K mg base mO "mixed" (aB kG) f cdv A outer s H E).nox) (N':=["thing","parts","hand"]) (nl:=1) (cap:=[0,3]) kS.nd rfl (fU (osc:=(aB kG)) (ON:=mO) rfl rfl (by decide+kernel)) (c9.toC (fR (by rfl) T.b_range (bA (ag 1) bB))) (fun _ _ _ _ _ _=>(bN 0 (show Hj (["thing","parts","hand"]:List Str)by decide+kernel))) (dJ (by decide)) (fun _ _ _ _ _ _=>ia) (fun _ _ _ _ _ _=>(bv c_share_in (ar (ag 1) (ar (ag 2) (ar (ag 0) br))))))) bB)) cK))
   aA))
   (al (bx (iN (by rfl) T.b_tuple (bA (ag 2) bB)))
   aA))))
abbrev oG:Stmt:=top 35
abbrev sv:List Str:=["_law_script","_law_n","_law_table_here","_law_parts_here","_law_kept"]
abbrev sw:List Str:=["_law_script"]
theorem kD:FnScope sv sw (aB oG):=ce
def ma:FS:=(aa (ao f8 1 (f2 (ci 1) (f2 (aG (ah (gv 0) (ah (ci 1) ae)) [] dL) (ci 7) aO) addA)) (aa (ao f8 2 (aG (ah (gv 0) (ah (gv 1) ae)) [] ni)) (aa (ao f8 3 (gm (aG (ah (gv 2) ae) [] kO))) (aa (cF fg (dQ (bG (bg (aG (ah (gv 3) (ah (gv 2) ae)) [] nU))) (a9 (f2 (aG (ah (gv 3) ae) [] mN) (gv 2) neD))) (aa (av fg (fun _=>Res.ok (D.bl false))) ay) ay) (aa (ao fg 4 (fC (ah (gv 3) ae) jM)) (aa (bW "list" fg 3 ae clrD) (aa (av fg (f2 (aG (ah (gv 2) ae) [] kO) (gv 4) eqD)) ay)))))))
def n8:List D->Res D:=fun ds=>aH false (ma (aT sv.length ds))
theorem yX(T:Txt K mg){fa:Addr}{fd:HB}(A:Fun K "law" "law" oG fa fd)(c__law_cell:Callee P w K mg base "_law_cell" ll [] 1 false q0 dL)(c__law_table:Callee P w K mg base "_law_table" qP [] 5 false cZ ni)(c_parted:Callee P w K mg base "parted" pT [] 12 true [Md.sh] kO)(c_mixed:Callee P w K mg base "mixed" pb [] 6 false [Md.bw] mN)(c__law_parts_well:Callee P w K mg base "_law_parts_well" qT [] 5 false q0 nU):FnOk P w K mg base bH 13 fa fd sw (fI K false [Md.sh] n8):=by
 refine tF (k:=12) (fs:=ma) (m':=fg) A kD rfl fun cdv A outer s H g E hr=>?_;have hu1:=oi hr;have hu64:=hr.units;exact(al (bM 1 kD.nd (dX iB (bE (eU (bE (bv c__law_cell (ar (ag 0) (ar iB br)))) iB))))
   (al (bM 2 kD.nd (bv c__law_table (ar (ag 0) (bf (v_ 1) br))))
   (al (gL 3 kD.nd (by rfl) (eO rfl) (Cm (dds:=[]) c_parted (hr.mono (by decide)) (bf (v_ 2) br)))
   (al (bJ (SW.toQ (cw (eT (dU (bE (bv c__law_parts_well (ar (ag 3) (ar (ag 2) br)))))) (iE (du hu64 (bE (bv c_mixed (ar (ag 3) br))) (ag 2))))) (al (bx cv)
   aA)
   aA)
   (al (bM 4 kD.nd (SO.toE (BG (by rfl) T.b_list (bA (ag 3) bB))))
   (al (A7 3 rfl G6 PySem.F.slot_list_clear PySem.F.type_list_clear Dj AU (by rfl) (dN rfl))
   (al (bx (fY hu64 (bE (Ch (dds:=[]) c_parted (hr.mono (by decide)) (bf (v_ 2) br))) (ag 4)))
   aA)))))))
end Law
namespace Law
open PySem L2 DL
abbrev nD(k:Nat):D:=.int (k:Int)
abbrev LN(l:List Nat):D:=.lst (l.map nD)
abbrev TN(l:List Nat):D:=.tup (l.map nD)
theorem d5{ds:List D}(h:ds.length<=1000):sz ds=some ds:=zk (GY h (by rw[HA];decide))
@[simp] theorem addA_int(a b:Int):addA (.int a) (.int b)=some (.int (a+b)):=rfl
theorem mJ{a b:Int}(h:eG a b):bd (.int a) (.int b)=some (.int (a*b)):=by rw[bd,intsC_int,if_pos h]
theorem pF{a b:Int}(h:0<b):aO (.int a) (.int b)=some (.int (a%b)):=by rw[aO,intsC_int,if_pos h]
theorem C5{a b:Int}(h:fH a b):gA (.int a) (.int b)=some (.int (a/b)):=by rw[gA,intsC_int,if_pos h]
theorem aw{s1 s2:FS}{r r':af}(h:s1 r=.nx r'):aa s1 s2 r=s2 r':=by unfold aa;rw[h]
theorem bZ{s1 s2:FS}{r:af}{d:D}(h:s1 r=.rt d):aa s1 s2 r=.rt d:=by unfold aa;rw[h]
theorem bh{m:List Md}{i:Nat}{f:FE}{r:af}{d:D}(h:f r=.ok d):ao m i f r=.nx (r.set i (some d)):=by unfold ao;rw[h];rfl
theorem ck{m:List Md}{f:FE}{r:af}{d:D}(h:f r=.ok d):av m f r=.rt d:=by unfold av;rw[h];rfl
theorem sK{m:List Md}{p:FQ}{s1 s2:FS}{r:af}{b:Bool}(h:p r=.ok b):cF m p s1 s2 r=if b=true then s1 r else s2 r:=by unfold cF;rw[h];rfl
theorem gr{m:List Md}{p:FQ}{s1 s2:FS}{r:af}(h:p r=.ok true):cF m p s1 s2 r=s1 r:=by rw[sK h,if_pos rfl]
theorem bL{m:List Md}{p:FQ}{s1 s2:FS}{r:af}(h:p r=.ok false):cF m p s1 s2 r=s2 r:=by rw[sK h,if_neg j_]
theorem z8{p:FQ}{f f':FE}{r:af}(h:p r=.ok true):iU p f f' r=f r:=by unfold iU;rw[h];rfl
theorem z7{p:FQ}{f f':FE}{r:af}(h:p r=.ok false):iU p f f' r=f' r:=by unfold iU;rw[h];rfl
theorem iI{fl:af->Res (List D)}{r:af}{ds:List D}(h:fl r=.ok ds)(hl:ds.length<=1000):fm fl r=.ok (.tup ds):=by unfold fm;rw[h,bind_ok,d5 hl];rfl
theorem jf{fl:af->Res (List D)}{r:af}{ds:List D}(h:fl r=.ok ds)(hl:ds.length<=1000):gp fl r=.ok (.lst ds):=by unfold gp;rw[h,bind_ok,d5 hl];rfl
theorem jU{ds:List D}{d:D}(h:ds.length<=1000):appD (.lst ds) [d]=some (.lst (ds++[d])):=by show(if ds.length<sizeLine then some (D.lst (ds++[d]))else none)=_;rw[if_pos (by rw[HA];omega)]
theorem bq{fl:af->Res (List D)}{dds zs:List D}{F:List D->Res D}{r:af}{d:D}(h1:fl r=.ok zs)(h2:F (zs++dds)=.ok d):aG fl dds F r=.ok d:=by unfold aG;rw[h1,bind_ok,h2];rfl
theorem hU{f:FE}{k:D->Option D}{r:af}{a d:D}(h1:f r=.ok a)(h2:k a=some d):f1 f k r=.ok d:=by unfold f1;rw[h1,bind_ok,h2];rfl
theorem am{f f':FE}{k:D->D->Option D}{r:af}{a b d:D}(h1:f r=.ok a)(h2:f' r=.ok b)(h3:k a b=some d):f2 f f' k r=.ok d:=by unfold f2;rw[h1,bind_ok,h2,bind_ok,h3];rfl
theorem cG{fl:af->Res (List D)}{k:List D->Option D}{r:af}{ds:List D}{d:D}(h1:fl r=.ok ds)(h2:k ds=some d):fC fl k r=.ok d:=by unfold fC;rw[h1,bind_ok,h2];rfl
theorem ak{f:FE}{fl:af->Res (List D)}{r:af}{d:D}{ds:List D}(h1:f r=.ok d)(h2:fl r=.ok ds):ah f fl r=.ok (d::ds):=by unfold ah;rw[h1,bind_ok,h2];rfl
theorem au{r:af}:ae r=.ok []:=rfl
theorem bT{f:FE}{r:af}{b:Bool}(h:f r=.ok (.bl b)):a9 f r=.ok b:=by unfold a9;rw[h];rfl
theorem dM{f:FE}{r:af}{d:D}{b:Bool}(h:f r=.ok d)(h2:e7 d=some b):bg f r=.ok b:=by unfold bg;rw[h,bind_ok,h2];rfl
theorem eV{p:FQ}{r:af}{b:Bool}(h:p r=.ok b):bG p r=.ok (! b):=by unfold bG;rw[h];rfl
theorem y7{p q:FQ}{r:af}(h:p r=.ok true):dy p q r=q r:=by unfold dy;rw[h];rfl
theorem yZ{p q:FQ}{r:af}(h:p r=.ok false):dy p q r=.ok false:=by unfold dy;rw[h];rfl
theorem cy{p q:FQ}{r:af}(h:p r=.ok false):dQ p q r=q r:=by unfold dQ;rw[h];rfl
theorem uT{f f':FE}{r:af}(h:f r=.ok (.bl true)):d4 f f' r=f' r:=by unfold d4;rw[h];rfl
theorem eL{m:List Md}{fi:FI}{ft:FT}{b:FS}{r:af}{ds:List D}(h:fi r=.ok ds):cM m fi ft b r=aF ft b ds r:=by unfold cM;rw[h];rfl
theorem ib{f:FE}{r:af}{d:D}{ds:List D}(h:f r=.ok d)(h2:bR d=some ds):aR bR f r=.ok ds:=by unfold aR;rw[h,bind_ok,h2];rfl
theorem eJ{ft:FT}{b:FS}{r:af}:aF ft b [] r=.nx r:=by unfold aF;rfl
theorem dZ{ft:FT}{b:FS}{r r1 r':af}{d:D}{ds:List D}(h1:ft d r=some r1)(h2:b r1=.nx r'):aF ft b (d::ds) r=aF ft b ds r':=by
 conv=>lhs;unfold aF
 simp only[h1,h2]
theorem wG{m:List Md}{p:FQ}{b:FS}{n:Nat}{r:af}(h:p r=.ok false):cX m p b (n+1) r=.nx r:=by unfold cX;rw[h];rfl
theorem wH{m:List Md}{p:FQ}{b:FS}{n:Nat}{r r':af}(h:p r=.ok true)(h2:b r=.nx r'):cX m p b (n+1) r=cX m p b n r':=by
 conv=>lhs;unfold cX
 rw[h,onE_ok,if_pos rfl,h2]
theorem iJ{T:String}{m:List Md}{i:Nat}{fl:af->Res (List D)}{mk:D->List D->Option D}{r:af}{d d':D}{ds:List D}(h1:r[i]? = some (some d))(h2:nW T d=true)(h3:fl r=.ok ds)(h4:mk d ds=some d'):bW T m i fl mk r=.nx (r.set i (some d')):=by unfold bW;rw[h1];simp only[h2,if_true,h3,onE_ok,h4]
theorem uX{m:List Md}{i:Nat}{fk fv:FE}{r:af}{d k v d':D}(h1:r[i]? = some (some d))(h2:fv r=.ok v)(h3:fk r=.ok k)(h4:cH d k v=some d'):DL.putF m i fk fv r=.nx (r.set i (some d')):=by unfold DL.putF;rw[h2,onE_ok];simp only[h1,h3,onE_ok,h4]
theorem vK{fa fb fc:FE}{k k':D->D->Option D}{r:af}{x y w d:D}(h1:fa r=.ok x)(h2:fb r=.ok y)(h3:k x y=some (.bl true))(h4:fc r=.ok w)(h5:k' y w=some d):jb fa fb fc k k' r=.ok d:=by unfold jb;rw[h1,bind_ok,h2,bind_ok,h3,opt_some,bind_ok];show(fc r).bind _=_;rw[h4,bind_ok,h5];rfl
theorem DG{ft:FT}{q:FQ}{fe:FE}{r0:af}:dS ft q fe r0 []=.ok []:=by unfold dS;rfl
theorem xz{ft:FT}{q:FQ}{fe:FE}{r0:af}{α:Type}(e:α->D)(keep:α->Bool)(g:α->D):∀(l:List α),(∀a∈l,∃r1,ft (e a) r0=some r1/\q r1=.ok (keep a)/\(keep a=true->fe r1=.ok (g a)))->dS ft q fe r0 (l.map e)=.ok ((l.filter keep).map g)
|[],_=>DG
|a::l,h=>by
  obtain⟨r1,h1,h2,h3⟩:=h a i_;have ih:=xz (ft:=ft) (q:=q) (fe:=fe) (r0:=r0) e keep g l fun b hb=>h b (g_ _ hb);rw[A_]
  conv=>lhs;unfold dS
  rw[h1,opt_some,bind_ok,h2,bind_ok];cases k:keep a with
 |true=>rw[if_pos rfl,h3 k,bind_ok,ih,bind_ok,Ip,if_pos k];rfl
 |false=>rw[if_neg j_,ih,Ip,if_neg (by rw[k];exact j_)]
theorem ph{nl:Nat}{cap:List Nat}{fi:FI}{ft:FT}{q:FQ}{fe:FE}{r:af}{α:Type}{l:List α}(e:α->D)(keep:α->Bool)(g:α->D)(h1:fi r=.ok (l.map e))(hl:l.length<=1000)(h:∀a∈l,∃r1,ft (e a) (aS nl cap r)=some r1/\q r1=.ok (keep a)/\(keep a=true->fe r1=.ok (g a))):cU nl cap fi ft q fe r=.ok (.lst ((l.filter keep).map g)):=by unfold cU;rw[h1,bind_ok,d5 (by simpa using hl),opt_some,bind_ok,xz e keep g l h,noXL_ok,bind_ok]
theorem zE(k:Nat):gR (.int 0) (nD k)=some (.bl true):=by show some (D.bl (decide ((0:Int)<=(k:Int))))=_;rw[decide_eq_true (IB k)]
theorem n9(a b:Nat):gQ (nD a) (nD b)=some (.bl (decide (a<b))):=by show some (D.bl (decide ((a:Int)<(b:Int))))=_;simp only[Mh]
theorem sI(a b:Nat):kd (nD a) (nD b)=some (.bl (decide (b<a))):=by show some (D.bl (decide ((b:Int)<(a:Int))))=_;simp only[Mh]
theorem iZ(a b:Nat):eqD (nD a) (nD b)=some (.bl (decide (a=b))):=by
 unfold eqD;rw[eqB_int];show some (D.bl ((a:Int)==(b:Int)))=_;have:((a:Int)==(b:Int))=decide (a=b):=by rw[Hf,beq_iff_eq,decide_eq_true_iff];exact JK
 rw[this]
theorem ki(a b:Nat):neD (nD a) (nD b)=some (.bl (! decide (a=b))):=by
 unfold neD;rw[eqB_int];show some (D.bl (!((a:Int)==(b:Int))))=_;have:((a:Int)==(b:Int))=decide (a=b):=by rw[Hf,beq_iff_eq,decide_eq_true_iff];exact JK
 rw[this]
theorem cD{B:FS}{n:Nat}{ds:List D}{d:D}(h:B (aT n ds)=.rt d):aH false (B (aT n ds))=.ok d:=by rw[h];rfl
abbrev kI(k:Nat):ap:=Sum.inl (k:Int)
@[simp] theorem e_seq(s1 s2:FS)(r:af):aa s1 s2 r=(match s1 r with|.nx r'=>s2 r'|o=>o):=rfl
@[simp] theorem e_skip(r:af):ay r=.nx r:=rfl
@[simp] theorem e_set(m:List Md)(i:Nat)(f:FE)(r:af):ao m i f r=dO m r (f r) fun d=>.nx (r.set i (some d)):=rfl
@[simp] theorem e_ret(m:List Md)(f:FE)(r:af):av m f r=dO m r (f r) fun d=>.rt d:=rfl
@[simp] theorem e_if(m:List Md)(p:FQ)(s1 s2:FS)(r:af):cF m p s1 s2 r=dO m r (p r) fun c=>if c=true then s1 r else s2 r:=rfl
@[simp] theorem e_getV(r:af)(i:Nat):cA r i=(match r[i]? with|some (some d)=>.ok d|_=>.stuck):=rfl
@[simp] theorem e_f1(f:FE)(k:D->Option D)(r:af):f1 f k r=(f r).bind fun d=>bz (k d):=rfl
@[simp] theorem e_f2(f f':FE)(k:D->D->Option D)(r:af):f2 f f' k r=(f r).bind fun a=>(f' r).bind fun b=>bz (k a b):=rfl
@[simp] theorem e_fC(fl:af->Res (List D))(k:List D->Option D)(r:af):fC fl k r=(fl r).bind fun ds=>bz (k ds):=rfl
@[simp] theorem e_lN(r:af):ae r=.ok []:=rfl
@[simp] theorem e_lC(f:FE)(fl:af->Res (List D))(r:af):ah f fl r=(f r).bind fun d=>(fl r).bind fun ds=>.ok (d::ds):=rfl
@[simp] theorem e_test(f:FE)(r:af):a9 f r=(f r).bind fun d=>bz (gs d):=rfl
@[simp] theorem e_tru(f:FE)(r:af):bg f r=(f r).bind fun d=>bz (e7 d):=rfl
@[simp] theorem e_not(p:FQ)(r:af):bG p r=(p r).bind fun c=>.ok (! c):=rfl
@[simp] theorem e_and(p q:FQ)(r:af):dy p q r=(p r).bind fun c=>if c=true then q r else .ok false:=rfl
@[simp] theorem e_or(p q:FQ)(r:af):dQ p q r=(p r).bind fun c=>if c=true then .ok true else q r:=rfl
@[simp] theorem e_vand(f f':FE)(r:af):d4 f f' r=(f r).bind fun d=>(bz (gs d)).bind fun c=>if c=true then f' r else .ok (.bl false):=rfl
@[simp] theorem e_vor(f f':FE)(r:af):F7 f f' r=(f r).bind fun d=>(bz (gs d)).bind fun c=>if c=true then .ok (.bl true)else f' r:=rfl
@[simp] theorem e_vnot(f:FE)(r:af):jo f r=(f r).bind fun d=>(bz (gs d)).bind fun c=>.ok (.bl (! c)):=rfl
@[simp] theorem e_fIf(p:FQ)(f f':FE)(r:af):iU p f f' r=(p r).bind fun c=>if c=true then f r else f' r:=rfl
@[simp] theorem e_call(fl:af->Res (List D))(dds:List D)(F:List D->Res D)(r:af):aG fl dds F r=(fl r).bind fun ds=>ka (F (ds++dds)):=rfl
@[simp] theorem e_asB(b:Bool):gs (.bl b)=some b:=rfl
@[simp] theorem e_truB(b:Bool):e7 (.bl b)=some b:=rfl
@[simp] theorem e_truL(ds:List D):e7 (.lst ds)=some (! ds.isEmpty):=rfl
@[simp] theorem e_loop(m:List Md)(fi:FI)(ft:FT)(b:FS)(r:af):cM m fi ft b r=dO m r (fi r) fun ds=>aF ft b ds r:=rfl
@[simp] theorem e_fSeq(k:D->Option (List D))(f:FE)(r:af):aR k f r=(f r).bind fun d=>bz (k d):=rfl
@[simp] theorem e_asL(ds:List D):bR (.lst ds)=some ds:=rfl
@[simp] theorem e_asT(ds:List D):bR (.tup ds)=some ds:=rfl
@[simp] theorem e_mkT(fl:af->Res (List D))(r:af):fm fl r=(fl r).bind fun ds=>(bz (sz ds)).bind fun ds=>.ok (.tup ds):=rfl
@[simp] theorem e_mkL(fl:af->Res (List D))(r:af):gp fl r=(fl r).bind fun ds=>(bz (sz ds)).bind fun ds=>.ok (.lst ds):=rfl
@[simp] theorem e_sz0:sz []=some []:=d5 (by simp)
@[simp] theorem e_sz1(a:D):sz [a]=some [a]:=d5 (by simp)
@[simp] theorem e_sz2(a b:D):sz [a,b]=some [a,b]:=d5 (by simp)
@[simp] theorem e_sz3(a b c:D):sz [a,b,c]=some [a,b,c]:=d5 (by simp)
@[simp] theorem e_lenL(ds:List D):lenD [.lst ds]=some (.int ds.length):=rfl
@[simp] theorem e_lenT(ds:List D):lenD [.tup ds]=some (.int ds.length):=rfl
@[simp] theorem e_lenK(ds:List (ap×D)):lenD [.dic ds]=some (.int ds.length):=rfl
@[simp] theorem e_tupL(ds:List D):tupD [.lst ds]=some (.tup ds):=rfl
@[simp] theorem e_listL(ds:List D):jM [.lst ds]=some (.lst ds):=rfl
@[simp] theorem e_listT(ds:List D):jM [.tup ds]=some (.lst ds):=rfl
@[simp] theorem e_isNN:yI .non .non=some (.bl true):=rfl
@[simp] theorem e_isLN(ds:List D):yI (.lst ds) .non=some (.bl false):=rfl
@[simp] theorem e_isn1:jw .non .non=some (.bl false):=rfl
@[simp] theorem e_isn2(i:Int):jw (.int i) .non=some (.bl true):=rfl
@[simp] theorem e_isn3(ds:List D):jw (.tup ds) .non=some (.bl true):=rfl
@[simp] theorem e_valsD(kvs:List (ap×D)):zt (.dic kvs)=some (.lst (kvs.map (·.2))):=rfl
theorem jJ{ds:List D}{i:Nat}{d:D}(h:ds[i]? = some d):az (.tup ds) (nD i)=some d:=by have hl:i<ds.length:=(h_.mp h).1;show dR ds (i:Int)=some d;unfold dR fq;rw[if_pos (IB i),if_pos (by omega)];simpa using h
theorem jI{ds:List D}{i:Nat}{d:D}(h:ds[i]? = some d):az (.lst ds) (nD i)=some d:=by have hl:i<ds.length:=(h_.mp h).1;show dR ds (i:Int)=some d;unfold dR fq;rw[if_pos (IB i),if_pos (by omega)];simpa using h
@[simp] theorem ixA_L0(d:D)(ds:List D):az (.lst (d::ds)) (.int 0)=some d:=jI (i:=0) rfl
@[simp] theorem ixA_T0(d:D)(ds:List D):az (.tup (d::ds)) (.int 0)=some d:=jJ (i:=0) rfl
theorem sL{kvs:List (ap×D)}{k:Nat}{d:D}(h:aY kvs (kI k)=some d):az (.dic kvs) (nD k)=some d:=h
theorem wU{α:Type}(f:α->D)(l:List α):lenD [.tup (l.map f)]=some (nD l.length):=by show some (D.int ((l.map f).length:Int))=_;rw[t_]
theorem qd{α:Type}(f:α->D)(l:List α):lenD [.lst (l.map f)]=some (nD l.length):=by show some (D.int ((l.map f).length:Int))=_;rw[t_]
theorem Dc{α:Type}(f:α->ap×D)(l:List α):lenD [.dic (l.map f)]=some (nD l.length):=by show some (D.int ((l.map f).length:Int))=_;rw[t_]
theorem wR(n:Nat):eqD (nD n) (nD n)=some (.bl true):=by have e:=iZ n n;rw[decide_eq_true rfl]at e;exact e
theorem AZ(n:Nat):dq 0 n=(f_ n).map nD:=by unfold dq;refine HL fun i _=>?_;show D.int (0+(i:Int))=D.int (i:Int);rw[Int.zero_add]
theorem C0(j:Int):bc [.int j]=if-(2^62)<=j/\j<2^62 then some (dq 0 j.toNat)else none:=rfl
theorem fP{n:Nat}(h:n<=1000):bc [nD n]=some ((f_ n).map nD):=by rw[C0,if_pos ⟨by omega,by omega⟩,Kl,AZ]
theorem fT{fl:af->Res (List D)}{k:List D->Option (List D)}{r:af}{ds es:List D}(h1:fl r=.ok ds)(h2:k ds=some es):bn k fl r=.ok es:=by unfold bn;rw[h1,bind_ok,h2];rfl
def own(oz:List (Option Nat))(h:Nat):Option Nat:=(oz[h]?).join
abbrev KD(kvs:List (Nat×Nat)):D:=.dic (kvs.map fun p=>(kI p.1,nD p.2))
theorem mw{a b:Nat}(h:kI a=kI b):a=b:=JK.mp (NX h)
theorem qp:∀{kvs:List (Nat×Nat)}{h:Nat}{f:Nat->Nat},(∀p∈kvs,p.2=f p.1)->h∈kvs.map (·.1)->aY (kvs.map fun p=>(kI p.1,nD p.2)) (kI h)=some (nD (f h))
|[],_,_,_,hh=>by cases hh
|p::kvs,h,f,hf,hh=>by
  by_cases e:p.1=h
  .have:=hf p i_;subst e;simp[aY,GW,this]
  .have hne:¬ kI p.1=kI h:=fun z=>e (mw z);have hh':h∈kvs.map (·.1):=by
    rcases n_.mp hh with z|z
    .exact absurd z.symm e
    .exact z
   have ih:=qp (f:=f) (fun q hq=>hf q (g_ _ hq)) hh';have e1:aY ((p::kvs).map fun p=>(kI p.1,nD p.2)) (kI h)=aY (kvs.map fun p=>(kI p.1,nD p.2)) (kI h):=by simp only[aY,A_,GW];rw[decide_eq_false hne]
   rw[e1];exact ih
def putN(kvs:List (Nat×Nat))(k v:Nat):List (Nat×Nat):=if k∈kvs.map (·.1)then kvs.map fun p=>if p.1=k then(p.1,v)else p else kvs++[(k,v)]
theorem lQ(kvs:List (Nat×Nat))(k:Nat):((kvs.map fun p=>(kI p.1,nD p.2)).any fun kv=>decide (kv.1=kI k))=decide (k∈kvs.map (·.1)):=by
 rw[L8,Hf,Mv,decide_eq_true_iff,D_];constructor
 .rintro⟨p,h1,h2⟩
  simp only[Il,decide_eq_true_eq]at h2;exact⟨p,h1,mw h2⟩
 .rintro⟨p,h1,rfl⟩
  exact⟨p,h1,by simp⟩
theorem BB(kvs:List (Nat×Nat))(k v:Nat):cQ (kvs.map fun p=>(kI p.1,nD p.2)) (kI k) (nD v)=(putN kvs k v).map fun p=>(kI p.1,nD p.2):=by
 unfold cQ putN;rw[lQ];by_cases h:k∈kvs.map (·.1)
 .rw[decide_eq_true h,if_pos rfl,if_pos h,Hq,Hq];refine HL fun p _=>?_;simp only[Il];by_cases e:p.1=k
  .rw[if_pos (by rw[e]),if_pos e]
  .rw[if_neg (fun z=>e (mw z)),if_neg e]
 .rw[decide_eq_false h,if_neg j_,if_neg h,GM];rfl
theorem Er(kvs:List (Nat×Nat))(k v j:Nat):j∈(putN kvs k v).map (·.1)↔j∈kvs.map (·.1)\/j=k:=by
 unfold putN;by_cases h:k∈kvs.map (·.1)
 .rw[if_pos h,Hq];have:((fun p:Nat×Nat=>p.1)∘fun p=>if p.1=k then(p.1,v)else p)=fun p=>p.1:=by funext p;simp only[Il];split <;> rfl
  rw[this];constructor
  .exact .inl
  .rintro(z|rfl)
   .exact z
   .exact h
 .rw[if_neg h];simp
theorem DR{kvs:List (Nat×Nat)}{k v:Nat}{f:Nat->Nat}(h:∀p∈kvs,p.2=f p.1)(hv:v=f k):∀p∈putN kvs k v,p.2=f p.1:=by
 intro p hp;unfold putN at hp;split at hp
 .obtain⟨q,h1,rfl⟩:=D_.mp hp;split
  .rename_i e;simp only;rw[e];exact hv
  .exact h q h1
 .rcases He.mp hp with z|z
  .exact h p z
  .rw[y_.mp z];exact hv
theorem uM{kvs:List (Nat×Nat)}{k v:Nat}(hl:kvs.length<=1000):cH (KD kvs) (nD k) (nD v)=some (KD (putN kvs k v)):=by show(if (kvs.map fun p=>(kI p.1,nD p.2)).length<sizeLine then some (D.dic (cQ _ (kI k) (nD v)))else none)=_;rw[if_pos (by rw[t_,HA];omega),BB]
structure GI(t:Nat->Nat)(kvs:List (Nat×Nat))(L:List Nat):Prop where
 nd:(kvs.map (·.1)).Nodup
 val:∀p∈kvs,p.2=t p.1
 key:∀h,h∈kvs.map (·.1)↔h∈L
theorem vV{kvs:List (Nat×Nat)}{k v:Nat}(h:(kvs.map (·.1)).Nodup):((putN kvs k v).map (·.1)).Nodup:=by
 unfold putN;split
 .rw[Hq];have:((fun p:Nat×Nat=>p.1)∘fun p=>if p.1=k then(p.1,v)else p)=fun p=>p.1:=by funext p;simp only[Il];split <;> rfl
  rw[this];exact h
 .rename_i hk;rw[GM];refine HJ.mpr ⟨h,by simp,fun a ha b hb=>?_⟩;simp at hb
  rintro rfl
  exact hk (hb▸ha)
theorem GI.put{t:Nat->Nat}{kvs:List (Nat×Nat)}{L:List Nat}(g:GI t kvs L)(k:Nat):GI t (putN kvs k (t k)) (L++[k]):=⟨vV g.nd,DR g.val rfl,fun h=>by rw[Er,g.key];simp⟩
theorem GI.len{t:Nat->Nat}{kvs:List (Nat×Nat)}{L line:List Nat}(g:GI t kvs L)(hs:∀h∈L,h∈line):kvs.length<=line.length:=by have:=Rg.hV (m:=line) g.nd fun h hh=>hs h ((g.key h).mp hh);simpa using this
theorem GI.congr{t t':Nat->Nat}{kvs:List (Nat×Nat)}{L:List Nat}(g:GI t kvs L)(h:∀x∈L,t' x=t x):GI t' kvs L:=⟨g.nd,fun p hp=>by rw[g.val p hp,h p.1 ((g.key _).mp (D_.mpr ⟨p,hp,rfl⟩))],g.key⟩
theorem GI.mem{t:Nat->Nat}{kvs:List (Nat×Nat)}{L M:List Nat}(g:GI t kvs L)(h:∀x,x∈L↔x∈M):GI t kvs M:=⟨g.nd,g.val,fun x=>(g.key x).trans (h x)⟩
theorem GI.nil(t:Nat->Nat):GI t [] []:=⟨by simp,fun _ hp=>(nomatch hp),fun h=>by simp⟩
theorem EI{α:Type}(l:List α):l.filter (fun _=>true)=l:=List.filter_eq_self.mpr fun _ _=>rfl
theorem GI.full{t:Nat->Nat}{kvs:List (Nat×Nat)}{L:List Nat}{n:Nat}(g:GI t kvs L)(h:∀x,x∈L↔x<n):kvs.length=n:=by have h1:=g.len (line:=f_ n) fun x hx=>z_.mpr ((h x).mp hx);have h2:=Rg.hV (l:=f_ n) (m:=kvs.map (·.1)) HQ fun x hx=>(g.key x).mpr ((h x).mpr (z_.mp hx));simp at h1 h2;omega
theorem kz{a b:Nat}(h:0<b):aO (nD a) (nD b)=some (nD (a%b)):=by rw[pF (by omega:(0:Int)<(b:Int))];show some (D.int _)=some (D.int _);rw[Int.natCast_emod]
theorem pr{a b:Nat}(h:0<b)(h2:b<1000):gA (nD a) (nD b)=some (nD (a/b)):=by rw[C5 (⟨by omega,by omega⟩:fH (a:Int) (b:Int))];show some (D.int _)=some (D.int _);rw[KG]
theorem hZ(a b:Nat):addA (nD a) (nD b)=some (nD (a+b)):=by rw[addA_int];show some (D.int _)=some (D.int _);rw[Jj]
section
variable{f f':FE}{r:af}
theorem jH{b:Int}(h:∃i:Int,f r=.ok (.int i))(h':f' r=.ok (.int b))(hb:0<b):∃c:Nat,f2 f f' aO r=.ok (nD c):=by obtain⟨i,hi⟩:=h;refine⟨(i%b).toNat,am hi h' ?_⟩;rw[pF hb];show some (D.int _)=some (D.int _);rw[JX (JU _ (by omega))]
theorem yK(h:∃c:Nat,f r=.ok (nD c)):∃i:Int,f r=.ok (.int i):=let⟨c,e⟩:=h;⟨c,e⟩
theorem ja{b:Int}(h:∃i:Int,f r=.ok (.int i))(h':f' r=.ok (.int b))(hb : -(2^64)<b/\b<2^64):∃i:Int,f2 f f' bd r=.ok (.int i):=by obtain⟨i,hi⟩:=h;exact⟨i*b,am hi h' (mJ (.inr hb))⟩
theorem lZ(h:∃i:Int,f r=.ok (.int i))(h':∃i:Int,f' r=.ok (.int i)):∃i:Int,f2 f f' addA r=.ok (.int i):=by obtain⟨i,hi⟩:=h;obtain⟨j,hj⟩:=h';exact⟨i+j,am hi hj rfl⟩
end
theorem sG{m:List Md}{i:Nat}{f:FE}{s2:FS}{r:af}(h:∃c:Nat,f r=.ok (nD c))(k:∀c:Nat,∃d:Nat,s2 (r.set i (some (nD c)))=.rt (nD d)):∃d:Nat,aa (ao m i f) s2 r=.rt (nD d):=by obtain⟨c,hc⟩:=h;obtain⟨d,hd⟩:=k c;exact⟨d,(aw (bh hc)).trans hd⟩
abbrev IN(ns:List Int):D:=.lst (ns.map .int)
theorem mY(ns:List Int)(k:Nat)(hk:k<=1000):∃c:Nat,dL [IN ns,nD k]=.ok (nD c):=by
 suffices h:∃c:Nat,nA (aT 4 [IN ns,nD k])=.rt (nD c)by obtain⟨c,hc⟩:=h;exact⟨c,cD (B:=nA) (n:=4) hc⟩
 unfold nA;have st:aa (ao cx 2 (ci 0))=aa (ao cx 2 (fun _=>Res.ok (nD 0))):=rfl;rw[st];refine sG ⟨0,rfl⟩ fun c1=>?_;show ∃d:Nat,aa _ _ [some (IN ns),some (nD k),some (nD c1),none]=_;have key:∃c2:Nat,(cF cx (a9 (f2 (gv 1) (fC (ah (gv 0) ae) lenD) gQ)) (aa (ao cx 2 (f2 (f2 (gv 0) (gv 1) az) (f2 (ci 10) (ci 60) gj) aO)) ay) ay) [some (IN ns),some (nD k),some (nD c1),none]=.nx [some (IN ns),some (nD k),some (nD c2),none]:=by
  have t:=bT (am (f:=gv 1) (r:=[some (IN ns),some (nD k),some (nD c1),none]) (a:=nD k) rfl (cG (ak (f:=gv 0) (d:=IN ns) rfl au) (qd _ _)) (n9 k ns.length));by_cases hlt:k<ns.length
  .rw[decide_eq_true hlt]at t;have hx:(ns.map D.int)[k]? = some (.int ns[k]):=by rw[o_,m_ hlt];rfl
   have hp:gj (.int 10) (.int 60)=some (.int (10^60)):=by show gC fG _ _ _=_;rw[intsC_int,if_pos (by unfold fG;decide)];rfl
   obtain⟨c2,h2⟩:=jH (f:=f2 (gv 0) (gv 1) az) (f':=f2 (ci 10) (ci 60) gj) (r:=[some (IN ns),some (nD k),some (nD c1),none]) ⟨ns[k],am (a:=IN ns) (b:=nD k) rfl rfl (jI hx)⟩ (am rfl rfl hp) (by decide);exact⟨c2,(gr t).trans ((aw (bh h2)).trans rfl)⟩
  .rw[decide_eq_false hlt]at t;exact⟨c1,(bL t).trans rfl⟩
 obtain⟨c2,h2⟩:=key;rw[aw h2];have kq:∃b,(dy (a9 (f2 (fC (ah (gv 0) ae) lenD) (ci 0) kd)) (a9 (f2 (f2 (f2 (gv 0) (ci 0) az) (ci 2) aO) (ci 0) eqD))) [some (IN ns),some (nD k),some (nD c2),none]=.ok b:=by have t:=bT (am (f:=fC (ah (gv 0) ae) lenD) (f':=fun _=>Res.ok (D.int 0)) (r:=[some (IN ns),some (nD k),some (nD c2),none]) (b:=nD 0) (cG (ak (d:=IN ns) rfl au) (qd _ _)) rfl (sI ns.length 0));cases ns with
 |nil=>exact⟨false,yZ t⟩
 |cons a ns=>rw[decide_eq_true (by simp)]at t;obtain⟨c3,h3⟩:=jH (f:=f2 (gv 0) (ci 0) az) (f':=fun _=>Res.ok (D.int 2)) (r:=[some (IN (a::ns)),some (nD k),some (nD c2),none]) ⟨a,am (a:=IN (a::ns)) (b:=.int 0) rfl rfl (ixA_L0 _ _)⟩ rfl (by decide);exact⟨_,(y7 t).trans (bT (am h3 (b:=nD 0) rfl (iZ c3 0)))⟩
 obtain⟨b,hb⟩:=kq;cases b with
|true=>exact⟨c2,bZ ((gr hb).trans (bZ (ck (d:=nD c2) rfl)))⟩
|false=>rw[aw ((bL (s2:=ay) hb).trans (e_skip _))];refine sG (jH (ja (yK (jH (ja (lZ (lZ (lZ ⟨(c2:Int),rfl⟩ (ja (b:=(k:Int)) (ja (b:=(k:Int)) ⟨7,rfl⟩ rfl (by omega)) rfl (by omega))) (ja (b:=(k:Int)) ⟨13,rfl⟩ rfl (by omega))) ⟨5,rfl⟩) rfl (by decide)) rfl (by decide))) rfl (by decide)) rfl (by decide)) fun c3=>?_;obtain⟨c4,h4⟩:=jH (f:=(f2 (f2 (f2 (f2 (gv 3) (ci 1) addA) (ci 40692) bd) (ci 2147483629) aO) (ci 39373) bd)) (f':=fun _=>Res.ok (D.int 999999937)) (r:=[some (IN ns),some (nD k),some (nD c2),some (nD c3)]) (ja (yK (jH (ja (lZ ⟨(c3:Int),rfl⟩ ⟨1,rfl⟩) rfl (by decide)) rfl (by decide))) rfl (by decide)) rfl (by decide);exact⟨c4,bZ (ck h4)⟩
theorem C9{row:List Nat}{i:Int}{x:Nat}:bu (row.map nD) i (nD x)=(bu row i x).map nD:=by unfold bu;rw[t_,GM,A_,List.map_take,List.map_drop]
theorem Ew{row:List Nat}{i:Int}{x:Nat}:(bu row i x).Perm (x::row):=by unfold bu;refine List.perm_middle.trans ?_;rw[List.take_append_drop]
theorem xg(m:Nat):∀(j i c:Nat)(row:List Nat)(x:Option D),row.Perm (f_ i)->i+j<=60 ->∃(c':Nat)(row':List Nat)(x':Option D),row'.Perm (f_ (i+j))/\aF (aI 3) yb ((Jp i j).map nD) [some (nD c),some (nD m),some (LN row),x]=.nx [some (nD c'),some (nD m),some (LN row'),x']
|0,i,c,row,x,hp,_=>⟨c,row,x,hp,eJ⟩
|j+1,i,c,row,x,hp,hl=>by
  have hlen:row.length=i:=by rw[hp.length_eq];simp
  obtain⟨c',row',x',h1,h2⟩:=xg m j (i+1) (c/(i+1)) (bu row ((c%(i+1):Nat):Int) i) (some (nD i)) (by refine Ew.trans ?_;rw[IE];exact(List.Perm.cons i hp).trans (List.perm_append_singleton i _).symm) (by omega);refine⟨c',row',x',by rw[show i+(j+1)=i+1+j by omega];exact h1,?_⟩;rw[<-h2];have hmod:c%(i+1)<i+1:=Jm _ (by omega);refine dZ (r1:=[some (nD c),some (nD m),some (LN row),some (nD i)]) rfl ?_;refine(aw (iJ (d:=LN row) (ds:=[nD (c%(i+1)),nD i]) (d':=LN (bu row ((c%(i+1):Nat):Int) i)) rfl rfl (ak (am (a:=nD c) (b:=nD (i+1)) rfl (am (a:=nD i) (b:=nD 1) rfl rfl (hZ i 1)) (kz (by omega))) (ak (d:=nD i) rfl au)) ?_)).trans ?_
  .show(if _ then some (D.lst (bu _ _ _))else none)=_;rw[if_pos ⟨by rw[t_,HA];omega,by omega,by omega⟩,C9]
  .exact aw (bh (d:=nD (c/(i+1))) (am (a:=nD c) (b:=nD (i+1)) rfl (am (a:=nD i) (b:=nD 1) rfl rfl (hZ i 1)) (pr (by omega) (by omega))))
theorem C2(c m:Nat)(hm:m<=60):∃row:List Nat,row.Perm (f_ m)/\nE [nD c,nD m]=.ok (TN row):=by obtain⟨c',row',x',h1,h2⟩:=xg m m 0 c [] none (by simp) (by omega);rw[IW]at h1;rw[<-HE]at h2;refine⟨row',h1,cD (B:=qD) (n:=4) ?_⟩;unfold qD;refine(aw (bh (d:=LN []) (jf au (by simp)))).trans ?_;refine(aw ((eL (ds:=(f_ m).map nD) (fT (ak (d:=nD m) rfl au) (fP (by omega)))).trans h2)).trans ?_;exact bZ (ck (cG (ak (d:=LN row') rfl au) rfl))
end Law
namespace Law
open PySem PyProof.Rows L2 DL
theorem wp(fst:D)(n m:Nat):∀(l:List Nat)(y:Option D),(∀x∈l,x<m) ->∃y',aF (aI 3) yC (l.map nD) [some fst,some (nD n),some (nD m),y]=.nx [some fst,some (nD n),some (nD m),y']
|[],y,_=>⟨y,eJ⟩
|h::l,y,hl=>by
  obtain⟨y',ih⟩:=wp fst n m l (some (nD h)) fun x hx=>hl x (g_ _ hx);refine⟨y',?_⟩;rw[<-ih];have c:decide (h<m)=true:=decide_eq_true (hl h i_);have t3:(a9 (jb (ci 0) (gv 3) (gv 2) gR gQ)) [some fst,some (nD n),some (nD m),some (nD h)]=.ok true:=by rw[<-c];exact bT (vK (y:=nD h) (w:=nD m) rfl rfl (zE h) rfl (n9 h m))
  refine dZ (r1:=[some fst,some (nD n),some (nD m),some (nD h)]) rfl ((aw (bL ?_)).trans rfl);rw[cy (eV (b:=true) (dM (hU (a:=nD h) (d:=.bl true) rfl rfl) rfl)),cy (dM (hU (a:=nD h) (d:=.bl false) rfl rfl) rfl)];exact eV t3
theorem mT:∀l:List Nat,dk (l.map nD)=some (l.map fun k:Nat=>(k:Int))
|[]=>rfl
|k::l=>by show(dk (l.map nD)).map _=_;rw[mT l];rfl
theorem yz:∀(ns acc:List Int),(acc++ns).Nodup->(ns.foldl LQ acc).length=acc.length+ns.length
|[],acc,_=>rfl
|k::ns,acc,h=>by
  have hk:k∉acc:=fun z=>(HJ.mp h).2.2 k z k i_ rfl;have e:LQ acc k=acc++[k]:=by unfold LQ;rw[if_neg (by simpa using hk)]
  rw[Ji,e,yz ns (acc++[k]) (by simpa using h)];simp;omega
theorem FD{l:List Nat}{m:Nat}(hn:l.Nodup)(hm:∀x∈l,x<m)(h8:l.length<=60):nS [TN l,nD l.length,nD m]=.ok (.bl true):=by
 refine cD (B:=rc) (n:=4) ?_;unfold rc;obtain⟨y',hl⟩:=wp (TN l) l.length m l none hm;refine(aw (r':=[some (TN l),some (nD l.length),some (nD m),none]) ((bL ?_).trans rfl)).trans ?_
 .rw[cy (eV (b:=true) (dM (hU (a:=TN l) (d:=.bl true) rfl rfl) rfl))];have e:=ki l.length l.length;rw[decide_eq_true rfl]at e;exact bT (am (a:=nD l.length) (b:=nD l.length) (cG (ak (d:=TN l) rfl au) (wU _ _)) rfl e)
 .refine(aw ((eL (ds:=l.map nD) rfl).trans hl)).trans ?_;refine bZ (ck (am (a:=nD l.length) (b:=nD l.length) (hU (a:=TN l) rfl ?_) rfl (wR _)));show(dk (l.map nD)).bind _=_;rw[mT];show(if _ then some (D.int ((dY (l.map fun k:Nat=>(k:Int))).length:Int))else none)=_;have hnd:(l.map fun k:Nat=>(k:Int)).Nodup:=by rw[List.nodup_iff_pairwise_ne,List.pairwise_map];exact List.Pairwise.imp (fun h z=>h (JK.mp z)) hn
  have e:(dY (l.map fun k:Nat=>(k:Int))).length=l.length:=by have:=yz (l.map fun k:Nat=>(k:Int)) [] (by simpa using hnd);unfold dY;rw[this];simp
  rw[if_pos (by rw[t_];unfold Iq;omega),e]
theorem Ba{ds:List D}{i:Nat}{v:D}(h:i<ds.length):cH (.lst ds) (nD i) v=some (.lst (ds.set i v)):=by show(fq ds.length (i:Int)).map _=_;unfold fq;rw[if_pos (IB i),if_pos (by omega)];simp
theorem ic{nl:Nat}{cap:List Nat}{fi:FI}{ft:FT}{fe:FE}{r:af}{α:Type}{l:List α}(e:α->D)(g:α->D)(h1:fi r=.ok (l.map e))(hl:l.length<=1000)(h:∀a∈l,∃r1,ft (e a) (aS nl cap r)=some r1/\fe r1=.ok (g a)):cU nl cap fi ft (fun _=>Res.ok true) fe r=.ok (.lst (l.map g)):=by
 have:=ph (q:=fun _=>Res.ok true) e (fun _=>true) g h1 hl fun a ha=>by obtain⟨r1,q1,q2⟩:=h a ha;exact⟨r1,q1,rfl,fun _=>q2⟩
 rw[this,EI]
end Law
section
set_option exponentiation.threshold 3000
namespace Law
open PySem PyProof.Rows L2 DL Fq
abbrev FR(x:Int×Nat):D:=.tup [.int x.1,nD x.2]
theorem Cg:jG=2^2000:=rfl
theorem oU{a k:Nat}(h:a<2^k)(hk:k<=2000):a<jG:=by rw[Cg];exact x_ h (IQ (by omega) hk)
theorem fS{a b:Int}{k l:Nat}(h1:a.natAbs<2^k)(h2:b.natAbs<2^l)(hk:k<=2000)(hl:l<=2000):bX (.int a) (.int b)=some (.int (a*b)):=by rw[bX,intsC_int,if_pos ⟨oU h1 hk,oU h2 hl⟩]
theorem mU{a:Int}{b k:Nat}(h0:0<b)(h1:b<2^k)(hk:k<=2000):i3 (.int a) (nD b)=some (.int (a/(b:Int))):=by rw[i3,intsC_int,if_pos ⟨by omega,by rw[Gx];exact oU h1 hk⟩]
theorem sC(b:Nat):neD (nD b) (.int 0)=some (.bl (! decide (b=0))):=ki b 0
theorem C7{m:List Md}:∀(k n:Nat)(a:Int)(b:Nat)(x:Option D),b<2^k->2*k+1<=n ->∃(a':Int)(y:Option D),cX m lq lv n [some (.int a),some (nD b),x]=.nx [some (.int a'),some (nD 0),y]/\a'.natAbs=Ho a b:=by
 have z0:∀(n:Nat)(a:Int)(x:Option D),1<=n->∃(a':Int)(y:Option D),cX m lq lv n [some (.int a),some (nD 0),x]=.nx [some (.int a'),some (nD 0),y]/\a'.natAbs=Ho a 0:=by
  intro n a x hn;obtain⟨n,rfl⟩:∃k,n=k+1:=⟨n-1,by omega⟩
  exact⟨a,x,wG (bT (am (a:=nD 0) (b:=.int 0) rfl rfl (sC 0))),by simp⟩
 have st:∀(n:Nat)(a:Int)(b:Nat)(x:Option D),0<b->cX m lq lv (n+1) [some (.int a),some (nD b),x]=cX m lq lv n [some (nD b),some (nD (a%(b:Int)).toNat),some (nD (a%(b:Int)).toNat)]:=by
  intro n a b x hb;have hne:=sC b;rw[decide_eq_false (by omega)]at hne;refine wH (bT (am (a:=nD b) (b:=.int 0) rfl rfl hne)) ?_;refine(aw (bh (d:=nD (a%(b:Int)).toNat) (am (a:=.int a) (b:=nD b) rfl rfl ?_))).trans ?_
  .rw[pF (by omega)];show some (D.int _)=some (D.int _);rw[JX (JU _ (by omega))]
  refine(aw (bh (d:=nD b) rfl)).trans ?_;exact aw (bh (d:=nD (a%(b:Int)).toNat) rfl)
 have hr:∀(a:Int)(b:Nat),0<b->(((a%(b:Int)).toNat:Nat):Int)=a%(b:Int)/\(a%(b:Int)).toNat<b:=by intro a b hb;have h1:=JU a (show(b:Int)≠0 by omega);have h2:=LR a (show(0:Int)<b by omega);exact⟨JX h1,by omega⟩
 intro k
 induction k with
|zero=>
  intro n a b x hb hn;have:b=0:=by have:(2:Nat)^0=1:=rfl;omega
  subst this;exact z0 n a x (by omega)
|succ k ih=>
  intro n a b x hb hn;by_cases h0:b=0
  .subst h0;exact z0 n a x (by omega)
  .have hbp:0<b:=by omega
   obtain⟨n,rfl⟩:∃j,n=j+2:=⟨n-2,by omega⟩
   obtain⟨r1,r2⟩:=hr a b hbp;have e1:=st (n+1) a b x hbp;generalize(a%(b:Int)).toNat=r at r1 r2 e1;rw[e1,wS a b,<-r1];by_cases hz:r=0
   .subst hz;exact z0 (n+1) b _ (by omega)
   .obtain⟨s1,s2⟩:=hr (b:Int) r (by omega);have e2:=st n (b:Int) r (some (nD r)) (by omega);have hs:((b:Int)%(r:Int)).toNat=b%r:=by omega
    rw[hs]at s1 s2 e2;rw[e2,wS (b:Int) r,<-s1];refine ih n (r:Int) (b%r) _ ?_ (by omega);have h3:b%r<r:=Jm _ (by omega);have h4:b%r<=b-r:=by have:=Nat.mod_eq_sub_mod (show r<=b by omega);rw[this];exact Nat.mod_le _ _
    rw[J3]at hb;omega
theorem qA{a:Int}{b k:Nat}(hb:b<2^k)(hk:k<=499):j6 [.int a,nD b]=.ok (nD (Ho a b)):=by obtain⟨a',y,h1,h2⟩:=C7 (m:=aW) k 1000 a b none hb (by omega);refine cD (B:=qR) (n:=3) ?_;unfold qR;refine(aw h1).trans (bZ (ck (cG (ak (d:=.int a') rfl au) ?_)));show some (D.int (if a'<0 then-a' else a'))=some (D.int _);rw[<-h2];split <;> congr 2 <;> omega
theorem wK{t:Int}{b k:Nat}(h0:0<b)(hb:b<2^k)(hk:k<=499):j3 [.int t,nD b]=.ok (FR (low t b)):=by
 refine cD (B:=qC) (n:=3) ?_;unfold qC;have hg:=mQ t h0;have hgb:Ho t b<2^k:=by have h1:Ho t b∣b:=Jo.mp (HI t b);have:=LG h0 h1;omega
 refine(aw (bh (bq (ak (d:=.int t) rfl (ak (d:=nD b) rfl au)) (qA hb hk)))).trans ?_;refine bZ (ck (iI (ak (am (a:=.int t) (b:=nD (Ho t b)) rfl rfl (mU hg hgb (by omega))) (ak (am (a:=nD b) (b:=nD (Ho t b)) rfl rfl (mU hg hgb (by omega))) au)) (by simp)))
theorem gG(x:Int×Nat):az (FR x) (.int 0)=some (.int x.1):=rfl
theorem gH(x:Int×Nat):az (FR x) (.int 1)=some (nD x.2):=jJ (i:=1) rfl
section
variable{k l:Nat}{a b:Int×Nat}
theorem Fd(ha:Bd k a)(hb:Bd l b)(hl:k+l<=498):jl [FR a,FR b]=.ok (FR (jN a b)):=by
 refine cD (B:=qv) (n:=2) ?_;unfold qv;have i0:=gG a;have i1:=gH a;have j0:=gG b;have j1:=gH b;refine bZ (ck (bq (ak (am (am (am (a:=FR a) rfl rfl i0) (am (a:=FR b) rfl rfl j1) (fS ha.top (by rw[Gx];exact hb.bot) (by omega) (by omega))) (am (am (a:=FR b) rfl rfl j0) (am (a:=FR a) rfl rfl i1) (fS hb.top (by rw[Gx];exact ha.bot) (by omega) (by omega))) rfl)
  (ak (d:=nD (a.2*b.2)) (am (am (a:=FR a) rfl rfl i1) (am (a:=FR b) rfl rfl j1) ?_) au)) ?_))
 .rw[fS (k:=k) (l:=l) (by rw[Gx];exact ha.bot) (by rw[Gx];exact hb.bot) (by omega) (by omega)];show some (D.int _)=some (D.int _);rw[GQ]
 .exact wK (jj ha hb).1 (jj ha hb).2 (by omega)
theorem DV(ha:Bd k a)(hc:Ho a.1 (a.2:Nat)=1)(hk:k<=499):nP [FR a]=.ok (.bl true):=by
 refine cD (B:=qU) (n:=2) ?_;unfold qU;refine(aw ((bL ?_).trans (e_skip _))).trans ?_
 .rw[cy (eV (b:=true) (dM (hU (a:=FR a) (d:=.bl true) rfl rfl) rfl))];exact bT (am (a:=nD 2) (b:=nD 2) (cG (ak (d:=FR a) rfl au) rfl) rfl (ki 2 2))
 have stp:∀(i:Int),yB [some (FR a),some (.int i)]=.nx [some (FR a),some (.int i)]:=by intro i;refine aw ((bL ?_).trans (e_skip _));rw[cy (eV (b:=true) (dM (hU (a:=.int i) (d:=.bl true) rfl rfl) rfl))];exact dM (hU (a:=.int i) (d:=.bl false) rfl rfl) rfl
 refine(aw ((eL (ib (d:=FR a) rfl rfl)).trans ((dZ (r1:=[some (FR a),some (.int a.1)]) rfl (stp a.1)).trans ((dZ (r1:=[some (FR a),some (nD a.2)]) rfl (stp a.2)).trans eJ)))).trans ?_;have hp:=ha.pos;have hg:=sI a.2 0;rw[decide_eq_true hp]at hg;refine bZ (ck ?_);rw[uT (am (am (a:=FR a) rfl rfl (gH a)) (b:=nD 0) rfl hg)];refine am (a:=nD 1) (b:=nD 1) (bq (ak (am (a:=FR a) rfl rfl (gG a)) (ak (am (a:=FR a) rfl rfl (gH a)) au)) ?_) rfl (wR 1);have:=qA (a:=a.1) ha.bot hk;rw[hc]at this;exact this
end
theorem C1{B:FS}{n:Nat}{ds:List D}{d:D}(h:B (aT n ds)=.rt d):aH true (B (aT n ds))=.ok d:=by rw[h];rfl
theorem wt{fa fb:FE}{r:af}{d e:D}{ds es:List D}(h1:fa r=.ok d)(h2:fb r=.ok e)(h3:bR d=some ds)(h4:bR e=some es):fu fa fb r=.ok (Jt (fun a b=>D.tup [a,b]) ds es):=by unfold fu;rw[h1,bind_ok,h2,bind_ok,h3,opt_some,bind_ok,h4,opt_some,bind_ok]
theorem xZ(i:Int):kU [.int i]=.ok (.bl true):=rfl
theorem A3{a:Int}{b k:Nat}(hb:b<2^k)(hk:k<=499):nQ [.int a,nD b]=.ok (nD (Ho a b)):=qA hb hk
theorem yc{t:Int}{b k:Nat}(h0:0<b)(hb:b<2^k)(hk:k<=499):j4 [.int t,nD b]=.ok (FR (low t b)):=by
 refine cD (B:=qE) (n:=3) ?_;unfold qE;have hg:=mQ t h0;have hgb:Ho t b<2^k:=by have h1:Ho t b∣b:=Jo.mp (HI t b);have:=LG h0 h1;omega
 refine(aw ((bL ?_).trans (e_skip _))).trans ?_
 .rw[cy (eV (b:=true) (dM (bq (ak (d:=.int t) rfl au) (xZ t)) rfl)),cy (eV (b:=true) (dM (bq (ak (d:=nD b) rfl au) (xZ b)) rfl))];have:=iZ b 0;rw[decide_eq_false (by omega)]at this;exact bT (am (a:=nD b) (b:=nD 0) rfl rfl this)
 refine(aw (bh (bq (ak (d:=.int t) rfl (ak (d:=nD b) rfl au)) (A3 hb hk)))).trans ?_;refine(aw ((bL ?_).trans (e_skip _))).trans ?_
 .have:=n9 b 0;rw[decide_eq_false (by omega)]at this;exact bT (am (a:=nD b) (b:=nD 0) rfl rfl this)
 refine bZ (ck (iI (ak (am (a:=.int t) (b:=nD (Ho t b)) rfl rfl (mU hg hgb (by omega))) (ak (am (a:=nD b) (b:=nD (Ho t b)) rfl rfl (mU hg hgb (by omega))) au)) (by simp)))
end Law
end
section
set_option exponentiation.threshold 3000
namespace Law
open PySem PyProof.Rows L2 DL Fq Bk
theorem iO{s1 s2:FK}{r r':af}(h:s1 r=.nx r'):bD s1 s2 r=s2 r':=by unfold bD;rw[h]
theorem jh{s1 s2:FK}{r r':af}{d:D}(h:s1 r=.rt d r'):bD s1 s2 r=.rt d r':=by unfold bD;rw[h]
theorem gJ{α:Type}{a:α}{k:α->OutK}:gP (.ok a) k=k a:=rfl
theorem wa{f:FE}{r:af}{d:D}(h:f r=.ok d):d6 f r=.rt d r:=by unfold d6;rw[h,gJ]
theorem oj{p:FQ}{s1 s2:FK}{r:af}(h:p r=.ok true):kb p s1 s2 r=s1 r:=by unfold kb;rw[h,gJ,if_pos rfl]
theorem zy{p:FQ}{s1 s2:FK}{r:af}(h:p r=.ok false):kb p s1 s2 r=s2 r:=by unfold kb;rw[h,gJ,if_neg j_]
theorem vW{i:Nat}{fk fv:FE}{r:af}{d k v d':D}(h1:r[i]? = some (some d))(h2:fv r=.ok v)(h3:fk r=.ok k)(h4:cH d k v=some d'):DL.putK i fk fv r=.nx (r.set i (some d')):=by unfold DL.putK;rw[h2,gJ];simp only[h1,h3,gJ,h4]
theorem zQ{p:FQ}{fa fb:FE}{i1 i2:Nat}{F:fL}{s1:FK}{r:af}(h:p r=.ok true):j8 p fa fb i1 i2 F s1 r=s1 r:=by unfold j8;rw[h,gJ,if_pos rfl]
theorem zP{p:FQ}{fa fb:FE}{i1 i2:Nat}{F:fL}{s1:FK}{r:af}{da db d1 d2:D}{t:Bool×D×D}(h:p r=.ok false)(ha:fa r=.ok da)(hb:fb r=.ok db)(h1:r[i1]? = some (some d1))(h2:r[i2]? = some (some d2))(hF:F [da,db,d1,d2]=some t):j8 p fa fb i1 i2 F s1 r=if t.1=true then s1 ((r.set i1 (some t.2.1)).set i2 (some t.2.2))else .nx ((r.set i1 (some t.2.1)).set i2 (some t.2.2)):=by unfold j8;rw[h,gJ,if_neg j_,ha,gJ,hb,gJ];simp only[h1,h2,hF]
theorem wv{i:Nat}{b:FK}{d:D}{ds:List D}{r r':af}(h:b (r.set i (some d))=.nx r'):cf i b (d::ds) r=cf i b ds r':=by
 conv=>lhs;unfold cf
 simp only[h]
theorem wb{i:Nat}{b:FK}{d v:D}{ds:List D}{r r':af}(h:b (r.set i (some d))=.rt v r'):cf i b (d::ds) r=.rt v r':=by
 conv=>lhs;unfold cf
 simp only[h]
abbrev TD(T:List Nat):D:=.dic (T.map fun t=>(kI t,D.bl true))
abbrev LE(n:Nat)(E:Nat->List Nat):D:=.lst ((f_ n).map fun h=>LN (E h))
theorem uF(T:List Nat)(k:Nat):((T.map fun t=>(kI t,D.bl true)).any fun kv=>decide (kv.1=kI k))=decide (k∈T):=by
 rw[L8,Hf,Mv,decide_eq_true_iff];constructor
 .rintro⟨p,h1,h2⟩
  simp only[Il,decide_eq_true_eq]at h2;exact mw h2▸h1
 .intro h;exact⟨k,h,by simp⟩
theorem Au(T:List Nat)(k:Nat):c0 (nD k) (TD T)=some (.bl (! decide (k∈T))):=by rw[<-uF];rfl
theorem At(K:List (Nat×Nat))(k:Nat):c0 (nD k) (KD K)=some (.bl (! decide (k∈K.map (·.1)))):=by rw[<-lQ];rfl
theorem Be{T:List Nat}{k:Nat}(h:k∉T)(hl:T.length<=1000):cH (TD T) (nD k) (.bl true)=some (TD (T++[k])):=by show(if (T.map fun t=>(kI t,D.bl true)).length<sizeLine then some (D.dic (cQ _ (kI k) (D.bl true)))else none)=_;rw[if_pos (by rw[t_,HA];omega)];unfold cQ;rw[uF,decide_eq_false h,if_neg j_];show _=some (D.dic (Ma _ (T++[k])));rw[GM];rfl
theorem tH{K:List (Nat×Nat)}{t g:Nat}(nd:(K.map (·.1)).Nodup)(h:(t,g)∈K):az (KD K) (nD t)=some (nD g):=by
 have hc:∀x,∃g,∀g',(x,g')∈K->g'=g:=fun x=>by
  by_cases e:∃g,(x,g)∈K
  .obtain⟨g,hg⟩:=e;exact⟨g,fun g' h'=>pQ nd h' hg⟩
  .exact⟨0,fun g' h'=>absurd ⟨g',h'⟩ e⟩
 obtain⟨f,hf⟩:=Ix hc;have:=qp (kvs:=K) (h:=t) (f:=f) (fun p hp=>hf p.1 p.2 hp) (D_.mpr ⟨_,h,rfl⟩);rw[hf t g h];exact sL this
theorem uW{K:List (Nat×Nat)}{x h:Nat}(nd:(K.map (·.1)).Nodup):sg K x h (putN K x h):=by
 refine⟨vV nd,fun u g=>?_⟩;unfold putN;by_cases hx:x∈K.map (·.1)
 .rw[if_pos hx,D_];constructor
  .rintro⟨p,hp,e⟩
   by_cases z:p.1=x
   .rw[if_pos z]at e;exact .inl ⟨(congrArg Mf e).symm.trans z,(congrArg Mg e).symm⟩
   .rw[if_neg z]at e;subst e;exact .inr ⟨z,hp⟩
  .rintro(⟨rfl,rfl⟩|⟨z,m⟩)
   .obtain⟨p,hp,e⟩:=D_.mp hx;exact⟨p,hp,by rw[if_pos e,e]⟩
   .exact⟨(u,g),m,if_neg z⟩
 .rw[if_neg hx,List.mem_append];constructor
  .rintro(m|m)
   .exact .inr ⟨fun e=>hx (D_.mpr ⟨(u,g),m,e⟩),m⟩
   .have:=y_.mp m;exact .inl ⟨congrArg Mf this,congrArg Mg this⟩
  .rintro(⟨rfl,rfl⟩|⟨_,m⟩)
   .exact .inr (y_.mpr rfl)
   .exact .inl m
section
variable{n:Nat}{E:Nat->List Nat}
theorem Kok.len{K:List (Nat×Nat)}(ok:Kok n E K)(hE:∀g,g<n->∀t∈E g,t<n):K.length<=n:=by
 have:=Rg.hV (m:=f_ n) ok.nd fun t ht=>by obtain⟨p,hp,rfl⟩:=D_.mp ht;obtain⟨h1,h2⟩:=ok.ed p.1 p.2 hp;exact z_.mpr (hE _ h1 _ h2)
 simpa using this
theorem zz{h:Nat}(hh:h<n):az (LE n E) (nD h)=some (LN (E h)):=by refine jI ?_;rw[o_,GU hh];rfl
theorem C6(hE:∀g,g<n->∀t∈E g,t<n)(hn:n<=7):∀(m h:Nat)(T:List Nat)(K:List (Nat×Nat)),h<n->Kok n E K->kg T K->Nh T K h->T.Nodup->(∀t∈T,t<n)->n+1<=T.length+m ->∃(b:Bool)(T':List Nat)(K':List (Nat×Nat)),df m [LE n E,nD h,TD T,KD K]=some (b,TD T',KD K')/\T'.Nodup/\(∀t∈T',t<n)/\(∀t∈T,t∈T')/\(b=false->K'=K/\(∀t∈E h,t∈T')/\Fl E T K T')/\(b=true->Sc n E T K h K'):=by
 intro m
 induction m with
|zero=>intro h T K hh ok inj nh nd lt hm;have:=Rg.hV (m:=f_ n) nd fun t ht=>z_.mpr (lt t ht);simp at this;omega
|succ m ih=>
  intro h T K hh ok inj nh nd lt hm;have kl:=Kok.len ok hE;have loop:∀(L T1:List Nat)(x:Option D),(∀t∈L,t∈E h)->T1.Nodup->(∀t∈T1,t<n)->(∀t∈T,t∈T1)->Fl E T K T1 ->(∃(T':List Nat)(x':Option D),cf 4 (ii (df m)) (L.map nD) [some (LE n E),some (nD h),some (TD T1),some (KD K),x]=.nx [some (LE n E),some (nD h),some (TD T'),some (KD K),x']/\T'.Nodup/\(∀t∈T',t<n)/\(∀t∈T1,t∈T')/\(∀t∈L,t∈T')/\Fl E T K T') \/(∃(T':List Nat)(K':List (Nat×Nat))(x':Option D),cf 4 (ii (df m)) (L.map nD) [some (LE n E),some (nD h),some (TD T1),some (KD K),x]=.rt (.bl true) [some (LE n E),some (nD h),some (TD T'),some (KD K'),x']/\T'.Nodup/\(∀t∈T',t<n)/\(∀t∈T1,t∈T')/\Sc n E T K h K'):=by
   intro L
   induction L with
  |nil=>exact fun T1 x _ h1 h2 h3 h4=>.inl ⟨T1,x,rfl,h1,h2,fun _ z=>z,fun _ z=>(nomatch z),h4⟩
  |cons t L ihL=>
    intro T1 x hL n1 l1 s1 f1;have htE:=hL t i_;have tl:=Rg.hV (m:=f_ n) n1 fun t ht=>z_.mpr (l1 t ht);rw[Ic]at tl;have nt:=Au T1 t;by_cases ht:t∈T1
    .rw[decide_eq_true ht]at nt;have st:ii (df m) [some (LE n E),some (nD h),some (TD T1),some (KD K),some (nD t)]=.nx [some (LE n E),some (nD h),some (TD T1),some (KD K),some (nD t)]:=iO ((zy (bT (am (a:=nD t) (b:=TD T1) rfl rfl nt))).trans rfl);have e0:=wv (i:=4) (ds:=L.map nD) (r:=[some (LE n E),some (nD h),some (TD T1),some (KD K),x]) (d:=nD t) st;rcases ihL T1 (some (nD t)) (fun u hu=>hL u (g_ _ hu)) n1 l1 s1 f1 with⟨T',x',e,a1,a2,a3,a4,a5⟩|⟨T',K',x',e,a1,a2,a3,a4⟩
     .exact .inl ⟨T',x',e0.trans e,a1,a2,a3,fun u hu=>by
       rcases n_.mp hu with rfl|hu
       .exact a3 u ht
       .exact a4 u hu,a5⟩
     .exact .inr ⟨T',K',x',e0.trans e,a1,a2,a3,a4⟩
    .rw[decide_eq_false ht]at nt;have n2:(T1++[t]).Nodup:=HJ.mpr ⟨n1,by simp,fun a ha b hb e=>ht (by rw[y_.mp hb]at e;exact e▸ha)⟩;have l2:∀u∈T1++[t],u<n:=fun u hu=>by
      rcases He.mp hu with z|z
      .exact l1 u z
      .rw[y_.mp z];exact hE h hh t htE
     have htT:t∉T:=fun z=>ht (s1 t z);have nk:=At K t;have hput:DL.putK 2 (gv 4) (fun _=>Res.ok (D.bl true)) [some (LE n E),some (nD h),some (TD T1),some (KD K),some (nD t)]=.nx [some (LE n E),some (nD h),some (TD (T1++[t])),some (KD K),some (nD t)]:=vW (d:=TD T1) (k:=nD t) rfl rfl rfl (Be ht (by omega));have fin:∀(T':List Nat)(K1:List (Nat×Nat)),K1.length<=1000->(bD (DL.putK 3 (gv 4) (gv 1)) (bD (d6 (fun _=>Res.ok (D.bl true))) g9)) [some (LE n E),some (nD h),some (TD T'),some (KD K1),some (nD t)]=.rt (.bl true) [some (LE n E),some (nD h),some (TD T'),some (KD (putN K1 t h)),some (nD t)]:=fun T' K1 hl=>(iO (vW (d:=KD K1) (k:=nD t) (v:=nD h) rfl rfl rfl (uM hl))).trans (jh (wa rfl));by_cases hk:t∈K.map (·.1)
     .rw[decide_eq_true hk]at nk;obtain⟨p,hp,ep⟩:=D_.mp hk;have hg:(t,p.2)∈K:=by rw[<-ep];exact hp
      have gn:=(ok.ed t p.2 hg).1;obtain⟨b,T',K',e,a1,a2,a3,a4,a5⟩:=ih p.2 (T1++[t]) K gn ok (fun u v g hu hv=>inj u v g (fun z=>hu (GJ _ (s1 u z))) (fun z=>hv (GJ _ (s1 v z)))) (fun u hu m=>hu (by have:=inj u t p.2 (fun z=>hu (GJ _ (s1 u z))) htT m hg;rw[this];exact GF _ (y_.mpr rfl))) n2 l2 (by have:=Rg.hV (m:=T1) nd s1;rw[GB];simp;omega);have hor:=zP (p:=a9 (f2 (gv 4) (gv 3) c0)) (fa:=gv 0) (fb:=f2 (gv 3) (gv 4) az) (i1:=2) (i2:=3) (s1:=bD (DL.putK 3 (gv 4) (gv 1)) (bD (d6 (fun _=>Res.ok (D.bl true))) g9)) (r:=[some (LE n E),some (nD h),some (TD (T1++[t])),some (KD K),some (nD t)]) (bT (am (a:=nD t) (b:=KD K) rfl rfl nk)) (da:=LE n E) rfl (am (a:=KD K) (b:=nD t) rfl rfl (tH ok.nd hg)) rfl rfl e;cases b with
     |true=>have S:=a5 rfl;rw[if_pos rfl]at hor;have kl':=Kok.len S.ok hE;have st:ii (df m) [some (LE n E),some (nD h),some (TD T1),some (KD K),some (nD t)]=.rt (.bl true) [some (LE n E),some (nD h),some (TD T'),some (KD (putN K' t h)),some (nD t)]:=jh ((oj (bT (am (a:=nD t) (b:=TD T1) rfl rfl nt))).trans ((iO hput).trans (jh (hor.trans (fin T' K' (by omega))))));refine .inr ⟨T',putN K' t h,some (nD t),wb (i:=4) (ds:=L.map nD) (r:=[some (LE n E),some (nD h),some (TD T1),some (KD K),x]) (d:=nD t) st,a1,a2,fun u hu=>a3 u (GJ _ hu),?_⟩;exact CP ok inj nh htT (GF _ (y_.mpr rfl)) (fun u hu=>GJ _ (s1 u hu)) hg S hh htE (uW S.ok.nd)
     |false=>
       obtain⟨rfl,b1,b2⟩:=a4 rfl;rw[if_neg j_]at hor;have st:ii (df m) [some (LE n E),some (nD h),some (TD T1),some (KD K'),some (nD t)]=.nx [some (LE n E),some (nD h),some (TD T'),some (KD K'),some (nD t)]:=iO ((oj (bT (am (a:=nD t) (b:=TD T1) rfl rfl nt))).trans ((iO hput).trans (iO hor)));have e0:=wv (i:=4) (ds:=L.map nD) (r:=[some (LE n E),some (nD h),some (TD T1),some (KD K'),x]) (d:=nD t) st;have f2:Fl E T K' T':=fun u hu hT=>by
        by_cases z1:u∈T1
        .obtain⟨g,m1,m2⟩:=f1 u z1 hT;exact⟨g,m1,fun v hv=>a3 v (GJ _ (m2 v hv))⟩
        .by_cases z2:u=t
         .subst z2;exact⟨p.2,hg,b1⟩
         .exact b2 u hu fun z=>by
           rcases He.mp z with z|z
           .exact z1 z
           .exact z2 (y_.mp z)
       rcases ihL T' (some (nD t)) (fun u hu=>hL u (g_ _ hu)) a1 a2 (fun u hu=>a3 u (GJ _ (s1 u hu))) f2 with⟨T3,x',e,c1,c2,c3,c4,c5⟩|⟨T3,K3,x',e,c1,c2,c3,c4⟩
       .exact .inl ⟨T3,x',e0.trans e,c1,c2,fun u hu=>c3 u (a3 u (GJ _ hu)),fun u hu=>by
         rcases n_.mp hu with rfl|hu
         .exact c3 u (a3 u (GF _ (y_.mpr rfl)))
         .exact c4 u hu,c5⟩
       .exact .inr ⟨T3,K3,x',e0.trans e,c1,c2,fun u hu=>c3 u (a3 u (GJ _ hu)),c4⟩
     .rw[decide_eq_false hk]at nk;have st:ii (df m) [some (LE n E),some (nD h),some (TD T1),some (KD K),some (nD t)]=.rt (.bl true) [some (LE n E),some (nD h),some (TD (T1++[t])),some (KD (putN K t h)),some (nD t)]:=jh ((oj (bT (am (a:=nD t) (b:=TD T1) rfl rfl nt))).trans ((iO hput).trans (jh ((zQ (bT (am (a:=nD t) (b:=KD K) rfl rfl nk))).trans (fin (T1++[t]) K (by omega))))));refine .inr ⟨T1++[t],putN K t h,some (nD t),wb (i:=4) (ds:=L.map nD) (r:=[some (LE n E),some (nD h),some (TD T1),some (KD K),x]) (d:=nD t) st,n2,l2,fun u hu=>GJ _ hu,?_⟩;exact CN ok inj nh htT (fun g m=>hk (D_.mpr ⟨_,m,rfl⟩)) hh htE (uW ok.nd)
  have hloop:l9 (aR bR (f2 (gv 0) (gv 1) az)) 4 (ii (df m)) [some (LE n E),some (nD h),some (TD T),some (KD K),none]=cf 4 (ii (df m)) ((E h).map nD) [some (LE n E),some (nD h),some (TD T),some (KD K),none]:=by unfold l9;rw[ib (d:=LN (E h)) (am (a:=LE n E) (b:=nD h) rfl rfl (zz hh)) rfl,gJ]
  rcases loop (E h) T none (fun _ z=>z) nd lt (fun _ z=>z) (fun t ht hT=>absurd ht hT)with⟨T',x',e,a1,a2,a3,a4,a5⟩|⟨T',K',x',e,a1,a2,a3,a4⟩
  .refine⟨false,T',K,?_,a1,a2,a3,fun _=>⟨rfl,a4,a5⟩,fun z=>(nomatch z)⟩;have:iP (df m) [some (LE n E),some (nD h),some (TD T),some (KD K),none]=.rt (.bl false) [some (LE n E),some (nD h),some (TD T'),some (KD K),x']:=by unfold iP;exact(iO (hloop.trans e)).trans (jh (wa rfl))
   show d8 2 3 (iP (df m) [some (LE n E),some (nD h),some (TD T),some (KD K),none])=_;rw[this];rfl
  .refine⟨true,T',K',?_,a1,a2,a3,fun z=>(nomatch z),fun _=>a4⟩;have:iP (df m) [some (LE n E),some (nD h),some (TD T),some (KD K),none]=.rt (.bl true) [some (LE n E),some (nD h),some (TD T'),some (KD K'),x']:=by unfold iP;exact jh (hloop.trans e)
   show d8 2 3 (iP (df m) [some (LE n E),some (nD h),some (TD T),some (KD K),none])=_;rw[this];rfl
end
end Law
end
section
set_option exponentiation.threshold 3000
namespace Law
open PySem PyProof.Rows L2 DL Fq Bk
section
variable{k l:Nat}{a b:Int×Nat}
theorem DX(ha:Bd k a)(hb:Bd l b)(hl:k+l<=498):kr [FR a,FR b]=.ok (FR (jN a b)):=by
 refine cD (B:=oH) (n:=2) ?_;unfold oH;have i0:=gG a;have i1:=gH a;have j0:=gG b;have j1:=gH b;refine bZ (ck (bq (ak (am (am (am (a:=FR a) rfl rfl i0) (am (a:=FR b) rfl rfl j1) (fS ha.top (by rw[Gx];exact hb.bot) (by omega) (by omega))) (am (am (a:=FR b) rfl rfl j0) (am (a:=FR a) rfl rfl i1) (fS hb.top (by rw[Gx];exact ha.bot) (by omega) (by omega))) rfl)
  (ak (d:=nD (a.2*b.2)) (am (am (a:=FR a) rfl rfl i1) (am (a:=FR b) rfl rfl j1) ?_) au)) ?_))
 .rw[fS (k:=k) (l:=l) (by rw[Gx];exact ha.bot) (by rw[Gx];exact hb.bot) (by omega) (by omega)];show some (D.int _)=some (D.int _);rw[GQ]
 .exact yc (jj ha hb).1 (jj ha hb).2 (by omega)
theorem Fe(ha:Bd k a)(hb:Bd l b)(hl:k+l<=498):jW [FR a,FR b]=.ok (FR (tY a b)):=by
 refine cD (B:=o5) (n:=2) ?_;unfold o5;have i0:=gG a;have i1:=gH a;have j0:=gG b;have j1:=gH b;refine bZ (ck (bq (ak (am (am (am (a:=FR a) rfl rfl i0) (am (a:=FR b) rfl rfl j1) (fS ha.top (by rw[Gx];exact hb.bot) (by omega) (by omega))) (am (am (a:=FR b) rfl rfl j0) (am (a:=FR a) rfl rfl i1) (fS hb.top (by rw[Gx];exact ha.bot) (by omega) (by omega))) rfl)
  (ak (d:=nD (a.2*b.2)) (am (am (a:=FR a) rfl rfl i1) (am (a:=FR b) rfl rfl j1) ?_) au)) ?_))
 .rw[fS (k:=k) (l:=l) (by rw[Gx];exact ha.bot) (by rw[Gx];exact hb.bot) (by omega) (by omega)];show some (D.int _)=some (D.int _);rw[GQ]
 .exact yc (jj ha hb).1 (jj ha hb).2 (by omega)
theorem DW(ha:Bd k a)(hb:Bd l b)(hk:k<=2000)(hl:l<=2000):hX [FR a,FR b]=.ok (.bl (l8 a b)):=by refine cD (B:=oN) (n:=2) ?_;unfold oN;have i0:=gG a;have i1:=gH a;have j0:=gG b;have j1:=gH b;exact bZ (ck (am (am (am (a:=FR a) rfl rfl i0) (am (a:=FR b) rfl rfl j1) (fS ha.top (by rw[Gx];exact hb.bot) (by omega) (by omega))) (am (am (a:=FR b) rfl rfl j0) (am (a:=FR a) rfl rfl i1) (fS hb.top (by rw[Gx];exact ha.bot) (by omega) (by omega))) rfl))
end
theorem EB{N:Nat}(hN:0<N)(a b:Int):tY (low a N) (low b N)=low (a-b) N:=by
 have h1:(low a N).1*(N:Int)=a*((low a N).2:Int):=eZ a N;have h2:(low b N).1*(N:Int)=b*((low b N).2:Int):=eZ b N;have p1:=eY a hN;have p2:=eY b hN;refine nI (IR p1 p2) hN ?_;generalize low a N=p at *;generalize low b N=q at *;rw[GQ,N6,N6];have e1:p.1*(q.2:Int)*(N:Int)=(p.1*(N:Int))*(q.2:Int):=by simp only[GA,GN,GD]
 have e2:q.1*(p.2:Int)*(N:Int)=(q.1*(N:Int))*(p.2:Int):=by simp only[GA,GN,GD]
 rw[e1,e2,h1,h2];simp only[GA,GN,GD]
theorem Cv{S a b:Nat}(hS:0<S)(h:low ((a:Nat):Int) S=low ((b:Nat):Int) S):a=b:=by have h1:(low (a:Int) S).1*(S:Int)=(a:Int)*((low (a:Int) S).2:Int):=eZ _ S;have h2:(low (b:Int) S).1*(S:Int)=(b:Int)*((low (b:Int) S).2:Int):=eZ _ S;have p:=eY (a:Int) hS;rw[<-h]at h2;rw[h1]at h2;have:=HW (by omega) h2;omega
abbrev lo(N c:Nat):Int×Nat:=low (c:Int) N
abbrev Qn(N c:Nat):D:=FR (lo N c)
structure Nn(N:Nat):Prop where
 pos:0<N
 lt:N<2^100
section
variable{N:Nat}(hN:Nn N)
include hN
theorem gY{c:Nat}(hc:c<=N):Bd 100 (lo N c):=Bd.low hN.pos hN.lt (by rw[Gx];exact HU hc hN.lt)
theorem d9:lo N 0=(0,1):=zG hN.pos
theorem rQ:lo N N=(1,1):=by rw[<-lN 1];exact nI hN.pos (by decide) (by simp)
theorem By{a b:Nat}(ha:a<=N)(hb:b<=N):kr [Qn N a,Qn N b]=.ok (Qn N (a+b)):=by have:=DX (gY hN ha) (gY hN hb) (by omega);rw[wW hN.pos,<-Jj]at this;exact this
theorem BN{a b:Nat}(ha:a<=N)(hb:b<=a):jW [Qn N a,Qn N b]=.ok (Qn N (a-b)):=by have:=Fe (gY hN ha) (gY hN (GY hb ha)) (by omega);rw[EB hN.pos,<-MI hb]at this;exact this
theorem tW{a b:Nat}(ha:a<=N)(hb:b<=N):hX [Qn N a,Qn N b]=.ok (.bl (decide (a<b))):=by
 have:=DW (gY hN ha) (gY hN hb) (by omega) (by omega);rw[Dg hN.pos hN.pos]at this;have e:decide ((a:Int)*(N:Int)<(b:Int)*(N:Int))=decide (a<b):=by have hp:=hN.pos;rw[Hf,decide_eq_true_iff,decide_eq_true_iff,<-GQ,<-GQ,Mh];exact⟨fun h=>Nat.lt_of_mul_lt_mul_right h,fun h=>(Nat.mul_lt_mul_right hp).mpr h⟩
 rw[e]at this;exact this
theorem An{a:Nat}(ha:a<=N):hX [.tup [.int 0,.int 1],Qn N a]=.ok (.bl (decide (0<a))):=by have:=tW hN (GL N) ha;rw[show Qn N 0=.tup [.int 0,.int 1]by show FR (lo N 0)=_;rw[d9 hN];rfl]at this;exact this
theorem xT{d0:D}:∀(l:List Nat)(s:Nat)(x:Option D),s+l.sum<=N->∃y,aF (aI 2) xt (l.map (Qn N)) [some d0,some (Qn N s),x]=.nx [some d0,some (Qn N (s+l.sum)),y]
|[],s,x,_=>⟨x,eJ⟩
|c::l,s,x,h=>by rw[Ht]at h;obtain⟨y,ih⟩:=xT l (s+c) (some (Qn N c)) (by omega);refine⟨y,?_⟩;rw[A_,Ht,<-NH,<-ih];refine dZ (r1:=[some d0,some (Qn N s),some (Qn N c)]) rfl ?_;exact aw (bh (bq (ak (d:=Qn N s) rfl (ak (d:=Qn N c) rfl au)) (By hN (by omega) (by omega))))
theorem xY{d0:D}{l:List Nat}(h:l.sum<=N)(hd:bR d0=some (l.map (Qn N))):jg [d0]=.ok (Qn N l.sum):=by obtain⟨y,e⟩:=xT hN (d0:=d0) l 0 none (by omega);rw[IW]at e;refine cD (B:=o7) (n:=3) ?_;unfold o7;refine(aw (bh (d:=Qn N 0) (by show Res.ok (D.tup [D.int 0,D.int 1])=_;rw[show Qn N 0=.tup [.int 0,.int 1]by show FR (lo N 0)=_;rw[d9 hN];rfl]))).trans ?_;refine(aw ((eL (ib (d:=d0) rfl hd)).trans e)).trans ?_;exact bZ (ck (d:=Qn N l.sum) rfl)
theorem xQ{d0:D}:∀(l:List Nat)(m:Nat)(x:Option D),m<=N->(∀y∈l,y<=N)->∃x',aF (aI 2) xq (l.map (Qn N)) [some d0,some (Qn N m),x]=.nx [some d0,some (Qn N (l.foldl (fun m y=>if y<m then y else m) m)),x']
|[],m,x,_,_=>⟨x,eJ⟩
|y::l,m,x,hm,hl=>by
  have hy:=hl y i_;obtain⟨x',ih⟩:=xQ (d0:=d0) l (if y<m then y else m) (some (Qn N y)) (by split <;> assumption) (fun z hz=>hl z (g_ _ hz));refine⟨x',?_⟩;rw[A_,Ji,<-ih];refine dZ (r1:=[some d0,some (Qn N m),some (Qn N y)]) rfl ?_;have t:=tW hN hy hm;by_cases h:y<m
  .rw[decide_eq_true h]at t;rw[if_pos h];exact aw ((gr (dM (bq (ak (d:=Qn N y) rfl (ak (d:=Qn N m) rfl au)) t) rfl)).trans (aw (bh (d:=Qn N y) rfl)))
  .rw[decide_eq_false h]at t;rw[if_neg h];exact aw ((bL (dM (bq (ak (d:=Qn N y) rfl (ak (d:=Qn N m) rfl au)) t) rfl)).trans (e_skip _))
theorem Fc{l:List Nat}(h:l≠[])(hl:∀y∈l,y<=N):mM [.lst (l.map (Qn N))]=.ok (Qn N (Et.cb l)):=by cases l with
|nil=>exact absurd rfl h
|cons x l=>obtain⟨x',e⟩:=xQ hN (d0:=.lst ((x::l).map (Qn N))) (x::l) x none (hl x i_) hl;rw[Ji,if_neg (HM x)]at e;refine cD (B:=o4) (n:=3) ?_;unfold o4;refine(aw (bh (d:=Qn N x) (am (a:=.lst ((x::l).map (Qn N))) (b:=.int 0) rfl rfl (ixA_L0 _ _)))).trans ?_;refine(aw ((eL (ib (d:=.lst ((x::l).map (Qn N))) rfl rfl)).trans e)).trans ?_;exact bZ (ck (d:=Qn N (Et.cb (x::l))) rfl)
end
def wr:Bool->List D->D
|true,ds=>.tup ds
|false,ds=>.lst ds
theorem jT(t:Bool)(ds:List D):bR (wr t ds)=some ds:=by cases t <;> rfl
theorem sM{t:Bool}{ds:List D}{i:Nat}{d:D}(h:ds[i]? = some d):az (wr t ds) (nD i)=some d:=by
 cases t
 .exact jI h
 .exact jJ h
theorem tV(t:Bool)(ds:List D):lenD [wr t ds]=some (nD ds.length):=by cases t <;> rfl
abbrev aQ(t:Bool)(n N:Nat)(A:Nat->Nat->Nat)(i:Nat):D:=wr t ((f_ n).map fun j=>Qn N (A i j))
abbrev ba(t:Bool)(n N:Nat)(A:Nat->Nat->Nat):D:=wr t ((f_ n).map fun i=>aQ t n N A i)
section
variable{t:Bool}{n N s:Nat}{A:Nat->Nat->Nat}
theorem uL(i:Nat):cR 0 ((f_ n).map fun j=>Qn N (A i j))=(f_ n).map fun j=>D.tup [nD j,Qn N (A i j)]:=by
 refine II fun j=>?_;rw[pV,o_,o_];by_cases h:j<n
 .rw[GU h];simp only[ID,IW]
 .rw[Hk (by simp;omega)];rfl
theorem wq{f:FE}{r:af}{d:D}{ds:List D}(h:f r=.ok d)(h2:bR d=some ds):en f r=.ok (cR 0 ds):=by unfold en;rw[h,bind_ok,h2,opt_some,bind_ok]
def Eo(n:Nat)(A:Nat->Nat->Nat)(i:Nat):List Nat:=(f_ n).filter fun j=>decide (0<A i j)
theorem mE{i j:Nat}:j∈Eo n A i↔j<n/\0<A i j:=by unfold Eo;rw[List.mem_filter,List.mem_range,decide_eq_true_iff]
theorem zB{i:Nat}(hi:i<n):az (ba t n N A) (nD i)=some (aQ t n N A i):=sM (by rw[o_,GU hi];rfl)
theorem zA{i j:Nat}(hj:j<n):az (aQ t n N A i) (nD j)=some (Qn N (A i j)):=sM (by rw[o_,GU hj];rfl)
theorem xm(hN:Nn N)(hA:∀i j,i<n->j<n->A i j<=N)(hn:n<=7){d0:D}{x3 x4 x5 x6:Option D}:∀(j i:Nat)(x:Option D),i+j=n ->∃x',aF (aI 2) yr ((Jp i j).map fun i=>aQ t n N A i) [some d0,some (.lst ((f_ i).map fun h=>LN (Eo n A h))),x,x3,x4,x5,x6]=.nx [some d0,some (LE n (Eo n A)),x',x3,x4,x5,x6]
|0,i,x,h=>by
  have:i=n:=by omega
  subst this;exact⟨x,eJ⟩
|j+1,i,x,h=>by
  have hi:i<n:=by omega
  obtain⟨x',ih⟩:=xm hN hA hn (d0:=d0) (x3:=x3) (x4:=x4) (x5:=x5) (x6:=x6) j (i+1) (some (aQ t n N A i)) (by omega);refine⟨x',?_⟩;rw[<-ih,Iy,A_];refine dZ (r1:=[some d0,some (.lst ((f_ i).map fun h=>LN (Eo n A h))),some (aQ t n N A i),x3,x4,x5,x6]) rfl ?_;have hc:=ph (nl:=2) (cap:=[]) (fi:=en (gv 2)) (ft:=dP (bQ (aI 0) (bQ (aI 1) dG))) (q:=bg (aG (ah (fun _=>Res.ok (D.tup [D.int 0,D.int 1])) (ah (gv 1) ae)) [] hX)) (fe:=gv 0) (r:=[some d0,some (.lst ((f_ i).map fun h=>LN (Eo n A h))),some (aQ t n N A i),x3,x4,x5,x6]) (l:=f_ n) (fun j=>D.tup [nD j,Qn N (A i j)]) (fun j=>decide (0<A i j)) nD (by rw[<-uL];exact wq (d:=aQ t n N A i) rfl (jT _ _)) (by simp;omega) fun j hj=>⟨[some (nD j),some (Qn N (A i j))],rfl,dM (bq (ak (d:=.tup [.int 0,.int 1]) rfl (ak (d:=Qn N (A i j)) rfl au)) (An hN (hA i j hi (z_.mp hj)))) rfl,fun _=>rfl⟩
  have em:(f_ (i+1)).map (fun h=>LN (Eo n A h))=(f_ i).map (fun h=>LN (Eo n A h))++[LN (Eo n A i)]:=by rw[IE,GM];rfl
  rw[em];exact aw (iJ (d:=.lst ((f_ i).map fun h=>LN (Eo n A h))) (ds:=[LN (Eo n A i)]) rfl rfl (ak hc au) (jU (by simp;omega)))
theorem Cp{m:List Md}{fa fb:FE}{i:Nat}{F:fL}{r:af}{da db d2:D}{t:Bool×D×D}(ha:fa r=.ok da)(hb:fb r=.ok db)(h:r[i]? = some (some d2))(hF:F [da,db,.dic [],d2]=some t):l0 m fa fb i F r=.nx (r.set i (some t.2.2)):=by unfold l0;rw[ha,onE_ok,hb,onE_ok];simp only[h,hF]
theorem xo(hn:n<=7)(d:DS n A s)(hs:0<s){d0:D}{x2 x5 x6:Option D}:∀(j i:Nat)(K:List (Nat×Nat))(x:Option D),i+j=n->Kps n (Eo n A) i K ->∃(K':List (Nat×Nat))(x':Option D),Kps n (Eo n A) n K'/\aF (aI 4) yt ((Jp i j).map nD) [some d0,some (LE n (Eo n A)),x2,some (KD K),x,x5,x6]=.nx [some d0,some (LE n (Eo n A)),x2,some (KD K'),x',x5,x6]
|0,i,K,x,h,k=>by
  have:i=n:=by omega
  subst this;exact⟨K,x,k,eJ⟩
|j+1,i,K,x,h,k=>by
  have hi:i<n:=by omega
  have hE:∀g,g<n->∀t∈Eo n A g,t<n:=fun g _ t ht=>(mE.mp ht).1;obtain⟨b,T',K',e,a1,a2,a3,a4,a5⟩:=C6 hE hn 9 i [] K hi k.ok k.inj k.nh Ke (fun _ z=>(nomatch z)) (by simp;omega);have hb:b=true:=by cases b with
  |true=>rfl
  |false=>obtain⟨_,b1,b2⟩:=a4 rfl;exact(BO d hs (fun i j _ hj pos=>mE.mpr ⟨hj,pos⟩) k.ok k.inj k.nh hi a1 a2 b1 b2).elim
  obtain⟨K2,x',k2,e2⟩:=xo hn d hs (d0:=d0) (x2:=x2) (x5:=x5) (x6:=x6) j (i+1) K' (some (nD i)) (by omega) (k.next (a5 hb));refine⟨K2,x',k2,?_⟩;rw[<-e2,Iy,A_];refine dZ (r1:=[some d0,some (LE n (Eo n A)),x2,some (KD K),some (nD i),x5,x6]) rfl ?_;exact aw (Cp (da:=LE n (Eo n A)) (db:=nD i) (d2:=KD K) rfl rfl rfl e)
theorem xp{d0 d1 d3:D}{K:List (Nat×Nat)}(hd3:∀p∈K,az d3 (nD p.1)=some (nD p.2))(hl:K.length<=1000){x2 x4:Option D}:∀(L G:List (Nat×Nat))(x:Option D),(∀p∈L,p∈K)->G.length+L.length<=1000->((G++L.map fun p=>(p.2,p.1)).map (·.1)).Nodup ->∃x',aF (aI 6) yu (L.map fun p=>nD p.1) [some d0,some d1,x2,some d3,x4,some (KD G),x]=.nx [some d0,some d1,x2,some d3,x4,some (KD (G++L.map fun p=>(p.2,p.1))),x']
|[],G,x,_,_,_=>⟨x,by rw[show G++([]:List (Nat×Nat)).map (fun p=>(p.2,p.1))=G from Jf G];exact eJ⟩
|p::L,G,x,hL,hg,nd=>by
  have e0:G++(p::L).map (fun p=>(p.2,p.1))=(G++[(p.2,p.1)])++L.map fun p=>(p.2,p.1):=by simp
  rw[e0]at nd;rw[E_]at hg;obtain⟨x',ih⟩:=xp hd3 hl (d0:=d0) (d1:=d1) (x2:=x2) (x4:=x4) L (G++[(p.2,p.1)]) (some (nD p.1)) (fun q hq=>hL q (g_ _ hq)) (by rw[GB];simp;omega) nd;refine⟨x',?_⟩;rw[e0,<-ih,A_];refine dZ (r1:=[some d0,some d1,x2,some d3,x4,some (KD G),some (nD p.1)]) rfl ?_;have hnew:p.2∉G.map (·.1):=by rw[GM,GM]at nd;have:=(HJ.mp (HJ.mp nd).1).2.2;exact fun z=>this p.2 z p.2 (by simp) rfl
  have hput:putN G p.2 p.1=G++[(p.2,p.1)]:=by unfold putN;rw[if_neg hnew]
  have:=uM (kvs:=G) (k:=p.2) (v:=p.1) (by omega);rw[hput]at this;exact aw (uX (d:=KD G) (k:=nD p.2) (v:=nD p.1) rfl rfl (am (a:=d3) (b:=nD p.1) rfl rfl (hd3 p (hL p i_))) this)
theorem F0{G:List (Nat×Nat)}{f:Nat->Nat}(hl:G.length=n)(hn:n<=7)(hf:∀p∈G,p.2=f p.1)(hk:∀h,h∈G.map (·.1)↔h<n):nj [KD G]=.ok (TN ((f_ n).map f)):=by
 refine cD (B:=qN) (n:=1) ?_;unfold qN;have hlen:lenD [KD G]=some (nD n):=by rw[Dc,hl]
 have hc:=ic (nl:=1) (cap:=[0]) (fi:=bn bc (ah (fC (ah (gv 0) ae) lenD) ae)) (ft:=aI 0) (fe:=f2 (gv 1) (gv 0) az) (r:=[some (KD G)]) (l:=f_ n) nD (fun h=>nD (f h)) (fT (ak (d:=nD n) (cG (ak (d:=KD G) rfl au) hlen) au) (fP (by omega))) (by simp;omega) fun h hh=>⟨[some (nD h),some (KD G)],rfl,am (a:=KD G) (b:=nD h) rfl rfl (sL (qp (f:=f) hf ((hk h).mpr (z_.mp hh))))⟩
 refine bZ (ck (cG (ak hc au) ?_));rw[e_tupL];show some (D.tup _)=some (D.tup (Ma nD _));rw[Hq];rfl
theorem A1(hN:Nn N)(hn1:1<=n)(hn:n<=7)(d:DS n A s)(hs:0<s)(hsN:s<=N):∃dl:List Nat,dl.Perm (f_ n)/\(∀i,i<n->0<A i (dA dl i))/\nK [ba t n N A]=.ok (TN dl):=by
 have hA:∀i j,i<n->j<n->A i j<=N:=fun i j hi hj=>GY (d.le hi hj) hsN;obtain⟨x2,e0⟩:=xm (t:=t) hN hA hn (d0:=ba t n N A) (x3:=none) (x4:=none) (x5:=none) (x6:=none) n 0 none (by omega);obtain⟨K,x4,k,e1⟩:=xo hn d hs (d0:=ba t n N A) (x2:=x2) (x5:=none) (x6:=none) n 0 [] none (by omega) Ak;rw[<-HE]at e0 e1;have hE:∀g,g<n->∀t∈Eo n A g,t<n:=fun g _ t ht=>(mE.mp ht).1;obtain⟨f,f1,f2,f3,f4,f5⟩:=k.all hE;have kl:=Kok.len k.ok hE;obtain⟨x6,e2⟩:=xp (d0:=ba t n N A) (d1:=LE n (Eo n A)) (d3:=KD K) (K:=K) (fun p hp=>tH k.ok.nd hp) (by omega) (x2:=x2) (x4:=x4) K [] none (fun _ z=>z) (by simp;omega) (by rw[MJ,Hq];exact f4);rw[MJ]at e2;have gl:(K.map fun p=>(p.2,p.1)).length=n:=by have h1:=Rg.hV (l:=f_ n) (m:=K.map (·.2)) HQ fun x hx=>(f5 x).mpr (z_.mp hx);simp at h1 ⊢;omega
 have hd:=F0 (G:=K.map fun p=>(p.2,p.1)) (f:=f) gl hn (fun p hp=>by obtain⟨q,hq,rfl⟩:=D_.mp hp;exact f1 q hq) (fun h=>by rw[Hq];exact f5 h);refine⟨(f_ n).map f,f3,fun i hi=>?_,?_⟩
 .have:dA ((f_ n).map f) i=f i:=by unfold dA;rw[o_,GU hi];rfl
  rw[this];exact(mE.mp (f2 i hi)).2
 .refine cD (B:=qZ) (n:=7) ?_;unfold qZ;refine(aw (bh (d:=.lst []) (jf au (by simp)))).trans ?_;refine(aw ((eL (ib (d:=ba t n N A) rfl (jT _ _))).trans e0)).trans ?_;refine(aw (bh (d:=KD []) rfl)).trans ?_;have hlen:lenD [ba t n N A]=some (nD n):=by rw[tV,t_,Ic]
  refine(aw ((eL (fT (ak (d:=nD n) (cG (ak (d:=ba t n N A) rfl au) hlen) au) (fP (by omega)))).trans e1)).trans ?_;refine(aw (bh (d:=KD []) rfl)).trans ?_;have hk:aR mC (gv 3) [some (ba t n N A),some (LE n (Eo n A)),x2,some (KD K),x4,some (KD []),none]=.ok (K.map fun p=>nD p.1):=by show Res.ok ((K.map fun p=>(kI p.1,nD p.2)).map fun kv=>_)=_;rw[Hq];rfl
  refine(aw ((eL hk).trans e2)).trans ?_;generalize K.map (fun p=>(p.2,p.1))=G at hd;exact bZ (ck (bq (ak (d:=KD G) rfl au) hd))
end
end Law
end
section
set_option exponentiation.threshold 3000
namespace Law
open PySem PyProof.Rows L2 DL Fq Bk
theorem tv(a b:Int×Nat):dz (FR a) (FR b)=some (decide (a=b)):=by
 have h:∀(q:Int×Nat),∀d∈[D.int q.1,nD q.2],bi 59 d:=fun q d hd=>by simp at hd;rcases hd with rfl|rfl <;> trivial
 rw[wQ rfl (kF.mpr (h a)) (kF.mpr (h b))];unfold jx;simp only[aJ,zdR,Jl,Kw];rw[Kh,Hf,decide_eq_true_iff,Prod.ext_iff];simp;omega
theorem As(a b:Int×Nat):neD (FR a) (FR b)=some (.bl (! decide (a=b))):=by unfold neD;rw[tv];rfl
theorem Az(a b:Int×Nat):eqD (FR a) (FR b)=some (.bl (decide (a=b))):=by unfold eqD;rw[tv];rfl
abbrev pN(N:Nat)(q:Nat×List Nat):D:=.tup [Qn N q.1,TN q.2]
abbrev aP(N:Nat)(ps:List (Nat×List Nat)):D:=.lst (ps.map (pN N))
section
variable{t:Bool}{n N s p:Nat}{A A0:Nat->Nat->Nat}{dl:List Nat}
theorem uU(hd:dl.Perm (f_ n)):Jt (fun a b=>D.tup [a,b]) ((f_ n).map fun i=>aQ t n N A i) (dl.map nD)=(f_ n).map fun i=>D.tup [aQ t n N A i,nD (dA dl i)]:=by
 refine II fun i=>?_;rw[Jy,o_,o_,o_];by_cases h:i<n
 .rw[GU h,uH (gz hd h).1];rfl
 .rw[Hk (by simp;omega)];rfl
theorem wI(hN:Nn N)(hn:n<=7)(hA:∀i j,i<n->j<n->A i j<=N)(hp:∀i,i<n->p<=A i (dA dl i)){d0 d2:D}:∀(j i:Nat)(x4 x5:Option D),i+j=n ->∃(y4 y5:Option D),aF (dP (bQ (aI 4) (bQ (aI 5) dG))) yd ((Jp i j).map fun i=>D.tup [aQ t n N A i,nD (dA dl i)]) [some d0,some (Qn N p),some d2,some (.lst ((f_ i).map fun i=>aQ false n N (taken A p dl) i)),x4,x5]=.nx [some d0,some (Qn N p),some d2,some (ba false n N (taken A p dl)),y4,y5]
|0,i,x4,x5,h=>by
  have:i=n:=by omega
  subst this;exact⟨x4,x5,eJ⟩
|j+1,i,x4,x5,h=>by
  have hi:i<n:=by omega
  obtain⟨y4,y5,ih⟩:=wI hN hn hA hp (d0:=d0) (d2:=d2) j (i+1) (some (aQ t n N A i)) (some (nD (dA dl i))) (by omega);refine⟨y4,y5,?_⟩;rw[<-ih,Iy,A_];refine dZ (r1:=[some d0,some (Qn N p),some d2,some (.lst ((f_ i).map fun i=>aQ false n N (taken A p dl) i)),some (aQ t n N A i),some (nD (dA dl i))]) rfl ?_;have hc:=ic (nl:=2) (cap:=[5,1]) (fi:=en (gv 4)) (ft:=dP (bQ (aI 0) (bQ (aI 1) dG))) (fe:=iU (a9 (f2 (gv 0) (gv 2) eqD)) (aG (ah (gv 1) (ah (gv 3) ae)) [] jW) (gv 1)) (r:=[some d0,some (Qn N p),some d2,some (.lst ((f_ i).map fun i=>aQ false n N (taken A p dl) i)),some (aQ t n N A i),some (nD (dA dl i))]) (l:=f_ n) (fun j=>D.tup [nD j,Qn N (A i j)]) (fun j=>Qn N (taken A p dl i j)) (by rw[<-uL];exact wq (d:=aQ t n N A i) rfl (jT _ _)) (by simp;omega) fun j hj=>⟨[some (nD j),some (Qn N (A i j)),some (nD (dA dl i)),some (Qn N p)],rfl,by
   have hj:=z_.mp hj;have te:=iZ j (dA dl i);by_cases e:j=dA dl i
   .rw[decide_eq_true e]at te;rw[z8 (bT (am (a:=nD j) (b:=nD (dA dl i)) rfl rfl te))];have ht:taken A p dl i j=A i j-p:=by unfold taken;rw[if_pos e]
    rw[ht];exact bq (ak (d:=Qn N (A i j)) rfl (ak (d:=Qn N p) rfl au)) (BN hN (hA i j hi hj) (by rw[e];exact hp i hi))
   .rw[decide_eq_false e]at te;rw[z7 (bT (am (a:=nD j) (b:=nD (dA dl i)) rfl rfl te))];have ht:taken A p dl i j=A i j:=by unfold taken;rw[if_neg e]
    rw[ht];rfl⟩
  have em:(f_ (i+1)).map (fun i=>aQ false n N (taken A p dl) i)=(f_ i).map (fun i=>aQ false n N (taken A p dl) i)++[aQ false n N (taken A p dl) i]:=by rw[IE,GM];rfl
  rw[em];exact aw (iJ (d:=.lst ((f_ i).map fun i=>aQ false n N (taken A p dl) i)) (ds:=[aQ false n N (taken A p dl) i]) rfl rfl (ak hc au) (jU (by simp;omega)))
theorem FF(hN:Nn N)(hn:n<=7)(hA:∀i j,i<n->j<n->A i j<=N)(hd:dl.Perm (f_ n))(hp:∀i,i<n->p<=A i (dA dl i)):na [ba t n N A,Qn N p,TN dl]=.ok (ba false n N (taken A p dl)):=by obtain⟨y4,y5,e⟩:=wI (t:=t) hN hn hA hp (d0:=ba t n N A) (d2:=TN dl) n 0 none none (by omega);rw[<-HE]at e;refine cD (B:=qu) (n:=6) ?_;unfold qu;refine(aw (bh (d:=.lst []) (jf au (by simp)))).trans ?_;have hz:=wt (fa:=gv 0) (fb:=gv 2) (r:=[some (ba t n N A),some (Qn N p),some (TN dl),some (.lst []),none,none]) (d:=ba t n N A) (e:=TN dl) rfl rfl (jT _ _) rfl;rw[uU hd]at hz;refine(aw ((eL hz).trans e)).trans ?_;exact bZ (ck (d:=ba false n N (taken A p dl)) rfl)
theorem yh(hN:Nn N)(hn1:1<=n)(hn:n<=7){d0:D}:∀(m:Nat)(t:Bool)(A:Nat->Nat->Nat)(s:Nat)(ps:List (Nat×List Nat))(x3 x4:Option D),Pg n N A0 A s ps->(n-1)*(n-1)+2<=ps.length+m ->∃(A':Nat->Nat->Nat)(ps':List (Nat×List Nat))(x1 y3 y4:Option D),Pg n N A0 A' 0 ps'/\cX dw qJ xI m [some d0,some (ba t n N A),some (aP N ps),x3,x4]=.nx [some d0,x1,some (aP N ps'),y3,y4]
|0,t,A,s,ps,x3,x4,P,hm=>by have:=P.few;omega
|m+1,t,A,s,ps,x3,x4,P,hm=>by
  have hsN:s<=N:=by have:=P.sum;omega
  have hA:∀i j,i<n->j<n->A i j<=N:=fun i j hi hj=>GY (P.ds.le hi hj) hsN;have hsum:((f_ n).map fun j=>A 0 j).sum=s:=by rw[wA];exact P.ds.row 0 (by omega)
  have htot:jg [aQ t n N A 0]=.ok (Qn N s):=by have:=xY hN (d0:=aQ t n N A 0) (l:=(f_ n).map fun j=>A 0 j) (by omega) (by rw[jT,Hq];rfl);rw[hsum]at this;exact this
  have hne:=As (lo N s) (0,1);have test:∀b,neD (FR (lo N s)) (FR (0,1))=some (.bl b)->qJ [some d0,some (ba t n N A),some (aP N ps),x3,x4]=.ok b:=fun b hb=>bT (am (b:=.tup [.int 0,.int 1]) (bq (ak (d:=aQ t n N A 0) (am (a:=ba t n N A) (b:=nD 0) rfl rfl (zB (by omega))) au) htot) rfl hb);by_cases h0:s=0
  .subst h0;rw[d9 hN,decide_eq_true rfl]at hne;rw[d9 hN]at test;exact⟨A,ps,some (ba t n N A),x3,x4,P,wG (test _ hne)⟩
  .have hs:0<s:=by omega
   rw[decide_eq_false (fun z=>h0 (Cv hN.pos (z.trans (d9 hN).symm)))]at hne;obtain⟨dl,p1,p2,p3⟩:=A1 (t:=t) hN hn1 hn P.ds hs hsN;have hl:(f_ n).map (fun i=>A i (dA dl i))≠[]:=by intro z;have:=congrArg Ia z;simp at this;omega
   have hle:=fun i (hi:i<n)=>Et.gq (l:=(f_ n).map fun i=>A i (dA dl i)) (y:=A i (dA dl i)) (D_.mpr ⟨i,z_.mpr hi,rfl⟩);obtain⟨a,ha,ea⟩:=D_.mp (Et.cT hl);have ha:=z_.mp ha;have hleast:=Fc hN hl (fun y hy=>by obtain⟨i,hi,rfl⟩:=D_.mp hy;have hi:=z_.mp hi;exact hA i _ hi (gz p1 hi).2);generalize Et.cb ((f_ n).map fun i=>A i (dA dl i))=p at hle ea hleast;obtain⟨P',_,_⟩:=P.step hn1 hs p1 p2 hle ha ea.symm;have hlt:=P.lt hn1 hs;have h36:(n-1)*(n-1)<=36:=Kf (show n-1<=6 by omega) (show n-1<=6 by omega);obtain⟨A',ps',x1,y3,y4,P2,e⟩:=yh hN hn1 hn (d0:=d0) m false (taken A p dl) (s-p) (ps++[(p,dl)]) (some (TN dl)) (some (Qn N p)) P' (by rw[GB];simp;omega);refine⟨A',ps',x1,y3,y4,P2,(wH (test _ hne) ?_).trans e⟩;refine(aw (bh (bq (ak (d:=ba t n N A) rfl au) p3))).trans ?_;have hz:=wt (fa:=gv 1) (fb:=gv 3) (r:=[some d0,some (ba t n N A),some (aP N ps),some (TN dl),x4]) (d:=ba t n N A) (e:=TN dl) rfl rfl (jT _ _) rfl;rw[uU p1]at hz;have hc:=ic (nl:=2) (cap:=[]) (fi:=fu (gv 1) (gv 3)) (ft:=dP (bQ (aI 0) (bQ (aI 1) dG))) (fe:=f2 (gv 0) (gv 1) az) (r:=[some d0,some (ba t n N A),some (aP N ps),some (TN dl),x4]) (l:=f_ n) (fun i=>D.tup [aQ t n N A i,nD (dA dl i)]) (fun i=>Qn N (A i (dA dl i))) hz (by simp;omega) fun i hi=>⟨[some (aQ t n N A i),some (nD (dA dl i))],rfl,am (a:=aQ t n N A i) (b:=nD (dA dl i)) rfl rfl (zA (gz p1 (z_.mp hi)).2)⟩
   rw[show(f_ n).map (fun i=>Qn N (A i (dA dl i)))=((f_ n).map fun i=>A i (dA dl i)).map (Qn N)by rw[Hq];rfl]at hc;refine(aw (bh (bq (ak hc au) hleast))).trans ?_;rw[show aP N (ps++[(p,dl)])=.lst (ps.map (pN N)++[pN N (p,dl)])by show D.lst (Ma (pN N) _)=_;rw[GM];rfl];refine(aw (iJ (d:=aP N ps) (ds:=[pN N (p,dl)]) rfl rfl (ak (iI (ak (d:=Qn N p) rfl (ak (d:=TN dl) rfl au)) (by simp)) au) (jU (by simp;omega)))).trans ?_;exact aw (bh (bq (ak (d:=ba t n N A) rfl (ak (d:=Qn N p) rfl (ak (d:=TN dl) rfl au))) (FF hN hn hA p1 hle)))
theorem EW(hN:Nn N)(hn1:1<=n)(hn:n<=7)(D0:DS n A0 N)(t:Bool):∃(A':Nat->Nat->Nat)(ps:List (Nat×List Nat)),Pg n N A0 A' 0 ps/\kO [ba t n N A0]=.ok (aP N ps):=by have h36:(n-1)*(n-1)<=36:=Kf (show n-1<=6 by omega) (show n-1<=6 by omega);obtain⟨A',ps,x1,y3,y4,P,e⟩:=yh hN hn1 hn (d0:=ba t n N A0) 64 t A0 N [] none none (Pg.start D0) (by simp;omega);refine⟨A',ps,P,C1 (B:=pS) (n:=5) ?_⟩;unfold pS;refine(aw (bh (d:=ba t n N A0) rfl)).trans ?_;refine(aw (bh (d:=.lst []) (jf au (by simp)))).trans ?_;refine(aw e).trans ?_;exact bZ (ck (d:=aP N ps) rfl)
end
end Law
end
section
set_option exponentiation.threshold 3000
namespace Law
open PySem PyProof.Rows L2 DL Fq Bk
theorem rX{n x:Nat}{f:Nat->D}(h:x<n):az (.lst ((f_ n).map f)) (nD x)=some (f x):=by refine jI ?_;rw[o_,GU h];rfl
theorem zi{n x:Nat}{v:D}{f:Nat->D}(h:x<n):cH (.lst ((f_ n).map f)) (nD x) v=some (.lst ((f_ n).map fun y=>if y=x then v else f y)):=by
 rw[Ba (by simpa using h)];show some (D.lst _)=some (D.lst _);congr 2;refine II fun i=>?_;by_cases hi:i<n
 .by_cases e:x=i
  .subst e;rw[l_ (by simpa using h),o_,GU h];simp
  .rw[b_ e,o_,o_,GU hi];simp[H_ e]
 .rw[Hk (by simp;omega),Hk (by simp;omega)]
theorem zj(l:List Nat):sumD [LN l]=some (nD l.sum):=by
 have sum_cast:∀l:List Nat,(l.map fun k:Nat=>(k:Int)).sum=((l.sum:Nat):Int):=fun l=>by induction l with
 |nil=>rfl
 |cons k l ih=>rw[A_,Ht,ih,Ht,Jj]
 show(dk (l.map nD)).map _=_;rw[mT];show some (D.int _)=_;rw[sum_cast]
theorem uO:∀l:List Nat,(∀x∈l,1<=x/\x<=60)->l.sum<=60*l.length/\l.length<=l.sum
|[],_=>by simp
|x::l,h=>by have h1:=h x i_;have:=uO l fun y hy=>h y (g_ _ hy);rw[Ht,E_];omega
theorem lP{d:List Nat}{h:Nat}(hh:h<d.length):az (TN d) (nD h)=some (nD (dA d h)):=by refine jJ ?_;rw[o_,uH hh];rfl
theorem ng(q:Nat×List Nat)(ps:List (Nat×List Nat))(h x:Nat):aq (q::ps) h x=(if x=dA q.2 h then q.1 else 0)+aq ps h x:=by
 unfold aq;by_cases e:x=dA q.2 h
 .rw[Ip,if_pos (by simpa using e.symm),if_pos e];simp
 .rw[Ip,if_neg (by simpa using fun z=>e z.symm),if_neg e];simp
theorem wn:∀(ps:List (Nat×List Nat))(h x:Nat),aq ps h x<=(ps.map (·.1)).sum
|[],h,x=>by simp[aq]
|q::ps,h,x=>by have:=wn ps h x;rw[ng,A_,Ht];split <;> omega
theorem uJ{n:Nat}:∀{ps:List (Nat×List Nat)},(∀q∈ps,q.2.Perm (f_ n))->DS n (aq ps) (ps.map (·.1)).sum
|[],_=>⟨fun i _=>ji fun j _=>by simp[aq],fun j _=>ji fun i _=>by simp[aq]⟩
|q::ps,h=>by
  have ih:=uJ (n:=n) fun r hr=>h r (g_ _ hr);have hq:=h q i_;rw[A_,Ht];constructor
  .intro i hi;have e:sm n (aq (q::ps) i)=sm n (fun j=>if j=dA q.2 i then(fun _=>q.1) j else 0)+sm n (aq ps i):=by rw[<-hW];exact eM fun j _=>ng q ps i j
   rw[e,sm_if (gz hq hi).2,ih.row i hi]
  .intro j hj;obtain⟨a,ha,rfl⟩:=vN hq hj;have e:sm n (fun i=>aq (q::ps) i (dA q.2 a))=sm n (fun i=>if i=a then(fun _=>q.1) i else 0)+sm n (fun i=>aq ps i (dA q.2 a)):=by
    rw[<-hW];refine eM fun i hi=>?_;rw[ng];by_cases z:i=a
    .subst z;rw[if_pos rfl,if_pos rfl]
    .rw[if_neg z,if_neg fun w=>z (uI hq hi ha w.symm)]
   rw[e,sm_if ha,ih.col _ hj]
structure Pz(n N:Nat)(ps:List (Nat×List Nat)):Prop where
 n1:1<=n
 n7:n<=7
 N0:Nn N
 sum:(ps.map (·.1)).sum=N
 ok:∀q∈ps,q.2.Perm (f_ n)
 few:ps.length<=900
section
variable{n N:Nat}{ps:List (Nat×List Nat)}
theorem Pz.ne(P:Pz n N ps):ps≠[]:=by
 rintro rfl
 have:=P.sum;have:=P.N0.pos;simp at *;omega
theorem Fh(P:Pz n N ps){h x:Nat}(hh:h<n):kW [aP N ps,nD h,nD x]=.ok (Qn N (aq ps h x)):=by
 have h12:=P.few;refine cD (B:=qF) (n:=3) ?_;unfold qF;have hc:=ph (nl:=2) (cap:=[2,1]) (fi:=aR bR (gv 0)) (ft:=dP (bQ (aI 0) (bQ (aI 1) dG))) (q:=a9 (f2 (f2 (gv 1) (gv 3) az) (gv 2) eqD)) (fe:=gv 0) (r:=[some (aP N ps),some (nD h),some (nD x)]) (l:=ps) (pN N) (fun p=>decide (dA p.2 h=x)) (fun p=>Qn N p.1) (ib (d:=aP N ps) rfl rfl) (by omega) fun p hp=>⟨[some (Qn N p.1),some (TN p.2),some (nD x),some (nD h)],rfl,bT (am (b:=nD x) (am (a:=TN p.2) (b:=nD h) rfl rfl (lP (gz (P.ok p hp) hh).1)) rfl (iZ _ _)),fun _=>rfl⟩
 have hle:=wn ps h x;rw[P.sum]at hle;have:=xY P.N0 (d0:=.lst ((ps.filter fun p=>decide (dA p.2 h=x)).map fun p=>Qn N p.1)) (l:=(ps.filter fun q:Nat×List Nat=>decide (dA q.2 h=x)).map Mf) hle (by rw[Hq];rfl);exact bZ (ck (bq (ak hc au) this))
theorem xR(P:Pz n N ps):∀(j i:Nat)(y:Option D),i+j=n ->∃y',aF (aI 3) xr ((Jp i j).map nD) [some (aP N ps),some (nD n),some (.lst ((f_ i).map fun h=>aQ true n N (aq ps) h)),y]=.nx [some (aP N ps),some (nD n),some (.lst ((f_ n).map fun h=>aQ true n N (aq ps) h)),y']
|0,i,y,h=>by
  have:i=n:=by omega
  subst this;exact⟨y,eJ⟩
|j+1,i,y,h=>by
  have hi:i<n:=by omega
  have hn:=P.n7;obtain⟨y',ih⟩:=xR P j (i+1) (some (nD i)) (by omega);refine⟨y',?_⟩;rw[<-ih,Iy,A_];refine dZ (r1:=[some (aP N ps),some (nD n),some (.lst ((f_ i).map fun h=>aQ true n N (aq ps) h)),some (nD i)]) rfl ?_;have hc:=ic (nl:=1) (cap:=[0,3]) (fi:=bn bc (ah (gv 1) ae)) (ft:=aI 0) (fe:=aG (ah (gv 1) (ah (gv 2) (ah (gv 0) ae))) [] kW) (r:=[some (aP N ps),some (nD n),some (.lst ((f_ i).map fun h=>aQ true n N (aq ps) h)),some (nD i)]) (l:=f_ n) nD (fun x=>Qn N (aq ps i x)) (fT (ak (d:=nD n) rfl au) (fP (by omega))) (by simp;omega) fun x _=>⟨[some (nD x),some (aP N ps),some (nD i)],rfl,bq (ak (d:=aP N ps) rfl (ak (d:=nD i) rfl (ak (d:=nD x) rfl au))) (Fh P hi)⟩
  rw[show(f_ (i+1)).map (fun h=>aQ true n N (aq ps) h)=(f_ i).map (fun h=>aQ true n N (aq ps) h)++[aQ true n N (aq ps) i]by rw[IE,GM];rfl];exact aw (iJ (d:=.lst ((f_ i).map fun h=>aQ true n N (aq ps) h)) (ds:=[aQ true n N (aq ps) i]) rfl rfl (ak (cG (ak hc au) (e_tupL _)) au) (jU (by simp;omega)))
theorem Ff(P:Pz n N ps):mN [aP N ps]=.ok (ba true n N (aq ps)):=by
 have hn:=P.n7;obtain⟨y,e⟩:=xR P n 0 none (by omega);rw[<-HE]at e;refine cD (B:=o6) (n:=4) ?_;unfold o6;have h0:∃p,p∈ps/\az (aP N ps) (.int 0)=some (pN N p):=by cases hp:ps with
 |nil=>exact absurd hp P.ne
 |cons p t=>exact⟨p,i_,ixA_L0 _ _⟩
 obtain⟨p,hp,h0⟩:=h0;have h1:az (pN N p) (.int 1)=some (TN p.2):=jJ (i:=1) rfl;refine(aw (bh (d:=nD n) (cG (ak (am (b:=.int 1) (am (a:=aP N ps) (b:=.int 0) rfl rfl h0) rfl h1) au) (by rw[wU,(P.ok p hp).length_eq,Ic])))).trans ?_;refine(aw (bh (d:=.lst []) (jf au (by simp)))).trans ?_;refine(aw ((eL (fT (ak (d:=nD n) rfl au) (fP (by omega)))).trans e)).trans ?_;exact bZ (ck (cG (ak (d:=.lst ((f_ n).map fun h=>aQ true n N (aq ps) h)) rfl au) (e_tupL _)))
theorem wm(hN:Nn N){a b:Nat}(ha:a<=N)(hb:b<=N):jl [Qn N a,Qn N b]=.ok (Qn N (a+b)):=by have:=Fd (gY hN ha) (gY hN hb) (by omega);rw[wW hN.pos,<-Jj]at this;exact this
abbrev iW(n N:Nat)(q:Nat->Nat):D:=.lst ((f_ n).map fun x=>Qn N (q x))
theorem wX(hN:Nn N){d0 d1 d2:D}{h:Nat}(hh:h<n):∀(ps:List (Nat×List Nat))(s:Nat)(q:Nat->Nat)(x5 x6:Option D),(∀p∈ps,p.2.Perm (f_ n))->(∀x,q x<=s)->s+(ps.map (·.1)).sum<=N ->∃(y5 y6:Option D),aF (dP (bQ (aI 5) (bQ (aI 6) dG))) yi (ps.map (pN N)) [some d0,some d1,some d2,some (nD h),some (iW n N q),x5,x6]=.nx [some d0,some d1,some d2,some (nD h),some (iW n N fun x=>q x+aq ps h x),y5,y6]
|[],s,q,x5,x6,_,hq,hk=>⟨x5,x6,eJ⟩
|p::ps,s,q,x5,x6,hp,hq,hk=>by
  rw[A_,Ht]at hk;have b2:=hp p i_;obtain⟨hhl,hg⟩:=gz b2 hh;have hix:=lP hhl;obtain⟨y5,y6,e2⟩:=wX hN (d0:=d0) (d1:=d1) (d2:=d2) hh ps (s+p.1) (fun y=>if y=dA p.2 h then q y+p.1 else q y) (some (Qn N p.1)) (some (TN p.2)) (fun r hr=>hp r (g_ _ hr)) (fun x=>by have:=hq x;show(if x=dA p.2 h then _ else _)<=_;split <;> omega) (by omega);refine⟨y5,y6,?_⟩;have er:(fun x=>q x+aq (p::ps) h x)=fun x=>(if x=dA p.2 h then q x+p.1 else q x)+aq ps h x:=by funext x;rw[ng];split <;> omega
  rw[A_,er,<-e2];refine dZ (r1:=[some d0,some d1,some d2,some (nD h),some (iW n N q),some (Qn N p.1),some (TN p.2)]) rfl ?_;have es:=zi (n:=n) (f:=fun x=>Qn N (q x)) (v:=Qn N (q (dA p.2 h)+p.1)) hg;have ef:((f_ n).map fun y=>if y=dA p.2 h then Qn N (q (dA p.2 h)+p.1)else Qn N (q y))=(f_ n).map fun y=>Qn N (if y=dA p.2 h then q y+p.1 else q y):=by
   refine HL fun y _=>?_;by_cases e:y=dA p.2 h
   .rw[if_pos e,if_pos e,e]
   .rw[if_neg e,if_neg e]
  rw[ef]at es;have hqs:=hq (dA p.2 h);exact aw (uX (d:=iW n N q) (k:=nD (dA p.2 h)) rfl (bq (ak (am (a:=iW n N q) rfl (am (a:=TN p.2) (b:=nD h) rfl rfl hix) (rX hg)) (ak (d:=Qn N p.1) rfl au)) (wm hN (by omega) (by omega))) (am (a:=TN p.2) (b:=nD h) rfl rfl hix) es)
theorem wY(P:Pz n N ps):∀(j i:Nat)(x3 x4 x5 x6:Option D),i+j=n ->∃(y3 y4 y5 y6:Option D),aF (aI 3) yj ((Jp i j).map nD) [some (aP N ps),some (nD n),some (.lst ((f_ i).map fun h=>aQ true n N (aq ps) h)),x3,x4,x5,x6]=.nx [some (aP N ps),some (nD n),some (.lst ((f_ n).map fun h=>aQ true n N (aq ps) h)),y3,y4,y5,y6]
|0,i,x3,x4,x5,x6,h=>by
  have:i=n:=by omega
  subst this;exact⟨x3,x4,x5,x6,eJ⟩
|j+1,i,x3,x4,x5,x6,h=>by
  have hi:i<n:=by omega
  have hn:=P.n7;obtain⟨y5,y6,e2⟩:=wX P.N0 (d0:=aP N ps) (d1:=nD n) (d2:=.lst ((f_ i).map fun h=>aQ true n N (aq ps) h)) hi ps 0 (fun _=>0) x5 x6 P.ok (fun _=>w_ _) (by have:=P.sum;omega);have ez:(fun x=>0+aq ps i x)=aq ps i:=by funext x;omega
  rw[ez]at e2;obtain⟨z3,z4,z5,z6,i2⟩:=wY P j (i+1) (some (nD i)) (some (iW n N (aq ps i))) y5 y6 (by omega);refine⟨z3,z4,z5,z6,?_⟩;rw[<-i2,Iy,A_];refine dZ (r1:=[some (aP N ps),some (nD n),some (.lst ((f_ i).map fun h=>aQ true n N (aq ps) h)),some (nD i),x4,x5,x6]) rfl ?_;refine(aw (bh (d:=iW n N fun _=>0) (ic (l:=f_ n) nD (fun _=>Qn N 0) (fT (ak (d:=nD n) rfl au) (fP (by omega))) (by simp;omega) fun x _=>⟨[some (nD x)],rfl,by show _=Res.ok (FR (lo N 0));rw[d9 P.N0];exact iI (ak (d:=.int 0) rfl (ak (d:=.int 1) rfl au)) (by simp)⟩))).trans ?_;refine(aw ((eL (ib (d:=aP N ps) rfl rfl)).trans e2)).trans ?_;rw[show(f_ (i+1)).map (fun h=>aQ true n N (aq ps) h)=(f_ i).map (fun h=>aQ true n N (aq ps) h)++[aQ true n N (aq ps) i]by rw[IE,GM];rfl];exact aw (iJ (d:=.lst ((f_ i).map fun h=>aQ true n N (aq ps) h)) (ds:=[aQ true n N (aq ps) i]) rfl rfl (ak (cG (ak (d:=iW n N (aq ps i)) rfl au) (e_tupL _)) au) (jU (by simp;omega)))
theorem xS(P:Pz n N ps):iR [aP N ps,nD n]=.ok (ba true n N (aq ps)):=by have hn:=P.n7;obtain⟨y3,y4,y5,y6,e2⟩:=wY P n 0 none none none none (by omega);rw[<-HE]at e2;refine cD (B:=qL) (n:=7) ?_;unfold qL;refine(aw (bh (d:=.lst []) (jf au (by simp)))).trans ?_;refine(aw ((eL (fT (ak (d:=nD n) rfl au) (fP (by omega)))).trans e2)).trans ?_;exact bZ (ck (cG (ak (d:=.lst ((f_ n).map fun h=>aQ true n N (aq ps) h)) rfl au) (e_tupL _)))
end
theorem vR(ns:List Int)(at' n many:Nat){ws:List Nat}(hw:ws.length=many)(hb:∀x∈ws,1<=x/\x<=60)(hs0:0<ws.sum)(hs:ws.sum<=720)(hat:at'<=60)(hn:n<=60):∀(j i:Nat)(ps:List (Nat×List Nat))(x:Option D),i+j=many->many<=12->ps.map (·.1)=ws.take i->(∀p∈ps,p.2.Perm (f_ n)) ->∃(ps':List (Nat×List Nat))(y:Option D),ps'.map (·.1)=ws/\(∀p∈ps',p.2.Perm (f_ n))/\aF (aI 7) yk ((Jp i j).map nD) [some (IN ns),some (nD at'),some (nD n),some (nD many),some (LN ws),some (nD ws.sum),some (aP ws.sum ps),x]=.nx [some (IN ns),some (nD at'),some (nD n),some (nD many),some (LN ws),some (nD ws.sum),some (aP ws.sum ps'),y]
|0,i,ps,x,h,_,hl,hp=>⟨ps,x,by rw[hl,KU (by omega)],hp,eJ⟩
|j+1,i,ps,x,h,h12,hl,hp=>by
  have hi:i<ws.length:=by omega
  have hwi:=hb ws[i] (IY _);obtain⟨c,hc⟩:=mY ns (at'+2*i+1) (by omega);obtain⟨row,r1,r2⟩:=C2 c n hn;have pl:ps.length=i:=by have:=congrArg Ia hl;rw[t_,IV]at this;omega
  obtain⟨ps',y,e1,e2,e3⟩:=vR ns at' n many hw hb hs0 hs hat hn j (i+1) (ps++[(ws[i],row)]) (some (nD i)) (by omega) h12 (by rw[GM,hl,List.take_succ,m_ hi];rfl) (fun p hpp=>by
   rcases He.mp hpp with z|z
   .exact hp p z
   .rw[y_.mp z];exact r1)
  refine⟨ps',y,e1,e2,?_⟩;rw[<-e3,Iy,A_];refine dZ (r1:=[some (IN ns),some (nD at'),some (nD n),some (nD many),some (LN ws),some (nD ws.sum),some (aP ws.sum ps),some (nD i)]) rfl ?_;rw[show aP ws.sum (ps++[(ws[i],row)])=.lst (ps.map (pN ws.sum)++[pN ws.sum (ws[i],row)])by show D.lst (Ma _ _)=_;rw[GM];rfl];have m2:bd (.int 2) (nD i)=some (nD (2*i)):=by rw[mJ (.inl ⟨by decide,by decide⟩)];show some (D.int _)=some (D.int _);rw[GQ];rfl
  have hix:az (LN ws) (nD i)=some (.int (ws[i]:Int)):=jI (by rw[o_,m_ hi];rfl);exact aw (iJ (d:=aP ws.sum ps) (ds:=[pN ws.sum (ws[i],row)]) rfl rfl (ak (iI (ak (bq (ak (am (a:=LN ws) (b:=nD i) rfl rfl hix) (ak (d:=nD ws.sum) rfl au)) (wK (k:=10) hs0 (by show ws.sum<1024;omega) (by omega))) (ak (bq (ak (bq (ak (d:=IN ns) rfl (ak (am (b:=nD 1) (am (a:=nD at') rfl (am (b:=nD i) rfl rfl m2) (hZ _ _)) rfl (hZ _ 1)) au)) hc) (ak (d:=nD n) rfl au)) r2) au)) (by simp)) au) (jU (by simp;omega)))
theorem Fg(ns:List Int)(at' n many:Nat)(hat:at'<=60)(hn1:1<=n)(hn:n<=7)(h1:1<=many)(h12:many<=12):∃(N:Nat)(ps:List (Nat×List Nat)),N<=720/\Pz n N ps/\jZ [IN ns,nD at',nD n,nD many]=.ok (aP N ps):=by
 have hc:∀k:Nat,∃c:Nat,k<=60->dL [IN ns,nD (at'+2*k)]=.ok (nD c):=by
  intro k;by_cases hk:k<=60
  .obtain⟨c,hc⟩:=mY ns (at'+2*k) (by omega);exact⟨c,fun _=>hc⟩
  .exact⟨0,fun z=>absurd z hk⟩
 obtain⟨g,hg⟩:=Ix hc;have hb:∀x∈(f_ many).map (fun k=>1+g k%60),1<=x/\x<=60:=fun x hx=>by obtain⟨k,_,rfl⟩:=D_.mp hx;have:=Jm (g k) (show 60>0 by omega);omega
 have hsum:=uO _ hb;have hlen:((f_ many).map fun k=>1+g k%60).length=many:=by simp
 rw[hlen]at hsum;obtain⟨ps,y,e1,e2,e3⟩:=vR ns at' n many hlen hb (by omega) (by omega) hat (by omega) many 0 [] none (by omega) h12 rfl (fun _ h=>by cases h);rw[<-HE]at e3;have pl:ps.length=many:=by have:=congrArg Ia e1;rw[t_]at this;omega
 refine⟨_,ps,?_,⟨hn1,hn,⟨?_,?_⟩,congrArg List.sum e1,e2,by omega⟩,cD (B:=qM) (n:=8) ?_⟩
 .omega
 .omega
 .exact HU (show _<=720 by omega) (by decide)
 unfold qM;refine(aw (bh (d:=LN ((f_ many).map fun k=>1+g k%60)) ?_)).trans ?_
 .have hcc:=ic (nl:=1) (cap:=[0,1]) (fi:=bn bc (ah (gv 3) ae)) (ft:=aI 0) (fe:=f2 (ci 1) (f2 (aG (ah (gv 1) (ah (f2 (gv 2) (f2 (ci 2) (gv 0) bd) addA) ae)) [] dL) (ci 60) aO) addA) (r:=[some (IN ns),some (nD at'),some (nD n),some (nD many),none,none,none,none]) (l:=f_ many) nD (fun k=>nD (1+g k%60)) (fT (ak (d:=nD many) rfl au) (fP (by omega))) (by simp;omega) fun k hk=>⟨[some (nD k),some (IN ns),some (nD at')],rfl,?_⟩
  .refine hcc.trans ?_;show Res.ok (D.lst _)=Res.ok (D.lst _);rw[Hq];rfl
  .have hk':=z_.mp hk;have m2:bd (.int 2) (nD k)=some (nD (2*k)):=by rw[mJ (.inl ⟨by decide,by decide⟩)];show some (D.int _)=some (D.int _);rw[GQ];rfl
   exact am (a:=nD 1) rfl (am (b:=nD 60) (bq (ak (d:=IN ns) rfl (ak (am (a:=nD at') rfl (am (b:=nD k) rfl rfl m2) (hZ _ _)) au)) (hg k (by omega))) rfl (kz (by omega))) (hZ 1 _)
 refine(aw (bh (cG (ak (d:=LN ((f_ many).map fun k=>1+g k%60)) rfl au) (zj _)))).trans ?_;refine(aw (bh (d:=.lst []) (jf au (by simp)))).trans ?_;refine(aw ((eL (fT (ak (d:=nD many) rfl au) (fP (by omega)))).trans e3)).trans ?_;exact bZ (ck (d:=aP _ ps) rfl)
end Law
end
section
set_option exponentiation.threshold 3000
namespace Law
open PySem PyProof.Rows L2 DL Fq Bk
def Nm:Nat->D->Prop
|_,.int _=>True
|k+1,.tup ds=>∀d∈ds,Nm k d
|k+1,.lst ds=>∀d∈ds,Nm k d
|_,_=>False
theorem pX{k:Nat}(ih:∀d,Nm k d->Jl (aJ d) (aJ d)=true):∀ds:List D,(∀d∈ds,Nm k d)->Kw (zdR ds) (zdR ds)=true
|[],_=>by simp[zdR,Kw]
|d::ds,h=>by have h1:=ih d (h d i_);have h2:=pX ih ds fun x hx=>h x (g_ _ hx);simp only[zdR,Kw,h1,h2,ND]
theorem Aw:∀(k:Nat)(d:D),Nm k d->Jl (aJ d) (aJ d)=true:=by
 intro k
 induction k with
|zero=>intro d h;cases d <;> simp_all [Nm,aJ,Jl]
|succ k ih=>intro d h;cases d with
 |int i=>simp[aJ,Jl]
 |tup ds=>simp only[aJ,Jl];exact pX ih ds h
 |lst ds=>simp only[aJ,Jl];exact pX ih ds h
 |_=>simp[Nm]at h
theorem t8:∀(k:Nat)(d:D),Nm k d->bi k d:=by
 intro k
 induction k with
|zero=>intro d h;cases d <;> simp_all [Nm,bi]
|succ k ih=>intro d h;cases d with
 |int i=>trivial
 |tup ds=>exact kF.mpr fun x hx=>ih x (h x hx)
 |lst ds=>exact pK.mpr fun x hx=>ih x (h x hx)
 |_=>simp[Nm]at h
theorem t5{d:D}(h:Nm 60 d)(hs:g6 d d=false):dz d d=some true:=by rw[wQ hs (t8 60 d h) (t8 60 d h)];unfold jx;rw[Aw 60 d h]
theorem t6{d:D}(h:Nm 60 d)(hs:g6 d d=false):eqD d d=some (.bl true):=by unfold eqD;rw[t5 h hs];rfl
theorem Ax{d:D}(h:Nm 60 d)(hs:g6 d d=false):neD d d=some (.bl false):=by unfold neD;rw[t5 h hs];rfl
theorem sD{k:Nat}(q:Int×Nat):Nm (k+1) (FR q):=by intro d hd;simp at hd;rcases hd with rfl|rfl <;> (cases k <;> trivial)
theorem zK{k:Nat}(l:List Nat):Nm (k+1) (TN l):=by intro d hd;obtain⟨x,_,rfl⟩:=D_.mp hd;cases k <;> trivial
theorem sE(n N:Nat)(A:Nat->Nat->Nat):Nm 60 (ba true n N A):=by intro d hd;obtain⟨h,_,rfl⟩:=D_.mp hd;intro e he;obtain⟨q,_,rfl⟩:=D_.mp he;exact sD _
theorem zJ(N:Nat)(ps:List (Nat×List Nat)):Nm 60 (aP N ps):=by
 intro d hd;obtain⟨p,_,rfl⟩:=D_.mp hd;intro e he;simp at he;rcases he with rfl|rfl
 .exact sD _
 .exact zK p.2
theorem sA(a b:Nat):gR (nD a) (nD b)=some (.bl (decide (a<=b))):=by show some (D.bl (decide ((a:Int)<=(b:Int))))=_;simp only[Int.ofNat_le]
theorem Bf{a b:Nat}(h:b<=a):fX (nD a) (nD b)=some (nD (a-b)):=by show some (D.int ((a:Int)-(b:Int)))=_;rw[<-MI h]
theorem wE:∀l:List (List Nat),hJ (l.map TN)=some (l.map fun r=>r.map fun k:Nat=>(k:Int))
|[]=>rfl
|r::l=>by show(dk (r.map nD)).bind _=_;rw[mT];show(hJ (l.map TN)).map _=_;rw[wE l];rfl
theorem CS{l:List (List Nat)}(hn:l.Nodup)(hl:l.length<=76):mo [.lst (l.map TN)]=some (nD l.length):=by
 show(hJ (l.map TN)).bind _=_;rw[wE];show(if _ then _ else _)=_;have hc:∀a b:List Nat,(a.map fun k:Nat=>(k:Int))=(b.map fun k:Nat=>(k:Int))->a=b:=fun a=>by induction a with
 |nil=>intro b h;cases b with
  |nil=>rfl
  |cons x b=>cases h
 |cons x a ih=>intro b h;cases b with
  |nil=>cases h
  |cons y b=>rw[A_,A_,List.cons.injEq]at h;rw[JK.mp h.1,ih b h.2]
 rw[if_pos ⟨IM.mpr (hn.imp fun{a b} w z=>w (hc a b z)),by simpa using hl⟩,t_]
theorem wM{t:Bool}{n N:Nat}{A B:Nat->Nat->Nat}(h:∀i j,i<n->j<n->A i j=B i j):ba t n N A=ba t n N B:=by show wr t _=wr t _;congr 1;refine HL fun i hi=>?_;show wr t _=wr t _;congr 1;refine HL fun j hj=>?_;rw[h i j (z_.mp hi) (z_.mp hj)]
theorem Ap{N c:Nat}(hN:Nn N)(hc:0<c):0<(lo N c).1:=by
 have h1:(lo N c).1*(N:Int)=(c:Int)*((lo N c).2:Int):=eZ _ N;have p1:=eY (c:Int) hN.pos;have h2:(0:Int)<(c:Int)*((lo N c).2:Int):=by rw[<-GQ];exact Int.ofNat_lt.mpr (IR hc p1)
 rw[<-h1]at h2;have:=hN.pos;exact Int.pos_of_mul_pos_left h2 (by omega)
section
variable{n N:Nat}{A0 A':Nat->Nat->Nat}{ps:List (Nat×List Nat)}
theorem sW(hN:Nn N)(hn1:1<=n)(hn:n<=7)(P:Pg n N A0 A' 0 ps):Pz n N ps:=⟨hn1,hn,hN,P.done.2,fun q hq=>(P.pos q hq).2,by have:=P.few;have h36:(n-1)*(n-1)<=36:=Kf (show n-1<=6 by omega) (show n-1<=6 by omega);omega⟩
theorem vX(hN:Nn N)(hn:n<=7){d0 d1:D}:∀(l:List (Nat×List Nat))(s:Nat)(x:Option D),(∀q∈l,0<q.1/\q.2.Perm (f_ n))->s+(l.map (·.1)).sum<=N ->∃x',aF (aI 4) yD (l.map (pN N)) [some d0,some d1,some (nD n),some (Qn N s),x]=.nx [some d0,some d1,some (nD n),some (Qn N (s+(l.map (·.1)).sum)),x']
|[],s,x,_,_=>⟨x,eJ⟩
|q::l,s,x,hl,hs=>by
  rw[A_,Ht]at hs;obtain⟨q1,q2⟩:=hl q i_;obtain⟨x',ih⟩:=vX hN hn (d0:=d0) (d1:=d1) l (s+q.1) (some (pN N q)) (fun r hr=>hl r (g_ _ hr)) (by omega);refine⟨x',?_⟩;rw[A_,A_,Ht,<-NH,<-ih];refine dZ (r1:=[some d0,some d1,some (nD n),some (Qn N s),some (pN N q)]) rfl ?_;have i0:az (pN N q) (.int 0)=some (Qn N q.1):=ixA_T0 _ _;have i1:az (pN N q) (.int 1)=some (TN q.2):=jJ (i:=1) rfl;have hl2:lenD [pN N q]=some (nD 2):=rfl;have hne:=ki 2 2;rw[decide_eq_true rfl]at hne;have htop:gR (.int (lo N q.1).1) (.int 0)=some (.bl false):=by show some (D.bl (decide ((lo N q.1).1<=0)))=_;rw[decide_eq_false (by have:=Ap hN q1;omega)]
  refine(aw ((bL ?_).trans (e_skip _))).trans ?_
  .rw[cy (eV (b:=true) (dM (hU (a:=pN N q) (d:=.bl true) rfl rfl) rfl)),cy (bT (am (b:=nD 2) (cG (ak (d:=pN N q) rfl au) hl2) rfl hne)),cy (eV (b:=true) (dM (bq (ak (am (a:=pN N q) (b:=.int 0) rfl rfl i0) au) (DV (gY hN (show q.1<=N by omega)) (pD _ hN.pos) (by omega))) rfl))];exact bT (am (b:=.int 0) (am (b:=.int 0) (am (a:=pN N q) (b:=.int 0) rfl rfl i0) rfl (gG _)) rfl htop)
  have hdl:=FD (l:=q.2) (m:=n) (q2.nodup_iff.mpr HQ) (fun x hx=>z_.mp (q2.mem_iff.mp hx)) (by rw[q2.length_eq];simp;omega);rw[show q.2.length=n by rw[q2.length_eq];simp]at hdl;refine(aw ((bL ?_).trans (e_skip _))).trans ?_
  .exact eV (b:=true) (dM (bq (ak (am (a:=pN N q) (b:=.int 1) rfl rfl i1) (ak (d:=nD n) rfl (ak (d:=nD n) rfl au))) hdl) rfl)
  exact aw (bh (bq (ak (d:=Qn N s) rfl (ak (am (a:=pN N q) (b:=.int 0) rfl rfl i0) au)) (wm hN (by omega) (by omega))))
theorem A4(hN:Nn N)(hn1:1<=n)(hn:n<=7)(P:Pg n N A0 A' 0 ps):nU [aP N ps,ba true n N A0]=.ok (.bl true):=by
 have Z:=sW hN hn1 hn P;have h36:(n-1)*(n-1)<=36:=Kf (show n-1<=6 by omega) (show n-1<=6 by omega);have few:=P.few;obtain⟨x',e⟩:=vX hN hn (d0:=aP N ps) (d1:=ba true n N A0) ps 0 none P.pos (by have:=Z.sum;omega);rw[IW,Z.sum]at e;refine cD (B:=re) (n:=5) ?_;unfold re;refine(aw (bh (d:=nD n) (cG (ak (d:=ba true n N A0) rfl au) (by rw[tV,t_,Ic])))).trans ?_;have hlen:lenD [aP N ps]=some (nD ps.length):=qd _ _;have p1:1<=ps.length:=by cases hp:ps with
 |nil=>exact absurd hp Z.ne
 |cons a b=>simp
 refine(aw ((bL ?_).trans (e_skip _))).trans ?_
 .rw[cy (eV (b:=true) (dM (hU (a:=aP N ps) (d:=.bl true) rfl rfl) rfl))];have l1:=sA 1 ps.length;rw[decide_eq_true p1]at l1;have l2:=sA ps.length ((n-1)*(n-1)+1);rw[decide_eq_true few]at l2;have hs:=Bf (a:=n) (b:=1) hn1;have hm:bd (nD (n-1)) (nD (n-1))=some (nD ((n-1)*(n-1))):=by rw[mJ (.inl ⟨by omega,by omega⟩)];show some (D.int _)=some (D.int _);rw[GQ]
  exact eV (bT (vK (x:=nD 1) (y:=nD ps.length) (w:=nD ((n-1)*(n-1)+1)) rfl (cG (ak (d:=aP N ps) rfl au) hlen) l1 (am (b:=nD 1) (am (am (a:=nD n) (b:=nD 1) rfl rfl hs) (am (a:=nD n) (b:=nD 1) rfl rfl hs) hm) rfl (hZ _ _)) l2))
 refine(aw (bh (d:=Qn N 0) (by show _=Res.ok (FR (lo N 0));rw[d9 hN];exact iI (ak (d:=.int 0) rfl (ak (d:=.int 1) rfl au)) (by simp)))).trans ?_;refine(aw ((eL (ib (d:=aP N ps) rfl rfl)).trans e)).trans ?_;refine(aw ((bL ?_).trans (e_skip _))).trans ?_
 .have hc:=ic (nl:=2) (cap:=[]) (fi:=aR bR (gv 0)) (ft:=dP (bQ (aI 0) (bQ (aI 1) dG))) (fe:=gv 1) (r:=[some (aP N ps),some (ba true n N A0),some (nD n),some (Qn N N),x']) (l:=ps) (pN N) (fun q=>TN q.2) (ib (d:=aP N ps) rfl rfl) (by omega) fun q _=>⟨[some (Qn N q.1),some (TN q.2)],rfl,rfl⟩
  rw[show ps.map (fun q=>TN q.2)=(ps.map (·.2)).map TN by rw[Hq];rfl]at hc;have hset:=CS (l:=ps.map (·.2)) P.nd (by rw[t_];omega);rw[t_]at hset;have hne:=ki ps.length ps.length;rw[decide_eq_true rfl]at hne;exact bT (am (cG (ak hc au) hset) (cG (ak (d:=aP N ps) rfl au) hlen) hne)
 have h11:=Az (lo N N) (1,1);rw[decide_eq_true (rQ hN)]at h11;refine bZ (ck ?_);rw[uT (am (a:=Qn N N) (b:=FR (1,1)) rfl (iI (ak (d:=.int 1) rfl (ak (d:=.int 1) rfl au)) (by simp)) h11)];have hm:=xS Z;rw[<-wM (A:=A0) P.done.1]at hm;exact am (b:=ba true n N A0) (bq (ak (d:=aP N ps) rfl (ak (d:=nD n) rfl au)) hm) rfl (t6 (sE n N A0) rfl)
end
theorem AX{n:Nat}:DS n (fun _ _=>1) n:=by
 have h2:∀n,sm n (fun _=>1)=n:=fun n=>by induction n with
 |zero=>rfl
 |succ n ih=>unfold sm;rw[ih]
 exact⟨fun _ _=>h2 n,fun _ _=>h2 n⟩
theorem rR(n:Nat):lo n 1=(1,n):=by unfold lo low;simp
theorem EV(ns:List Int){n:Nat}(hn1:1<=n)(hn:n<=7):∃(N:Nat)(A0:Nat->Nat->Nat),Nn N/\DS n A0 N/\ni [IN ns,nD n]=.ok (ba true n N A0):=by
 obtain⟨c,hc⟩:=mY ns 1 (by omega);have hcell:∀(r:af),r[0]? = some (some (IN ns))->aG (ah (gv 0) (ah (ci 1) ae)) [] dL r=.ok (nD c):=fun r hr=>bq (ak (d:=IN ns) (by show cA r 0=_;unfold cA;rw[hr]) (ak (d:=nD 1) rfl au)) hc;have w:(f2 (f2 (aG (ah (gv 0) (ah (ci 1) ae)) [] dL) (ci 56) gA) (ci 5) aO) [some (IN ns),some (nD n),none,none]=.ok (nD (c/56%5)):=am (b:=nD 5) (am (b:=nD 56) (hcell _ rfl) rfl (pr (by omega) (by omega))) rfl (kz (by omega));have t0:=iZ (c/56%5) 0;have t1:=iZ (c/56%5) 1;generalize c/56%5=v at w t0 t1;by_cases z0:v=0
 .rw[decide_eq_true z0]at t0;refine⟨n,fun _ _=>1,⟨by omega,HU hn (by decide)⟩,AX,cD (B:=lj) (n:=4) ?_⟩;unfold lj;refine(aw (bh w)).trans ?_;refine bZ ((gr (bT (am (a:=nD v) (b:=nD 0) rfl rfl t0))).trans (bZ (ck ?_)));have hi:=ic (nl:=1) (cap:=[1]) (fi:=bn bc (ah (gv 1) ae)) (ft:=aI 0) (fe:=fC (ah (cU 1 [1] (bn bc (ah (gv 1) ae)) (aI 0) (fun _=>Res.ok true) (fm (ah (ci 1) (ah (gv 1) ae)))) ae) tupD) (r:=[some (IN ns),some (nD n),some (nD v),none]) (l:=f_ n) nD (fun i=>aQ true n n (fun _ _=>1) i) (fT (ak (d:=nD n) rfl au) (fP (by omega))) (by simp;omega) fun i _=>⟨[some (nD i),some (nD n)],rfl,cG (ak (ic (l:=f_ n) nD (fun _=>Qn n 1) (fT (ak (d:=nD n) rfl au) (fP (by omega))) (by simp;omega) fun j _=>⟨[some (nD j),some (nD n)],rfl,by show _=Res.ok (FR (lo n 1));rw[rR];exact iI (ak (d:=.int 1) rfl (ak (d:=nD n) rfl au)) (by simp)⟩) au) (e_tupL _)⟩
  exact cG (ak hi au) (e_tupL _)
 .rw[decide_eq_false z0]at t0
  suffices h:∃many,1<=many/\many<=12/\(aa (ao bK 3 (f2 (ci 1) (f2 (f2 (aG (ah (gv 0) (ah (ci 1) ae)) [] dL) (ci 7) gA) (ci 8) aO) addA)) (aa (cF bK (a9 (f2 (gv 2) (ci 1) eqD)) (aa (ao bK 3 (ci 1)) ay) ay) (aa (av bK (aG (ah (aG (ah (gv 0) (ah (ci 2) (ah (gv 1) (ah (gv 3) ae)))) [] jZ) (ah (gv 1) ae)) [] iR)) ay))) [some (IN ns),some (nD n),some (nD v),none]=(aa (av bK (aG (ah (aG (ah (gv 0) (ah (ci 2) (ah (gv 1) (ah (gv 3) ae)))) [] jZ) (ah (gv 1) ae)) [] iR)) ay) [some (IN ns),some (nD n),some (nD v),some (nD many)]by obtain⟨many,m1,m2,e⟩:=h;obtain⟨N,ps,_,Z,e2⟩:=Fg ns 2 n many (by omega) hn1 hn m1 m2;refine⟨N,aq ps,Z.N0,Z.sum▸uJ Z.ok,cD (B:=lj) (n:=4) ?_⟩;unfold lj;refine(aw (bh w)).trans ?_;refine(aw ((bL (bT (am (a:=nD v) (b:=nD 0) rfl rfl t0))).trans (e_skip _))).trans ?_;refine Eq.trans e ?_;exact bZ (ck (bq (ak (bq (ak (d:=IN ns) rfl (ak (d:=nD 2) rfl (ak (d:=nD n) rfl (ak (d:=nD many) rfl au)))) e2) (ak (d:=nD n) rfl au)) (xS Z)))
  have h8:c/7%8<8:=Jm _ (by omega);have hm:ao bK 3 (f2 (ci 1) (f2 (f2 (aG (ah (gv 0) (ah (ci 1) ae)) [] dL) (ci 7) gA) (ci 8) aO) addA) [some (IN ns),some (nD n),some (nD v),none]=.nx [some (IN ns),some (nD n),some (nD v),some (nD (1+c/7%8))]:=bh (am (a:=nD 1) rfl (am (b:=nD 8) (am (b:=nD 7) (hcell _ rfl) rfl (pr (by omega) (by omega))) rfl (kz (by omega))) (hZ _ _));by_cases z1:v=1
  .rw[decide_eq_true z1]at t1;refine⟨1,by omega,by omega,(aw hm).trans (aw ((gr (bT (am (a:=nD v) (b:=nD 1) rfl rfl t1))).trans (aw (bh (d:=nD 1) rfl))))⟩
  .rw[decide_eq_false z1]at t1;exact⟨1+c/7%8,by omega,by omega,(aw hm).trans (aw ((bL (bT (am (a:=nD v) (b:=nD 1) rfl rfl t1))).trans (e_skip _)))⟩
theorem B4{f:FE}{r:af}{zs:List D}(h:f r=.ok (.lst zs)):gm f r=.ok (.lst zs):=by unfold gm;rw[h];rfl
theorem main(ns:List Int)(_:ns.length<=63):n8 [.lst (ns.map .int)]=.ok (.bl true):=by
 obtain⟨c,hc⟩:=mY ns 1 (by omega);have hn7:c%7<7:=Jm _ (by omega);obtain⟨N,A0,hN,D0,e0⟩:=EV ns (n:=1+c%7) (by omega) (by omega);obtain⟨A',ps,P,e1⟩:=EW hN (by omega) (by omega) D0 true;have Z:=sW hN (by omega) (by omega) P;have e2:=A4 hN (by omega) (by omega) P;have e3:=Ff Z;rw[<-wM (A:=A0) P.done.1]at e3;generalize hn:1+c%7=n at *;refine cD (B:=ma) (n:=5) ?_;unfold ma;refine(aw (bh (d:=nD n) (am (a:=nD 1) rfl (am (b:=nD 7) (bq (ak (d:=IN ns) rfl (ak (d:=nD 1) rfl au)) hc) rfl (kz (by omega))) (by rw[hZ,hn])))).trans ?_;refine(aw (bh (bq (ak (d:=IN ns) rfl (ak (d:=nD n) rfl au)) e0))).trans ?_;refine(aw (bh (B4 (bq (ak (d:=ba true n N A0) rfl au) e1)))).trans ?_;refine(aw ((bL ?_).trans (e_skip _))).trans ?_
 .rw[cy (eV (b:=true) (dM (bq (ak (d:=aP N ps) rfl (ak (d:=ba true n N A0) rfl au)) e2) rfl))];exact bT (am (b:=ba true n N A0) (bq (ak (d:=aP N ps) rfl au) e3) rfl (Ax (sE n N A0) rfl))
 refine(aw (bh (d:=aP N ps) (cG (ak (d:=aP N ps) rfl au) (e_listL _)))).trans ?_;refine(aw (iJ (d:=aP N ps) (ds:=[]) (d':=.lst []) rfl rfl au rfl)).trans ?_;exact bZ (ck (am (b:=aP N ps) (bq (ak (d:=ba true n N A0) rfl au) e1) rfl (t6 (zJ N ps) rfl)))
end Law
end
open PySem PySem.W PyProof.Rows
abbrev P0:=Kx.prog
set_option maxRecDepth 100000 in
set_option maxHeartbeats 0 in
theorem PySem.Challenge.cw_ringtrade_k38_tables_parted_holds : PySem.Challenge.rw_ringtrade_k38_tables_parted.Holds := by
 w_on; o_law; k_head; (case hw=>w_witness2)
 k_fill
 refine DL.yV (l:=PySem.Challenge.rw_ringtrade_k38_tables_parted) (k:=13) (x := "_law_script") (F:=Law.n8) rfl rfl ⟨rfl,by decide,by decide,rfl⟩ (fun w h Y=>PySem.W.kIn_of Y) Law.main ?C
 intro w mg fa h KX G hmg
 have T:Law.Txt (L2.aM KX) mg:=by
  dsimp only [L2.aM]
  refine ⟨?ui,?uj,?uk,?ul,?um,?un,?uo,?up,?uq,?ur,?ut,?uu,?uv⟩
  case ui|uj|uk|ul|um|un|uo|up|uq|ur|ut|uu=>(refine' PySem.W.mg_none_of KX G ?_; k_is)
  case uv=>(refine' DL.zD KX G ?uw ?ux; (case uw=>k_is); (case ux=>k_is))
 have uy:DL.DefAt (L2.aM KX) mg "_law_common" Law.qx:=by
  dsimp only [L2.aM]
  refine' DL.ca KX G ?a ?l ?c ?k
  case a|l|c|k=>k_is
 have uz:DL.DefAt (L2.aM KX) mg "_law_low" Law.qf:=by
  dsimp only [L2.aM]
  refine' DL.ca KX G ?a ?l ?c ?k
  case a|l|c|k=>k_is
 have u0:DL.DefAt (L2.aM KX) mg "_law_plus" Law.qB:=by
  dsimp only [L2.aM]
  refine' DL.ca KX G ?a ?l ?c ?k
  case a|l|c|k=>k_is
 have u1:DL.DefAt (L2.aM KX) mg "_law_mixed" Law.lg:=by
  dsimp only [L2.aM]
  refine' DL.ca KX G ?a ?l ?c ?k
  case a|l|c|k=>k_is
 have u2:DL.DefAt (L2.aM KX) mg "_law_cell" Law.qj:=by
  dsimp only [L2.aM]
  refine' DL.ca KX G ?a ?l ?c ?k
  case a|l|c|k=>k_is
 have u3:DL.DefAt (L2.aM KX) mg "_law_row" Law.qg:=by
  dsimp only [L2.aM]
  refine' DL.ca KX G ?a ?l ?c ?k
  case a|l|c|k=>k_is
 have u4:DL.DefAt (L2.aM KX) mg "_law_parts" Law.lh:=by
  dsimp only [L2.aM]
  refine' DL.ca KX G ?a ?l ?c ?k
  case a|l|c|k=>k_is
 have u5:DL.DefAt (L2.aM KX) mg "_law_table" Law.jY:=by
  dsimp only [L2.aM]
  refine' DL.ca KX G ?a ?l ?c ?k
  case a|l|c|k=>k_is
 have u6:DL.DefAt (L2.aM KX) mg "greatest_divisor" Law.qY:=by
  dsimp only [L2.aM]
  refine' DL.ca KX G ?a ?l ?c ?k
  case a|l|c|k=>k_is
 have u7:DL.DefAt (L2.aM KX) mg "is_whole" Law.qi:=by
  dsimp only [L2.aM]
  refine' DL.ca KX G ?a ?l ?c ?k
  case a|l|c|k=>k_is
 have u8:DL.DefAt (L2.aM KX) mg "fraction" Law.qh:=by
  dsimp only [L2.aM]
  refine' DL.ca KX G ?a ?l ?c ?k
  case a|l|c|k=>k_is
 have u9:DL.DefAt (L2.aM KX) mg "plus" Law.oX:=by
  dsimp only [L2.aM]
  refine' DL.ca KX G ?a ?l ?c ?k
  case a|l|c|k=>k_is
 have va:DL.DefAt (L2.aM KX) mg "total" Law.pA:=by
  dsimp only [L2.aM]
  refine' DL.ca KX G ?a ?l ?c ?k
  case a|l|c|k=>k_is
 have vb:DL.DefAt (L2.aM KX) mg "dealing_of" Law.li:=by
  dsimp only [L2.aM]
  refine' DL.ca KX G ?a ?l ?c ?k
  case a|l|c|k=>k_is
 have vc:DL.DefAt (L2.aM KX) mg "finds_a_thing" Law.nN:=by
  dsimp only [L2.aM]
  refine' DL.ca KX G ?a ?l ?c ?k
  case a|l|c|k=>k_is
 have vd:DL.DefAt (L2.aM KX) mg "less" Law.oW:=by
  dsimp only [L2.aM]
  refine' DL.ca KX G ?a ?l ?c ?k
  case a|l|c|k=>k_is
 have ve:DL.DefAt (L2.aM KX) mg "dealing_within" Law.lu:=by
  dsimp only [L2.aM]
  refine' DL.ca KX G ?a ?l ?c ?k
  case a|l|c|k=>k_is
 have vf:DL.DefAt (L2.aM KX) mg "least" Law.pv:=by
  dsimp only [L2.aM]
  refine' DL.ca KX G ?a ?l ?c ?k
  case a|l|c|k=>k_is
 have vg:DL.DefAt (L2.aM KX) mg "minus" Law.pw:=by
  dsimp only [L2.aM]
  refine' DL.ca KX G ?a ?l ?c ?k
  case a|l|c|k=>k_is
 have vh:DL.DefAt (L2.aM KX) mg "without" Law.k6:=by
  dsimp only [L2.aM]
  refine' DL.ca KX G ?a ?l ?c ?k
  case a|l|c|k=>k_is
 have vi:DL.DefAt (L2.aM KX) mg "parted" Law.kM:=by
  dsimp only [L2.aM]
  refine' DL.ca KX G ?a ?l ?c ?k
  case a|l|c|k=>k_is
 have vj:DL.DefAt (L2.aM KX) mg "_law_is_dealing" Law.qK:=by
  dsimp only [L2.aM]
  refine' DL.ca KX G ?a ?l ?c ?k
  case a|l|c|k=>k_is
 have vk:DL.DefAt (L2.aM KX) mg "_law_is_fraction" Law.qX:=by
  dsimp only [L2.aM]
  refine' DL.ca KX G ?a ?l ?c ?k
  case a|l|c|k=>k_is
 have vl:DL.DefAt (L2.aM KX) mg "_law_parts_well" Law.ls:=by
  dsimp only [L2.aM]
  refine' DL.ca KX G ?a ?l ?c ?k
  case a|l|c|k=>k_is
 have vm:DL.DefAt (L2.aM KX) mg "share_in" Law.kT:=by
  dsimp only [L2.aM]
  refine' DL.ca KX G ?a ?l ?c ?k
  case a|l|c|k=>k_is
 have vn:DL.DefAt (L2.aM KX) mg "mixed" Law.kG:=by
  dsimp only [L2.aM]
  refine' DL.ca KX G ?a ?l ?c ?k
  case a|l|c|k=>k_is
 have vo:DL.DefAt (L2.aM KX) mg "law" Law.oG:=by
  dsimp only [L2.aM]
  refine' DL.ca KX G ?a ?l ?c ?k
  case a|l|c|k=>k_is
 refine DL.yW hmg vo (fun _ _ _ _ _ _ us hl=>match us,hl with | [_],_=>rfl) fun f fd Fn base=>?_
 have ub:=Law.D9 (P:=P0) (w:=w) (base:=base) T uy
 have uc:=Law.BR (P:=P0) (w:=w) (base:=base) T uz ub
 have ud:=Law.CK (P:=P0) (w:=w) (base:=base) T u0 uc
 have ue:=Law.Dl (P:=P0) (w:=w) (base:=base) T u1 ud
 have ua:=Law.CJ (P:=P0) (w:=w) (base:=base) T u2
 have vp:=Law.BS (P:=P0) (w:=w) (base:=base) T u3
 have vq:=Law.Ea (P:=P0) (w:=w) (base:=base) T u4 ua vp uc
 have vr:=Law.Eb (P:=P0) (w:=w) (base:=base) T u5 ua vq ue
 have vs:=Law.FB (P:=P0) (w:=w) (base:=base) T u6
 have vt:=Law.BV (P:=P0) (w:=w) (base:=base) T u7
 have uf:=Law.BU (P:=P0) (w:=w) (base:=base) T u8 vt vs
 have vu:=Law.zN (P:=P0) (w:=w) (base:=base) T u9 uf
 have ug:=Law.zx (P:=P0) (w:=w) (base:=base) T va vu
 have vv:=Law.Ec (P:=P0) (w:=w) (base:=base) T vb
 have vw:=Law.E9 (P:=P0) (w:=w) (base:=base) T vc
 have uh:=Law.zM (P:=P0) (w:=w) (base:=base) T vd
 have vx:=Law.ES (P:=P0) (w:=w) (base:=base) T ve uh vw vv
 have vy:=Law.zu (P:=P0) (w:=w) (base:=base) T vf uh
 have vz:=Law.zv (P:=P0) (w:=w) (base:=base) T vg uf
 have v0:=Law.Cd (P:=P0) (w:=w) (base:=base) T vh vz
 have v1:=Law.BI (P:=P0) (w:=w) (base:=base) T vi ug vx vy v0
 have v2:=Law.Fm (P:=P0) (w:=w) (base:=base) T vj
 have v3:=Law.FA (P:=P0) (w:=w) (base:=base) T vk ub
 have v4:=Law.Fo (P:=P0) (w:=w) (base:=base) T vl v3 v2 ud ue
 have v5:=Law.BW (P:=P0) (w:=w) (base:=base) T vm ug
 have v6:=Law.zw (P:=P0) (w:=w) (base:=base) T vn v5
 exact Law.yX T Fn ua vr v1 v6 v4
end
