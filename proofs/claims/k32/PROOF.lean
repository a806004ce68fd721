import PyProof.Rows.All
import Wide.All
import OpenK.AllK
import Wide.FinOn
import Lean
import PyProof.EqAt
import PyProof.EqKinds
import PyProof.TupleCall
import PyProof.Rows.SetFrom
import KE.KSortTup
import PyProof.Draws
import PyProof.EnumMake
import PyProof.ListRange
import PyProof.Rows.EnumRows
import PyProof.SetRoads
import PyProof.Rows.MinMaxN
import PyProof.Rows.MaxTwoN
import KE.LcSums
import PySem.Challenge.RW_ringtrade_k32_tables_made
noncomputable section
open List renaming getElem?_set_ne->a_,getElem?_set_self->d_,getElem?_eq_some_iff->f_,mem_cons_of_mem->h_,mem_cons_self->k_,getElem?_eq_getElem->m_,length_map->n_,size_toArray->o_,range->q_,getElem?_map->s_,replicate->t_,getD_eq_getElem?_getD->z_,map_cons->A_,mem_cons->C_,mem_singleton->E_,length_cons->G_,mem_append_right->Ju,getElem?_append_left->JB,nodup_cons->JC,length_set->JD,length_append->JH,all_eq_true->JJ,mem_map->JL,length_take->JM,replicate_succ->JN,mem_append->JS,filterMap_cons->JU,append_nil->JZ,map_append->J3,getElem?_replicate->J4,mem_range->J7,Nodup->J9,drop_eq_getElem_cons->Kb,mem_of_getElem?->Kd,flatten_cons->Kf,find?_cons->Kj,map_map->Km,range'->Ko,contains_cons->Ks,length_replicate->Kt,contains_iff_mem->Ku,getElem?_set->Ky,range_eq_range'->Kz,map_congr_left->KH,filter_cons->KJ,lookup_cons->KM,mem_append_left->K2,length->K4,getElem?_append_right->K5,length_drop->K_,drop_length->La,getElem_mem->Lc,mem_or_eq_of_mem_set->Lf,getElem?_range->Lh,sum_cons->Lo,mem_filterMap->Lu,reverse_cons->LJ,not_mem_nil->LZ,any_cons->L4,map->L7,foldl_cons->L9,getElem?_eq_none_iff->My,ext_getElem?->MB,cons_append->MO,range'_succ->MR,take_of_length_le->M_,of_mem_zip->Nc,forIn_cons->Nf,length_singleton->Ni,getElem?_eq_none->Nk,lookup->Nq,getElem_of_mem->ND,mem_replicate->NP,map_nil->N4,append_assoc->N6,map_set->Oe,any_eq_true->Oo,nil_append->Oz,length_nil->OA,map_const'->OC,range_succ->OF,foldl->OP,map_take->Ps,map_drop->Pt,all->P1
open PySem renaming Value->b_,wpAny_bind->c_,Shared->e_,starEach->g_,wpAny_pure->i_,wpAny->p_,Program->u_,model->y_,World->H_,Around->Jr,mainGlobals->Jt,sizeLine_eq->Jz,excClassObj->JA,wpAny_mono->JF,FuncData->JP,wpAny_typeOf_ref->JT,assignEach->JV,wpAny_field->JW,wpAny_holding->J6,wpAny_newObj_type->J8,mem_of_lookup->J_,foldedSetIterable->Ke,wpAny_isSubtype_exc->Kl,attributeBase->Kn,swapsWith->Kp,binaryOp->Kr,wpAny_passesOwn->Kx,Scope->KG,wpAny_callSpecial?_slot->KI,wpAny_setField->KL,bootBuiltins->KN,holding->KO,wpAny_Call_Name_kw->KP,compareOp->KS,setFlight->KU,wpAny_loadPart_at->K0,NameKind->K3,codeAny_call_builtin->K7,Builtin->Lb,assign->Lg,wpAny_standAt->Lj,behindInMarks->Ll,bindArgs->Lm,wpAny_execs_nil->Lq,Keyword->Lr,sysModules->Ls,wpAny_call->Lv,wpAny_pyIter_tuple->Lw,sliceBounds->Lz,keywordEach->LA,wpAny_truthy_bool->LD,wpAny_pyIter_enum->LO,wpAny_loadPart->LQ,wpAny_call_entry->LV,noteFrame->LW,swapsWithSole->L1,swappedStores->L3,unbindBehindTheSuite->L6,letOwnedTupleGo->L8,wpAny_loadPart'->Ma,codeAny_mono->Mf,PassesOwn->Mh,cLine->Mm,wpAny_letOwnedTupleGo_enum->Mr,isInstance->Mt,notedBy->Mz,rawInt->MC,wpAny_comprehension_free->ME,backToKw->MJ,wpAny_pyNext_enum_itemD->MK,checkBuiltinCall->ML,codeAny->MV,IsPart->MX,getItem->MY,wpAny_typeOf->MZ,callerA->M8,OwnTail->M9,wpAny_pyNext_enum_endD->Na,compEnvC->No,tupleKind->Nt,standAt->Nu,BindsTo->Nw,valueAt->Nx,handedOut->Ny,call_meets->NI,tupleKind_room_in1->NJ,wpAny_rule->NM,Model->NU,setItem->NV,wpAny_assign_Name->NW,concat_meets->NZ,wpAny_sequenceKey->N3,slot_list_getitem->N5,relabel->N9,wpAny_mkText->Ob,wpAny_execs_cons->Oi,noFill_tuple_add->Ol,seqIndex_of->Ov,atKey->Ow,builtinsNs->OH,GenState->OI,wpAny_Name->OJ,wpAny_load->OK,bindL->OL,bindC->OM,typeIs_int->OO,call->OQ,closureFor->OT,cellsFrom->Pu,release->Px,Result->Pz,typeOf->PB,cellOf->PD
open PySem.Heap renaming get?_push_of_some->j_,lt_size->r_,get?_push_size->D_,get?_update_self->JI,get?_update_ne->JO,get?_none_of_le->K1,size_push->LH,FunFrames->LK,SameBut->Me,get?_update_other->M5,get?_push_at->Oc,MadeExcOf->OX
open Bool renaming false_ne_true->l_,and_eq_true->Jx,eq_iff_iff->JY,not_eq_true'->KZ,true_and->Lp,or_true->LL,false_and->Mj,or_eq_true->OD,and_false->OV
open Nat renaming le_refl->w_,lt_of_lt_of_le->x_,ne_of_lt->Js,le_trans->JE,zero_le->JK,lt_irrefl->J5,mod_lt->Kc,pow_le_pow_right->K8,lt_succ_self->K9,ne_of_gt->LG,le_of_eq->LI,add_sub_add_right->LU,lt_of_le_of_lt->Mq,zero_add->Nb,mul_pos->Nr,le_of_dvd->NF,le_of_lt->NS,lt_trans->Of,succ_le_succ->On,dvd_antisymm->Ot,dvd_mul_left->Ou,le_succ->Ox,mul_le_mul->OY,add_comm->PC,pow_succ->PL,gcd_comm->PN,log2_lt->PV,Coprime->PY
open Option.some renaming inj->B_,injEq->NR
open PySem.Str renaming ofString->F_,empty->Nv
open Int renaming natAbs_natCast->I_,gcd->J2,gcd_dvd_right->Kh,mul_left_comm->Ki,natCast_mul->Kk,mul_assoc->KF,mul_comm->KQ,natCast_dvd_natCast->LB,toNat_natCast->LM,natAbs_mul->LS,gcd_dvd_left->LY,toNat_of_nonneg->Mc,fdiv_eq_ediv_of_nonneg->Ml,natCast_nonneg->Mw,eq_of_mul_eq_mul_right->Mx,mul_ediv_cancel_left->MH,natCast_ediv->MP,natCast_add->Ng,emod_nonneg->Nh,dvd_mul_right->Od,dvd_trans->Pq,ofNat_inj->Pr,zero_mul->PK,ofNat_lt->PM,mul_one->PQ,dvd_gcd->PX,add_mul->PZ
open Array renaming getElem?_setIfInBounds_self_of_lt->Jq,getElem?_eq_some_iff->JQ,length_toList->Mb,append_assoc->NG,find?_toList->NH,ext_getElem?->NK,toList->Pw
open PySem.Obj renaming mapFields->Jv,mapSeq->M4,data_mapFields->NL
open PySem.PassesOwn renaming never->Jw
open PyProof.Rows renaming slot_tuple_getitem->Jy,boot_isinstance->KR,envOfC->KW,callWith_type1->KY,AllBare->LC,IntsAre->M0,subscriptTail_builtinR->M3,entry_tuple_getitem->Oa,args_tuple_getitem->Og,callWith_builtin1->Oj,IsTup->OG,tupleItemsOf_->OU,assign_Tuple->O_
open False renaming elim->JG
open PySem.PyData renaming canLay0->JR,depth->J0,eqv->K6,eqvAll->L5,depthAll->L_,canLayAll0->MA,strOk->N_
open Ne renaming symm->JX
open Option renaming map_some->Ka,bind_some->Kq,map_eq_some_iff->M7,getD_none->Om
open PySem.F renaming plainAttrs_list->Kg,slot_list_append->KB,type_list_append->KD,excBase_ValueError->Mv,args_tuple_add_2->MD,slot_list_insert->MF,store_ValueError->MG,entry_tuple_add->MI,slot_tuple_add->MW
open PySem.Builtin.Slice renaming slicePlaces->Kv,sliceAdjust->Ld,sliceApplied->Mn,slicePartIndex->Oy,sliceFields->O9
open PySem.Builtin.SmallTypes renaming nextOf->Kw
open PySem.Builtin.Tuple renaming tupleExact->KA,tupleItemsOf->Mo,tupleIsExact->Ms
open PySem.Builtin.Int renaming intBits->Li,intTooBig->Nj
open PySem.Builtin.List renaming listTooLong->Ln,listFitsIndex->Mp
open PySem.W renaming findIn->Lx,looks_findIn->LR,hideAll_get->Nn,kia_tup->NA,kitOne->NO,hideAll->N7,hideAll_none->N8,specialIn->Op,isNs_of_in->OR,of_hideAll->OS,nsOkIn->PH,kitAny->PJ
open LawfulBEq renaming eq_of_beq->Ly
open PySem.Builtin.ObjectAttr renaming storeInDict->LX,attrName->Mg,find->MN,ownThenClass->Oh,takesStores->Oq,newKeyGuard->Os,inOwnDict->OE,ownDict->OW,bindTo->Pb
open PySem.Calls renaming Name_function_global->Mi,callWith_builtin->M6,evalArgs_plain->Nl
open PySem.Bind renaming checkArgs->Mu
open PySem.Builtin.Getset_descriptor renaming descrCheckInstance->MM,descrNameAndClass->MT,descrGetArgs->Np,descrGetter->Nz,descrGet->NN
open PySem.Challenge renaming pw_ringtrade_k32_tables_made->MQ,rw_ringtrade_k32_tables_made->MS
open PySem.Around renaming under->MU
open PySem.Heap.Ns renaming of_isNs->Nd
open PySem.EntryCells renaming newEntry->NB
open PySem.Heap.SameBut renaming update->NC
open Function renaming comp_apply->NE
open PySem.Code renaming quiet_builtin->NQ,isFrame->NY,isGuard->Py,frames->PR
open PySem.Heap.Ns1 renaming of_empty->NX
open PySem.EqNone renaming eq_none_none->OZ,eq_none_bool->O0,eq_bool_none->O1,ne_none_none->O4,ne_none_bool->O5,ne_bool_none->O6,eq_none_int->Pd,eq_none_str->Pe,eq_int_none->Pf,eq_str_none->Ph,ne_none_int->Pj,ne_none_str->Pk,ne_int_none->Pl,ne_str_none->Pn
open PySem.EqMixed renaming eq_bool_str->O2,eq_str_bool->O3,ne_bool_str->O7,ne_str_bool->O8,eq_int_str->Pg,eq_str_int->Pi,ne_int_str->Pm,ne_str_int->Po
open PyProof.Rows.LSm renaming sum_ints->Pa
open PySem.Value renaming isStrOf->Pc,isInt->PP
open PyProof.Rows.IsTup renaming new->Pv
open PySem.SeqAt renaming shaped->PF
open Prod renaming ext->PU
open PySem.W.WShape renaming has->P2
open PySem.Draws renaming list->P3
set_option Elab.async false
set_option linter.all false
set_option maxRecDepth 100000
set_option maxHeartbeats 4000000
section
namespace L2
open PySem PySem.Spec PyProof.Rows
abbrev aH:=Sum Int Str
def kO:aH->b_->Bool
|.inl k,v=>PP k v
|.inr x,v=>Pc x v
def uS(w:H_):aH->Int
|.inl k=>hashInt k
|.inr x=>hashStr w x
theorem keyIs_shape:∀{k:aH}{v:b_},kO k v=true->(∃i t,k=Sum.inl i/\v=Value.int i t)\/(∃x t,k=Sum.inr x/\v=Value.str x t)
|.inl i,v,h=>by obtain⟨t,e⟩:=Value.isInt_shape (k:=i) (v:=v) h;exact .inl ⟨i,t,rfl,e⟩
|.inr x,v,h=>by obtain⟨t,e⟩:=Value.isStrOf_shape (x:=x) (v:=v) h;exact .inr ⟨x,t,rfl,e⟩
theorem GJ(i:Int)(t:Tok):kO (.inl i) (.int i t)=true:=by simp[kO,PP]
theorem HA(x:Str)(t:Tok):kO (.inr x) (.str x t)=true:=by simp[kO,Pc]
theorem CH(a b:Int):decide ((Sum.inl a:aH)=Sum.inl b)=(a==b):=by
 by_cases e:a=b
 .subst e;simp
 .have h:¬ (Sum.inl a:aH)=Sum.inl b:=fun q=>e (Sum.inl.inj q);rw[decide_eq_false h];exact(beq_eq_false_iff_ne.mpr e).symm
theorem CK(a b:Str):decide ((Sum.inr a:aH)=Sum.inr b)=decide (a=b):=by
 by_cases e:a=b
 .subst e;simp
 .have h:¬ (Sum.inr a:aH)=Sum.inr b:=fun q=>e (Sum.inr.inj q);rw[decide_eq_false h,decide_eq_false e]
theorem CI(a:Int)(b:Str):decide ((Sum.inl a:aH)=Sum.inr b)=false:=decide_eq_false (fun q=>nomatch q)
theorem CJ(a:Str)(b:Int):decide ((Sum.inr a:aH)=Sum.inl b)=false:=decide_eq_false (fun q=>nomatch q)
def gm(prog:u_)(w:H_):PySem.KeyKind prog w aH where
 is:=kO
 hash:=uS w
 inj:=fun v a b ha hb=>by
  rcases keyIs_shape ha with⟨i,t,rfl,rfl⟩|⟨x,t,rfl,rfl⟩
  .rcases keyIs_shape hb with⟨j,u,rfl,e⟩|⟨y,u,rfl,e⟩
   .injection e with e1 _;rw[e1]
   .exact nomatch e
  .rcases keyIs_shape hb with⟨j,u,rfl,e⟩|⟨y,u,rfl,e⟩
   .exact nomatch e
   .injection e with e1 _;rw[e1]
 byValue:=fun k v h=>by rcases keyIs_shape h with⟨i,t,rfl,rfl⟩|⟨x,t,rfl,rfl⟩ <;> rfl
 pyHash:=fun hv h=>by
  rcases keyIs_shape hv with⟨i,t,rfl,rfl⟩|⟨x,t,rfl,rfl⟩
  .exact wpAny_pyHash_int h
  .exact wpAny_pyHash_str h
 eqBool:=fun hu hv h=>by
  rcases keyIs_shape hu with⟨i,t,rfl,rfl⟩|⟨x,t,rfl,rfl⟩
  .rcases keyIs_shape hv with⟨j,u,rfl,rfl⟩|⟨y,u,rfl,rfl⟩
   .rw[CH]at h;exact wpAny_eqBool_int h
   .rw[CI]at h;exact SeqAt.EqAt.int_str i t y u _ _ _ _ h
  .rcases keyIs_shape hv with⟨j,u,rfl,rfl⟩|⟨y,u,rfl,rfl⟩
   .rw[CJ]at h;exact SeqAt.EqAt.str_int x t j u _ _ _ _ h
   .rw[CK]at h;exact wpAny_eqBool_str h
 «strs»:=fun k x t v h=>by
  rcases keyIs_shape h with⟨i,u,rfl,e⟩|⟨y,u,rfl,e⟩
  .exact nomatch e
  .injection e with e1 _
   subst e1;cases v <;> rfl
theorem Io(prog:u_)(w:H_)(i:Int)(t:Tok):(gm prog w).is (.inl i) (.int i t)=true:=GJ i t
theorem Ip(prog:u_)(w:H_)(x:Str)(t:Tok):(gm prog w).is (.inr x) (.str x t)=true:=HA x t
inductive V where
 |non|bl (b:Bool)|int (i:Int)|str (x:Str)|byt (b:Array UInt8)|flt (b:UInt64)|ref (a:Addr)|ty (n:String)
 deriving DecidableEq
def ar:V->b_->Prop
|.non,u=>u=Value.none
|.bl b,u=>u=Value.bool b
|.int i,u=>∃t,u=Value.int i t
|.str x,u=>∃t,u=Value.str x t
|.byt b,u=>∃t,u=Value.bytes b t
|.flt b,u=>∃t,u=Value.float b t
|.ref a,u=>u=Value.ref a
|.ty n,u=>u=Value.type n
abbrev al:List V->List b_->Prop:=Paired ar
theorem al.length{xs:List V}{us:List b_}(r:al xs us):xs.length=us.length:=Paired.length r
theorem al.get:∀{xs:List V}{us:List b_}{i:Nat}{x:V},al xs us->xs[i]? = some x->∃u,us[i]? = some u/\ar x u
|_,_,_,_,.nil,e=>by simp at e
|_,_,0,_,.cons r _,e=>by simp at e;subst e;exact⟨_,rfl,r⟩
|_,_,i+1,x,.cons _ t,e=>by obtain⟨u,h1,h2⟩:=al.get (i:=i) (x:=x) t (by simpa using e);exact⟨u,by simpa using h1,h2⟩
theorem al.set{x:V}{u:b_}(r:ar x u):∀{xs:List V}{us:List b_}(i:Nat),al xs us->al (xs.set i x) (us.set i u)
|_,_,_,.nil=>.nil
|_,_,0,.cons _ t=>.cons r t
|_,_,i+1,.cons q t=>.cons q (al.set r i t)
theorem al.append{xs ys:List V}{us ws:List b_}(h:al xs us)(h':al ys ws):al (xs++ys) (us++ws):=by induction h with
|nil=>exact h'
|cons r _ ih=>exact .cons r ih
theorem al.take:∀{xs:List V}{us:List b_}(n:Nat),al xs us->al (xs.take n) (us.take n)
|_,_,0,_=>.nil
|_,_,_+1,.nil=>.nil
|_,_,n+1,.cons r t=>.cons r (al.take n t)
theorem al.drop:∀{xs:List V}{us:List b_}(n:Nat),al xs us->al (xs.drop n) (us.drop n)
|_,_,0,r=>r
|_,_,_+1,.nil=>.nil
|_,_,n+1,.cons _ t=>al.drop n t
theorem al.none_of:∀{xs:List V}{us:List b_}{i:Nat},al xs us->xs[i]? = none->us[i]? = none:=fun{xs us i} r e=>by have h1:=r.length;have h2:xs.length<=i:=My.mp e;exact My.mpr (by omega)
def cI:Option V->Option b_->Prop
|some v,some u=>ar v u
|none,none=>True
|_,_=>False
def KV{κ:Type}:List (κ×V)->List (κ×b_)->Prop:=Paired fun(p:κ×V)(q:κ×b_)=>p.1=q.1/\ar p.2 q.2
def kV:aH->V
|.inl i=>.int i
|.inr x=>.str x
inductive HO where
 |lst (xs:List V)
 |tup (xs:List V)
 |dK (kvs:List (aH×V))|dT (kvs:List (List aH×V))
 |set (S:Int->Bool) (n:Nat)
 |ins (C dx:Addr) (fs:List (Str×V))
 |own (x:Addr)
 |xd (fs:List (Str×V))
 |met (f x:Addr)
 |rng (lo hi:Int)
 |frz (o:Obj) (u:HO)
 |tbl (ps:Array b_)
 |ext (φ:Heap->Prop)
abbrev Hp:=Addr->Option HO
def upd(H:Hp)(a:Addr)(o:HO):Hp:=fun b=>if b=a then some o else H b
theorem bJ{H:Hp}{a:Addr}{o:HO}:upd H a o a=some o:=by unfold upd;rw[if_pos rfl]
theorem aK{H:Hp}{a b:Addr}{o:HO}(h:b≠a):upd H a o b=H b:=by unfold upd;rw[if_neg h]
theorem A1{H:Hp}{a b:Addr}{o u:HO}(h:H a=some o)(h':H b=some u)(d:o≠u):a≠b:=by intro e;subst e;rw[h]at h';exact d (B_ h')
theorem kb{H:Hp}{a b:Addr}{o:HO}(h:H a=some o)(h':H b=none):a≠b:=by intro e;subst e;rw[h]at h';cases h'
section
variable(P:u_)(w:H_)
def cE(H:Hp)(h:Heap)(a:Addr):HO->Prop
|.lst xs=>xs.length<=sizeLine/\∃(its:List b_)(n:Nat),al xs its/\h.get? a=some { cls:=.type "list",data:=.seq its.toArray n }
|.tup xs=>xs.length<=sizeLine/\∃its:List b_,al xs its/\OG h a its.toArray/\∃o,h.get? a=some o/\o.dict=none
|.dK kvs=>kvs.length<=sizeLine/\(a==Ls)=false/\∃vs,KV kvs vs/\h.DictOf (gm P w) a vs
| .dT kvs=>kvs.length<=sizeLine/\(a == Ls)=false/\∃xs:List (List aH × Addr × b_),
   Paired (fun(p:List aH×V)(q:List aH×Addr×b_)=>p.1=q.1/\H q.2.1=some (.tup (p.1.map kV))/\ar p.2 q.2.2) kvs xs /\∃o es ep,h.get? a=some o/\o.ExactDict/\o.data=.dict es ep/\es.toList=xs.map (entryOfKey (Nt (gm P w)))/\(xs.map (·.1)).Nodup
|.set S n=>h.SetOf (intKind P w) a S n
| .ins C dx fs=>H dx=some (.own a)/\fs.length<=1000/\dx≠a/\h.get? a=some (W.instObj C dx) /\
   ∃mA,h.Ns1 dx mA/\(∀f,cI (fs.lookup f) (mA f))/\PySem.Within mA (fs.map (·.1))
|.own _=>∃o,h.get? a=some o
|.xd fs=>∃mA,h.Ns1 a mA/\∀f,cI (fs.lookup f) (mA f)
|.rng lo hi=>∃t u v,h.get? a=some { cls:=.type "range",data:=.fields #[.int lo t,.int hi u,.int 1 v] }
|.frz o u=>h.get? a=some o/\cE H h a u
|.tbl ps=>h.get? a=some { cls:=.none,data:=.fields ps }
|.met f x=>h.get? a=some (W.methodObj (.ref f) (.ref x))
|.ext φ=>φ h/\(∃o,h.get? a=some o)/\∀h1 h2:Heap,φ h1->(∀o,h1.get? a=some o->h2.get? a=some o)->φ h2
def ce(H:Hp)(h:Heap):Prop:=∀a o,H a=some o->cE P w H h a o
end
section
variable{P:u_}{w:H_}{H H':Hp}{h h':Heap}{a:Addr}{o:HO}
theorem cE.lt(x:cE P w H h a o):a<h.objs.size:=by cases o with
|lst xs=>obtain⟨_,_,_,_,e⟩:=x;exact r_ e
|tup xs=>obtain⟨_,_,_,p,_⟩:=x;exact p.lt
|dK kvs=>obtain⟨_,_,_,_,o,_,_,e,_⟩:=x;exact r_ e
|dT kvs=>obtain⟨_,_,_,_,o,_,_,e,_⟩:=x;exact r_ e
|set S n=>obtain⟨o,_,_,_,e,_⟩:=x;exact r_ e
|ins C dx fs=>obtain⟨_,_,_,e,_⟩:=x;exact r_ e
|own y=>obtain⟨_,e⟩:=x;exact r_ e
|xd fs=>obtain⟨_,⟨_,_,_,e,_⟩,_⟩:=x;exact r_ e
|rng lo hi=>obtain⟨_,_,_,e⟩:=x;exact r_ e
|frz ob u=>obtain⟨e,_⟩:=x;exact r_ e
|tbl ps=>exact r_ (show h.get? a=some _ from x)
|met f y=>exact r_ (show h.get? a=some _ from x)
|ext φ=>obtain⟨_,⟨_,e⟩,_⟩:=x;exact r_ e
theorem Paired.mapP{α β:Type}{F G:α->β->Prop}{l₁:List α}{l₂:List β}(h:Paired F l₁ l₂)(f:∀a b,F a b->G a b):Paired G l₁ l₂:=by induction h with
|nil=>exact .nil
|cons r _ ih=>exact .cons (f _ _ r) ih
theorem cE.stay(x:cE P w H h a o)(k:∀b u,(b=a\/H b=some (.own a))->h.get? b=some u->h'.get? b=some u)(ho:∀b,H b=some (.own a)->H' b=some (.own a))(ht:∀b xs,H b=some (.tup xs)->H' b=some (.tup xs)):cE P w H' h' a o:=by induction o with
|lst xs=>obtain⟨z,its,n,r,e⟩:=x;exact⟨z,its,n,r,k _ _ (.inl rfl) e⟩
|tup xs=>obtain⟨z,its,r,⟨ob,e,c⟩,ob2,e2,c2⟩:=x;exact⟨z,its,r,⟨ob,k _ _ (.inl rfl) e,c⟩,ob2,k _ _ (.inl rfl) e2,c2⟩
|dK kvs=>obtain⟨z,y,vs,r,ob,es,ep,e,c⟩:=x;exact⟨z,y,vs,r,ob,es,ep,k _ _ (.inl rfl) e,c⟩
|dT kvs=>obtain⟨z,y,xs,r,ob,es,ep,e,c⟩:=x;exact⟨z,y,xs,Paired.mapP r fun p q z=>⟨z.1,ht _ _ z.2.1,z.2.2⟩,ob,es,ep,k _ _ (.inl rfl) e,c⟩
|set S n=>obtain⟨ob,es,ep,t,e,c⟩:=x;exact⟨ob,es,ep,t,k _ _ (.inl rfl) e,c⟩
|ins C dx fs=>obtain⟨d,z,ne,e,mA,⟨od,es,ep,e2,c⟩,r⟩:=x;exact⟨ho _ d,z,ne,k _ _ (.inl rfl) e,mA,⟨od,es,ep,k _ _ (.inr d) e2,c⟩,r⟩
|own y=>obtain⟨ob,e⟩:=x;exact⟨ob,k _ _ (.inl rfl) e⟩
|xd fs=>obtain⟨mA,⟨od,es,ep,e,c⟩,r⟩:=x;exact⟨mA,⟨od,es,ep,k _ _ (.inl rfl) e,c⟩,r⟩
|rng lo hi=>obtain⟨t,u,v,e⟩:=x;exact⟨t,u,v,k _ _ (.inl rfl) e⟩
|frz ob u ih=>obtain⟨e,q⟩:=x;exact⟨k _ _ (.inl rfl) e,ih q⟩
|tbl ps=>have e:h.get? a=some { cls:=.none,data:=.fields ps }:=x;show h'.get? a=some { cls:=.none,data:=.fields ps };exact k a _ (.inl rfl) e
|met f y=>have e:h.get? a=some (W.methodObj (.ref f) (.ref y)):=x;show h'.get? a=some (W.methodObj (.ref f) (.ref y));exact k a _ (.inl rfl) e
|ext φ=>obtain⟨p,⟨o,e⟩,st⟩:=x;exact⟨st _ _ p fun o q=>k _ _ (.inl rfl) q,⟨o,k _ _ (.inl rfl) e⟩,st⟩
theorem ce.lt(x:ce P w H h)(e:H a=some o):a<h.objs.size:=(x a o e).lt
theorem ce.fresh(x:ce P w H h)(e:h.objs.size<=a):H a=none:=by cases q:H a with
|none=>rfl
|some u=>exact absurd (x_ (x.lt q) e) (J5 _)
theorem ce.kept(x:ce P w H h)(k:∀b u,h.get? b=some u->h'.get? b=some u):ce P w H h':=fun a o e=>(x a o e).stay (fun b u _ q=>k b u q) (fun _ q=>q) fun _ _ q=>q
theorem ce.laid(x:ce P w H h)(k:∀b u,h.get? b=some u->h'.get? b=some u)(hp:h.objs.size<=a)(new:cE P w (upd H a o) h' a o):ce P w (upd H a o) h':=fun b u e=>by
 have hn:=x.fresh hp;by_cases hb:b=a
 .subst hb;rw[bJ]at e;cases e;exact new
 .rw[aK hb]at e;exact(x b u e).stay (fun c v _ q=>k c v q) (fun c q=>by rw[aK (kb q hn)];exact q) fun c xs q=>by rw[aK (kb q hn)];exact q
end
def Rd(H:Hp)(a:Addr)(u:HO):Prop:=H a=some u\/∃o,H a=some (.frz o u)
theorem Rd.of{H:Hp}{a:Addr}{u:HO}(h:H a=some u):Rd H a u:=.inl h
theorem Rd.ok{P:u_}{w:H_}{H:Hp}{h:Heap}{a:Addr}{u:HO}(r:Rd H a u)(x:ce P w H h):cE P w H h a u:=by
 rcases r with r|⟨o,r⟩
 .exact x a u r
 .obtain⟨_,q⟩:=x a _ r;exact q
def nO:Option HO->Prop
|some (.lst _)=>True
|some (.dK _)=>True
|some (.dT _)=>True
|some (.set _ _)=>True
|some (.ins _ _ _)=>True
|some (.ext _)=>True
|_=>False
section
variable{P:u_}{w:H_}{H:Hp}{h h':Heap}{x e:Addr}{o':HO}
theorem ce.write(ok:ce P w H h)(mu:nO (H x))(he:e=x\/H e=some (.own x))(k:∀b u,b≠e->h.get? b=some u->h'.get? b=some u)(heo:∃u,h'.get? e=some u)(new:cE P w (upd H x o') h' x o'):ce P w (upd H x o') h':=fun b u q=>by
 have nown:∀c y,H c=some (.own y)->c≠x:=fun c y r z=>by subst z;rw[r]at mu;exact mu
 have ntup:∀c xs,H c=some (.tup xs)->c≠x:=fun c xs r z=>by subst z;rw[r]at mu;exact mu
 by_cases hb:b=x
 .subst hb;rw[bJ]at q;cases q;exact new
 .rw[aK hb]at q;by_cases hbe:b=e
  .have q':H b=some (.own x):=by
    rcases he with z|z
    .exact absurd (hbe.trans z) hb
    .rw[hbe];exact z
   rw[q]at q';cases q';obtain⟨v,hv⟩:=heo;exact⟨v,by rw[hbe];exact hv⟩
  .refine(ok b u q).stay (fun c v hc r=>k c v ?_ r) (fun c r=>by rw[aK (nown c b r)];exact r) fun c xs r=>by rw[aK (ntup c xs r)];exact r
   rcases hc with rfl|hc
   .exact hbe
   .rintro rfl
    rcases he with z|z
    .exact nown c b hc z
    .rw[hc]at z;cases z;exact hb rfl
end
structure Un(fs ex:List Addr)(H H':Hp)(h h':Heap):Prop where
 keep:∀b o,h.get? b=some o->H b=none->b∉fs->b∉ex->h'.get? b=some o
 slot:∀b o,h.get? b=some o->H b=none->b∈fs->b∉ex->∃sl,h'.get? b=some { o with slots:=sl }
 free:∀b o,h.get? b=some o->H b=none->b∉ex->H' b=none
 there:∀b o,h.get? b=some o->b∉ex->∃o',h'.get? b=some o'
 tups:∀b xs,H b=some (.tup xs)->H' b=some (.tup xs)
 frzs:∀b o u,H b=some (.frz o u)->H' b=some (.frz o u)
 tbls:∀b ps,H b=some (.tbl ps)->∃more,H' b=some (.tbl (ps++more))
section
variable{fs fs' ex ex':List Addr}{H H1 H2:Hp}{h h1 h2 h':Heap}{a x e:Addr}{o:HO}
theorem Un.any(u:Un fs ex H H1 h h1){b:Addr}{ob:Obj}(q:h.get? b=some ob)(n:H b=none)(hx:b∉ex):∃sl,h1.get? b=some { ob with slots:=sl }:=by
 by_cases hb:b∈fs
 .exact u.slot b ob q n hb hx
 .exact⟨ob.slots,u.keep b ob q n hb hx⟩
theorem Un.trans(a:Un fs ex H H1 h h1)(b:Un fs ex H1 H2 h1 h2):Un fs ex H H2 h h2 where
 keep:=fun c ob q n hc hx=>b.keep c ob (a.keep c ob q n hc hx) (a.free c ob q n hx) hc hx
 slot:=fun c ob q n hc hx=>by obtain⟨sl,e1⟩:=a.slot c ob q n hc hx;obtain⟨sl',e2⟩:=b.slot c _ e1 (a.free c ob q n hx) hc hx;exact⟨sl',e2⟩
 free:=fun c ob q n hx=>by obtain⟨o',e1⟩:=a.there c ob q hx;exact b.free c o' e1 (a.free c ob q n hx) hx
 there:=fun c ob q hx=>by obtain⟨o',e1⟩:=a.there c ob q hx;exact b.there c o' e1 hx
 tups:=fun c xs q=>b.tups c xs (a.tups c xs q)
 frzs:=fun c ob xs q=>b.frzs c ob xs (a.frzs c ob xs q)
 tbls:=fun c ps q=>by obtain⟨m1,e1⟩:=a.tbls c ps q;obtain⟨m2,e2⟩:=b.tbls c _ e1;exact⟨m1++m2,by rw[e2,NG]⟩
theorem Un.kept(k:∀b u,h.get? b=some u->h'.get? b=some u):Un fs ex H H h h':=⟨fun b ob q _ _ _=>k b ob q,fun b ob q _ _ _=>⟨ob.slots,k b ob q⟩,fun _ _ _ n _=>n,fun b ob q _=>⟨ob,k b ob q⟩,fun _ _ q=>q,fun _ _ _ q=>q,fun _ ps q=>⟨#[],by rw[q];simp⟩⟩
theorem Un.refl:Un fs ex H H h h:=Un.kept fun _ _ q=>q
theorem Un.laid(k:∀b u,h.get? b=some u->h'.get? b=some u)(hp:h.objs.size<=a)(hn:H a=none):Un fs ex H (upd H a o) h h' where
 keep:=fun b u q _ _ _=>k b u q
 slot:=fun b u q _ _ _=>⟨u.slots,k b u q⟩
 free:=fun b u q n _=>by rw[aK (Js (x_ (r_ q) hp))];exact n
 there:=fun b u q _=>⟨u,k b u q⟩
 tups:=fun b xs q=>by rw[aK (kb q hn)];exact q
 frzs:=fun b u xs q=>by rw[aK (kb q hn)];exact q
 tbls:=fun b ps q=>⟨#[],by rw[aK (kb q hn),q];simp⟩
theorem Un.write(mu:nO (H x))(he:e=x\/H e=some (.own x))(k:∀b u,b≠e->h.get? b=some u->h'.get? b=some u)(heo:∃u,h'.get? e=some u):Un fs ex H (upd H x o) h h':=by
 have hx:∀b,H b=none->b≠x:=fun b n z=>by subst z;rw[n]at mu;exact mu
 have hb:∀b,H b=none->b≠e:=fun b n z=>by
  subst z;rcases he with r|r
  .exact hx b n r
  .rw[n]at r;cases r
 have hm:∀b u,H b=some u->¬ nO (some u)->b≠x:=fun b u q nm z=>by subst z;rw[q]at mu;exact nm mu
 refine⟨fun b u q n _ _=>k b u (hb b n) q,fun b u q n _ _=>⟨u.slots,k b u (hb b n) q⟩,fun b u q n _=>by rw[aK (hx b n)];exact n,fun b u q _=>?_,fun b xs q=>by rw[aK (hm b _ q fun z=>z)];exact q,fun b u xs q=>by rw[aK (hm b _ q fun z=>z)];exact q,fun b ps q=>⟨#[],by rw[aK (hm b _ q fun z=>z),q];simp⟩⟩;by_cases hbe:b=e
 .subst hbe;exact heo
 .exact⟨u,k b u hbe q⟩
theorem Un.mono(u:Un fs ex H H1 h h1)(hs:∀b∈fs,b∈fs')(hx:∀b∈ex,b∈ex'):Un fs' ex' H H1 h h1:=⟨fun b ob q n hb he=>u.keep b ob q n (fun z=>hb (hs b z)) fun z=>he (hx b z),fun _ _ q n _ he=>u.any q n fun z=>he (hx _ z),fun b ob q n he=>u.free b ob q n fun z=>he (hx b z),fun b ob q he=>u.there b ob q fun z=>he (hx b z),u.tups,u.frzs,u.tbls⟩
end
def trk(h:Heap)(H:Hp):List Addr:=(q_ h.objs.size).filter fun a=>(H a).isSome
def d9(h:Heap)(H:Hp):Heap:=W.hideAll h (trk h H)
theorem GD(h:Heap)(H:Hp):(d9 h H).objs.size=h.objs.size:=W.hideAll_size _ _
theorem F9{h:Heap}{H:Hp}{b:Addr}{o:Obj}(e:h.get? b=some o)(n:H b=none):(d9 h H).get? b=some o:=W.hideAll_get _ e fun hm=>by have q:(H b).isSome=true:=(List.mem_filter.mp hm).2;rw[n]at q;simp at q
theorem Es{h:Heap}{H:Hp}{b:Addr}{o:Obj}(e:(d9 h H).get? b=some o):h.get? b=some o/\H b=none:=by have e':h.get? b=some o:=W.of_hideAll (trk h H) e;refine⟨e',?_⟩;cases q:H b with
|none=>rfl
|some x=>have hm:b∈trk h H:=List.mem_filter.mpr ⟨J7.mpr (r_ e'),by simp[q]⟩;have z:(d9 h H).get? b=none:=W.hideAll_none (trk h H) hm;rw[z]at e;cases e
def mB(g h:Heap)(L:Addr):List (Addr×Obj):=(q_ h.objs.size).filterMap fun a=>if a=L\/(g.get? a).isSome=true then none else(h.get? a).map fun o=>(a,o)
theorem Im{g h:Heap}{L a:Addr}{o:Obj}(h1:a≠L)(h2:g.get? a=none)(h3:h.get? a=some o):(a,o)∈mB g h L:=Lu.mpr ⟨a,J7.mpr (r_ h3),by simp[h1,h2,h3]⟩
theorem ID{g h:Heap}{L:Addr}{p:Addr×Obj}(hp:p∈mB g h L):p.1≠L/\g.get? p.1=none/\h.get? p.1=some p.2:=by
 obtain⟨b,_,e⟩:=Lu.mp hp;split at e
 .cases e
 .rename_i hn;cases q:h.get? b with
 |none=>rw[q]at e;simp at e
 |some u=>rw[q]at e;simp only[Ka,NR]at e;subst e;refine⟨fun z=>hn (.inl z),?_,q⟩;show g.get? b=none;cases r:g.get? b with
  |none=>rfl
  |some v=>exact(hn (.inr (by simp[r]))).elim
def rest(g h:Heap)(L d:Addr):List (Addr×Obj):=(mB g h L).filter fun p=>decide (p.1≠d)
theorem zd{g h:Heap}{L:Addr}:News g L h (mB g h L):=fun p hp=>let⟨a,b,c⟩:=ID hp;⟨c,a,b⟩
structure Mod(K:W.Frag)(mg:Str->Option b_)(base:Heap):Prop where
 kin:K.In base
 glob:base.Ns Jt mg
 blt:∃mb,base.Ns OH mb/\∀x:Str,x≠"__name__"->mb x=KN x
 nolimit:base.NoLimit
structure Cx where
 prog:u_
 w:H_
 K:W.Frag
 mg:Str->Option b_
 base:Heap
 A:Jr
 N:List Str
 s₀:e_
 H₀:Hp
 env:Env
 outer:List Env
 stack:List Env
 ex:List Addr
 fn:Str->Bool
 calm:Bool
 pn:List (Addr×Obj)
 xe:b_->e_->Prop
def bK(l:List Env):List Addr:=l.filterMap (·.frame)
abbrev Cx.fs(X:Cx):List Addr:=bK X.outer
def dk(sc:KG)(x:Str):Prop:=sc.names.lookup x=some .local\/sc.names.lookup x=some .cell\/sc.names.lookup x=some .free
def fj(sc:KG)(x:Str):Prop:=sc.names.lookup x=some .local\/sc.names.lookup x=some .cell
theorem bL{sc:KG}{x:Str}(h:(match sc.names.lookup x with|some .local=>true|some .cell=>true|some .free=>true|_=>false)=true):dk sc x:=by
 revert h;unfold dk;split<;>intro h
 .exact .inl (by assumption)
 .exact .inr (.inl (by assumption))
 .exact .inr (.inr (by assumption))
 .cases h
def vK(env:Env)(h:Heap)(m:Str->Option b_)(x:Str)(u:b_):Prop:=(env.kindOf x=some .local/\m x=some u)\/((env.kindOf x=some .cell\/env.kindOf x=some .free)/\∃c,env.cells.lookup x=some c/\h.IsCell c (some u))
structure Cx.Ok(X:Cx):Prop where
 mod:Mod X.K X.mg X.base
 kind:X.env.scope.kind=.function
 glob:X.env.globals=Jt
 blt:X.env.builtins=OH
 above:X.s₀.heap.objs.size<=X.env.locals
 inj:∀x y c,X.env.cells.lookup x=some c->X.env.cells.lookup y=some c->x=y
 has:∀x,(X.env.kindOf x=some .cell\/X.env.kindOf x=some .free)->∃c,X.env.cells.lookup x=some c
 cab:∀x c,X.fn x=true->X.env.cells.lookup x=some c->X.s₀.heap.objs.size<=c
 hd:X.calm=true->X.A.handled=none
 frames:X.A.frames=some X.stack
 stk:X.stack=X.outer\/(X.stack=X.env::X.outer/\X.env.frame=some X.env.locals)
 exf:∀b∈X.ex,b≠X.env.locals/\∀x c,X.env.cells.lookup x=some c->c≠b
 bs:∀b o,X.base.get? b=some o->X.s₀.heap.get? b=some o/\X.H₀ b=none
 bsz:X.base.objs.size<=X.s₀.heap.objs.size
 noex:∀b o,X.base.get? b=some o->b∉X.ex
 exfs:∀b∈X.ex,b∉X.fs
 funs:X.s₀.heap.FunFrames X.base X.outer
 frf:∀b∈X.fs,X.H₀ b=none
structure Inv(X:Cx)(pz:List (Addr×Obj))(σ:List (Option V))(H:Hp)(s:e_):Prop where
 ok:X.Ok
 os:s.os=X.s₀.os
 bare:LC s.gens
 base:Un X.fs X.ex X.H₀ H X.s₀.heap s.heap
 loc:∃m,s.heap.Ns X.env.locals m/\∀(i:Nat)(x:Str)(v:V),X.N[i]? = some x->σ[i]? = some (some v)->dk X.env.scope x->∃u,ar v u/\vK X.env s.heap m x u
 cell:∀x c,X.env.cells.lookup x=some c->∃v,s.heap.IsCell c v
 free:H X.env.locals=none
 freeC:∀x c,X.env.cells.lookup x=some c->H c=none
 pin:∀p∈X.pn++pz,s.heap.get? p.1=some p.2/\H p.1=none/\p.1≠X.env.locals/\p.1∉X.fs/\∀v,p.2.data≠.cell v
 hok:ce X.prog X.w H s.heap
 len:σ.length=X.N.length
section
variable{X:Cx}{pz:List (Addr×Obj)}{σ:List (Option V)}{H H':Hp}{s:e_}{h':Heap}
theorem Cx.Ok.nofr(ok:X.Ok){b:Addr}{o:Obj}(e:X.base.get? b=some o):b∉X.fs:=fun hb=>by have:=(ok.funs.mem hb).1;rw[e]at this;cases this
theorem Inv.bs(I:Inv X pz σ H s):∀b o,X.base.get? b=some o->s.heap.get? b=some o/\H b=none:=fun b o e=>⟨I.base.keep b o (I.ok.bs b o e).1 (I.ok.bs b o e).2 (I.ok.nofr e) (I.ok.noex b o e),I.base.free b o (I.ok.bs b o e).1 (I.ok.bs b o e).2 (I.ok.noex b o e)⟩
theorem Inv.bk(I:Inv X pz σ H s):∀b o,X.base.get? b=some o->s.heap.get? b=some o:=fun b o e=>(I.bs b o e).1
theorem Inv.mod(I:Inv X pz σ H s):Mod X.K X.mg X.base:=I.ok.mod
theorem Inv.kIn(I:Inv X pz σ H s):X.K.In s.heap:=I.ok.mod.kin.keeps I.bk
theorem Inv.nolimit(I:Inv X pz σ H s):s.heap.NoLimit:=I.ok.mod.nolimit.keeps I.bk
theorem Inv.fr(I:Inv X pz σ H s):∃m,Fr X.base X.env.locals s.heap m:=let⟨m,hn,_⟩:=I.loc
 ⟨m,hn,I.bk,JE I.ok.bsz I.ok.above⟩
theorem Inv.lt(I:Inv X pz σ H s):X.env.locals<s.heap.objs.size:=let⟨_,hn,_⟩:=I.loc;hn.lt
theorem Inv.sz(I:Inv X pz σ H s):X.s₀.heap.objs.size<=s.heap.objs.size:=JE I.ok.above (NS I.lt)
theorem Inv.nofs(I:Inv X pz σ H s){a:Addr}(h:s.heap.objs.size<=a):a∉X.fs:=fun hb=>by obtain⟨_,o,ho,_⟩:=I.ok.funs.mem hb;exact absurd (x_ (r_ ho) (JE I.sz h)) (J5 _)
theorem Inv.cne(I:Inv X pz σ H s):∀x c,X.env.cells.lookup x=some c->c≠X.env.locals:=fun x c e z=>by obtain⟨v,o,ho,hd⟩:=I.cell x c e;obtain⟨m,⟨o',es,ep,ho',hd',_⟩,_⟩:=I.loc;rw[z,ho']at ho;cases ho;rw[hd']at hd;cases hd
theorem Inv.funs(I:Inv X pz σ H s):s.heap.FunFrames X.base X.outer:=by
 have all:∀(l:List Env),(∀b∈bK l,b∈X.fs)->X.s₀.heap.FunFrames X.base l->s.heap.FunFrames X.base l:=by
  intro l
  induction l with
 |nil=>intro _ _;trivial
 |cons env r ih=>intro hs hl;obtain⟨hk,⟨L,o,hf,hn,ho,hd⟩,hr⟩:=hl;have hL:L∈X.fs:=hs L (by unfold bK;rw[JU,hf];exact k_);obtain⟨sl,e⟩:=I.base.slot L o ho (I.ok.frf L hL) hL fun z=>I.ok.exfs L z hL;exact⟨hk,⟨L,_,hf,hn,e,hd⟩,ih (fun b hb=>hs b (by unfold bK;rw[JU,hf];exact h_ _ hb)) hr⟩
 exact all X.outer (fun _ hb=>hb) I.ok.funs
theorem Inv.stack(I:Inv X pz σ H s):s.heap.FunFrames X.base X.stack:=by
 rcases I.ok.stk with e|⟨e,hf⟩
 .rw[e];exact I.funs
 .rw[e];obtain⟨m,hn,_⟩:=I.loc;refine .cons (by rw[I.ok.kind];decide) hf hn ?_ I.funs;exact K1 (JE I.ok.bsz I.ok.above)
theorem Inv.stkSub(I:Inv X pz σ H s):∀b∈bK X.stack,b∈X.env.locals::X.fs:=fun b hb=>by
 rcases I.ok.stk with e|⟨e,hf⟩
 .rw[e]at hb;exact h_ _ hb
 .rw[e]at hb;unfold bK at hb;rw[JU,hf]at hb;exact hb
theorem Inv.stkFree(I:Inv X pz σ H s):∀b∈bK X.stack,H b=none:=fun b hb=>by
 rcases C_.mp (I.stkSub b hb)with e|hb
 .rw[e];exact I.free
 .obtain⟨_,o,ho,_⟩:=I.ok.funs.mem hb;exact I.base.free b o ho (I.ok.frf b hb) fun z=>I.ok.exfs b z hb
theorem Inv.step{g':Array OI}{t':Nat}{d':Drawn}{ch:List Addr}(I:Inv X pz σ H s)(hch:∀b∈ch,(b∈X.ex\/X.s₀.heap.objs.size<=b)/\b≠X.env.locals/\(∀x c,X.env.cells.lookup x=some c->c≠b)/\∀p∈X.pn++pz,p.1≠b)(keep:∀b o,b≠X.env.locals->b∉X.fs->b∉ch->s.heap.get? b=some o->H b=none->h'.get? b=some o)(slot:∀b o,b≠X.env.locals->b∈X.fs->b∉ch->s.heap.get? b=some o->H b=none->∃sl,h'.get? b=some { o with slots:=sl })(free:∀b o,b∉ch->s.heap.get? b=some o->H b=none->H' b=none)(there:∀b o,b∉ch->s.heap.get? b=some o->∃o',h'.get? b=some o')(tups:∀b xs,H b=some (.tup xs)->H' b=some (.tup xs))(frzs:∀b o u,H b=some (.frz o u)->H' b=some (.frz o u))(tbls:∀b ps,H b=some (.tbl ps)->∃more,H' b=some (.tbl (ps++more)))(ns:∀m,s.heap.Ns X.env.locals m->h'.Ns X.env.locals m)(hok:ce X.prog X.w H' h')(hg:LC g'):Inv X pz σ H' { s with heap:=h',gens:=g',drawn:=d',toks:=t' }:=by
 have neL:∀b o,X.s₀.heap.get? b=some o->b≠X.env.locals:=fun b o e=>Js (x_ (r_ e) I.ok.above);have neC:∀b o,X.s₀.heap.get? b=some o->b∉X.ex->b∉ch:=fun b o e hx hb=>by
  rcases(hch b hb).1 with z|z
  .exact hx z
  .exact absurd (x_ (r_ e) z) (J5 _)
 have cellK:∀x c,X.env.cells.lookup x=some c->∀v,s.heap.IsCell c v->h'.IsCell c v:=fun x c e v ⟨o,ho,hd⟩=>by
  have nch:c∉ch:=fun z=>(hch c z).2.2.1 x c e rfl;by_cases hc:c∈X.fs
  .obtain⟨sl,q⟩:=slot c o (I.cne x c e) hc nch ho (I.freeC x c e);exact⟨_,q,hd⟩
  .exact⟨o,keep c o (I.cne x c e) hc nch ho (I.freeC x c e),hd⟩
 refine⟨I.ok,I.os,hg,⟨fun b o e n hb hx=>?_,fun b o e n hb hx=>?_,fun b o e n hx=>?_,fun b o e hx=>?_,fun b xs e=>tups b xs (I.base.tups b xs e),fun b o xs e=>frzs b o xs (I.base.frzs b o xs e),fun b ps e=>?_⟩,?_,fun x c e=>?_,?_,fun x c e=>?_,fun p hp=>?_,hok,I.len⟩
 .exact keep b o (neL b o e) hb (neC b o e hx) (I.base.keep b o e n hb hx) (I.base.free b o e n hx)
 .obtain⟨sl,e1⟩:=I.base.slot b o e n hb hx;obtain⟨sl',e2⟩:=slot b _ (neL b o e) hb (neC b o e hx) e1 (I.base.free b o e n hx);exact⟨sl',e2⟩
 .obtain⟨o',e1⟩:=I.base.there b o e hx;exact free b o' (neC b o e hx) e1 (I.base.free b o e n hx)
 .obtain⟨o',e1⟩:=I.base.there b o e hx;exact there b o' (neC b o e hx) e1
 .obtain⟨m1,e1⟩:=I.base.tbls b ps e;obtain⟨m2,e2⟩:=tbls b _ e1;exact⟨m1++m2,by rw[e2,NG]⟩
 .obtain⟨m,hn,hl⟩:=I.loc;refine⟨m,ns m hn,fun i x v e1 e2 e3=>?_⟩;obtain⟨u,r,l⟩:=hl i x v e1 e2 e3;refine⟨u,r,?_⟩;rcases l with l|⟨k,c,e,z⟩
  .exact .inl l
  .exact .inr ⟨k,c,e,cellK x c e _ z⟩
 .obtain⟨v,z⟩:=I.cell x c e;exact⟨v,cellK x c e v z⟩
 .obtain⟨m,⟨o,_,_,ho,_⟩,_⟩:=I.loc;exact free _ o (fun z=>(hch _ z).2.1 rfl) ho I.free
 .obtain⟨v,o,ho,hd⟩:=I.cell x c e;exact free c o (fun z=>(hch c z).2.2.1 x c e rfl) ho (I.freeC x c e)
 .obtain⟨e,n,ne,nf,d⟩:=I.pin p hp;have nch:p.1∉ch:=fun z=>(hch p.1 z).2.2.2 p hp rfl;exact⟨keep p.1 p.2 ne nf nch e n,free p.1 p.2 nch e n,ne,nf,d⟩
theorem Inv.un{t':Nat}(I:Inv X pz σ H s)(u:Un X.fs [] H H' s.heap h')(hok:ce X.prog X.w H' h'):Inv X pz σ H' { s with heap:=h',toks:=t' }:=by obtain⟨m,⟨o,es,ep,ho,r⟩,_⟩:=id I.loc;obtain⟨sl,hL⟩:=u.any ho I.free (by simp);exact I.step (g':=s.gens) (d':=s.drawn) (ch:=[]) (fun _ z=>nomatch z) (fun b o _ hb _ e n=>u.keep b o e n hb (by simp)) (fun b o _ hb _ e n=>u.slot b o e n hb (by simp)) (fun b o _ e n=>u.free b o e n (by simp)) (fun b o _ e=>u.there b o e (by simp)) u.tups u.frzs u.tbls (fun m' hm=>by obtain⟨o',es',ep',ho',r'⟩:=hm;rw[ho]at ho';cases ho';exact⟨_,es',ep',hL,r'⟩) hok I.bare
theorem Inv.call{g':Array OI}{t':Nat}{d':Drawn}{ch:List Addr}(I:Inv X pz σ H s)(u:Un (bK X.stack) ch H H' s.heap h')(hok:ce X.prog X.w H' h')(hg:LC g')(hch:∀b∈ch,(b∈X.ex\/X.s₀.heap.objs.size<=b)/\b≠X.env.locals/\(∀x c,X.env.cells.lookup x=some c->c≠b)/\∀p∈X.pn++pz,p.1≠b):Inv X pz σ H' { s with heap:=h',gens:=g',drawn:=d',toks:=t' }:=by obtain⟨m,⟨o,es,ep,ho,r⟩,_⟩:=id I.loc;obtain⟨sl,hL⟩:=u.any ho I.free fun z=>(hch _ z).2.1 rfl;exact I.step (ch:=ch) hch (fun b o hL hb hc e n=>u.keep b o e n (fun z=>(C_.mp (I.stkSub b z)).elim hL hb) hc) (fun b o _ _ hc e n=>u.any e n hc) (fun b o hc e n=>u.free b o e n hc) (fun b o hc e=>u.there b o e hc) u.tups u.frzs u.tbls (fun m' hm=>by obtain⟨o',es',ep',ho',r'⟩:=hm;rw[ho]at ho';cases ho';exact⟨_,es',ep',hL,r'⟩) hok hg
theorem Inv.turned{t':Nat}{it:Addr}(I:Inv X pz σ H s)(k:∀b o,b≠it->s.heap.get? b=some o->h'.get? b=some o)(hn:H it=none)(hL:it≠X.env.locals)(h1:it∈X.ex\/X.s₀.heap.objs.size<=it)(h2:∀x c,X.env.cells.lookup x=some c->c≠it)(h3:∀p∈X.pn++pz,p.1≠it):Inv X pz σ H { s with heap:=h',toks:=t' }:=by
 have nit:∀b u,H b=some u->b≠it:=fun b u e z=>by rw[z,hn]at e;cases e
 refine I.step (g':=s.gens) (d':=s.drawn) (ch:=[it]) (fun b hb=>?_) (fun b o _ _ hc e _=>k b o (fun z=>hc (by simp[z])) e) (fun b o _ _ hc e _=>⟨o.slots,k b o (fun z=>hc (by simp[z])) e⟩) (fun _ _ _ _ n=>n)
  (fun b o hc e=>⟨o,k b o (fun z=>hc (by simp[z])) e⟩) (fun _ _ e=>e) (fun _ _ _ e=>e) (fun b ps e=>⟨#[],by rw[e];simp⟩) (fun m hm=>?_) (fun b u e=>?_) I.bare
 .have e:b=it:=by simpa using hb
  subst e;exact⟨h1,hL,h2,h3⟩
 .obtain⟨o,es,ep,ho,r⟩:=hm;exact⟨o,es,ep,k _ o (JX hL) ho,r⟩
 .refine(I.hok b u e).stay (fun c v hc q=>k c v ?_ q) (fun _ q=>q) fun _ _ q=>q;rcases hc with z|z
  .rw[z];exact nit b u e
  .exact nit c _ z
theorem Inv.tok(I:Inv X pz σ H s)(t:Nat):Inv X pz σ H { s with toks:=t }:=I.un (h':=s.heap) (t':=t) Un.refl I.hok
theorem Inv.kept{t':Nat}(I:Inv X pz σ H s)(k:∀b u,s.heap.get? b=some u->h'.get? b=some u):Inv X pz σ H { s with heap:=h',toks:=t' }:=I.un (Un.kept k) (I.hok.kept k)
theorem Inv.laid{a:Addr}{o:HO}{t':Nat}(I:Inv X pz σ H s)(k:∀b u,s.heap.get? b=some u->h'.get? b=some u)(hp:s.heap.objs.size<=a)(new:cE X.prog X.w (upd H a o) h' a o):Inv X pz σ (upd H a o) { s with heap:=h',toks:=t' }:=I.un (Un.laid k hp (I.hok.fresh hp)) (I.hok.laid k hp new)
theorem Inv.write{x e:Addr}{o:HO}{t':Nat}(I:Inv X pz σ H s)(mu:nO (H x))(he:e=x\/H e=some (.own x))(k:∀b u,b≠e->s.heap.get? b=some u->h'.get? b=some u)(heo:∃u,h'.get? e=some u)(new:cE X.prog X.w (upd H x o) h' x o):Inv X pz σ (upd H x o) { s with heap:=h',toks:=t' }:=I.un (Un.write mu he k heo) (I.hok.write mu he k heo new)
theorem Inv.pins_of{pins':List (Addr×Obj)}(I:Inv X pz σ H s)(h:∀p∈pins',s.heap.get? p.1=some p.2/\H p.1=none/\p.1≠X.env.locals/\p.1∉X.fs/\∀v,p.2.data≠.cell v):Inv X pins' σ H s:=⟨I.ok,I.os,I.bare,I.base,I.loc,I.cell,I.free,I.freeC,fun p hp=>(JS.mp hp).elim (fun z=>I.pin p (K2 _ z)) (h p),I.hok,I.len⟩
theorem ze{N:List Str}(hN:N.Nodup){i j:Nat}{x:Str}(a:N[i]? = some x)(b:N[j]? = some x):i=j:=by obtain⟨h1,e1⟩:=f_.mp a;obtain⟨h2,e2⟩:=f_.mp b;exact(List.getElem_inj hN).mp (e1.trans e2.symm)
theorem zN{M:NU}{A:Jr}{E:b_->e_->Prop}{i:Nat}{x:Str}{v:V}{u:b_}{Q:Unit->e_->Prop}(I:Inv X pz σ H s)(hN:X.N.Nodup)(hi:X.N[i]? = some x)(hx:fj X.env.scope x)(r:ar v u)(h:∀s',Inv X pz (σ.set i (some v)) H s'->(∃a,Me a s.heap s'.heap/\(a=X.env.locals\/X.env.cells.lookup x=some a))->Q () s')(hf:X.fn x=true\/X.env.scope.names.lookup x=some .local:=by first|exact .inl rfl|exact .inr rfl|assumption):p_ M A (storeName X.env x u) Q E s:=by
 obtain⟨m,hn,hl⟩:=id I.loc;have hcls:(X.env.scope.kind==.class || (X.env.scope.kind==.module&&X.env.locals != X.env.globals))=false:=by rw[I.ok.kind];rfl
 have hiσ:i<σ.length:=by rw[I.len];exact(f_.mp hi).1
 have cne:=I.cne;have tracked:∀{a:Addr}{h':Heap},(∃o,s.heap.get? a=some o/\H a=none)->Me a s.heap h'->ce X.prog X.w H h':=fun{a h'} ha hs b ob e=>by
  obtain⟨_,_,hfree⟩:=ha;refine(I.hok b ob e).stay (fun c w' hc q=>(hs.2 c ?_).trans q) (fun _ q=>q) fun _ _ q=>q
  rintro rfl
  rcases hc with rfl|hc
  .rw[hfree]at e;cases e
  .rw[hfree]at hc;cases hc
 rcases hx with hk|hk
 .refine wpAny_storeName_local hk hn (fun h' hn' hs=>?_) hcls;obtain⟨oL,_,_,hoL,_⟩:=id hn;refine h _ ⟨I.ok,I.os,I.bare,⟨fun b o e n hb hx=>?_,fun b o e n hb hx=>?_,I.base.free,fun b o e hx=>?_,I.base.tups,I.base.frzs,I.base.tbls⟩,⟨_,hn',fun j y v' e1 e2 e3=>?_⟩,fun y c e=>?_,I.free,I.freeC,fun p hp=>?_,tracked ⟨oL,hoL,I.free⟩ hs,by simpa using I.len⟩ ⟨_,hs,.inl rfl⟩
  .exact(hs.2 b (Js (x_ (r_ e) I.ok.above))).trans (I.base.keep b o e n hb hx)
  .obtain⟨sl,e1⟩:=I.base.slot b o e n hb hx;exact⟨sl,(hs.2 b (Js (x_ (r_ e) I.ok.above))).trans e1⟩
  .obtain⟨o',e1⟩:=I.base.there b o e hx;exact⟨o',(hs.2 b (Js (x_ (r_ e) I.ok.above))).trans e1⟩
  .by_cases hj:j=i
   .subst hj;rw[hi]at e1;cases e1;rw[d_ hiσ]at e2;cases e2;exact⟨u,r,.inl ⟨hk,by simp⟩⟩
   .rw[a_ (JX hj)]at e2;obtain⟨u',r',q⟩:=hl j y v' e1 e2 e3;refine⟨u',r',?_⟩;rcases q with⟨k,e⟩|⟨k,c,e,z⟩
    .refine .inl ⟨k,?_⟩;have:y≠x:=fun e=>hj (ze hN e1 (e▸hi));simp[this,e]
    .exact .inr ⟨k,c,e,z.sameBut hs (cne y c e)⟩
  .obtain⟨w',z⟩:=I.cell y c e;exact⟨w',z.sameBut hs (cne y c e)⟩
  .obtain⟨e,n,ne,nf,d⟩:=I.pin p hp;exact⟨(hs.2 p.1 ne).trans e,n,ne,nf,d⟩
 .have hfn:X.fn x=true:=by
   rcases hf with z|z
   .exact z
   .rw[z]at hk;cases hk
  obtain⟨c,hc⟩:=I.ok.has x (.inl hk);obtain⟨w',z⟩:=I.cell x c hc;refine wpAny_storeName_cell I.ok.kind hk hc z (fun h' hc' hs=>?_);obtain⟨oc,hoc,hocd⟩:=id z;refine h { s with heap:=h' } ⟨I.ok,I.os,I.bare,⟨fun b o e n hb hx=>?_,fun b o e n hb hx=>?_,I.base.free,fun b o e hx=>?_,I.base.tups,I.base.frzs,I.base.tbls⟩,⟨m,hn.sameBut hs (JX (cne x c hc)),fun j y v' e1 e2 e3=>?_⟩,fun y c' e=>?_,I.free,I.freeC,fun p hp=>?_,tracked ⟨oc,hoc,I.freeC x c hc⟩ hs,by simpa using I.len⟩ ⟨c,hs,.inr hc⟩
  .exact(hs.2 b (Js (x_ (r_ e) (I.ok.cab x c hfn hc)))).trans (I.base.keep b o e n hb hx)
  .obtain⟨sl,e1⟩:=I.base.slot b o e n hb hx;exact⟨sl,(hs.2 b (Js (x_ (r_ e) (I.ok.cab x c hfn hc)))).trans e1⟩
  .obtain⟨o',e1⟩:=I.base.there b o e hx;exact⟨o',(hs.2 b (Js (x_ (r_ e) (I.ok.cab x c hfn hc)))).trans e1⟩
  .by_cases hj:j=i
   .subst hj;rw[hi]at e1;cases e1;rw[d_ hiσ]at e2;cases e2;exact⟨u,r,.inr ⟨.inl hk,c,hc,hc'⟩⟩
   .rw[a_ (JX hj)]at e2;obtain⟨u',r',q⟩:=hl j y v' e1 e2 e3;refine⟨u',r',?_⟩;rcases q with q|⟨k,c',e,z'⟩
    .exact .inl q
    .refine .inr ⟨k,c',e,z'.sameBut hs ?_⟩
     rintro rfl
     exact hj (ze hN e1 (I.ok.inj _ _ _ e hc▸hi))
  .by_cases hcc:c'=c
   .subst hcc;exact⟨_,hc'⟩
   .obtain⟨w2,z2⟩:=I.cell y c' e;exact⟨w2,z2.sameBut hs hcc⟩
  .obtain⟨e,n,ne,nf,d⟩:=I.pin p hp;refine⟨(hs.2 p.1 ?_).trans e,n,ne,nf,d⟩;intro q;rw[q,hoc]at e;have q':oc=p.2:=B_ e;exact d w' (by rw[<-q'];exact hocd)
theorem pb{M:NU}{A:Jr}{E:b_->e_->Prop}{i:Nat}{x:Str}{v:V}{u:b_}{Q:Unit->e_->Prop}(I:Inv X pz σ H s)(hN:X.N.Nodup)(hi:X.N[i]? = some x)(hx:fj X.env.scope x)(r:ar v u)(h:∀s',Inv X pz (σ.set i (some v)) H s'->Q () s')(hf:X.fn x=true\/X.env.scope.names.lookup x=some .local:=by first|exact .inl rfl|exact .inr rfl|assumption):p_ M A (storeName X.env x u) Q E s:=zN I hN hi hx r (fun s' I' _=>h s' I') hf
theorem Inv.call'{s':e_}{ch:List Addr}(I:Inv X pz σ H s)(ho:s'.os=s.os)(u:Un (bK X.stack) ch H H' s.heap s'.heap)(hok:ce X.prog X.w H' s'.heap)(hg:LC s'.gens)(hch:∀b∈ch,(b∈X.ex\/X.s₀.heap.objs.size<=b)/\b≠X.env.locals/\(∀x c,X.env.cells.lookup x=some c->c≠b)/\∀p∈X.pn++pz,p.1≠b):Inv X pz σ H' s':=by obtain⟨h',g',d',t',o'⟩:=s';have e:o'=s.os:=ho;subst e;exact I.call (g':=g') (t':=t') (d':=d') u hok hg hch
end
abbrev XK:=b_->Option Addr->Hp->Prop
abbrev St:=List (Option V)
abbrev VK:=V->Hp->Prop
abbrev TE:=St->Hp->VK->Prop
abbrev TT:=St->Hp->(Bool->Hp->Prop)->Prop
abbrev TA:=St->Hp->(List V->Hp->Prop)->Prop
structure Ends where
 nx:St->Hp->Prop
 rt:VK
 bk:St->Hp->Prop:=fun _ _=>False
 ct:St->Hp->Prop:=fun _ _=>False
abbrev TS:=Ends->St->Hp->Prop
def EP(X:Cx)(pz:List (Addr×Obj))(σ:St)(Q:VK)(u:b_)(s':e_):Prop:=∃v H',Inv X pz σ H' s'/\ar v u/\Q v H'
def TP(X:Cx)(pz:List (Addr×Obj))(σ:St)(Q:Bool->Hp->Prop)(b:Bool)(s':e_):Prop:=∃H',Inv X pz σ H' s'/\Q b H'
def AP(X:Cx)(pz:List (Addr×Obj))(σ:St)(Q:List V->Hp->Prop)(us:List b_)(s':e_):Prop:=∃vs H',Inv X pz σ H' s'/\al vs us/\Q vs H'
def SP(X:Cx)(pz:List (Addr×Obj))(D:Ends)(f:Flow)(s':e_):Prop:=match f with
|.next=>∃σ' H',Inv X pz σ' H' s'/\D.nx σ' H'
|.brk=>∃σ' H',Inv X pz σ' H' s'/\D.bk σ' H'
|.cont=>∃σ' H',Inv X pz σ' H' s'/\D.ct σ' H'
|.ret u=>∃v σ' H',Inv X pz σ' H' s'/\ar v u/\D.rt v H'
def PE(X:Cx)(e:Expr)(t:TE):Prop:=∀(pz:List (Addr×Obj))(s:e_)(σ:St)(H:Hp)(Q:VK),Inv X pz σ H s->t σ H Q->p_ (y_ X.prog X.w) X.A (eval e X.env) (EP X pz σ Q) X.xe s
def PT(X:Cx)(e:Expr)(t:TT):Prop:=∀(pz:List (Addr×Obj))(s:e_)(σ:St)(H:Hp)(Q:Bool->Hp->Prop),Inv X pz σ H s->t σ H Q->p_ (y_ X.prog X.w) X.A (isTrue e X.env (eval e X.env)) (TP X pz σ Q) X.xe s
def PW(X:Cx)(e:Expr)(t:TT):Prop:=∀(whole:Sem b_)(pz:List (Addr×Obj))(s:e_)(σ:St)(H:Hp)(Q:Bool->Hp->Prop),Inv X pz σ H s->t σ H Q->p_ (y_ X.prog X.w) X.A (isTrue e X.env whole) (TP X pz σ Q) X.xe s
theorem PW.pt{X:Cx}{e:Expr}{t:TT}(h:PW X e t):PT X e t:=h _
def PA(X:Cx)(es:List Expr)(t:TA):Prop:=∀(pos:Pos)(pz:List (Addr×Obj))(s:e_)(σ:St)(H:Hp)(Q:List V->Hp->Prop),Inv X pz σ H s->t σ H Q->p_ (y_ X.prog X.w) X.A (spliced (backTo pos (g_ es X.env))) (AP X pz σ Q) X.xe s
def PS(X:Cx)(st:Stmt)(t:TS):Prop:=∀(pz:List (Addr×Obj))(s:e_)(σ:St)(H:Hp)(D:Ends),Inv X pz σ H s->t D σ H->p_ (y_ X.prog X.w) X.A (exec st X.env) (SP X pz D) X.xe s
def bx(X:Cx)(st:List Stmt)(t:TS):Prop:=∀(pz:List (Addr×Obj))(s:e_)(σ:St)(H:Hp)(D:Ends),Inv X pz σ H s->t D σ H->p_ (y_ X.prog X.w) X.A (execs st X.env) (SP X pz D) X.xe s
theorem aO{α:Type}{t:Sem α}{Q Q':α->e_->Prop}{M:NU}{A:Jr}{E:b_->e_->Prop}{s:e_}(h:p_ M A t Q E s)(hQ:∀a s,Q a s->Q' a s):p_ M A t Q' E s:=JF h hQ fun _ _ x=>x
section
variable{X:Cx}
def fK(i:Nat):TE:=fun σ H Q=>∃v,σ[i]? = some (some v)/\Q v H
def tC(v:V):TE:=fun _ H Q=>Q v H
theorem dJ{i:Nat}{x:Str}{pos:Pos}(hN:X.N[i]? = some x)(hv:dk X.env.scope x)(hd:(x==("__debug__" : Str))=false:=by decide)(hcd:(x==("__classdict__" : Str))=false:=by decide):PE X (.Name x pos) (fK i):=by
 intro pz s σ H Q I h;obtain⟨v,e,h⟩:=h;obtain⟨m,hn,hl⟩:=I.loc;obtain⟨u,r,l⟩:=hl i x v hN e hv;have fin:EP X pz σ Q u s:=⟨v,H,I,r,h⟩
 rcases l with⟨hk,hm⟩|⟨hk,c,hc,hcell⟩
 .exact OJ (wpAny_loadName_local I.ok.kind hk hn hm fin) hd
 .rcases hk with hk|hk
  .exact OJ (wpAny_loadName_cell I.ok.kind hk hc hcell fin) hd
  .exact OJ (wpAny_loadName_free I.ok.kind hk hc hcell fin hcd) hd
theorem Co{i j pos}:PE X (.Constant (.int i) j pos) (tC (.int i)):=fun _ _ _ H _ I h=>wpAny_Constant_int ⟨.int i,H,I.tok _,⟨_,rfl⟩,h⟩
theorem B7{b j pos}:PE X (.Constant (.bool b) j pos) (tC (.bl b)):=fun _ _ _ H _ I h=>Constant_bool ⟨.bl b,H,I,rfl,h⟩
theorem Cp{j pos}:PE X (.Constant .none j pos) (tC .non):=fun _ _ _ H _ I h=>Constant_none ⟨.non,H,I,rfl,h⟩
theorem wX{x j pos}:PE X (.Constant (.str x) j pos) (tC (.str x)):=fun _ _ _ H _ I h=>Calls.Constant_str ⟨.str x,H,I.tok _,⟨_,rfl⟩,h⟩
def Gl(X:Cx)(x:Str):Prop:=X.env.kindOf x=some .globalImplicit
theorem j4{E:b_->e_->Prop}{pz:List (Addr×Obj)}{s:e_}{σ:St}{H:Hp}{x:Str}{u:b_}{pos:Pos}{Q:b_->e_->Prop}(I:Inv X pz σ H s)(hg:Gl X x)(hm:X.mg x=some u)(h:Q u s)(hd:(x==("__debug__" : Str))=false:=by decide):p_ (y_ X.prog X.w) X.A (eval (.Name x pos) X.env) Q E s:=Mi I.ok.kind hg (Calls.loadGlobal_global (by rw[I.ok.glob];exact I.mod.glob.keeps I.bk) hm h) hd
theorem l9{E:b_->e_->Prop}{pz:List (Addr×Obj)}{s:e_}{σ:St}{H:Hp}{x:Str}{u:b_}{pos:Pos}{Q:b_->e_->Prop}(I:Inv X pz σ H s)(hg:Gl X x)(hm:X.mg x=none)(hv:KN x=some u)(h:Q u s)(hn:x≠"__name__" := by decide)(hd:(x==("__debug__" : Str))=false:=by decide):p_ (y_ X.prog X.w) X.A (eval (.Name x pos) X.env) Q E s:=by obtain⟨mb,h1,h2⟩:=I.mod.blt;exact Mi I.ok.kind hg (Calls.loadGlobal_builtin (by rw[I.ok.glob];exact I.mod.glob.keeps I.bk) hm (by rw[I.ok.blt];exact h1.keeps I.bk) ((h2 x hn).trans hv) h) hd
theorem rJ{x:Str}{v:V}{u:b_}{pos:Pos}(hg:Gl X x)(hm:X.mg x=some u)(r:ar v u)(hd:(x==("__debug__" : Str))=false:=by decide):PE X (.Name x pos) (tC v):=fun _ _ _ H _ I h=>j4 I hg hm ⟨v,H,I,r,h⟩ hd
theorem oK{x:Str}{v:V}{u:b_}{pos:Pos}(hg:Gl X x)(hm:X.mg x=none)(hv:KN x=some u)(r:ar v u)(hn:x≠"__name__" := by decide)(hd:(x==("__debug__" : Str))=false:=by decide):PE X (.Name x pos) (tC v):=fun _ _ _ H _ I h=>l9 I hg hm hv ⟨v,H,I,r,h⟩ hn hd
variable{a b:Expr}{ta tb:TE}{pos:Pos}
def tB(t:TE):TT:=fun σ H Q=>t σ H fun x H1=>∃c,x=.bl c/\Q c H1
variable{tA tB':TT}{rest:List Expr}
def uG(t u:TT):TT:=fun σ H Q=>t σ H fun c H1=>if c=true then u σ H1 Q else Q false H1
def IY(t u:TT):TT:=fun σ H Q=>t σ H fun c H1=>if c=true then Q true H1 else u σ H1 Q
def t8(t:TT):TT:=fun σ H Q=>t σ H fun c H1=>Q (! c) H1
theorem D5(ha:PT X a tA):PW X (.BoolOp .And [a] pos) tA:=by intro wh pz s σ H Q I h;refine isTrue_and (aO (ha pz s σ H Q I h) fun c s1 e=>?_);cases c with
|true=>exact isTrue_and_nil e
|false=>exact e
theorem Cy(ha:PT X a tA):PW X (.BoolOp .Or [a] pos) tA:=by intro wh pz s σ H Q I h;refine isTrue_or (aO (ha pz s σ H Q I h) fun c s1 e=>?_);cases c with
|false=>exact isTrue_or_nil e
|true=>exact e
theorem Cw(ha:PT X a tA)(hb:PW X (.BoolOp .And (b::rest) pos) tB'):PW X (.BoolOp .And (a::b::rest) pos) (uG tA tB'):=by intro wh pz s σ H Q I h;refine isTrue_and (aO (ha pz s σ H _ I h) fun c s1 ⟨H1,I1,q1⟩=>?_);cases c with
|true=>exact hb wh pz s1 σ H1 Q I1 q1
|false=>exact⟨H1,I1,q1⟩
theorem Ca(ha:PT X a tA)(hb:PW X (.BoolOp .Or (b::rest) pos) tB'):PW X (.BoolOp .Or (a::b::rest) pos) (IY tA tB'):=by intro wh pz s σ H Q I h;refine isTrue_or (aO (ha pz s σ H _ I h) fun c s1 ⟨H1,I1,q1⟩=>?_);cases c with
|true=>exact⟨H1,I1,q1⟩
|false=>exact hb wh pz s1 σ H1 Q I1 q1
theorem Cv(ha:PT X a tA):PT X (.UnaryOp .Not a pos) (t8 tA):=by intro pz s σ H Q I h;exact isTrue_not (ha pz s σ H (fun c H1=>Q (! c) H1) I h)
def BP(ta tb:TE):TE:=fun σ H Q=>ta σ H fun x H1=>∃c,x=.bl c/\if c=true then tb σ H1 Q else Q (.bl false) H1
def BU(ta:TE):TE:=fun σ H Q=>ta σ H fun x H1=>∃c,x=.bl c/\Q (.bl (! c)) H1
theorem Cr{op}{t:TE}(h:PE X a t):PE X (.BoolOp op [a] pos) t:=fun pz s σ H Q I hw=>BoolOp_one (h pz s σ H Q I hw)
theorem Cm(ha:PE X a ta)(hb:PE X (.BoolOp .And (b::rest) pos) tb):PE X (.BoolOp .And (a::b::rest) pos) (BP ta tb):=by intro pz s σ H Q I h;refine BoolOp_and (aO (ha pz s σ H _ I h) fun v s1 ⟨x,H1,I1,r1,q1⟩=>?_);obtain⟨c,rfl,q1⟩:=q1;cases r1;refine LD ?_;cases c with
|true=>exact hb pz s1 σ H1 Q I1 q1
|false=>exact⟨.bl false,H1,I1,rfl,q1⟩
theorem Cq(ha:PE X a ta):PE X (.UnaryOp .Not a pos) (BU ta):=by intro pz s σ H Q I h;refine UnaryOp_ (aO (ha pz s σ H _ I h) fun v s1 ⟨x,H1,I1,r1,q1⟩=>?_);obtain⟨c,rfl,q1⟩:=q1;cases r1;exact not_of (LD ⟨.bl (! c),H1,I1,rfl,q1⟩)
end
def bb(K:W.Frag)(H:Hp)(a:Addr)(xs:List V):Prop:=Rd H a (.lst xs) \/∃(o:Obj)(its:Array b_)(n:Nat),K.lookup a=some o/\o.cls=.type "list"/\o.dict=none/\o.data=.seq its n/\its.size<=sizeLine/\al xs its.toList
def cr(K:W.Frag)(H:Hp)(a:Addr)(xs:List V):Prop:=Rd H a (.tup xs) \/∃(o:Obj)(its:Array b_)(n:Nat),K.lookup a=some o/\o.cls=.type "tuple"/\o.data=.seq its n/\its.size<=sizeLine/\al xs its.toList
def vE:b_->Option V
|.none=>some .non
|.bool b=>some (.bl b)
|.int i _=>some (.int i)
|.str x _=>some (.str x)
|.bytes b _=>some (.byt b)
|.float b _=>some (.flt b)
|.ref a=>some (.ref a)
|.type n=>some (.ty n)
|_=>none
theorem ar.abs{x:V}{u:b_}(r:ar x u):vE u=some x:=by cases x with
|non=>cases r;rfl
|bl _=>cases r;rfl
|int _=>obtain⟨t,rfl⟩:=r;rfl
|str _=>obtain⟨t,rfl⟩:=r;rfl
|byt _=>obtain⟨t,rfl⟩:=r;rfl
|flt _=>obtain⟨t,rfl⟩:=r;rfl
|ref _=>cases r;rfl
|ty _=>cases r;rfl
theorem ar.inj{x y:V}{u:b_}(r:ar x u)(q:ar y u):x=y:=B_ (r.abs.symm.trans q.abs)
theorem al.inj{xs ys:List V}{us:List b_}(h:al xs us)(h':al ys us):xs=ys:=by induction h generalizing ys with
|nil=>cases h';rfl
|cons r t ih=>cases h' with
 |cons r' t'=>rw[r.inj r',ih t']
section
variable{X:Cx}{pz:List (Addr×Obj)}{σ:St}{H:Hp}{s:e_}{a:Addr}{xs ys:List V}
theorem bb.of{K:W.Frag}(h:H a=some (.lst xs)):bb K H a xs:=.inl (.inl h)
theorem cr.of{K:W.Frag}(h:H a=some (.tup xs)):cr K H a xs:=.inl (.inl h)
theorem Inv.list(I:Inv X pz σ H s)(h:bb X.K H a xs):∃its:List b_,al xs its/\PlainL s.heap a its.toArray/\xs.length<=sizeLine:=by
 rcases h with h|⟨o,its,n,hk,hc,hd,hs,hz,r⟩
 .obtain⟨z,its,n,r,e⟩:=h.ok I.hok;exact⟨its,r,⟨_,n,e,rfl,rfl,rfl⟩,z⟩
 .refine⟨its.toList,r,⟨o,n,I.kIn a o hk,hc,hd,by simpa using hs⟩,?_⟩;have e:=r.length;simp only[Mb]at e;omega
theorem Inv.tuple(I:Inv X pz σ H s)(h:cr X.K H a xs):∃its:List b_,al xs its/\OG s.heap a its.toArray/\xs.length<=sizeLine:=by
 rcases h with h|⟨o,its,n,hk,hc,hs,hz,r⟩
 .obtain⟨z,its,r,p,_⟩:=h.ok I.hok;exact⟨its,r,p,z⟩
 .refine⟨its.toList,r,⟨o,I.kIn a o hk,hc,n,by simpa using hs⟩,?_⟩;have e:=r.length;simp only[Mb]at e;omega
theorem Inv.list_inj(I:Inv X pz σ H s)(h:bb X.K H a xs)(h':bb X.K H a ys):xs=ys:=by
 obtain⟨its,r,⟨o,n,e,_,_,d⟩,_⟩:=I.list h;obtain⟨its',r',⟨o',n',e',_,_,d'⟩,_⟩:=I.list h';rw[e]at e';cases e';rw[d]at d';injection d' with d1 _
 have:its=its':=by simpa using congrArg Pw d1
 subst this;exact r.inj r'
theorem Inv.tuple_inj(I:Inv X pz σ H s)(h:cr X.K H a xs)(h':cr X.K H a ys):xs=ys:=by
 obtain⟨its,r,⟨o,e,_,n,d⟩,_⟩:=I.tuple h;obtain⟨its',r',⟨o',e',_,n',d'⟩,_⟩:=I.tuple h';rw[e]at e';cases e';rw[d]at d';injection d' with d1 _
 have:its=its':=by simpa using congrArg Pw d1
 subst this;exact r.inj r'
end
abbrev Cx.wish(X:Cx)(E:b_->e_->Prop):Cx:={ X with xe:=E }
abbrev Cx.nox(X:Cx):Cx:=X.wish fun _ _=>False
theorem Cx.Ok.wish{X:Cx}(ok:X.Ok)(E:b_->e_->Prop):(X.wish E).Ok:=⟨ok.mod,ok.kind,ok.glob,ok.blt,ok.above,ok.inj,ok.has,ok.cab,ok.hd,ok.frames,ok.stk,ok.exf,ok.bs,ok.bsz,ok.noex,ok.exfs,ok.funs,ok.frf⟩
theorem Cx.Ok.unwish{X:Cx}{E:b_->e_->Prop}(ok:(X.wish E).Ok):X.Ok:=⟨ok.mod,ok.kind,ok.glob,ok.blt,ok.above,ok.inj,ok.has,ok.cab,ok.hd,ok.frames,ok.stk,ok.exf,ok.bs,ok.bsz,ok.noex,ok.exfs,ok.funs,ok.frf⟩
section
variable{X:Cx}{pz:List (Addr×Obj)}{σ:St}{H:Hp}{s:e_}{E:b_->e_->Prop}
theorem Inv.wish(I:Inv X pz σ H s)(E:b_->e_->Prop):Inv (X.wish E) pz σ H s:=⟨I.ok.wish E,I.os,I.bare,I.base,I.loc,I.cell,I.free,I.freeC,I.pin,I.hok,I.len⟩
theorem Inv.unwish(I:Inv (X.wish E) pz σ H s):Inv X pz σ H s:=⟨I.ok.unwish,I.os,I.bare,I.base,I.loc,I.cell,I.free,I.freeC,I.pin,I.hok,I.len⟩
theorem SP.unwish{D:Ends}{f:Flow}{s':e_}(h:SP (X.wish E) pz D f s'):SP X pz D f s':=by cases f with
|next=>obtain⟨σ',H',I,q⟩:=h;exact⟨σ',H',I.unwish,q⟩
|brk=>obtain⟨σ',H',I,q⟩:=h;exact⟨σ',H',I.unwish,q⟩
|cont=>obtain⟨σ',H',I,q⟩:=h;exact⟨σ',H',I.unwish,q⟩
|ret u=>obtain⟨v,σ',H',I,r,q⟩:=h;exact⟨v,σ',H',I.unwish,r,q⟩
theorem PE.nox{e:Expr}{t:TE}(h:PE X.nox e t):PE X e t:=fun pz s σ H Q I hw=>JF (h pz s σ H Q (I.wish _) hw) (fun _ _ ⟨v,H',I',r,q⟩=>⟨v,H',I'.unwish,r,q⟩) fun _ _ z=>JG z
theorem PT.nox{e:Expr}{t:TT}(h:PT X.nox e t):PT X e t:=fun pz s σ H Q I hw=>JF (h pz s σ H Q (I.wish _) hw) (fun _ _ ⟨H',I',q⟩=>⟨H',I'.unwish,q⟩) fun _ _ z=>JG z
theorem bx.nox{st:List Stmt}{t:TS}(h:bx X.nox st t):bx X st t:=fun pz s σ H D I hw=>JF (h pz s σ H D (I.wish _) hw) (fun _ _ q=>q.unwish) fun _ _ z=>JG z
end
section
variable{X:Cx}{st:Stmt}{rest:List Stmt}{t u:TS}{e:Expr}{te:TE}{pos:Pos}
def BS:TS:=fun D σ H=>D.nx σ H
def nv(t u:TS):TS:=fun D σ H=>t { D with nx:=u D } σ H
theorem oO:bx X [] BS:=fun _ _ σ H _ I h=>Lq ⟨σ,H,I,h⟩
theorem ib(h1:PS X st t)(h2:bx X rest u):bx X (st::rest) (nv t u):=by intro pz s σ H D I h;refine Oi (aO (h1 pz s σ H { D with nx:=u D } I h) fun f s1 q=>?_);cases f with
|next=>obtain⟨σ',H',I',q⟩:=q;exact h2 pz s1 σ' H' D I' q
|ret v=>exact q
|brk=>exact q
|cont=>exact q
theorem rc(h1:PS X st t):bx X [st] t:=by intro pz s σ H D I h;refine Oi (aO (h1 pz s σ H D I h) fun f s1 q=>?_);cases f with
|next=>exact Lq q
|ret v=>exact q
|brk=>exact q
|cont=>exact q
theorem Inv.quiet{pz:List (Addr×Obj)}{σ:St}{H:Hp}{s:e_}(I:Inv X pz σ H s):interactive X.env=false:=by simp[interactive,I.ok.kind]
def wP(te:TE):TS:=fun D σ H=>te σ H fun _ H1=>D.nx σ H1
theorem oN(he:PE X e te)(hs:Kp e none pos.line X.env=pure false:=by rfl):PS X (.Expr e pos) (wP te):=by intro pz s σ H D I h;exact wpAny_Expr_any (aO (he pz s σ H _ I h) fun v s1 ⟨x,H1,I1,r1,q1⟩=>⟨σ,H1,I1,q1⟩) I.quiet hs
def tY(te:TE):TS:=fun D σ H=>te σ H D.rt
theorem mh(he:PE X e te):PS X (.Return (some e) pos) (tY te):=by intro pz s σ H D I h;exact wpAny_Return_some (aO (he pz s σ H _ I h) fun v s1 ⟨x,H1,I1,r1,q1⟩=>⟨x,σ,H1,I1,r1,q1⟩)
def uD(c:TT)(t u:TS):TS:=fun D σ H=>c σ H fun b H1=>if b=true then t D σ H1 else u D σ H1
theorem nX{c:Expr}{a b:List Stmt}{tc:TT}(hc:PT X c tc)(ha:bx X a t)(hb:bx X b u):PS X (.If c a b pos) (uD tc t u):=by intro pz s σ H D I h;refine wpAny_If (aO (hc pz s σ H _ I h) fun d s1 ⟨H1,I1,q1⟩=>?_);cases d with
|true=>exact ha pz s1 σ H1 D I1 q1
|false=>exact hb pz s1 σ H1 D I1 q1
def DG:TS:=fun _ _ _=>False
theorem FD:PS X st DG:=fun _ _ _ _ _ _ h=>h.elim
end
abbrev TG:=V->St->Hp->(St->Hp->Prop)->Prop
abbrev iT:=List V->St->Hp->(St->Hp->Prop)->Prop
def PG(X:Cx)(target:Expr)(t:TG):Prop:=∀(pz:List (Addr×Obj))(s:e_)(σ:St)(H:Hp)(v:V)(u:b_)(Q:St->Hp->Prop),Inv X pz σ H s->ar v u->t v σ H Q ->p_ (y_ X.prog X.w) X.A (Lg target X.env u) (fun _ s'=>∃σ' H',Inv X pz σ' H' s'/\Q σ' H') X.xe s
def iy(X:Cx)(ts:List Expr)(t:iT):Prop:=∀(pz:List (Addr×Obj))(s:e_)(σ:St)(H:Hp)(vs:List V)(us:List b_)(Q:St->Hp->Prop),Inv X pz σ H s->al vs us->t vs σ H Q ->p_ (y_ X.prog X.w) X.A (assignInOrder ((JV ts X.env).map (·.2)) us) (fun _ s'=>∃σ' H',Inv X pz σ' H' s'/\Q σ' H') X.xe s
abbrev js:=V->V->V->Hp->(Hp->Prop)->Prop
def fg(X:Cx)(t:js):Prop:=∀(pz:List (Addr×Obj))(s:e_)(σ:St)(H:Hp)(o i v:V)(ov iv u:b_)(Q:Hp->Prop),Inv X pz σ H s->ar o ov->ar i iv->ar v u->t o i v H Q ->p_ (y_ X.prog X.w) X.A (NV ov iv u) (fun _ s'=>∃H',Inv X pz σ H' s'/\Q H') X.xe s
section
variable{X:Cx}{pos:Pos}
def vU(i:Nat):TG:=fun v σ H Q=>Q (σ.set i (some v)) H
theorem EG{i:Nat}{x:Str}(hN:X.N.Nodup)(hi:X.N[i]? = some x)(hx:fj X.env.scope x)(hf:X.fn x=true\/X.env.scope.names.lookup x=some .local:=by first|exact .inl rfl|exact .inr rfl|assumption):PG X (.Name x pos) (vU i):=by intro pz s σ H v u Q I r h;exact NW (pb I hN hi hx r (fun s' I'=>⟨_,H,I',h⟩) hf)
def uY:iT:=fun vs σ H Q=>vs=[]/\Q σ H
def AT(t:TG)(u:iT):iT:=fun vs σ H Q=>∃v r,vs=v::r/\t v σ H fun σ' H'=>u r σ' H' Q
theorem EH:iy X [] uY:=by intro pz s σ H vs us Q I r h;obtain⟨e,h⟩:=h;subst e;cases r;exact assignInOrder_nil ⟨σ,H,I,h⟩
theorem Fw{e:Expr}{es:List Expr}{t:TG}{u:iT}(h1:PG X e t)(h2:iy X es u)(hs:(JV (e::es) X.env).map (·.2)=Lg e X.env::(JV es X.env).map (·.2):=by rfl):iy X (e::es) (AT t u):=by intro pz s σ H vs us Q I r h;obtain⟨v,vr,e1,h⟩:=h;subst e1;cases r with
|cons r rr=>rw[hs];refine assignInOrder_cons (aO (h1 pz s σ H _ _ _ I r h) fun _ s1 ⟨σ1,H1,I1,q1⟩=>?_);exact h2 pz s1 σ1 H1 _ _ Q I1 rr q1
def uW(K:W.Frag)(n:Nat)(t:iT):TG:=fun v σ H Q=>∃a xs,v=.ref a/\cr K H a xs/\xs.length=n/\t xs σ H Q
theorem Ct{es:List Expr}{k:Nat}{t:iT}{n:Nat}(hc:X.calm=true)(h:iy X es t)(hn:(JV es X.env).length=n:=by rfl)(hst:(JV es X.env).findIdx? (·.1)=none:=by rfl):PG X (.Tuple es k pos) (uW X.K n t):=by intro pz s σ H v u Q I r hw;obtain⟨a,xs,e1,hq,hl,hw⟩:=hw;subst e1;cases r;obtain⟨its,rv,ht,hz⟩:=I.tuple hq;refine assign_Tuple_tuple (I.ok.hd hc) ht (by simp[hn,<-hl,rv.length]) hst fun h' hx=>?_;have I1:Inv X pz σ H { s with heap:=h' }:=I.kept (t':=s.toks) fun b o e=>hx b o (Js (r_ e)) e;exact h pz _ σ H xs _ Q I1 (by simpa using rv) hw
def uX(to ti:TE)(t:js):TG:=fun v σ H Q=>to σ H fun o H1=>ti σ H1 fun i H2=>t o i v H2 fun H3=>Q σ H3
theorem qY{o i:Expr}{to ti:TE}{t:js}(ho:PE X o to)(hi:PE X i ti)(hs:fg X t)(ha:∀v,Lg (.Subscript o i pos) X.env v=(do
   let ov <-KO [v] (eval o X.env);let iv <-KO [v,ov] (eval i X.env)
   Nu pos
   KO [v,ov,iv] (NV ov iv v)
   Px [v,ov,iv] []):=by intro _;rfl):PG X (.Subscript o i pos) (uX to ti t):=by intro pz s σ H v u Q I r h;rw[ha];refine c_ (J6 (aO (ho pz s σ H _ I h) fun ov s1 ⟨x,H1,I1,r1,q1⟩=>?_));refine c_ (J6 (aO (hi pz s1 σ H1 _ I1 q1) fun iv s2 ⟨y,H2,I2,r2,q2⟩=>?_));refine c_ (Lj (c_ (J6 (aO (hs pz s2 σ H2 x y v ov iv u _ I2 r1 r2 r q2) fun _ s3 ⟨H3,I3,q3⟩=>?_))));exact wpAny_release ⟨σ,H3,I3,q3⟩
def nz(te:TE)(g:TG):TS:=fun D σ H=>te σ H fun x H1=>g x σ H1 D.nx
theorem oy{tg e:Expr}{te:TE}{g:TG}(he:PE X e te)(hg:PG X tg g)(hs:L1 [tg] e pos.line X.env=pure false:=by rfl)(hw:L3 [tg] e X.env=pure none:=by rfl)(h1:(JV [tg] X.env).map (·.2)=[Lg tg X.env]:=by rfl):PS X (.Assign [tg] e pos) (nz te g):=by intro pz s σ H D I h;refine wpAny_Assign_stores (aO (he pz s σ H _ I h) fun v s1 ⟨x,H1,I1,r1,q1⟩=>?_) hs hw;rw[h1];exact aO (hg pz s1 σ H1 x v _ I1 r1 q1) fun _ s2 q=>q
theorem jF{i:Nat}{x:Str}{e:Expr}{te:TE}{pos':Pos}(hN:X.N.Nodup)(hi:X.N[i]? = some x)(hx:fj X.env.scope x)(he:PE X e te)(hs:Kp e (some (.Name x pos')) pos.line X.env=pure false:=by rfl)(hf:X.fn x=true\/X.env.scope.names.lookup x=some .local:=by first|exact .inl rfl|exact .inr rfl|assumption):PS X (.Assign [.Name x pos'] e pos) (nz te (vU i)):=by intro pz s σ H D I h;refine wpAny_Assign_Name (aO (he pz s σ H _ I h) fun v s1 ⟨y,H1,I1,r1,q1⟩=>?_) hs;exact pb I1 hN hi hx r1 (fun s2 I2=>⟨_,H1,I2,q1⟩) hf
end
section
variable{X:Cx}{pos:Pos}
def DH(c:TT)(tb:TS):TS:=fun D σ H=>∃W:Nat->St->Hp->Prop,(∃m,W m σ H)/\∀m σ H,W m σ H ->c σ H fun b H1=>if b=true then ∃N:St->Hp->Prop,(∀σ' H',N σ' H'->∃m',m'<m/\W m' σ' H')/\tb { D with nx:=N,ct:=N,bk:=D.nx } σ H1 else D.nx σ H1
theorem FF{c:Expr}{body:List Stmt}{tc:TT}{tb:TS}(hp:Mh (y_ X.prog X.w) X.A X.env X.xe)(hc:PT X c tc)(hb:bx X body tb):PS X (.While c body [] pos) (DH tc tb):=by
 intro pz s σ H D I h;obtain⟨W,⟨m0,w0⟩,turn⟩:=h;refine wpAny_While (codeAny_whileLoop (fun n s'=>∃σ' H',Inv X pz σ' H' s'/\W n σ' H') ?_ m0 ⟨σ,H,I,w0⟩)
 rintro n s1 ⟨σ1,H1,I1,w1⟩
 refine Kx hp (aO (hc pz s1 σ1 H1 _ I1 (turn n σ1 H1 w1)) fun b s2 ⟨H2,I2,q2⟩=>?_);cases b with
|true=>obtain⟨N,hN,q2⟩:=q2;rw[if_pos rfl];refine Kx hp (aO (hb pz s2 σ1 H2 _ I2 q2) fun f s3 q3=>?_);cases f with
 |next=>obtain⟨σ3,H3,I3,n3⟩:=q3;obtain⟨m',hm,w3⟩:=hN σ3 H3 n3;exact⟨m',hm,σ3,H3,I3,w3⟩
 |cont=>obtain⟨σ3,H3,I3,n3⟩:=q3;obtain⟨m',hm,w3⟩:=hN σ3 H3 n3;exact⟨m',hm,σ3,H3,I3,w3⟩
 |brk=>exact q3
 |ret v=>exact q3
|false=>rw[if_neg l_];exact Lq ⟨σ1,H2,I2,q2⟩
end
structure It where
 go:Nat->Hp->Prop
 yld:Nat->Hp->V->Hp->Prop
 stop:Nat->Hp->Prop
def dm(X:Cx)(pz:List (Addr×Obj))(H:Hp)(b:Addr):Prop:=H b=none/\b≠X.env.locals/\b∉X.fs/\(b∈X.ex\/X.s₀.heap.objs.size<=b)/\(∀x c,X.env.cells.lookup x=some c->c≠b)/\∀p∈X.pn++pz,p.1≠b
theorem Inv.fpOk{X:Cx}{pz:List (Addr×Obj)}{σ:St}{H H':Hp}{s:e_}{b:Addr}(I:Inv X pz σ H s)(hb:s.heap.objs.size<=b)(hn:H' b=none):dm X pz H' b:=by
 refine⟨hn,LG (x_ I.lt hb),I.nofs hb,.inr (JE I.sz hb),fun x c e z=>?_,fun p hp z=>?_⟩
 .obtain⟨v,q⟩:=I.cell x c e;exact absurd (x_ q.lt (by rw[z];exact hb)) (J5 _)
 .exact absurd (x_ (r_ (I.pin p hp).1) (by rw[z];exact hb)) (J5 _)
structure Turn(P:u_)(w:H_)(K:W.Frag)(tg:Expr)(J:It)(fp:List Addr)(it:Addr)(tn:Nat->Heap->Prop):Prop where
 mem:it∈fp
 obj:∀i h,tn i h->∀b∈fp,∃o,h.get? b=some o/\∀v,o.data≠.cell v
 keep:∀i h h',tn i h->(∀b∈fp,∀o,h.get? b=some o->h'.get? b=some o)->tn i h'
 item:∀(X:Cx),X.prog=P->X.w=w->X.K=K->X.calm=true->∀(i:Nat)(pz:List (Addr×Obj))(s:e_)(σ:St)(H:Hp)(E:b_->e_->Prop),Inv X pz σ H s->(∀b∈fp,dm X pz H b)->tn i s.heap->J.go i H ->p_ (y_ P w) X.A (pyNext (.ref it)) (fun r s1=>∃u,r=some u /\p_ (y_ P w) X.A (L8 tg (.ref it) u) (fun _ s2=>∃x H',Inv X pz σ H' s2/\ar x u/\J.yld i H x H'/\tn (i+1) s2.heap/\∀b∈fp,H' b=none) E s1) E s
 done:∀(X:Cx),X.prog=P->X.w=w->X.K=K->X.calm=true->∀(i:Nat)(pz:List (Addr×Obj))(s:e_)(σ:St)(H:Hp)(E:b_->e_->Prop),Inv X pz σ H s->(∀b∈fp,dm X pz H b)->tn i s.heap->J.stop i H ->p_ (y_ P w) X.A (pyNext (.ref it)) (fun r s1=>r=none/\Inv X pz σ H s1) E s
 self:∀(A:Jr)(i:Nat)(s:e_)(Q:b_->e_->Prop)(E:b_->e_->Prop),tn i s.heap->Q (.ref it) s->p_ (y_ P w) A (pyIter (.ref it)) Q E s
abbrev TI:=St->Hp->(It->Hp->Prop)->Prop
def AI(X:Cx)(pz:List (Addr×Obj))(σ:St)(tg:Expr)(R:It->Hp->Prop)(itv:b_)(s2:e_):Prop:=∃(it:Addr)(fp:List Addr)(tn:Nat->Heap->Prop)(J:It)(H':Hp),itv=.ref it/\Inv X pz σ H' s2/\Turn X.prog X.w X.K tg J fp it tn/\tn 0 s2.heap/\(∀b∈fp,dm X pz H' b)/\R J H'
def PI(X:Cx)(tg iter:Expr)(wi:TI):Prop:=∀(pz:List (Addr×Obj))(s:e_)(σ:St)(H:Hp)(R:It->Hp->Prop),Inv X pz σ H s->wi σ H R ->p_ (y_ X.prog X.w) X.A (eval iter X.env) (fun v s1=>p_ (y_ X.prog X.w) X.A (pyIter v) (AI X pz σ tg R) X.xe s1) X.xe s
theorem qx{M:NU}{A:Jr}{E:b_->e_->Prop}{s:e_}{tg:Expr}{it:Addr}{u:b_}{o:Obj}{n:String}{vs:Array b_}{Q:Unit->e_->Prop}(ho:s.heap.get? it=some o)(hc:o.cls=.type n)(hd:o.data=.fields vs)(hn : ["enumerate","zip","dict_itemiterator","dict_reverseitemiterator","odict_iterator","itertools.zip_longest","itertools.pairwise"].contains n=false)(hQ:Q () s):p_ M A (L8 tg (.ref it) u) Q E s:=by
  unfold L8;cases tg <;> first
    |exact i_ hQ
    |(cases u <;> first
        |exact i_ hQ
        | (refine c_ (OK ho ?_)
           rw[hc,hd];show p_ M A (if (["enumerate","zip","dict_itemiterator","dict_reverseitemiterator","odict_iterator","itertools.zip_longest","itertools.pairwise"].contains n&&vs[0]? == some (MC _))=true then _ else _) Q E s;rw[if_neg (by intro h;rw[hn,Mj]at h;cases h)];exact i_ hQ))
def nQ(K:W.Frag)(a:Addr):It:=⟨fun i H=>∃xs x,bb K H a xs/\xs[i]? = some x,fun i H x H'=>H'=H/\∀xs,bb K H a xs->xs[i]? = some x,fun i H=>∃xs,bb K H a xs/\xs.length<=i⟩
def vL(K:W.Frag)(a:Addr):It:=⟨fun i H=>∃xs x,cr K H a xs/\xs[i]? = some x,fun i H x H'=>H'=H/\∀xs,cr K H a xs->xs[i]? = some x,fun i H=>∃xs,cr K H a xs/\xs.length<=i⟩
def p0(lo:Int)(n:Nat):It:=⟨fun i _=>i<n,fun i H x H'=>H'=H/\x=.int (lo+i),fun i _=>n<=i⟩
theorem Hj{P:u_}{w:H_}{K:W.Frag}{tg:Expr}(a it:Addr):Turn P w K tg (nQ K a) [it] it (fun i h=>h.IsListIter it a i) where
 mem:=by simp
 obj:=fun i h st b hb=>by
  have e:b=it:=by simpa using hb
  subst e;obtain⟨o,e,c,d⟩:=st;exact⟨o,e,fun v z=>by rw[d]at z;cases z⟩
 keep:=fun i h h' st k=>st.at fun o e=>k it (by simp) o e
 item:=by intro X hP hw hK hc i pz s σ H E I hf st hg;subst hP hw hK;obtain⟨xs,x,hq,hx⟩:=hg;obtain⟨its,rv,p,hz⟩:=I.list hq;obtain⟨u,hu,ru⟩:=rv.get hx;obtain⟨f0,f1,f2,f3,f4,f5⟩:=hf it (by simp);refine wpAny_pyNext_list_item st p.isList (x:=u) (by simpa using hu) fun h' st' sb=>?_;have I1:Inv X pz σ H { s with heap:=h' }:=I.turned (t':=s.toks) (fun b o hb e=>(sb.2 b hb).trans e) f0 f1 f3 f4 f5;obtain⟨o,e,c,d⟩:=id st';exact⟨u,rfl,qx (s:={ s with heap:=h' }) e c d (by decide) ⟨x,H,I1,ru,⟨rfl,fun ys hy=>by rw[I.list_inj hy hq];exact hx⟩,st',fun b hb=>(hf b hb).1⟩⟩
 done:=by intro X hP hw hK hc i pz s σ H E I hf st hg;subst hP hw hK;obtain⟨xs,hq,hx⟩:=hg;obtain⟨its,rv,p,hz⟩:=I.list hq;obtain⟨f0,f1,f2,f3,f4,f5⟩:=hf it (by simp);have hl:=rv.length;exact wpAny_pyNext_list_end (I.ok.hd hc) st p.isList (by simp;omega) fun h' eb=>⟨rfl,I.turned (t':=s.toks) (fun b o hb e=>eb b o hb e) f0 f1 f3 f4 f5⟩
 self:=fun _ _ _ _ _ st h=>wpAny_pyIter_listiter st h
theorem HV{P:u_}{w:H_}{K:W.Frag}{tg:Expr}(a it:Addr):Turn P w K tg (vL K a) [it] it (fun i h=>h.IsTupleIter it a i) where
 mem:=by simp
 obj:=fun i h st b hb=>by
  have e:b=it:=by simpa using hb
  subst e;obtain⟨o,e,c,d⟩:=st;exact⟨o,e,fun v z=>by rw[d]at z;cases z⟩
 keep:=fun i h h' st k=>st.at fun o e=>k it (by simp) o e
 item:=by intro X hP hw hK hc i pz s σ H E I hf st hg;subst hP hw hK;obtain⟨xs,x,hq,hx⟩:=hg;obtain⟨its,rv,p,hz⟩:=I.tuple hq;obtain⟨u,hu,ru⟩:=rv.get hx;obtain⟨f0,f1,f2,f3,f4,f5⟩:=hf it (by simp);refine wpAny_pyNext_tuple_item st (show s.heap.IsTuple a its.toArray from p) (x:=u) (by simpa using hu) fun h' st' sb=>?_;have I1:Inv X pz σ H { s with heap:=h' }:=I.turned (t':=s.toks) (fun b o hb e=>(sb.2 b hb).trans e) f0 f1 f3 f4 f5;obtain⟨o,e,c,d⟩:=id st';exact⟨u,rfl,qx (s:={ s with heap:=h' }) e c d (by decide) ⟨x,H,I1,ru,⟨rfl,fun ys hy=>by rw[I.tuple_inj hy hq];exact hx⟩,st',fun b hb=>(hf b hb).1⟩⟩
 done:=by intro X hP hw hK hc i pz s σ H E I hf st hg;subst hP hw hK;obtain⟨xs,hq,hx⟩:=hg;obtain⟨its,rv,p,hz⟩:=I.tuple hq;obtain⟨f0,f1,f2,f3,f4,f5⟩:=hf it (by simp);have hl:=rv.length;exact wpAny_pyNext_tuple_end (I.ok.hd hc) st (show s.heap.IsTuple a its.toArray from p) (by simp;omega) fun h' eb=>⟨rfl,I.turned (t':=s.toks) (fun b o hb e=>eb b o hb e) f0 f1 f3 f4 f5⟩
 self:=fun _ _ _ _ _ st h=>wpAny_pyIter_tupleiter st h
theorem HU{P:u_}{w:H_}{K:W.Frag}{tg:Expr}(it:Addr)(lo:Int)(n:Nat):Turn P w K tg (p0 lo n) [it] it (fun i h=>IsRangeIter h it (lo+(i:Nat)*1) ((n:Int)-(i:Nat)) 1) where
 mem:=by simp
 obj:=fun i h st b hb=>by
  have e:b=it:=by simpa using hb
  subst e;exact⟨_,st,fun v z=>by have z':Data.fields _=Data.cell v:=z;cases z'⟩
 keep:=fun i h h' st k=>k it (by simp) _ st
 item:=by intro X hP hw hK hc i pz s σ H E I hf st hg;subst hP hw hK;obtain⟨f0,f1,f2,f3,f4,f5⟩:=hf it (by simp);have W:=Walks.range (prog:=X.prog) (w:=X.w) (I.ok.hd hc) it lo 1 n;refine W.item i s _ _ hg st fun v h' tk hv st' kk=>?_;obtain⟨t,rfl⟩:=hv;have I1:Inv X pz σ H { s with heap:=h',toks:=tk }:=I.turned (fun b o hb e=>kk b o (by simpa using hb) e) f0 f1 f3 f4 f5;refine⟨_,rfl,qx (s:={ s with heap:=h',toks:=tk }) (n := "range_iterator") st' rfl rfl (by decide) ⟨.int (lo+i),H,I1,⟨t,?_⟩,⟨rfl,rfl⟩,st',fun b hb=>(hf b hb).1⟩⟩;rw[PQ]
 done:=by intro X hP hw hK hc i pz s σ H E I hf st hg;subst hP hw hK;obtain⟨f0,f1,f2,f3,f4,f5⟩:=hf it (by simp);exact wpAny_pyNext_range_end (I.ok.hd hc) st (by have:n<=i:=hg;omega) fun h' eb=>⟨rfl,I.turned (t':=s.toks) (fun b o hb e=>eb b o hb e) f0 f1 f3 f4 f5⟩
 self:=fun _ _ _ _ _ st h=>wpAny_pyIter_rangeiter st h
section
variable{X:Cx}{tg:Expr}
theorem GZ{pz:List (Addr×Obj)}{σ:St}{H:Hp}{s:e_}{R:It->Hp->Prop}{E:b_->e_->Prop}{lo hi:Int}{t u v:Tok}{tk:Nat}(I:Inv X pz σ H s)(h1 : -(2^62)<=lo)(h2:lo<2^62)(h3 : -(2^62)<=hi)(h4:hi<2^62)(q:R (p0 lo (hi-lo).toNat) H):p_ (y_ X.prog X.w) X.A (pyIter (.ref s.heap.objs.size)) (AI X pz σ tg R) E { s with heap:=s.heap.push { cls:=.type "range",data:=.fields #[.int lo t,.int hi u,.int 1 v] },toks:=tk }:=by
 refine wpAny_pyIter_range (IsRange.new ..) (small_one h1 h2 h3 h4) ?_;have I1:Inv X pz σ H { s with heap:=s.heap.push { cls:=.type "range",data:=.fields #[.int lo t,.int hi u,.int 1 v] },toks:=tk }:=I.kept fun b o e=>j_ _ e;refine⟨(s.heap.push { cls:=.type "range",data:=.fields #[.int lo t,.int hi u,.int 1 v] }).objs.size,[(s.heap.push { cls:=.type "range",data:=.fields #[.int lo t,.int hi u,.int 1 v] }).objs.size],_,_,H,rfl,I1.kept (t':=tk) fun b o e=>j_ _ e,HU _ lo (hi-lo).toNat,?_,fun b hb=>?_,q⟩
 .have e1:lo+((0:Nat):Int)*1=lo:=by simp
  have e2:(((hi-lo).toNat:Nat):Int)-((0:Nat):Int)=Builtin.Range.rangeSize lo hi 1:=by rw[rangeSize_one];split <;> omega
  show IsRangeIter _ _ (lo+((0:Nat):Int)*1) ((((hi-lo).toNat:Nat):Int)-((0:Nat):Int)) 1;rw[e1,e2];exact D_ _ rfl
 .have e:b=(s.heap.push { cls:=.type "range",data:=.fields #[.int lo t,.int hi u,.int 1 v] }).objs.size:=by simpa using hb
  subst e;exact I1.fpOk (w_ _) (I1.hok.fresh (w_ _))
def AU(ta:TA):TI:=fun σ H R=>ta σ H fun vs H1=>∃j:Int,vs=[.int j]/\-(2^62)<=j/\j<2^62/\R (p0 0 j.toNat) H1
theorem Hq{a:Expr}{ta:TA}{p pos:Pos}(hg:Gl X "range")(hm:X.mg "range" = none)(ha:PA X [a] ta)(hs:g_ [a] X.env=[(false,eval a X.env)]:=by rfl):PI X tg (.Call (.Name "range" p) [a] [] pos) (AU ta):=by intro pz s σ H R I h;refine Call_ (l9 I hg hm boot_range (KY (aO (ha pos pz s σ H _ I h) fun us s1 ⟨vs,H1,I1,r1,q1⟩=>?_) hs rfl));obtain⟨j,e,q1,q2,q⟩:=q1;subst e;cases r1 with
|cons r rr=>cases rr;obtain⟨t,rfl⟩:=r;exact call_range_1 (GZ I1 (by omega) (by omega) q1 q2 (by simpa using q))
def uE(wi:TI)(g:TG)(tb:TS):TS:=fun D σ H=>wi σ H fun J H1=>∃W:Nat->Nat->St->Hp->Prop,(∃m,W 0 m σ H1)/\∀i m σ H,W i m σ H ->(J.stop i H/\D.nx σ H)\/(J.go i H/\∃N:St->Hp->Prop,(∀σ' H',N σ' H'->∃m',m'<m/\W (i+1) m' σ' H')/\∀x H',J.yld i H x H'->g x σ H' fun σ2 H2=>tb { D with nx:=N,ct:=N,bk:=D.nx } σ2 H2)
def me(fp:List Addr)(h:Heap):List (Addr×Obj):=fp.filterMap fun b=>(h.get? b).map fun o=>(b,o)
theorem pB{fp:List Addr}{h:Heap}{b:Addr}{o:Obj}(hb:b∈fp)(e:h.get? b=some o):(b,o)∈me fp h:=Lu.mpr ⟨b,hb,by rw[e];rfl⟩
theorem Hm{fp:List Addr}{h:Heap}{p:Addr×Obj}(hp:p∈me fp h):p.1∈fp/\h.get? p.1=some p.2:=by obtain⟨b,hb,e⟩:=Lu.mp hp;cases q:h.get? b with
|none=>rw[q]at e;cases e
|some o=>rw[q]at e;have e':(b,o)=p:=B_ e;subst e';exact⟨hb,q⟩
theorem Inv.pinned{pz:List (Addr×Obj)}{σ:St}{H:Hp}{s:e_}{fp:List Addr}(I:Inv X pz σ H s)(hf:∀b∈fp,dm X pz H b)(ho:∀b∈fp,∃o,s.heap.get? b=some o/\∀v,o.data≠.cell v):Inv X (pz++me fp s.heap) σ H s:=I.pins_of fun p hp=>(JS.mp hp).elim (fun z=>I.pin p (Ju _ z)) fun z=>by obtain⟨hb,e⟩:=Hm z;obtain⟨f0,f1,f2,_⟩:=hf p.1 hb;obtain⟨o,e',d⟩:=ho p.1 hb;rw[e]at e';cases e';exact⟨e,f0,f1,f2,d⟩
theorem Inv.unpinned{pz pl:List (Addr×Obj)}{σ:St}{H:Hp}{s:e_}(I:Inv X (pz++pl) σ H s):Inv X pz σ H s:=I.pins_of fun p hp=>I.pin p (Ju _ (K2 _ hp))
theorem oG{iter:Expr}{body:List Stmt}{wi:TI}{g:TG}{tb:TS}{pos:Pos}(hp:Mh (y_ X.prog X.w) X.A X.env X.xe)(hc:X.calm=true)(hi:PI X tg iter wi)(hg:PG X tg g)(hb:bx X body tb)(hs:∀x,Ke iter X.env x=pure x:=by intro _;rfl):PS X (.For tg iter body [] pos) (uE wi g tb):=by
 intro pz s σ H D I h;refine wpAny_For (aO (hi pz s σ H _ I h) fun v s1 h1=>aO h1 fun itv s2 h2=>?_) hs;obtain⟨it,fp,tn,J,H2,e,I2,T,st2,f2,W,⟨m0,w0⟩,turn⟩:=h2;subst e;have stat:∀{H':Hp},(∀b∈fp,H' b=none)->∀b∈fp,dm X pz H' b:=fun hn b hb=>⟨hn b hb,(f2 b hb).2⟩
 refine codeAny_forLoop_any (fun n s'=>∃i σ' H',Inv X pz σ' H' s'/\tn i s'.heap/\(∀b∈fp,H' b=none)/\W i n σ' H') ?_ m0 ⟨0,σ,H2,I2,st2,fun b hb=>(f2 b hb).1,w0⟩
 rintro n s3 ⟨i,σ3,H3,I3,st3,fr3,w3⟩
 rcases turn i n σ3 H3 w3 with⟨stop,qn⟩|⟨go,N,hN,step⟩
 .refine Kx hp (aO (T.done X rfl rfl rfl hc i pz s3 σ3 H3 X.xe I3 (stat fr3) st3 stop) fun r s4 ⟨hr,I4⟩=>?_);subst hr;exact Lq ⟨σ3,H3,I4,qn⟩
 .refine Kx hp (aO (T.item X rfl rfl rfl hc i pz s3 σ3 H3 X.xe I3 (stat fr3) st3 go) fun r s4 ⟨u,hr,h4⟩=>?_);subst hr;refine Kx hp (aO h4 fun _ s5 ⟨x,H5,I5,r5,y5,st5,fr5⟩=>?_);have I5':=I5.pinned (stat fr5) (T.obj _ _ st5);refine Kx hp (aO (hg _ s5 σ3 H5 x u _ I5' r5 (step x H5 y5)) fun _ s6 ⟨σ6,H6,I6,q6⟩=>?_);refine Kx hp (aO (hb _ s6 σ6 H6 _ I6 q6) fun f s7 q7=>?_);have again:∀{σ7:St}{H7:Hp},Inv X (pz++me fp s5.heap) σ7 H7 s7->N σ7 H7->∃m,m<n/\∃i σ' H',Inv X pz σ' H' s7/\tn i s7.heap/\(∀b∈fp,H' b=none)/\W i m σ' H':=fun{σ7 H7} I7 n7=>by obtain⟨m',hm,w7⟩:=hN σ7 H7 n7;refine⟨m',hm,i+1,σ7,H7,I7.unpinned,T.keep _ _ _ st5 fun b hb o e=>(I7.pin (b,o) (Ju _ (Ju _ (pB hb e)))).1,fun b hb=>?_,w7⟩;obtain⟨o,e,d⟩:=T.obj _ _ st5 b hb;exact(I7.pin (b,o) (Ju _ (Ju _ (pB hb e)))).2.1
  cases f with
 |next=>obtain⟨σ7,H7,I7,n7⟩:=q7;exact again I7 n7
 |cont=>obtain⟨σ7,H7,I7,n7⟩:=q7;exact again I7 n7
 |brk=>obtain⟨σ7,H7,I7,q7⟩:=q7;exact⟨σ7,H7,I7.unpinned,q7⟩
 |ret v=>obtain⟨x7,σ7,H7,I7,r7,q7⟩:=q7;exact⟨x7,σ7,H7,I7.unpinned,r7,q7⟩
end
abbrev R2:=V->V->Hp->VK->Prop
def bZ(X:Cx)(f:b_->b_->Sem b_)(r:R2):Prop:=∀(pz:List (Addr×Obj))(s:e_)(σ:St)(H:Hp)(x y:V)(v u:b_)(Q:VK),Inv X pz σ H s->ar x v->ar y u->r x y H Q ->p_ (y_ X.prog X.w) X.A (f v u) (EP X pz σ Q) X.xe s
def vF(X:Cx)(f:b_->Sem b_)(r:V->Hp->VK->Prop):Prop:=∀(pz:List (Addr×Obj))(s:e_)(σ:St)(H:Hp)(x:V)(v:b_)(Q:VK),Inv X pz σ H s->ar x v->r x H Q ->p_ (y_ X.prog X.w) X.A (f v) (EP X pz σ Q) X.xe s
def dZ(X:Cx)(f:b_)(r:List V->Hp->VK->Prop):Prop:=∀(pz:List (Addr×Obj))(s:e_)(σ:St)(H:Hp)(xs:List V)(us:List b_)(Q:VK),Inv X pz σ H s->al xs us->r xs H Q ->p_ (y_ X.prog X.w) X.A (call f us) (EP X pz σ Q) X.xe s
def vH(X:Cx)(r:V->Hp->(Bool->Hp->Prop)->Prop):Prop:=∀(pz:List (Addr×Obj))(s:e_)(σ:St)(H:Hp)(x:V)(v:b_)(Q:Bool->Hp->Prop),Inv X pz σ H s->ar x v->r x H Q ->p_ (y_ X.prog X.w) X.A (truthy v) (TP X pz σ Q) X.xe s
def lH(r:R2)(ta tb:TE):TE:=fun σ H Q=>ta σ H fun x H1=>tb σ H1 fun y H2=>r x y H2 Q
def IV(r:V->Hp->VK->Prop)(ta:TE):TE:=fun σ H Q=>ta σ H fun x H1=>r x H1 Q
def rI(C:Int->Int->Prop)(g:Int->Int->V):R2:=fun x y H Q=>∃i j,x=.int i/\y=.int j/\C i j/\Q (g i j) H
def ku(g:Int->Int->V):R2:=fun x y H Q=>∃i j,x=.int i/\y=.int j/\Q (g i j) H
def rU(g:Int->V):V->Hp->VK->Prop:=fun x H Q=>∃i,x=.int i/\Q (g i) H
section
variable{X:Cx}{a b c:Expr}{ta tb tc:TE}{pos:Pos}
theorem kA(ha:PE X a ta)(hb:PE X b tb){pz:List (Addr×Obj)}{s:e_}{σ:St}{H:Hp}{R:V->V->Hp->Prop}(I:Inv X pz σ H s)(h:ta σ H fun x H1=>tb σ H1 fun y H2=>R x y H2){Q:b_->e_->Prop}{f:b_->b_->Sem b_}(hf:∀v u s2 x y H2,Inv X pz σ H2 s2->ar x v->ar y u->R x y H2->p_ (y_ X.prog X.w) X.A (f v u) Q X.xe s2):p_ (y_ X.prog X.w) X.A (eval a X.env) (fun v s₁=>p_ (y_ X.prog X.w) X.A (eval b X.env) (fun u s₂=>p_ (y_ X.prog X.w) X.A (f v u) Q X.xe s₂) X.xe s₁) X.xe s:=by refine aO (ha pz s σ H _ I h) fun v s1 ⟨x,H1,I1,r1,q1⟩=>?_;refine aO (hb pz s1 σ H1 _ I1 q1) fun u s2 ⟨y,H2,I2,r2,q2⟩=>?_;exact hf v u s2 x y H2 I2 r1 r2 q2
theorem qw{op:Operator}{r:R2}(ho:bZ X (Kr op) r)(ha:PE X a ta)(hb:PE X b tb):PE X (.BinOp a op b pos) (lH r ta tb):=by intro pz s σ H Q I h;exact wpAny_BinOp (kA ha hb I h fun v u s2 x y H2 I2 rx ry q=>ho pz s2 σ H2 x y v u Q I2 rx ry q)
theorem B8{op:UnaryOp}{r:V->Hp->VK->Prop}(ho:vF X (unaryOp op) r)(ha:PE X a ta):PE X (.UnaryOp op a pos) (IV r ta):=by intro pz s σ H Q I h;exact UnaryOp_ (aO (ha pz s σ H _ I h) fun v s1 ⟨x,H1,I1,r1,q1⟩=>ho pz s1 σ H1 x v Q I1 r1 q1)
theorem lK{f:b_->b_->Sem b_}{C:Int->Int->Prop}{g:Int->Int->Int}(rule:∀(i j:Int)(t u:Tok)(s:e_)(Q:b_->e_->Prop)(E:b_->e_->Prop),C i j->Q (.int (g i j) s.toks) { s with toks:=s.toks+1 }->p_ (y_ X.prog X.w) X.A (f (.int i t) (.int j u)) Q E s):bZ X f (rI C fun i j=>.int (g i j)):=by intro pz s σ H x y v u Q I rx ry h;obtain⟨i,j,rfl,rfl,hc,q⟩:=h;obtain⟨t,rfl⟩:=rx;obtain⟨t',rfl⟩:=ry;exact rule i j t t' s _ _ hc ⟨.int (g i j),H,I.tok _,⟨_,rfl⟩,q⟩
theorem nI{f:b_->b_->Sem b_}{g:Int->Int->Int}(rule:∀(i j:Int)(t u:Tok)(s:e_)(Q:b_->e_->Prop)(E:b_->e_->Prop),Q (.int (g i j) s.toks) { s with toks:=s.toks+1 }->p_ (y_ X.prog X.w) X.A (f (.int i t) (.int j u)) Q E s):bZ X f (ku fun i j=>.int (g i j)):=by intro pz s σ H x y v u Q I rx ry h;obtain⟨i,j,rfl,rfl,q⟩:=h;obtain⟨t,rfl⟩:=rx;obtain⟨t',rfl⟩:=ry;exact rule i j t t' s _ _ ⟨.int (g i j),H,I.tok _,⟨_,rfl⟩,q⟩
theorem nJ{f:b_->b_->Sem b_}{g:Int->Int->Bool}(rule:∀(i j:Int)(t u:Tok)(s:e_)(Q:b_->e_->Prop)(E:b_->e_->Prop),Q (.bool (g i j)) s->p_ (y_ X.prog X.w) X.A (f (.int i t) (.int j u)) Q E s):bZ X f (ku fun i j=>.bl (g i j)):=by intro pz s σ H x y v u Q I rx ry h;obtain⟨i,j,rfl,rfl,q⟩:=h;obtain⟨t,rfl⟩:=rx;obtain⟨t',rfl⟩:=ry;exact rule i j t t' s _ _ ⟨.bl (g i j),H,I,rfl,q⟩
def gQ(i j:Int):Prop:=0<j/\j<1073741824
def gP(i j:Int):Prop:=0<=j/\j<=1000000/\i.natAbs<2^64
def fY(i j:Int):Prop:=(-(2^64)<i/\i<2^64)\/(-(2^64)<j/\j<2^64)
theorem fY.ok{i j:Int}(h:fY i j):IntMulOk i j:=by
 rcases h with⟨h1,h2⟩|⟨h1,h2⟩
 .exact .of_left (intBits_le_64 h1 h2)
 .exact .of_right (intBits_le_64 h1 h2)
theorem CY:bZ X (Kr .Add) (ku fun i j=>.int (i+j)):=nI fun _ _ _ _ _ _ _ q=>add_int q
theorem Ck:bZ X (Kr .Sub) (ku fun i j=>.int (i-j)):=nI fun _ _ _ _ _ _ _ q=>sub_int q
theorem Ch:bZ X (Kr .Mult) (rI fY fun i j=>.int (i*j)):=lK fun _ _ _ _ _ _ _ hc q=>mul_int q hc.ok
theorem Ez:bZ X (Kr .FloorDiv) (rI gQ fun i j=>.int (i/j)):=lK fun i j _ _ _ _ _ hc q=>by have h1:(0:Int)<j:=hc.1;have h2:j<1073741824:=hc.2;exact floordiv_int (by omega) (by rw[Ml i (by omega)];exact q) (.inl (PyProof.noPylong_small (by omega)))
theorem Cg:bZ X (Kr .Mod) (rI (fun _ j=>0<j) fun i j=>.int (i%j)):=lK fun i j _ _ _ _ _ hc q=>by have h1:(0:Int)<j:=hc;exact mod_int' (by omega) (by rw[Int.fmod_eq_emod_of_nonneg i (by omega)];exact q)
theorem Ci:bZ X (Kr .Pow) (rI gP fun i j=>.int (i^j.toNat)):=lK fun _ _ _ _ _ _ _ hc q=>pow_int_small hc.1 hc.2.1 hc.2.2 q
theorem IU{f:b_->Sem b_}{g:Int->Int}(rule:∀(i:Int)(t:Tok)(s:e_)(Q:b_->e_->Prop)(E:b_->e_->Prop),Q (.int (g i) s.toks) { s with toks:=s.toks+1 }->p_ (y_ X.prog X.w) X.A (f (.int i t)) Q E s):vF X f (rU fun i=>.int (g i)):=by intro pz s σ H x v Q I rx h;obtain⟨i,rfl,q⟩:=h;obtain⟨t,rfl⟩:=rx;exact rule i t s _ _ ⟨.int (g i),H,I.tok _,⟨_,rfl⟩,q⟩
theorem DO:vF X (unaryOp .USub) (rU fun i=>.int (-i)):=IU fun _ _ _ _ _ q=>neg_int q
end
def jh:V->V->Bool
|.non,.non=>true|.non,.int _=>true|.int _,.non=>true|.non,.bl _=>true|.bl _,.non=>true|.non,.str _=>true|.str _,.non=>true
|.int _,.int _=>true|.bl _,.bl _=>true|.str _,.str _=>true|.byt _,.byt _=>true
|.int _,.str _=>true|.str _,.int _=>true|.bl _,.str _=>true|.str _,.bl _=>true
|_,_=>false
def AD:R2:=fun x y H Q=>jh x y=true/\Q (.bl (decide (x=y))) H
def AC:R2:=fun x y H Q=>jh x y=true/\Q (.bl (! decide (x=y))) H
theorem rA{i j:Int}:decide (V.int i=V.int j)=(i==j):=by rw[JY];simp
theorem qK{i j:Bool}:decide (V.bl i=V.bl j)=(i==j):=by rw[JY];simp
theorem rB{i j:Str}:decide (V.str i=V.str j)=(i==j):=by rw[JY];simp
theorem yp{i j:Array UInt8}:decide (V.byt i=V.byt j)=(i.toList==j.toList):=by rw[JY];cases i;cases j;simp
section
variable{X:Cx}{a b c:Expr}{ta tb tc:TE}{pos:Pos}
theorem cF{pz:List (Addr×Obj)}{σ:St}{H:Hp}{s:e_}{Q:VK}{k k':Bool}(I:Inv X pz σ H s)(q:Q (.bl k) H)(e:k=k'):EP X pz σ Q (.bool k') s:=by subst e;exact⟨.bl k,H,I,rfl,q⟩
theorem wL:bZ X (KS .Eq) AD:=by intro pz s σ H x y v u Q I rx ry h;obtain⟨hs,q⟩:=h;cases x with
|non=>cases rx;cases y with
 |non=>cases ry;exact OZ (cF I q (by simp))
 |bl j=>cases ry;exact O0 (cF I q (by simp))
 |int j=>obtain⟨t',rfl⟩:=ry;exact Pd (cF I q (by simp))
 |str j=>obtain⟨t',rfl⟩:=ry;exact Pe (cF I q (by simp))
 |_=>exact absurd (show false=true from hs) l_
|bl i=>cases rx;cases y with
 |non=>cases ry;exact O1 (cF I q (by simp))
 |bl j=>cases ry;exact eq_bool (cF I q qK)
 |str j=>obtain⟨t',rfl⟩:=ry;exact O2 (cF I q (by simp))
 |_=>exact absurd (show false=true from hs) l_
|int i=>obtain⟨t,rfl⟩:=rx;cases y with
 |non=>cases ry;exact Pf (cF I q (by simp))
 |int j=>obtain⟨t',rfl⟩:=ry;exact eq_int (cF I q rA)
 |str j=>obtain⟨t',rfl⟩:=ry;exact Pg (cF I q (by simp))
 |_=>exact absurd (show false=true from hs) l_
|str i=>obtain⟨t,rfl⟩:=rx;cases y with
 |non=>cases ry;exact Ph (cF I q (by simp))
 |bl j=>cases ry;exact O3 (cF I q (by simp))
 |int j=>obtain⟨t',rfl⟩:=ry;exact Pi (cF I q (by simp))
 |str j=>obtain⟨t',rfl⟩:=ry;exact eq_str (cF I q rB)
 |_=>exact absurd (show false=true from hs) l_
|byt i=>obtain⟨t,rfl⟩:=rx;cases y with
 |byt j=>obtain⟨t',rfl⟩:=ry;exact W.eq_bytes (cF I q yp)
 |_=>exact absurd (show false=true from hs) l_
|_=>cases y <;> exact absurd (show false=true from hs) l_
theorem B6:bZ X (KS .NotEq) AC:=by intro pz s σ H x y v u Q I rx ry h;obtain⟨hs,q⟩:=h;cases x with
|non=>cases rx;cases y with
 |non=>cases ry;exact O4 (cF I q (by simp))
 |bl j=>cases ry;exact O5 (cF I q (by simp))
 |int j=>obtain⟨t',rfl⟩:=ry;exact Pj (cF I q (by simp))
 |str j=>obtain⟨t',rfl⟩:=ry;exact Pk (cF I q (by simp))
 |_=>exact absurd (show false=true from hs) l_
|bl i=>cases rx;cases y with
 |non=>cases ry;exact O6 (cF I q (by simp))
 |bl j=>cases ry;exact ne_bool (cF I q (congrArg not qK))
 |str j=>obtain⟨t',rfl⟩:=ry;exact O7 (cF I q (by simp))
 |_=>exact absurd (show false=true from hs) l_
|int i=>obtain⟨t,rfl⟩:=rx;cases y with
 |non=>cases ry;exact Pl (cF I q (by simp))
 |int j=>obtain⟨t',rfl⟩:=ry;exact ne_int (cF I q (congrArg not rA))
 |str j=>obtain⟨t',rfl⟩:=ry;exact Pm (cF I q (by simp))
 |_=>exact absurd (show false=true from hs) l_
|str i=>obtain⟨t,rfl⟩:=rx;cases y with
 |non=>cases ry;exact Pn (cF I q (by simp))
 |bl j=>cases ry;exact O8 (cF I q (by simp))
 |int j=>obtain⟨t',rfl⟩:=ry;exact Po (cF I q (by simp))
 |str j=>obtain⟨t',rfl⟩:=ry;exact ne_str (cF I q (congrArg not rB))
 |_=>exact absurd (show false=true from hs) l_
|byt i=>obtain⟨t,rfl⟩:=rx;cases y with
 |byt j=>obtain⟨t',rfl⟩:=ry;exact W.ne_bytes (cF I q (congrArg not yp))
 |_=>exact absurd (show false=true from hs) l_
|_=>cases y <;> exact absurd (show false=true from hs) l_
theorem vZ:bZ X (KS .Lt) (ku fun i j=>.bl (decide (i<j))):=nJ fun _ _ _ _ _ _ _ q=>lt_int q
theorem wM:bZ X (KS .Gt) (ku fun i j=>.bl (decide (j<i))):=nJ fun _ _ _ _ _ _ _ q=>gt_int q
theorem EB:bZ X (KS .IsNot) (fun x y H Q=>y=.non/\Q (.bl (! decide (x=.non))) H):=by
 intro pz s σ H x y v u Q I rx ry h;obtain⟨rfl,q⟩:=h;cases ry;refine isnot_none_gen (cF I q ?_);cases x <;> first
  |(cases rx;rfl)
  |(obtain⟨t,rfl⟩:=rx;rfl)
theorem bZ.or{f:b_->b_->Sem b_}{r r':R2}(h:bZ X f r)(h':bZ X f r'):bZ X f (fun x y H Q=>r x y H Q\/r' x y H Q):=by
 intro pz s σ H x y v u Q I rx ry q;rcases q with q|q
 .exact h pz s σ H x y v u Q I rx ry q
 .exact h' pz s σ H x y v u Q I rx ry q
theorem jE(b:Expr){op:CmpOp}(h:op≠.In:=by decide)(h2:op≠.NotIn:=by decide):Ll op b=false:=by
 have e1:(op==CmpOp.In)=false:=by cases op <;> first|rfl|exact absurd rfl h
 have e2:(op==CmpOp.NotIn)=false:=by cases op <;> first|rfl|exact absurd rfl h2
 cases b <;> simp[Ll,e1,e2]
theorem ED{op:CmpOp}{r:R2}(ho:bZ X (KS op) r)(ha:PE X a ta)(hb:PE X b tb)(hm:Ll op b=false):PE X (.Compare a [op] [b] pos) (lH r ta tb):=by intro pz s σ H Q I h;exact wpAny_Compare1 (kA ha hb I h fun v u s2 x y H2 I2 rx ry q=>ho pz s2 σ H2 x y v u Q I2 rx ry q) hm
def BW(t:TE):TT:=fun σ H Q=>t σ H fun x H'=>∃k,x=.bl k/\Q k H'
theorem DZ{op:CmpOp}{r:R2}(ho:bZ X (KS op) r)(ha:PE X a ta)(hb:PE X b tb)(hm:Ll op b=false):PT X (.Compare a [op] [b] pos) (BW (lH r ta tb)):=by intro pz s σ H Q I h;refine wpAny_isTrue_Compare1 (aO (ha pz s σ H _ I h) fun v s1 ⟨x,H1,I1,r1,q1⟩=>aO (hb pz s1 σ H1 _ I1 q1) fun u s2 ⟨y,H2,I2,r2,q2⟩=>aO (ho pz s2 σ H2 x y v u _ I2 r1 r2 q2) fun c s3 ⟨z,H3,I3,r3,k,e,q3⟩=>?_) hm;subst e;cases r3;exact LD ⟨H3,I3,q3⟩
def kE(K:W.Frag)(x:V)(H:Hp)(k:Bool):Prop:=match x with
|.non=>k=false
|.bl b=>k=b
|.int i=>k=(i != 0)
|.str y=>y.length<=sizeLine/\k=((y.length:Int) != 0)
|.byt y=>y.size<=sizeLine/\k=((y.size:Int) != 0)
|.ref p=>(∃xs,bb K H p xs/\k = ! xs.isEmpty)\/(∃xs,cr K H p xs/\k = ! xs.isEmpty)\/∃kvs,Rd H p (.dK kvs)/\k = ! kvs.isEmpty
|_=>False
theorem HF{κ:Type}{kvs:List (κ×V)}{vs:List (κ×b_)}(r:KV kvs vs):(! vs.isEmpty) = ! kvs.isEmpty:=by cases r <;> rfl
theorem zI{xs:List V}{its:List b_}(r:al xs its):(! its.toArray.isEmpty) = ! xs.isEmpty:=by cases r <;> simp
theorem kW:(sizeLine:Nat)<2^63:=by rw[Jz];decide
theorem DI:vH X (fun x H Q=>∃k,kE X.K x H k/\Q k H):=by intro pz s σ H x v Q I rx h;obtain⟨k,e,q⟩:=h;have hl:=kW;have hs:sizeLine=16777216:=Jz;cases x with
|non=>cases rx;have e':k=false:=e;subst e';exact truthy_none ⟨H,I,q⟩
|bl b=>cases rx;have e':k=b:=e;subst e';exact LD ⟨H,I,q⟩
|int i=>obtain⟨t,rfl⟩:=rx;have e':k=(i != 0):=e;subst e';exact PySem.P.truthy_int ⟨H,I,q⟩
|str y=>obtain⟨t,rfl⟩:=rx;obtain⟨hy,e'⟩:y.length<=sizeLine/\k=((y.length:Int) != 0):=e;subst e';exact PySem.P.truthy_str (by omega) ⟨H,I.tok _,q⟩
|byt y=>obtain⟨t,rfl⟩:=rx;obtain⟨hy,e'⟩:y.size<=sizeLine/\k=((y.size:Int) != 0):=e;subst e';exact W.truthy_bytes (by omega) ⟨H,I.tok _,q⟩
|ref p=>
  cases rx;have e':(∃xs,bb X.K H p xs/\k = ! xs.isEmpty)\/(∃xs,cr X.K H p xs/\k = ! xs.isEmpty)\/∃kvs,Rd H p (.dK kvs)/\k = ! kvs.isEmpty:=e;rcases e' with⟨xs,hx,e'⟩|⟨xs,hx,e'⟩|⟨kvs,hx,e'⟩
  .subst e';obtain⟨its,r,pl,hz⟩:=I.list hx;have hlen:=r.length;exact wpAny_truthy_list pl.isList (by simp only[o_];omega) ⟨H,I.tok _,by rw[zI r];exact q⟩
  .subst e';obtain⟨its,r,pl,hz⟩:=I.tuple hx;have hlen:=r.length;exact truthy_tuple pl (by simp only[o_];omega) ⟨H,I.tok _,by rw[zI r];exact q⟩
  .subst e';obtain⟨hz,hS,vs,r,m⟩:kvs.length<=sizeLine/\(p==Ls)=false/\∃vs,KV kvs vs/\s.heap.DictOf (gm X.prog X.w) p vs:=hx.ok I.hok;have hlen:kvs.length=vs.length:=Paired.length r;exact wpAny_truthy_dict hS m (by omega) ⟨H,I.tok _,by rw[HF r];exact q⟩
|_=>exact(show False from e).elim
theorem FG(ha:PE X a ta)(he:∀whole,isTrue a X.env whole=(do let v <-whole;Nu a.pos;KO [v] (truthy v))):PT X a (fun σ H Q=>ta σ H fun x H'=>∃k,kE X.K x H' k/\Q k H'):=by intro pz s σ H Q I h;exact isTrue_plain (aO (ha pz s σ H _ I h) fun v s1 ⟨x,H1,I1,r1,q1⟩=>DI pz s1 σ H1 x v Q I1 r1 q1) (he _)
theorem HK:bZ X (Kr .Add) (fun x y H Q=>∃i j,x=.str i/\y=.str j/\i.length+j.length<=sizeLine/\Q (.str (i++j)) H):=by intro pz s σ H x y v u Q I rx ry h;obtain⟨i,j,rfl,rfl,hz,q⟩:=h;obtain⟨t,rfl⟩:=rx;obtain⟨t',rfl⟩:=ry;exact add_str (fun t' tk=>⟨.str (i++j),H,I.tok _,⟨_,rfl⟩,q⟩) hz
theorem jB{x:V}{us:List b_}(r:al [x] us):∃u,us=[u]/\ar x u:=by cases r with
|cons r1 r2=>cases r2;exact⟨_,rfl,r1⟩
theorem kS{x y:V}{us:List b_}(r:al [x,y] us):∃u w',us=[u,w']/\ar x u/\ar y w':=by cases r with
|cons r1 r2=>cases r2 with
 |cons r3 r4=>cases r4;exact⟨_,_,rfl,r1,r3⟩
theorem Gk:dZ X (.builtin "abs") (fun xs H Q=>∃i,xs=[.int i]/\Q (.int (if i<0 then-i else i)) H):=by intro pz s σ H xs us Q I r h;obtain⟨i,rfl,q⟩:=h;obtain⟨u,rfl,t,rfl⟩:=jB r;exact call_abs_int fun u tk=>⟨.int (if i<0 then-i else i),H,I.tok _,⟨_,rfl⟩,q⟩
def nP(K:W.Frag)(x:V)(H:Hp)(n:Nat):Prop:=match x with
|.str y=>y.length<=sizeLine/\n=y.length
|.byt y=>y.size<=sizeLine/\n=y.size
|.ref p=>(∃xs,bb K H p xs/\n=xs.length)\/∃xs,cr K H p xs/\n=xs.length
|_=>False
theorem FL:dZ X (.builtin "len") (fun xs H Q=>∃x n,xs=[x]/\nP X.K x H n/\Q (.int n) H):=by intro pz s σ H xs us Q I r h;obtain⟨x,n,rfl,e,q⟩:=h;obtain⟨u,rfl,rx⟩:=jB r;have hl:=kW;have hs:sizeLine=16777216:=Jz;cases x with
|str y=>obtain⟨t,rfl⟩:=rx;obtain⟨hy,e'⟩:y.length<=sizeLine/\n=y.length:=e;subst e';exact len_str (by omega) ⟨.int _,H,I.tok _,⟨_,rfl⟩,q⟩
|byt y=>obtain⟨t,rfl⟩:=rx;obtain⟨hy,e'⟩:y.size<=sizeLine/\n=y.size:=e;subst e';exact W.len_bytes (by omega) ⟨.int _,H,I.tok _,⟨_,rfl⟩,q⟩
|ref p=>
  cases rx;have e':(∃xs,bb X.K H p xs/\n=xs.length)\/∃xs,cr X.K H p xs/\n=xs.length:=e;rcases e' with⟨xs,hx,e'⟩|⟨xs,hx,e'⟩
  .subst e';obtain⟨its,r',pl,hz⟩:=I.list hx;have hlen:=r'.length;exact Calls.call_len_list pl.isList (by simp only[o_];omega) ⟨.int xs.length,H,I.tok _,⟨_,by simp only[o_];rw[hlen]⟩,q⟩
  .subst e';obtain⟨its,r',pl,hz⟩:=I.tuple hx;have hlen:=r'.length;exact len_tuple pl (by simp only[o_];omega) ⟨.int xs.length,H,I.tok _,⟨_,by simp only[o_];rw[hlen]⟩,q⟩
|_=>exact(show False from e).elim
end
structure ObjM(h:Heap)(x dx C:Addr)(mA:Str->Option b_):Prop where
 obj:h.get? x=some (W.instObj C dx)
 ns:h.Ns1 dx mA
 ne:dx≠x
theorem HB{h:Heap}{dx:Addr}{mA:Str->Option b_}(n:h.Ns1 dx mA):∃od,h.get? dx=some od/\∀name,W.lookIn name od=some (mA name):=by
 obtain⟨o,es,ep,ho,hd,hk,_,hm⟩:=n;refine⟨o,ho,fun name=>?_⟩;have e:=hm name;unfold nsFind findBy at e;rw[<-NH]at e;unfold W.lookIn;rw[hd]
 dsimp only
 split
 .rename_i y q;rw[q]at e;exact congrArg some e
 .rename_i q;rw[q]at e;have a:es.toList.any (·.refKey)=false:=by rw[List.any_eq_false];intro y hy;obtain⟨z,t,hkey⟩:=hk y (Array.mem_toList_iff.mp hy);simp[DictEntry.refKey,hkey]
  have a':¬ es.toList.any (·.refKey)=true:=by rw[a];exact l_
  rw[if_neg a'];exact congrArg some e
theorem ObjM.look{h:Heap}{x dx C:Addr}{mA:Str->Option b_}(I:ObjM h x dx C mA):∃od,W.InstAt h x (W.instObj C dx) C (some od)/\∀name,W.lookIn name od=some (mA name):=let⟨od,ho,hl⟩:=HB I.ns
 ⟨od,⟨I.obj,rfl,rfl,ho⟩,hl⟩
def putF(f:Str)(v:V):List (Str×V)->List (Str×V)
|[]=>[(f,v)]
|(g,x)::r=>if g=f then(g,v)::r else(g,x)::putF f v r
theorem cI.some_of{v:V}{o:Option b_}(r:cI (some v) o):∃u,o=some u/\ar v u:=by cases o with
|none=>exact(show False from r).elim
|some u=>exact⟨u,rfl,r⟩
theorem cI.none_of{o:Option b_}(r:cI none o):o=none:=by cases o with
|none=>rfl
|some u=>exact(show False from r).elim
structure Cls(K:W.Frag)(C:Addr):Prop where
 pg:W.plainGet K C Nv=true
 hd:W.hasDictIn K C=true
 po:W.plainOver K C=true
 sa:W.findIn K (.ref C) "__setattr__" = some (some (.builtin "object.__setattr__"))
theorem Cls.get{K:W.Frag}{C:Addr}(c:Cls K C)(f:Str):W.plainGet K C f=true:=c.pg
structure Con(K:W.Frag)(C:Addr)(f:Str)(v:V)(u:b_):Prop where
 at_:W.findIn K (.ref C) f=some (some u)
 rel:ar v u
 get:W.specialIn K u "__get__" = some none
 cp:W.copiedNames.contains f=false
structure Meth(K:W.Frag)(C:Addr)(m:Str)(f:Addr):Prop where
 at_:W.findIn K (.ref C) m=some (some (.ref f))
 fn:W.isFn K (.ref f)=true
 kp:W.keepIn K (.ref f)=true
section
variable{X:Cx}{pz:List (Addr×Obj)}{σ:St}{H:Hp}{s:e_}{a C dx:Addr}{fs:List (Str×V)}{f:Str}{v:V}{A:Jr}{E:b_->e_->Prop}
theorem Inv.made(I:Inv X pz σ H s):Inv X pz σ (upd (upd H s.heap.objs.size (.own (s.heap.objs.size+1))) (s.heap.objs.size+1) (.ins C s.heap.objs.size []))
  { s with heap:=(s.heap.push W.emptyDict).push (W.instObj C s.heap.objs.size) }:=by
 have e1:(s.heap.push W.emptyDict).get? s.heap.objs.size=some W.emptyDict:=D_ s.heap rfl;have e2:((s.heap.push W.emptyDict).push (W.instObj C s.heap.objs.size)).get? (s.heap.objs.size+1)=some (W.instObj C s.heap.objs.size):=by have:=D_ (s.heap.push W.emptyDict) (o:=W.instObj C s.heap.objs.size) rfl;rwa[LH]at this
 have e3:(s.heap.push W.emptyDict).Ns s.heap.objs.size (fun _=>none):=⟨W.emptyDict,#[],_,e1,rfl,(fun e he=>absurd he (by simp)),fun _=>rfl⟩
 have I1:=I.laid (a:=s.heap.objs.size) (o:=.own (s.heap.objs.size+1)) (h':=s.heap.push W.emptyDict) (t':=s.toks) (fun b u q=>j_ _ q) (w_ _) ⟨_,e1⟩;refine I1.laid (a:=s.heap.objs.size+1) (o:=.ins C s.heap.objs.size []) (t':=s.toks) (fun b u q=>j_ _ q) (LI (LH _ _)) ?_;have ne:s.heap.objs.size≠s.heap.objs.size+1:=Js (K9 _);refine⟨by rw[aK ne,bJ],JK _,ne,e2,fun _=>none,(NX e3).at fun o q=>j_ _ q,fun _=>True.intro,fun y hy=>absurd rfl hy⟩
theorem Dg{prog:u_}{w:H_}{env:Env}{e:Expr}{f:Str}{pos:Pos}{s:e_}{Q:b_->e_->Prop}(hb:Kn e f env (eval e env)=eval e env)(h:p_ (y_ prog w) A (eval e env) (fun o s₁=>p_ (y_ prog w) A (getAttr o f true) Q E s₁) E s):p_ (y_ prog w) A (eval (.Attribute e f pos) env) Q E s:=Attribute_any_ h (by rw[arm_eval_Attribute,hb])
end
section
variable{X:Cx}{pz:List (Addr×Obj)}{σ:St}{H:Hp}{s:e_}{A:Jr}{E:b_->e_->Prop}{Q:b_->e_->Prop}{c:b_}{b:Bool}
inductive TyOf(K:W.Frag)(H:Hp):V->b_->Prop where
 |non:TyOf K H .non (.type "NoneType")
 |bl (x:Bool):TyOf K H (.bl x) (.type "bool")
 |int (i:Int):TyOf K H (.int i) (.type "int")
 |str (x:Str):TyOf K H (.str x) (.type "str")
 |flt (x:UInt64):TyOf K H (.flt x) (.type "float")
 |lst {a:Addr} {xs:List V} (e:H a=some (.lst xs)):TyOf K H (.ref a) (.type "list")
 |frz {a:Addr} {o:Obj} {xs:List V} (e:H a=some (.frz o (.lst xs))):TyOf K H (.ref a) (.type "list")
 |tup {a:Addr} {xs:List V} (e:H a=some (.tup xs)):TyOf K H (.ref a) (.type "tuple")
 |dK {a:Addr} {kvs:List (aH×V)} (e:H a=some (.dK kvs)):TyOf K H (.ref a) (.type "dict")
 |dT {a:Addr} {kvs:List (List aH×V)} (e:H a=some (.dT kvs)):TyOf K H (.ref a) (.type "dict")
 | ins {a C dx:Addr} {fs:List (Str × V)} (e:H a=some (.ins C dx fs)) (cl:Cls K C) (ha:W.findIn K (.ref C) "__class__" = some (some (.builtin "object.__class__")))
   (hn:W.specialIn K (.builtin "object.__class__") "__get__" = some (some (.builtin "getset_descriptor.__get__"))) (htk:W.takesIn K (.builtin "object.__class__")=some true)
   (hm:W.mroIn K C (.type "object")=some true):TyOf K H (.ref a) (.ref C)
end
structure Room(k:Nat)(A:Jr):Prop where
 hd:A.handled=none
 dp:A.depth+3*k+5<recursionLimit
 un:A.units+16*k+200<Mm
 gd:A.guards=some []
theorem Room.mono{j k:Nat}{A:Jr}(r:Room k A)(h:j<=k):Room j A:=⟨r.hd,by have:=r.dp;omega,by have:=r.un;omega,r.gd⟩
theorem Room.deeper{k:Nat}{A:Jr}(r:Room (k+1) A)(env:Env):Room k (A.deeper env):=⟨r.hd,by have:=r.dp;show A.depth+1+3*k+5<_;omega,by have:=r.un;show A.units+3+16*k+200<_;omega,r.gd⟩
theorem Room.in1{k:Nat}{A:Jr}(r:Room (k+1) A):Room k A.in1:=⟨r.hd,by have:=r.dp;show A.depth+3*k+5<_;omega,by have:=r.un;show A.units+1+16*k+200<_;omega,r.gd⟩
theorem HG{A:Jr}{C:Addr}{us:List b_}{kw:List (Str×b_)}:(A.under (.builtin "type.__call__" ⟨.ref C::us,kw⟩)).depth=A.depth+1:=by first|rfl|simp[MU,Code.weight,Code.isCreation,Py,Code.isCaller,PR,NY,guardIds]
theorem HI{A:Jr}{C:Addr}{us:List b_}{kw:List (Str×b_)}:(A.under (.builtin "type.__call__" ⟨.ref C::us,kw⟩)).units=A.units+1:=by first|rfl|simp[MU,Code.cUnits,PR,NY]
theorem Room.make{k:Nat}{A:Jr}(r:Room (k+1) A)(C:Addr)(us:List b_)(kw:List (Str×b_)):Room k (A.under (.builtin "type.__call__" ⟨.ref C::us,kw⟩)):=⟨r.hd,by have:=r.dp;rw[HG];omega,by have:=r.un;rw[HI];omega,(by have:=r.gd;first|exact this|(simp[MU,Py,guardIds];exact this))⟩
theorem Room.depth{k:Nat}{A:Jr}(r:Room k A):A.depth<recursionLimit:=by have:=r.dp;omega
theorem Room.units{k:Nat}{A:Jr}(r:Room k A):A.units+64<Mm:=by have:=r.un;omega
def ny:TA:=fun _ H Q=>Q [] H
def qG(ta:TE)(tr:TA):TA:=fun σ H Q=>ta σ H fun x H1=>tr σ H1 fun xs H2=>Q (x::xs) H2
section
variable{X:Cx}{e:Expr}{es:List Expr}{te:TE}{t:TA}{pos:Pos}
theorem hZ:PA X [] ny:=fun _ _ _ _ H Q I h=>Calls.spliced_nil ⟨[],H,I,.nil,h⟩
theorem d4(ha:PE X e te)(hr:PA X es t)(hs:g_ (e::es) X.env=(false,eval e X.env)::g_ es X.env:=by rfl):PA X (e::es) (qG te t):=by intro pos pz s σ H Q I h;rw[hs];show p_ _ _ (spliced ((false,eval e X.env)::backTo pos (g_ es X.env))) _ _ s;refine Calls.spliced_cons (aO (ha pz s σ H _ I h) fun u s1 ⟨x,H1,I1,r1,q1⟩=>?_);exact aO (hr pos pz s1 σ H1 _ I1 q1) fun us s2 ⟨xs,H2,I2,r2,q2⟩=>⟨x::xs,H2,I2,.cons r1 r2,q2⟩
def tW(t:TA):TE:=fun σ H Q=>t σ H fun xs H1=>xs.length<=sizeLine/\∀p,H1 p=none->Q (.ref p) (upd H1 p (.tup xs))
def uA(t:TA):TE:=fun σ H Q=>t σ H fun xs H1=>xs.length<=sizeLine/\∀p,H1 p=none->Q (.ref p) (upd H1 p (.lst xs))
theorem wY{x1}(h:PA X es t):PE X (.Tuple es x1 pos) (tW t):=by intro pz s σ H Q I hq;refine wpAny_Tuple_spliced (aO (h pos pz s σ H _ I hq) fun us s1 ⟨xs,H1,I1,r,z,q⟩=>⟨by rw[<-r.length];exact z,?_⟩);have hf:H1 s1.heap.objs.size=none:=I1.hok.fresh (w_ _);refine⟨.ref s1.heap.objs.size,upd H1 s1.heap.objs.size (.tup xs),I1.laid (t':=s1.toks) (fun b u e=>j_ _ e) (w_ _) ?_,rfl,q _ hf⟩;exact⟨z,us,r,⟨_,D_ _ rfl,rfl,_,rfl⟩,_,D_ _ rfl,rfl⟩
theorem wW(h:PA X es t):PE X (.List es pos) (uA t):=by intro pz s σ H Q I hq;refine wpAny_List_spliced (aO (h pos pz s σ H _ I hq) fun us s1 ⟨xs,H1,I1,r,z,q⟩=>⟨by rw[<-r.length];exact z,?_⟩);have hf:H1 s1.heap.objs.size=none:=I1.hok.fresh (w_ _);refine⟨.ref s1.heap.objs.size,upd H1 s1.heap.objs.size (.lst xs),I1.laid (t':=s1.toks) (fun b u e=>j_ _ e) (w_ _) ?_,rfl,q _ hf⟩;exact⟨z,us,0,r,D_ _ rfl⟩
end
abbrev Sp:=List V->Hp->VK->XK->Prop
abbrev gx:=List Env->Hp->e_->XK->b_->e_->Prop
structure Env0(P:u_)(w:H_)(K:W.Frag)(mg:Str->Option b_)(base:Heap)(A:Jr)(outer:List Env)(s:e_)(H:Hp):Prop where
 frames:A.frames=some outer
 mod:Mod K mg base
 bs:∀b o,base.get? b=some o->s.heap.get? b=some o/\H b=none
 bsz:base.objs.size<=s.heap.objs.size
 funs:s.heap.FunFrames base outer
 frf:∀b∈bK outer,H b=none
 hok:ce P w H s.heap
 bare:LC s.gens
def CE(outer:List Env)(P:u_)(w:H_)(H:Hp)(s:e_)(Q:VK)(u:b_)(s':e_):Prop:=∃v H',s'.os=s.os/\LC s'.gens/\Un (bK outer) [] H H' s.heap s'.heap/\ce P w H' s'.heap/\ar v u/\Q v H'
def CR(CX:gx)(outer:List Env)(P:u_)(w:H_)(H:Hp)(s:e_)(Q:VK)(E:XK)(r:Pz)(s':e_):Prop:=match r with
|.ok (.ret u)=>CE outer P w H s Q u s'
|.ok _=>False
|.error e=>CX outer H s E e s'
structure FnOk(P:u_)(w:H_)(K:W.Frag)(mg:Str->Option b_)(base:Heap)(CX:gx)(k:Nat)(f:Addr)(fd:JP)(ps:List Str)(sp:Sp):Prop where
 len:∀vs H Q E,sp vs H Q E->vs.length=ps.length
 run:∀(A:Jr)(outer:List Env)(s:e_)(H:Hp)(args:Args)(us:List b_)(vs:List V)(Q:VK)(E:XK),Room k A->Env0 P w K mg base A outer s H->Nw s fd args (ps.zip us)->al vs us->sp vs H Q E ->MV (y_ P w) A (.call (.ref f) args) (CR CX outer P w H s Q E) s
theorem FnOk.mono{P:u_}{w:H_}{K:W.Frag}{mg:Str->Option b_}{base:Heap}{CX:gx}{j k:Nat}{f:Addr}{fd:JP}{ps:List Str}{sp:Sp}(F:FnOk P w K mg base CX j f fd ps sp)(h:j<=k):FnOk P w K mg base CX k f fd ps sp:=⟨F.len,fun A outer s H args us vs Q E hr=>F.run A outer s H args us vs Q E (hr.mono h)⟩
theorem FnOk.imp{P:u_}{w:H_}{K:W.Frag}{mg:Str->Option b_}{base:Heap}{CX:gx}{k:Nat}{f:Addr}{fd:JP}{ps:List Str}{sp sp':Sp}(F:FnOk P w K mg base CX k f fd ps sp)(h:∀vs H Q E,sp' vs H Q E->sp vs H Q E):FnOk P w K mg base CX k f fd ps sp':=⟨fun vs H Q E q=>F.len vs H Q E (h _ _ _ _ q),fun A outer s H args us vs Q E hr he hb hv hs=>F.run A outer s H args us vs Q E hr he hb hv (h _ _ _ _ hs)⟩
theorem Env0.make{P:u_}{w:H_}{K:W.Frag}{mg:Str->Option b_}{base:Heap}{A:Jr}{outer:List Env}{s:e_}{H:Hp}(e:Env0 P w K mg base A outer s H)(C:Addr)(us:List b_)(kw:List (Str×b_)):Env0 P w K mg base (A.under (.builtin "type.__call__" ⟨.ref C::us,kw⟩)) outer s H:=⟨by first|exact e.frames|(simpa[MU,Code.envs,NY,pushEnvs]using e.frames),e.mod,e.bs,e.bsz,e.funs,e.frf,e.hok,e.bare⟩
theorem Env0.in1{P:u_}{w:H_}{K:W.Frag}{mg:Str->Option b_}{base:Heap}{A:Jr}{outer:List Env}{s:e_}{H:Hp}(e:Env0 P w K mg base A outer s H):Env0 P w K mg base A.in1 outer s H:=⟨e.frames,e.mod,e.bs,e.bsz,e.funs,e.frf,e.hok,e.bare⟩
section
variable{X:Cx}{pz:List (Addr×Obj)}{σ:St}{H:Hp}{s s':e_}
theorem Inv.env0(I:Inv X pz σ H s):Env0 X.prog X.w X.K X.mg X.base X.A X.stack s H:=⟨I.ok.frames,I.ok.mod,I.bs,JE I.ok.bsz I.sz,I.stack,I.stkFree,I.hok,I.bare⟩
theorem Inv.after{Q:VK}{u:b_}(I:Inv X pz σ H s)(h:CE X.stack X.prog X.w H s Q u s'):EP X pz σ Q u s':=by obtain⟨v,H',os,bare,un,hok,r,q⟩:=h;obtain⟨hh,g,d,t,os'⟩:=s';obtain rfl:os'=s.os:=os;exact⟨v,H',I.call (h':=hh) (g':=g) (d':=d) (t':=t) (ch:=[]) un hok bare (fun b z=>absurd z (by simp)),r,q⟩
end
def BQ(sp:Sp)(dvs:List V)(E:XK)(t:TA):TE:=fun σ H Q=>t σ H fun vs H1=>sp (vs++dvs) H1 Q E
def eD(K:W.Frag)(fd:JP)(ps:List Str)(ds:List b_):Prop:=∀(s:e_)(us:List b_),K.In s.heap->(us++ds).length=ps.length->Nw s fd ⟨us,[]⟩ (ps.zip (us++ds))
theorem eD.all{K:W.Frag}{fd:JP}{ps:List Str}(h:∀us:List b_,us.length=ps.length->Lm fd ⟨us,[]⟩=pure (ps.zip us)):eD K fd ps []:=fun s us _ hl=>by rw[JZ]at hl ⊢;exact .of_eq (h us hl)
def qP(CX:gx)(X:Cx)(E:XK):Prop:=∀(pz:List (Addr×Obj))(σ:St)(H:Hp)(s:e_)(e:b_)(s':e_),Inv X pz σ H s->CX X.stack H s E e s'->X.xe e s'
section
variable{X:Cx}{CX:gx}{k:Nat}{f C:Addr}{fd:JP}{ps:List Str}{sp:Sp}{dvs:List V}{ds:List b_}{E:XK}{x m:Str}{p pos apos:Pos}{e o:Expr}{es:List Expr}{ta:TE}{t:TA}
theorem CA{pz:List (Addr×Obj)}{σ:St}{H:Hp}{s:e_}{Q:VK}{us:List b_}{vs:List V}(F:FnOk X.prog X.w X.K X.mg X.base CX k f fd ps sp)(hr:Room k X.A)(hb:eD X.K fd ps ds)(hd:al dvs ds)(hx:qP CX X E)(I:Inv X pz σ H s)(r:al vs us)(h:sp (vs++dvs) H Q E):p_ (y_ X.prog X.w) X.A (call (.ref f) us) (EP X pz σ Q) X.xe s:=by
 have r2:al (vs++dvs) (us++ds):=r.append hd;have hl:(us++ds).length=ps.length:=by rw[<-r2.length];exact F.len _ _ _ _ h
 refine Lv (Mf (F.run X.A X.stack s H ⟨us,[]⟩ (us++ds) (vs++dvs) Q E hr I.env0 (hb s us I.kIn hl) r2 h) fun r s' hq=>?_);cases r with
|error e=>exact hx pz σ H s e s' I hq
|ok fl=>cases fl with
 |ret u=>exact I.after hq
 |next=>exact JG hq
 |brk=>exact JG hq
 |cont=>exact JG hq
theorem mv(F:FnOk X.prog X.w X.K X.mg X.base CX k f fd ps sp)(hr:Room k X.A)(hg:Gl X x)(hm:X.mg x=some (.ref f))(hk:W.keepIn X.K (.ref f)=true)(hb:eD X.K fd ps ds)(hd:al dvs ds)(hx:qP CX X E)(ha:PA X (e::es) t)(hdb:(x==("__debug__" : Str))=false:=by decide)(he:g_ (e::es) X.env=(false,eval e X.env)::g_ es X.env:=by rfl)(hpl:(backTo pos (g_ es X.env)).any (·.1)=false:=by rfl):PE X (.Call (.Name x p) (e::es) [] pos) (BQ sp dvs E t):=by intro pz s σ H Q I h;refine KP (j4 I hg hm ?_ hdb);refine W.callWith_K (h₀:=X.base) I.ok.mod.kin hk (aO (ha pos pz s σ H _ I h) fun us s1 ⟨vs,H1,I1,r,q⟩=>⟨I1.kIn,?_⟩) he hpl;exact CA F hr hb hd hx I1 r q
structure Mk(K:W.Frag)(C f:Addr):Prop where
 makes:W.makesIn K C=true
 init:W.findIn K (.ref C) "__init__" = some (some (.ref f))
 fn:W.isFn K (.ref f)=true
 kp:W.keepIn K (.ref C)=true
end
section
variable{X:Cx}{CX:gx}{k:Nat}{f C:Addr}{fd:JP}{ps ks:List Str}{sp:Sp}{E:XK}{x m:Str}{p pos apos kpos:Pos}{e o:Expr}{es:List Expr}{kws:List Lr}{te ta:TE}{t tk:TA}{nm:Option Str}
structure KBinds(K:W.Frag)(fd:JP)(ps ks:List Str)(g:List b_->List b_->List b_)(gV:List V->List V->List V):Prop where
 to:∀(s:e_)(us ws:List b_),K.In s.heap->(g us ws).length=ps.length->Nw s fd ⟨us,ks.zip ws⟩ (ps.zip (g us ws))
 rel:∀{vs:List V}{us:List b_}{zs:List V}{ws:List b_},al vs us->al zs ws->al (gV vs zs) (g us ws)
variable{g:List b_->List b_->List b_}{gV:List V->List V->List V}
end
structure FnScope(N P:List Str)(sc:KG):Prop where
 kind:sc.kind=.function
 co:sc.isCoroutine=false
 gen:sc.isGenerator=false
 nd:N.Nodup
 pre:N.take P.length=P
 par:∀x∈P,sc.names.lookup x=some .local\/sc.names.lookup x=some .cell
 nofree:∀y∈sc.names,y.2≠.free
theorem zq{kindOf:Str->Option K3}{x:Str}:∀{binds:List (Str×b_)}{m:Str->Option b_},(∀v,(x,v)∉binds)->OL kindOf binds m x=m x
|[],_,_=>rfl
|(n,v)::r,m,h=>by
  unfold OL;rw[zq fun w hw=>h w (h_ _ hw)];split
  .have:x≠n:=by rintro rfl;exact h v k_
   simp[this]
  .rfl
theorem zo{kindOf:Str->Option K3}{x:Str}:∀{binds:List (Str×b_)}{m:Str->Option b_},(∀v,(x,v)∉binds)->OM kindOf binds m x=m x
|[],_,_=>rfl
|(n,v)::r,m,h=>by
  unfold OM;rw[zo fun w hw=>h w (h_ _ hw)];split
  .rfl
  .have:x≠n:=by rintro rfl;exact h v k_
   simp[this]
theorem zp{kindOf:Str->Option K3}{x:Str}{v:b_}:∀{P:List Str}{vs:List b_}{i:Nat}{m:Str->Option b_},P.Nodup->P[i]? = some x->vs[i]? = some v->kindOf x=some .local ->OL kindOf (P.zip vs) m x=some v
|[],_,_,_,_,h,_,_=>by simp at h
|_::_,[],_,_,_,_,h,_=>by simp at h
|p::P,w::vs,0,m,nd,h1,h2,hk=>by simp at h1 h2;subst h1;subst h2;show OL kindOf ((p,w)::P.zip vs) m p=_;unfold OL;rw[zq fun v hv=>(JC.mp nd).1 (Nc hv).1,if_pos hk];simp
|p::P,w::vs,i+1,m,nd,h1,h2,hk=>by show OL kindOf ((p,w)::P.zip vs) m x=_;unfold OL;exact zp (i:=i) (JC.mp nd).2 (by simpa using h1) (by simpa using h2) hk
theorem zn{kindOf:Str->Option K3}{x:Str}{v:b_}:∀{P:List Str}{vs:List b_}{i:Nat}{m:Str->Option b_},P.Nodup->P[i]? = some x->vs[i]? = some v->kindOf x≠some .local ->OM kindOf (P.zip vs) m x=some v
|[],_,_,_,_,h,_,_=>by simp at h
|_::_,[],_,_,_,_,h,_=>by simp at h
|p::P,w::vs,0,m,nd,h1,h2,hk=>by simp at h1 h2;subst h1;subst h2;show OM kindOf ((p,w)::P.zip vs) m p=_;unfold OM;rw[zo fun v hv=>(JC.mp nd).1 (Nc hv).1,if_neg hk];simp
|p::P,w::vs,i+1,m,nd,h1,h2,hk=>by show OM kindOf ((p,w)::P.zip vs) m x=_;unfold OM;exact zn (i:=i) (JC.mp nd).2 (by simpa using h1) (by simpa using h2) hk
def a8(N:List Str)(vs:List V):St:=vs.map some++t_ (N.length-vs.length) none
def a9(CX:gx)(P:u_)(w:H_)(K:W.Frag)(mg:Str->Option b_)(base:Heap)(N:List Str)(qual:Str)(scope:KG)(f:Addr)(cd:b_)(A:Jr)(outer:List Env)(s:e_)(H:Hp)(E:XK):Cx where
 prog:=P
 w:=w
 K:=K
 mg:=mg
 base:=base
 A:=A.deeper (KW qual scope s.heap.objs.size f cd)
 N:=N
 s₀:=s
 H₀:=H
 env:=KW qual scope s.heap.objs.size f cd
 outer:=outer
 stack:=KW qual scope s.heap.objs.size f cd::outer
 ex:=[]
 calm:=true
 fn:=fun _=>true
 pn:=[]
 xe:=fun e s'=>p_ (y_ P w) (A.deeper (KW qual scope s.heap.objs.size f cd)) (leaving (KW qual scope s.heap.objs.size f cd) e) (fun _ s''=>CX outer H s E e s'') (fun e' s''=>CX outer H s E e' s'') s'
theorem zi{sc:KG}{n:Nat}{x:Str}(h:sc.names.lookup x=some .cell):∃c,(Pu n sc.names []).lookup x=some c:=by have q:=W.cellsFrom_some sc.names n [] (.inl h);exact Option.isSome_iff_exists.mp q
theorem GG{CX:gx}{P:u_}{w:H_}{K:W.Frag}{mg:Str->Option b_}{base:Heap}{N ps:List Str}{qual:Str}{scope:KG}{f:Addr}{cd:b_}{A:Jr}{outer:List Env}{s s1:e_}{H:Hp}{E:XK}{us:List b_}{vs:List V}(S:FnScope N ps scope)(hd:A.handled=none)(e0:Env0 P w K mg base A outer s H)(hl:vs.length=ps.length)(r:al vs us)(x:InCallC s s.heap.objs.size (OL (KW qual scope s.heap.objs.size f cd).kindOf (ps.zip us) fun _=>none) (Pu (s.heap.objs.size+1) scope.names []) (OM (KW qual scope s.heap.objs.size f cd).kindOf (ps.zip us) fun _=>none) s1):Inv (a9 CX P w K mg base N qual scope f cd A outer s H E) [] (a8 N vs) H s1:=by
 have hpl:ps.length<=N.length:=by have:=congrArg K4 S.pre;rw[JM]at this;omega
 obtain⟨h1,tk,rfl,hk⟩:=x.done;have noA:∀b:Addr,b∉(a9 CX P w K mg base N qual scope f cd A outer s H E).ex:=fun b z=>absurd (show b∈([]:List Addr)from z) (by simp);refine⟨⟨e0.mod,S.kind,rfl,rfl,w_ _,fun y z c h1 h2=>?_,fun y hy=>?_,fun y c _ h=>?_,fun _=>hd,Around.frames_deeper e0.frames,.inr ⟨rfl,rfl⟩,fun b z=>absurd z (noA b),e0.bs,e0.bsz,fun b _ _=>noA b,fun b z=>absurd z (noA b),e0.funs,e0.frf⟩,rfl,e0.bare,Un.kept hk,⟨_,x.toInCall.ns,fun i y v h1 h2 h3=>?_⟩,fun y c h=>⟨_,x.cell y c h⟩,e0.hok.fresh (w_ _),fun y c h=>?_,fun p hp=>absurd (show p∈([]:List (Addr×Obj))from hp) (by simp),e0.hok.kept hk,?_⟩
 .exact name_of_addr x.apart (J_ h1) (J_ h2)
 .have hy:scope.names.lookup y=some .cell\/scope.names.lookup y=some .free:=hy;rcases hy with hy|hy
  .exact zi hy
  .exact absurd rfl (S.nofree _ (J_ hy))
 .exact NS (x.above y c (J_ h))
 .have hi:i<vs.length:=by
   unfold a8 at h2;by_cases hi:i<vs.length
   .exact hi
   .rw[K5 (by simpa using hi)]at h2;rw[J4]at h2;split at h2 <;> cases h2
  have ha:vs[i]? = some v:=by unfold a8 at h2;rw[JB (by simpa using hi),s_]at h2;cases e:vs[i]? with
  |none=>rw[e]at h2;cases h2
  |some a=>rw[e]at h2;cases h2;rfl
  obtain⟨u,hu,rv⟩:=r.get ha;have hp:ps[i]? = some y:=by rw[<-S.pre,List.getElem?_take_of_lt (by omega)];exact h1
  have ndP:ps.Nodup:=by rw[<-S.pre];exact S.nd.sublist (List.take_sublist _ _)
  refine⟨u,rv,?_⟩;rcases S.par y (Kd hp)with k|k
  .exact .inl ⟨k,zp ndP hp hu k⟩
  .obtain⟨c,e⟩:=zi (n:=s.heap.objs.size+1) k;refine .inr ⟨.inl k,c,e,?_⟩;have q:=x.cell y c e;rw[zn ndP hp hu (by show scope.names.lookup y≠_;rw[k];decide)]at q;exact q
 .exact e0.hok.fresh (NS (x.above y c (J_ h)))
 .unfold a8;show _=N.length;rw[JH,n_,Kt];omega
theorem vT{CX:gx}{P:u_}{w:H_}{K:W.Frag}{mg:Str->Option b_}{base:Heap}{k:Nat}{f:Addr}{name qual:Str}{params:Arguments}{body:List Stmt}{scope:KG}{dV kV doc pm cdv ct oc:b_}{an od:Option Addr}{osl:Array (Option b_)}{N ps:List Str}{sp:Sp}(lk:K.lookup f=some ⟨oc,od,.func (W.fnOf name qual params body scope dV kV doc pm an cdv ct),osl⟩)(hcd:W.codeIn K cdv qual=true)(S:FnScope N ps scope)(len:∀vs H Q E,sp vs H Q E->vs.length=ps.length)(hbody:∀(A:Jr)(outer:List Env)(s:e_)(H:Hp)(vs:List V)(Q:VK)(E:XK),Room k (A.deeper (KW qual scope s.heap.objs.size f cdv))->sp vs H Q E ->∃t,bx (a9 CX P w K mg base N qual scope f cdv A outer s H E) body t/\t { nx:=fun _ H'=>Q .non H',rt:=Q } (a8 N vs) H):FnOk P w K mg base CX (k+1) f (W.fnOf name qual params body scope dV kV doc pm an cdv ct) ps sp:=by
 refine⟨len,fun A outer s H args us vs Q E hr e0 hb r hsp=>?_⟩;have hl:=len _ _ _ _ hsp;have KX:K.In s.heap:=e0.mod.kin.keeps fun b o e=>(e0.bs b o e).1;have lim:s.heap.NoLimit:=e0.mod.nolimit.keeps fun b o e=>(e0.bs b o e).1;have hkind:∀y∈ps.zip us,scope.names.lookup y.1=some .local\/(scope.names.lookup y.1=some .cell/\((Pu (s.heap.objs.size+1) scope.names []).lookup y.1).isSome=true):=fun⟨n,v⟩ hy=>by
  rcases S.par n (Nc hy).1 with q|q
  .exact .inl q
  .exact .inr ⟨q,W.cellsFrom_some _ _ _ (.inl q)⟩
 refine codeAny_call_function hr.depth (KX _ _ lk) rfl S.co S.gen rfl (W.codeRec_of KX hcd) (hb _ _ _ _ ?_);refine wpAny_newFunctionEnv_cells S.kind hkind fun env he s1 x=>?_;subst he;refine⟨lim.keeps x.toInCall.keep,codeAny_func ?_⟩;obtain⟨t,ht,hq⟩:=hbody A outer s H vs Q E (hr.deeper _) hsp;have I:Inv (a9 CX P w K mg base N qual scope f cdv A outer s H E) [] (a8 N vs) H s1:=GG S hr.hd e0 hl r x;refine JF (ht [] s1 (a8 N vs) H _ I hq) (fun fl s' hs=>?_) fun e s' hs=>hs;have fin:∀{σ':St}{H':Hp}{v:V}{u:b_},Inv (a9 CX P w K mg base N qual scope f cdv A outer s H E) [] σ' H' s'->ar v u->Q v H'->CE outer P w H s Q u s':=fun{σ' H' v u} J rv q=>⟨v,H',J.os,J.bare,J.base,J.hok,rv,q⟩
 cases fl with
|ret u=>obtain⟨v,σ',H',J,rv,q⟩:=hs;exact fin J rv q
|next=>obtain⟨σ',H',J,q⟩:=hs;exact fin (v:=V.non) (u:=Value.none) J rfl q
|brk=>obtain⟨_,_,_,q⟩:=hs;exact JG q
|cont=>obtain⟨_,_,_,q⟩:=hs;exact JG q
section
variable{X:Cx}{x:Str}{p pos:Pos}{e:Expr}{es:List Expr}{t:TA}{id T:String}{r:List V->Hp->VK->Prop}
def pW(r:List V->Hp->VK->Prop)(t:TA):TE:=fun σ H Q=>t σ H fun vs H1=>r vs H1 Q
theorem je(hc:dZ X (.builtin id) r)(hg:Gl X x)(hm:X.mg x=none)(hv:KN x=some (.builtin id))(ha:PA X (e::es) t)(hn:x≠"__name__" := by decide)(hdb:(x==("__debug__" : Str))=false:=by decide)(he:g_ (e::es) X.env=(false,eval e X.env)::g_ es X.env:=by rfl)(hpl:(backTo pos (g_ es X.env)).any (·.1)=false:=by rfl):PE X (.Call (.Name x p) (e::es) [] pos) (pW r t):=by intro pz s σ H Q I h;refine KP (l9 I hg hm hv ?_ hn hdb);exact Oj (aO (ha pos pz s σ H _ I h) fun us s1 ⟨vs,H1,I1,r1,q1⟩=>hc pz s1 σ H1 vs us Q I1 r1 q1) he hpl
theorem zS(hc:dZ X (.type T) r)(hg:Gl X x)(hm:X.mg x=none)(hv:KN x=some (.type T))(ha:PA X (e::es) t)(hn:x≠"__name__" := by decide)(hdb:(x==("__debug__" : Str))=false:=by decide)(he:g_ (e::es) X.env=(false,eval e X.env)::g_ es X.env:=by rfl)(hpl:(backTo pos (g_ es X.env)).any (·.1)=false:=by rfl):PE X (.Call (.Name x p) (e::es) [] pos) (pW r t):=by intro pz s σ H Q I h;refine KP (l9 I hg hm hv ?_ hn hdb);exact KY (aO (ha pos pz s σ H _ I h) fun us s1 ⟨vs,H1,I1,r1,q1⟩=>hc pz s1 σ H1 vs us Q I1 r1 q1) he hpl
end
end L2
namespace HT
open PySem PyProof.Rows
section
open PySem.SeqAt
open PySem.AutoSeq1 (wpAny_loadPart')
open PySem.MeetsSeq PySem.MeetsSeq2 PySem.MeetsSeq3
end
section
variable{prog:u_}{w:H_}{A:Jr}{E:b_->e_->Prop}{s:e_}
theorem jp{t b:Addr}{vs ws:List b_}{Q:b_->e_->Prop}(ht:OG s.heap t vs.toArray)(hb:OG s.heap b ws.toArray)(hv:vs≠[])(h1:ws=[]->Q (.ref t) s)(h2:ws≠[]->Q (.ref s.heap.objs.size) { s with heap:=s.heap.push { cls:=.type "tuple",data:=.seq (vs++ws).toArray } })(hsz:vs.length+ws.length<=sizeLine):p_ (y_ prog w) A (Kr .Add (.ref t) (.ref b)) Q E s:=by
 obtain⟨⟨cls,dd,data,sl⟩,ho,hc,n,hd⟩:=id ht;obtain⟨⟨cls2,dd2,data2,sl2⟩,ho2,hc2,n2,hd2⟩:=id hb;simp only at hc hd hc2 hd2;subst hc hd hc2 hd2;have e:vs.toArray++ws.toArray=(vs++ws).toArray:=by simp
 by_cases hw:ws=[]
 .exact NZ ⟨_,ho,rfl⟩ ⟨_,ho2,rfl⟩ Ol seq_tuple_add MW MI (MD _ _)
   (tuple_addW1 t b vs.toArray ws.toArray n n2 dd dd2 sl sl2 (by simpa using hv) (by simp[hw])) ⟨ho,ho2,h1 hw⟩
 .refine NZ ⟨_,ho,rfl⟩ ⟨_,ho2,rfl⟩ Ol seq_tuple_add MW MI (MD _ _)
   (tuple_addW2 t b vs.toArray ws.toArray n n2 dd dd2 sl sl2 (by simpa using hv) (by simpa using hw) (by rw[o_,o_];exact hsz)) ⟨ho,ho2,?_⟩
  rw[e];exact h2 hw
def sIx(n d:Nat):Option Int->Nat
|none=>d
|some v=>if v<0 then(v+(n:Int)).toNat else min v.toNat n
theorem DT(n d:Nat)(hd:d<=n)(o:Option Int):sIx n d o<=n:=by cases o with
|none=>exact hd
|some v=>
  show(if v<0 then(v+(n:Int)).toNat else min v.toNat n)<=n;by_cases hv:v<0
  .rw[if_pos hv];omega
  .rw[if_neg hv];exact Nat.min_le_right _ _
theorem ym(v:Int)(n d:Nat):(if v<0 then max (v+(n:Int)) 0 else min v (n:Int))=((sIx n d (some v):Nat):Int):=by
 show(if v<0 then max (v+(n:Int)) 0 else min v (n:Int))=(((if v<0 then(v+(n:Int)).toNat else min v.toNat n):Nat):Int)
 by_cases hv:v<0
 .simp only[if_pos hv];omega
 .simp only[if_neg hv];omega
theorem Ia(lo hi:Option Int)(n:Nat):Ld lo hi 1 (n:Int)=(((sIx n 0 lo:Nat):Int),((sIx n n hi:Nat):Int)):=by
 have h1:¬ ((1:Int)<0):=by omega
 unfold Ld;simp only[h1,if_false];refine PU ?_ ?_
 .cases lo with
 |none=>rfl
 |some v=>exact ym v n 0
 .cases hi with
 |none=>rfl
 |some v=>exact ym v n n
theorem HL(i j:Nat):Kv (i:Int) (j:Int) 1=j-i:=by
 unfold Kv;have h1:(1:Int)>0:=by omega
 simp only[h1,if_true,Int.ediv_one];split <;> omega
theorem z9{v:b_}{o:Option Int}{Q:Option Int->e_->Prop}(p:MX v o)(h:Q o s):p_ (y_ prog w) A (Oy v) Q E s:=by cases p with
|none=>exact slicePart_none h
|int i t=>exact slicePart_int h
theorem bS{sl:Addr}{vl vu:b_}{lo hi:Option Int}{n:Nat}{Q:Int×Int×Nat->e_->Prop}(hs:s.heap.IsSliceOf sl vl vu .none)(pl:MX vl lo)(pu:MX vu hi)(h:Q (((sIx n 0 lo:Nat):Int),1,sIx n n hi-sIx n 0 lo) s):p_ (y_ prog w) A (Mn (.ref sl) (pure (n:Int))) Q E s:=by obtain⟨os,hos,hcs,hds⟩:=id hs;unfold Mn O9;refine c_ (c_ (JW hos hds (x:=vl) rfl (c_ (JW hos hds (x:=vu) rfl (c_ (JW hos hds (x:=.none) rfl (i_ ?_)))))));refine c_ (slicePart_none ?_);show p_ _ _ (if ((1:Int)==0)=true then _ else _) _ _ s;rw[if_neg (by decide)];refine c_ (z9 pl (c_ (z9 pu (c_ (i_ ?_)))));show p_ _ _ (match Ld lo hi 1 (n:Int)with|(lo,hi)=>pure (lo,(1:Int),Kv lo hi 1)) _ _ s;rw[Ia lo hi n];show p_ _ _ (pure (((sIx n 0 lo:Nat):Int),(1:Int),Kv ((sIx n 0 lo:Nat):Int) ((sIx n n hi:Nat):Int) 1)) _ _ s;rw[HL];exact i_ h
theorem Fx(xs:Array b_)(i k:Nat):((q_ k).filterMap fun(m:Nat)=>xs[((i:Int)+(m:Int)*1).toNat]?).toArray=((xs.toList.drop i).take k).toArray:=by
 have e:(fun(m:Nat)=>xs[((i:Int)+(m:Int)*1).toNat]?)=fun m=>xs[i+m]?:=by
  funext m;have:((i:Int)+(m:Int)*1).toNat=i+m:=by omega
  rw[this]
 rw[e];have:=pick_run xs i k;rw[List.filterMap_map]at this;have e2:((fun x=>xs[x]?)∘fun x=>i+x)=fun m=>xs[i+m]?:=rfl;rw[e2]at this;rw[this]
theorem cO{t sl:Addr}{items:Array b_}{vl vu:b_}{lo hi:Option Int}{Q:b_->e_->Prop}(ht:OG s.heap t items)(hs:s.heap.IsSliceOf sl vl vu .none)(pl:MX vl lo)(pu:MX vu hi)(hw:¬ (sIx items.size 0 lo=0/\sIx items.size items.size hi=items.size))(h:Q (.ref s.heap.objs.size) { s with heap:=s.heap.push { cls:=.type "tuple",data:=.seq ((items.toList.drop (sIx items.size 0 lo)).take (sIx items.size items.size hi-sIx items.size 0 lo)).toArray } })(hsz:items.size<=sizeLine):p_ (y_ prog w) A (MY (.ref t) (.ref sl)) Q E s:=by
 have htake:sizeOk (.seq ((items.toList.drop (sIx items.size 0 lo)).take (sIx items.size items.size hi-sIx items.size 0 lo)).toArray):=by show((items.toList.drop (sIx items.size 0 lo)).take (sIx items.size items.size hi-sIx items.size 0 lo)).toArray.size<=sizeLine;rw[o_,JM,K_,Mb];omega
 have hj:sIx items.size items.size hi<=items.size:=DT _ _ (w_ _) hi;obtain⟨os,hos,hcs,hds⟩:=id hs;have hTs:s.TypeIs (.ref sl) "slice" := ⟨os,hos,hcs⟩
 unfold MY
 try with_reducible refine J6 ?_
 first|refine c_ (i_ ?_)|skip
 refine c_ (N3 ht.typeIs (by decide) ?_);refine c_ (KI (name:=F_ "__getitem__") ht.typeIs Jy
  (LV Jy ht.typeIs entry_tuple_getitem ?_ (args_tuple_getitem _ _)))
 show p_ _ _ (Mo (.ref t) >>= _) _ _ s;refine c_ (tupleItemsOf_ ht ?_);refine c_ (MZ hTs ?_);rw[if_pos (by decide)];refine c_ (bS hs pl pu ?_);have hno:¬ ((((sIx items.size 0 lo:Nat):Int)==0&&(1:Int)==1&&(sIx items.size items.size hi-sIx items.size 0 lo)==items.size)=true):=by intro q;rw[Jx,Jx]at q;have q1:((sIx items.size 0 lo:Nat):Int)=0:=Ly q.1.1;have q2:sIx items.size items.size hi-sIx items.size 0 lo=items.size:=Ly q.2;exact hw ⟨by omega,by omega⟩
 show p_ _ _ (if (((sIx items.size 0 lo:Nat):Int)==0&&(1:Int)==1&&(sIx items.size items.size hi-sIx items.size 0 lo)==items.size)=true then _ else _) _ _ s;rw[if_neg hno,Fx]
 first
  |exact c_ (m:=KA _) (J8 (i_ ⟨_,rfl,i_ h⟩) htake)
  |exact c_ (m:=KA _) (J8 (c_ (i_ (i_ ⟨_,rfl,i_ h⟩))) htake)
  |exact c_ (c_ (m:=KA _) (J8 (i_ (i_ ⟨_,rfl,i_ h⟩)) htake))
  |exact c_ (c_ (m:=KA _) (J8 (i_ ⟨_,rfl,i_ h⟩) htake))
end
end HT
namespace L2
open PySem PySem.Spec PyProof.Rows
abbrev TO:=St->Hp->(Option Int->Hp->Prop)->Prop
def PO(X:Cx)(e:Option Expr)(t:TO):Prop:=∀(pz:List (Addr×Obj))(s:e_)(σ:St)(H:Hp)(Q:Option Int->Hp->Prop),Inv X pz σ H s->t σ H Q ->p_ (y_ X.prog X.w) X.A (evalPart e X.env) (fun u s'=>∃o H',Inv X pz σ H' s'/\MX u o/\Q o H') X.xe s
def EY:TO:=fun _ H Q=>Q none H
def BV(t:TE):TO:=fun σ H Q=>t σ H fun x H1=>∃i,x=.int i/\Q (some i) H1
theorem HE{ns:List Int}:∀{us:List b_},al (ns.map V.int) us->M0 us ns:=by induction ns with
|nil=>intro us r;rw[N4]at r;cases r;exact .nil
|cons n ns ih=>intro us r;rw[A_]at r;cases r with
 |cons r1 r2=>obtain⟨t,e⟩:=r1;subst e;exact .cons n t (ih r2)
section
variable{X:Cx}{e:Expr}{te:TE}{lo hi:Option Expr}{tl th:TO}{pos p2:Pos}
theorem EJ:PO X none EY:=by intro pz s σ H Q I h;rw[evalPart_none];exact i_ ⟨none,H,I,.none,h⟩
theorem EK(h:PE X e te):PO X (some e) (BV te):=by intro pz s σ H Q I hw;rw[evalPart_some];refine aO (h pz s σ H _ I hw) fun u s1 ⟨x,H1,I1,r1,q1⟩=>?_;obtain⟨i,rfl,q⟩:=q1;obtain⟨t,rfl⟩:=r1;exact⟨some i,H1,I1,.int i t,q⟩
def iU(X:Cx)(r:V->Option Int->Option Int->Hp->VK->Prop):Prop:=∀(pz:List (Addr×Obj))(s:e_)(σ:St)(H:Hp)(x:V)(v vl vu:b_)(lo hi:Option Int)(sl:Addr)(Q:VK),Inv X pz σ H s->ar x v->s.heap.IsSliceOf sl vl vu .none->MX vl lo->MX vu hi->r x lo hi H Q ->∃T id,typeLookup (.type T) "__getitem__" = pure (some (.builtin id))/\s.TypeIs v T/\p_ (y_ X.prog X.w) X.A (MY v (.ref sl)) (EP X pz σ Q) X.xe s
theorem iU.or{r r':V->Option Int->Option Int->Hp->VK->Prop}(h:iU X r)(h':iU X r'):iU X (fun x lo hi H Q=>r x lo hi H Q\/r' x lo hi H Q):=by
 intro pz s σ H x v vl vu lo hi sl Q I rx hs pl pu q;rcases q with q|q
 .exact h pz s σ H x v vl vu lo hi sl Q I rx hs pl pu q
 .exact h' pz s σ H x v vl vu lo hi sl Q I rx hs pl pu q
def IW(r:V->Option Int->Option Int->Hp->VK->Prop)(te:TE)(tl th:TO):TE:=fun σ H Q=>te σ H fun x H1=>tl σ H1 fun l H2=>th σ H2 fun u H3=>r x l u H3 Q
theorem zg{r:V->Option Int->Option Int->Hp->VK->Prop}(hr:iU X r)(he:PE X e te)(hl:PO X lo tl)(hu:PO X hi th):PE X (.Subscript e (.Slice lo hi none p2) pos) (IW r te tl th):=by intro pz s σ H Q I h;refine Subscript_ (aO (he pz s σ H _ I h) fun v s1 ⟨x,H1,I1,r1,q1⟩=>?_);refine wpAny_Slice (aO (hl pz s1 σ H1 _ I1 q1) fun vl s2 ⟨l,H2,I2,pl,q2⟩=>aO (hu pz s2 σ H2 _ I2 q2) fun vu s3 ⟨u,H3,I3,pu,q3⟩=>?_);rw[evalPart_none];refine i_ ?_;have I4:Inv X pz σ H3 { s3 with heap:=s3.heap.push { cls:=.type "slice",data:=.fields #[vl,vu,.none] } }:=I3.kept (t':=s3.toks) fun b ob q=>j_ _ q;obtain⟨T,id,hT,ht,hg⟩:=hr pz { s3 with heap:=s3.heap.push { cls:=.type "slice",data:=.fields #[vl,vu,.none] } } σ H3 x v vl vu l u s3.heap.objs.size Q I4 r1 (Heap.IsSliceOf.new ..) pl pu q3;show p_ (y_ X.prog X.w) X.A (subscriptTail e (.Slice lo hi none p2) v (.ref s3.heap.objs.size)) (EP X pz σ Q) X.xe { s3 with heap:=s3.heap.push { cls:=.type "slice",data:=.fields #[vl,vu,.none] } };exact tail_any (ops:=[.ref s3.heap.objs.size,v]) ht hT hg (by with_unfolding_all rfl)
def gK(xs:List V)(lo hi:Option Int):List V:=(xs.drop (HT.sIx xs.length 0 lo)).take (HT.sIx xs.length xs.length hi-HT.sIx xs.length 0 lo)
theorem zY(xs:List V)(lo hi:Option Int):(gK xs lo hi).length<=xs.length:=by unfold gK;rw[JM,K_];omega
def uK(K:W.Frag):V->Option Int->Option Int->Hp->VK->Prop:=fun x lo hi H Q=>∃a xs,x=.ref a/\cr K H a xs /\¬ (HT.sIx xs.length 0 lo=0/\HT.sIx xs.length xs.length hi=xs.length)/\∀p,H p=none->Q (.ref p) (upd H p (.tup (gK xs lo hi)))
theorem DB:iU X (uK X.K):=by
 intro pz s σ H x v vl vu lo hi sl Q I rx hs pl pu h;obtain⟨a,xs,rfl,hx,hw,q⟩:=h;cases rx;obtain⟨its,r,ht,hz⟩:=I.tuple hx;have hlen:its.toArray.size=xs.length:=by rw[o_];exact r.length.symm
 refine⟨"tuple",_,Jy.lookup,ht.typeIs,?_⟩;refine HT.cO ht hs pl pu (by rw[hlen];exact hw) ?_ (by rw[hlen];exact hz);rw[hlen];refine⟨.ref s.heap.objs.size,_,I.laid (t':=s.toks) (o:=.tup (gK xs lo hi)) (fun b ob q=>j_ _ q) (w_ _) ?_,rfl,q _ (I.hok.fresh (w_ _))⟩;exact⟨JE (zY xs lo hi) hz,_,(r.drop (HT.sIx xs.length 0 lo)).take (HT.sIx xs.length xs.length hi-HT.sIx xs.length 0 lo),Pv _ _,_,D_ _ rfl,rfl⟩
def wB(K:W.Frag):R2:=fun x y H Q=>∃a b xs ys,x=.ref a/\y=.ref b/\cr K H a xs/\cr K H b ys/\xs≠[]/\xs.length+ys.length<=sizeLine /\(ys=[]->Q (.ref a) H)/\(ys≠[]->∀p,H p=none->Q (.ref p) (upd H p (.tup (xs++ys))))
theorem al.nil_iff{xs:List V}{us:List b_}(r:al xs us):us=[]↔xs=[]:=by cases r with
|nil=>simp
|cons _ _=>simp
theorem Ey:bZ X (Kr .Add) (wB X.K):=by intro pz s σ H x y v u Q I rx ry h;obtain⟨a,b,xs,ys,rfl,rfl,ha,hb,hx,hz,q1,q2⟩:=h;cases rx;cases ry;obtain⟨its,r1,p1,_⟩:=I.tuple ha;obtain⟨its2,r2,p2,_⟩:=I.tuple hb;refine HT.jp p1 p2 (fun z=>hx (r1.nil_iff.mp z)) (fun z=>⟨.ref a,H,I,rfl,q1 (r2.nil_iff.mp z)⟩) (fun z=>?_) (by rw[<-r1.length,<-r2.length];exact hz);refine⟨.ref s.heap.objs.size,_,I.laid (t':=s.toks) (o:=.tup (xs++ys)) (fun b ob q=>j_ _ q) (w_ _) ?_,rfl,q2 (fun w=>z (r2.nil_iff.mpr w)) _ (I.hok.fresh (w_ _))⟩;exact⟨by rw[JH];exact hz,_,r1.append r2,Pv _ _,_,D_ _ rfl,rfl⟩
end
def c8(n:Nat)(i:Int):Option Nat:=if 0<=i then(if i<n then some i.toNat else none)else if-(n:Int)<=i then some (i+n).toNat else none
def dY{α:Type}(xs:List α)(i:Int):Option α:=(c8 xs.length i).bind fun j=>xs[j]?
theorem rE{n:Nat}{i:Int}{j:Nat}(h:c8 n i=some j):seqIndex? i n=some j/\j<n/\-(n:Int)<=i/\i<n:=by
 unfold c8 at h;by_cases h0:0<=i
 .rw[if_pos h0]at h;by_cases h1:i<n
  .rw[if_pos h1]at h;have e:i.toNat=j:=B_ h;exact⟨by rw[Ov h0 h1,e],by omega,by omega,h1⟩
  .rw[if_neg h1]at h;cases h
 .rw[if_neg h0]at h;by_cases h1 : -(n:Int)<=i
  .rw[if_pos h1]at h;have e:(i+n).toNat=j:=B_ h;exact⟨by rw[seqIndex_neg (by omega) h1,e],by omega,h1,by omega⟩
  .rw[if_neg h1]at h;cases h
theorem rm{α:Type}{xs:List α}{i:Int}{v:α}(h:dY xs i=some v):∃j,seqIndex? i xs.length=some j/\xs[j]? = some v/\j<xs.length/\-(xs.length:Int)<=i/\i<xs.length:=by unfold dY at h;cases e:c8 xs.length i with
|none=>rw[e]at h;cases h
|some j=>rw[e]at h;obtain⟨h1,h2,h3,h4⟩:=rE e;exact⟨j,h1,h,h2,h3,h4⟩
def mz(b:Expr):Prop:=∀o i,subscripted b false o i=operate [o,i] (MY o i)
def iz(X:Cx)(r:R2):Prop:=∀(value slice:Expr)(pz:List (Addr×Obj))(s:e_)(σ:St)(H:Hp)(x y:V)(v u:b_)(Q:VK),Inv X pz σ H s->ar x v->ar y u->r x y H Q ->subscripted slice false v u=operate [v,u] (MY v u)->p_ (y_ X.prog X.w) X.A (subscriptTail value slice v u) (EP X pz σ Q) X.xe s
def kH(X:Cx)(id:String)(r:V->List V->Hp->VK->Prop):Prop:=∀(pz:List (Addr×Obj))(s:e_)(σ:St)(H:Hp)(x:V)(xs:List V)(v:b_)(us:List b_)(Q:VK),Inv X pz σ H s->ar x v->al xs us->r x xs H Q ->p_ (y_ X.prog X.w) X.A (call (.builtin id) (v::us)) (EP X pz σ Q) X.xe s
section
variable{X:Cx}{a b:Expr}{ta tb:TE}{pos:Pos}
theorem iz.or{r r':R2}(h:iz X r)(h':iz X r'):iz X (fun x y H Q=>r x y H Q\/r' x y H Q):=by
 intro value slice pz s σ H x y v u Q I rx ry q hs;rcases q with q|q
 .exact h value slice pz s σ H x y v u Q I rx ry q hs
 .exact h' value slice pz s σ H x y v u Q I rx ry q hs
theorem kH.or{id:String}{r r':V->List V->Hp->VK->Prop}(h:kH X id r)(h':kH X id r'):kH X id (fun x xs H Q=>r x xs H Q\/r' x xs H Q):=by
 intro pz s σ H x xs v us Q I rx rs q;rcases q with q|q
 .exact h pz s σ H x xs v us Q I rx rs q
 .exact h' pz s σ H x xs v us Q I rx rs q
theorem qv{r:R2}(hr:iz X r)(ha:PE X a ta)(hb:PE X b tb)(hs:mz b):PE X (.Subscript a b pos) (lH r ta tb):=by intro pz s σ H Q I h;exact Subscript_ (kA ha hb I h fun v u s2 x y H2 I2 rx ry q=>hr a b pz s2 σ H2 x y v u Q I2 rx ry q (hs _ _))
def nE(K:W.Frag):R2:=fun x y H Q=>∃p xs i v,x=.ref p/\y=.int i/\bb K H p xs/\dY xs i=some v/\Q v H
def nB(K:W.Frag):R2:=fun x y H Q=>∃p xs i v,x=.ref p/\y=.int i/\cr K H p xs/\dY xs i=some v/\Q v H
def nC:R2:=fun x y H Q=>∃z i c,x=.str z/\y=.int i/\z.length<=sizeLine/\dY z.cps.toList i=some c/\Q (.str ⟨#[c]⟩) H
theorem rF:iz X (nE X.K):=by
 intro value slice pz s σ H x y v u Q I rx ry h hs;obtain⟨p,xs,i,z,rfl,rfl,hq,he,q⟩:=h;cases rx;obtain⟨t,rfl⟩:=ry;obtain⟨its,r,pl,hz⟩:=I.list hq;obtain⟨j,h1,h2,h3,h4,h5⟩:=rm he;obtain⟨w,ew,rw'⟩:=r.get h2;have hl:=r.length;have hn:=kW;have fin:EP X pz σ Q w s:=⟨z,H,I,rw',q⟩
 by_cases h0:0<=i
 .have hj:i.toNat=j:=by rw[Ov h0 h5]at h1;exact B_ h1
  exact item_listR pl.isList h0 (by omega) (by rw[hj];simpa using ew) fin hs
 .have hj:(i+(its.toArray.size:Int)).toNat=j:=by rw[seqIndex_neg (by omega) h4]at h1;rw[o_,<-hl];exact B_ h1
  exact M3 (x:=w) pl.isList.typeIs N5.lookup
   (wpAny_getItem_list_neg (Q:=fun r s'=>r=w/\EP X pz σ Q r s') pl.isList (by omega) (by rw[o_] <;> omega) (by omega) (by rw[hj];simpa using ew) ⟨rfl,fin⟩) hs
theorem CG:iz X (nB X.K):=by
 intro value slice pz s σ H x y v u Q I rx ry h hs;obtain⟨p,xs,i,z,rfl,rfl,hq,he,q⟩:=h;cases rx;obtain⟨t,rfl⟩:=ry;obtain⟨its,r,pl,hz⟩:=I.tuple hq;obtain⟨j,h1,h2,h3,h4,h5⟩:=rm he;obtain⟨w,ew,rw'⟩:=r.get h2;have hl:=r.length;have hn:=kW;have fin:EP X pz σ Q w s:=⟨z,H,I,rw',q⟩
 exact M3 (x:=w) pl.typeIs Jy.lookup
  (getItem_tuple (j:=j) (Q:=fun r s'=>r=w/\EP X pz σ Q r s') pl (by omega) (by omega) (by rw[o_,<-hl];exact h1) (by simpa using ew) ⟨rfl,fin⟩) hs
theorem CD:iz X nC:=by
 intro value slice pz s σ H x y v u Q I rx ry h hs;obtain⟨z,i,c,rfl,rfl,hz,he,q⟩:=h;obtain⟨t,rfl⟩:=rx;obtain⟨t',rfl⟩:=ry;obtain⟨j,h1,h2,h3,h4,h5⟩:=rm he;have hl:z.cps.toList.length=z.length:=by simp[Str.length]
 rw[hl]at h1 h4 h5;have hn:=kW;exact tail_any (typeIs_str s z t) slot_str_getitem.lookup (getItem_str (c:=c) (by have e1:decide (i < -(2^63:Int))=false:=decide_eq_false (by omega);have e2:decide (i>=2^63)=false:=decide_eq_false (by omega);rw[e1,e2,Bool.or_false]) (by rw[h1];simpa using h2) ⟨.str ⟨#[c]⟩,H,I.tok _,⟨_,rfl⟩,q⟩) hs
def uN(K:W.Frag):R2:=fun x y H Q=>nE K x y H Q\/nB K x y H Q\/nC x y H Q
theorem CC:iz X (uN X.K):=rF.or (CG.or CD)
theorem HJ(its:List b_)(n j:Nat)(u:b_):M4 (·.setIfInBounds j u) { cls:=.type "list",data:=.seq its.toArray n }={ cls:=.type "list",data:=.seq (its.set j u).toArray n }:=by simp[M4]
theorem Inv.lst{pz:List (Addr×Obj)}{σ:St}{H:Hp}{s:e_}{p:Addr}{xs:List V}(I:Inv X pz σ H s)(h:H p=some (.lst xs)):∃(its:List b_)(n:Nat),al xs its/\s.heap.get? p=some { cls:=.type "list",data:=.seq its.toArray n }/\xs.length<=sizeLine:=by obtain⟨z,its,n,r,e⟩:=I.hok p _ h;exact⟨its,n,r,e,z⟩
theorem Inv.lstUpd{pz:List (Addr×Obj)}{σ:St}{H:Hp}{s:e_}{p:Addr}{xs ys:List V}{its its':List b_}{n n':Nat}{f:Obj->Obj}(I:Inv X pz σ H s)(h:H p=some (.lst xs))(ho:s.heap.get? p=some { cls:=.type "list",data:=.seq its.toArray n })(hf:f { cls:=.type "list",data:=.seq its.toArray n }={ cls:=.type "list",data:=.seq its'.toArray n' })(r:al ys its')(hz:ys.length<=sizeLine)(t:Nat):Inv X pz σ (upd H p (.lst ys)) { s with heap:=s.heap.update p f,toks:=t }:=by
 have e:(s.heap.update p f).get? p=some { cls:=.type "list",data:=.seq its'.toArray n' }:=by rw[JI f ho (by rw[hf] <;> rfl),hf]
 refine I.write (x:=p) (e:=p) (by rw[h];trivial) (.inl rfl) (fun b u hb q=>(M5 _ _ (JX hb)).trans q) ⟨_,e⟩ ?_;exact⟨hz,its',n',r,e⟩
def wE:V->V->V->Hp->(Hp->Prop)->Prop:=fun o i v H Q=>∃p xs k j,o=.ref p/\i=.int k/\H p=some (.lst xs)/\c8 xs.length k=some j/\Q (upd H p (.lst (xs.set j v)))
theorem rN:fg X wE:=by
 intro pz s σ H o i v ov iv u Q I ro ri rv h;obtain⟨p,xs,k,j,rfl,rfl,hp,hj,q⟩:=h;cases ro;obtain⟨t,rfl⟩:=ri;obtain⟨its,n,r,ho,hz⟩:=I.lst hp;obtain⟨h1,h2,h3,h4⟩:=rE hj;have hl:=r.length;have hn:=kW;have I':Inv X pz σ (upd H p (.lst (xs.set j v))) { s with heap:=s.heap.update p (M4 (·.setIfInBounds j u)) }:=I.lstUpd hp ho (HJ its n j u) (r.set rv j) (by rw[JD];exact hz) s.toks;by_cases h0:0<=k
 .have hk:k.toNat=j:=by rw[Ov h0 h4]at h1;exact B_ h1
  exact W.ki_setAt ho h0 (by omega) (by rw[o_,<-hl];exact h4) (by rw[hk];exact⟨_,I',q⟩)
 .have hk:(k+(its.toArray.size:Int)).toNat=j:=by rw[seqIndex_neg (by omega) h3]at h1;rw[o_,<-hl];exact B_ h1
  exact W.ki_setBack ho (by omega) (by rw[o_,<-hl];exact h3) (by omega) (by rw[hk];exact⟨_,I',q⟩)
theorem Iy(lo hi:Option Int)(n:Nat):(Lz lo hi none n).1=((HT.sIx n 0 lo:Nat):Int)/\(Lz lo hi none n).2.1=((HT.sIx n n hi:Nat):Int)/\(Lz lo hi none n).2.2=1:=by
 refine⟨?_,?_,rfl⟩
 .cases lo with
 |none=>simp[Lz,HT.sIx]
 |some i=>
   simp only[Lz,HT.sIx,Om,show(1:Int)>0 by decide,if_true];by_cases h:i<0
   .simp only[h,if_true] <;> omega
   .simp only[h,if_false] <;> omega
 .cases hi with
 |none=>simp[Lz,HT.sIx]
 |some i=>
   simp only[Lz,HT.sIx,Om,show(1:Int)>0 by decide,if_true];by_cases h:i<0
   .simp only[h,if_true] <;> omega
   .simp only[h,if_false] <;> omega
theorem Iv(its:List b_)(lo hi:Option Int):slicePick its.toArray lo hi none=((its.drop (HT.sIx its.length 0 lo)).take (HT.sIx its.length its.length hi-HT.sIx its.length 0 lo)).toArray:=by obtain⟨h1,h2,h3⟩:=Iy lo hi its.toArray.size;unfold slicePick;rw[h1,h2,h3];simp only[sliceRange_one,pick_run,o_] <;> rfl
def uL(K:W.Frag):V->Option Int->Option Int->Hp->VK->Prop:=fun x lo hi H Q=>∃a xs,x=.ref a/\bb K H a xs/\∀p,H p=none->Q (.ref p) (upd H p (.lst (gK xs lo hi)))
theorem yD:iU X (uL X.K):=by intro pz s σ H x v vl vu lo hi sl Q I rx hs pl pu h;obtain⟨a,xs,rfl,hx,q⟩:=h;cases rx;obtain⟨its,r,ht,hz⟩:=I.list hx;have hlen:=r.length;refine⟨"list",_,N5.lookup,ht.isList.typeIs,?_⟩;refine wpAny_getItem_list_slice ht.isList hs pl pu .none (by simp) ?_ (by rw[o_] <;> omega);rw[Iv,<-hlen];refine⟨.ref s.heap.objs.size,_,I.laid (t':=s.toks) (o:=.lst (gK xs lo hi)) (fun b ob q=>j_ _ q) (w_ _) ?_,rfl,q _ (I.hok.fresh (w_ _))⟩;exact⟨JE (zY xs lo hi) hz,_,0,(r.drop (HT.sIx xs.length 0 lo)).take (HT.sIx xs.length xs.length hi-HT.sIx xs.length 0 lo),D_ _ rfl⟩
def AS:V->Bool
|.non=>true
|.bl _=>true
|.int _=>true
|.str _=>true
|_=>false
def AG:V->V->Bool
|.non,.non=>true
|.bl a,.bl b=>a==b
|.bl a,.int b=>(if a then 1 else 0)==b
|.int a,.bl b=>a==(if b then 1 else 0)
|.int a,.int b=>a==b
|.str a,.str b=>a==b
|_,_=>false
theorem dZ.or{f:b_}{r r':List V->Hp->VK->Prop}(h:dZ X f r)(h':dZ X f r'):dZ X f (fun xs H Q=>r xs H Q\/r' xs H Q):=by
 intro pz s σ H xs us Q I rs q;rcases q with q|q
 .exact h pz s σ H xs us Q I rs q
 .exact h' pz s σ H xs us Q I rs q
theorem Ik:dZ X (.type "list") (fun xs H Q=>∃p ys,xs=[.ref p]/\(bb X.K H p ys\/cr X.K H p ys)/\∀l,H l=none->Q (.ref l) (upd H l (.lst ys))):=by
 intro pz s σ H xs us Q I r h;obtain⟨p,ys,rfl,hq,q⟩:=h;obtain⟨u,rfl,rx⟩:=jB r;cases rx;have fin:∀(its:List b_),al ys its->ys.length<=sizeLine->∀(h':Heap)(c':Nat),(∀b o',s.heap.get? b=some o'->h'.get? b=some o') ->h'.get? s.heap.objs.size=some { cls:=.type "list",dict:=none,data:=.seq its.toArray c',slots:=#[] }->EP X pz σ Q (.ref s.heap.objs.size) { s with heap:=h' }:=fun its r' hz h' c' kp e=>⟨.ref s.heap.objs.size,_,I.laid (t':=s.toks) kp (w_ _) (show cE X.prog X.w _ h' _ (.lst ys)from⟨hz,its,c',r',e⟩),rfl,q _ (I.hok.fresh (w_ _))⟩
 rcases hq with hq|hq
 .obtain⟨its,r',pl,hz⟩:=I.list hq;have hlen:=r'.length;obtain⟨o,ho,hc,n,hd⟩:=pl.isList;exact call_list_seq p (.inl rfl) ho hc hd (fun h' c' kp e=>fin its r' hz h' c' kp e) (by simp only[o_] <;> omega)
 .obtain⟨its,r',pl,hz⟩:=I.tuple hq;have hlen:=r'.length;obtain⟨o,ho,hc,n,hd⟩:=pl;exact call_list_seq p (.inr rfl) ho hc hd (fun h' c' kp e=>fin its r' hz h' c' kp e) (by simp only[o_] <;> omega)
theorem Iz:dZ X (.type "tuple") (fun xs H Q=>∃p ys,xs=[.ref p]/\((bb X.K H p ys/\∀l,H l=none->Q (.ref l) (upd H l (.tup ys)))\/(cr X.K H p ys/\Q (.ref p) H))):=by
 intro pz s σ H xs us Q I r h;obtain⟨p,ys,rfl,h⟩:=h;obtain⟨u,rfl,rx⟩:=jB r;cases rx;rcases h with⟨hq,q⟩|⟨hq,q⟩
 .obtain⟨its,r',pl,hz⟩:=I.list hq;have hlen:=r'.length;refine call_tuple_list pl.isList (fun h' kp=>?_) (by simp only[o_] <;> omega);have I1:Inv X pz σ H { s with heap:=h' }:=I.kept (t':=s.toks) kp;have I2:Inv X pz σ (upd H h'.objs.size (.tup ys)) { s with heap:=h'.push { cls:=.type "tuple",data:=.seq its.toArray } }:=I1.laid (t':=s.toks) (fun b o e=>j_ _ e) (w_ _) (show cE X.prog X.w _ _ _ (.tup ys)from⟨hz,its,r',Pv _ _,_,D_ _ rfl,rfl⟩);exact⟨.ref h'.objs.size,_,I2,rfl,q _ (I1.hok.fresh (w_ _))⟩
 .obtain⟨its,r',pl,hz⟩:=I.tuple hq;exact call_tuple_same pl ⟨.ref p,H,I,rfl,q⟩
def pU(K:W.Frag)(T:String)(x:V)(H:Hp):Prop:=match x with
|.str _=>T = "str"
|.int _=>T = "int"
| .ref p=>(T = "list"/\∃xs,bb K H p xs)\/(T = "tuple"/\((∃o,K.lookup p=some o/\o.cls=.type "tuple"/\o.dict=none)\/∃xs,Rd H p (.tup xs))) \/
   (T = "dict"/\((∃kvs,Rd H p (.dK kvs))\/∃kvs,H p=some (.dT kvs)))\/(T = "set"/\∃S n,H p=some (.set S n))
|_=>False
theorem DM{pz:List (Addr×Obj)}{σ:St}{H:Hp}{s:e_}{T:String}{x:V}{v:b_}(I:Inv X pz σ H s)(r:ar x v)(ty:pU X.K T x H):s.TypeIs v T/\∀a,v=.ref a->∃ob,s.heap.get? a=some ob/\ob.dict=none:=by cases x with
|str z=>obtain⟨t,rfl⟩:=r;cases(show T = "str" from ty);exact⟨typeIs_str s z t,fun _ e=>nomatch e⟩
|int i=>obtain⟨t,rfl⟩:=r;cases(show T = "int" from ty);exact⟨OO s i t,fun _ e=>nomatch e⟩
|ref p=>
  cases r;rcases ty with⟨rfl,xs,hq⟩|⟨rfl,⟨o,hk,hc,hd⟩|⟨xs,hq⟩⟩|⟨rfl,hk⟩|⟨rfl,S,n,hk⟩
  .obtain⟨its,_,pl,_⟩:=I.list hq;refine⟨pl.isList.typeIs,fun a e=>?_⟩;cases e;obtain⟨o,n,e,c,hd,_⟩:=pl;exact⟨o,e,hd⟩
  .refine⟨⟨o,I.kIn p o hk,hc⟩,fun a e=>?_⟩;cases e;exact⟨o,I.kIn _ o hk,hd⟩
  .obtain⟨_,its,_,⟨o,ho,hc,_⟩,o2,ho2,hd2⟩:=hq.ok I.hok;refine⟨⟨o,ho,hc⟩,fun a e=>?_⟩;cases e;exact⟨o2,ho2,hd2⟩
  .have z:∃o,s.heap.get? p=some o/\o.ExactDict:=by
    rcases hk with⟨kvs,hk⟩|⟨kvs,hk⟩
    .obtain⟨_,_,_,_,o,_,_,e,ex,_⟩:=(show cE X.prog X.w H s.heap p (.dK kvs)from hk.ok I.hok)
     exact⟨o,e,ex⟩
    .obtain⟨_,_,_,_,o,_,_,e,ex,_⟩:=I.hok p _ hk;exact⟨o,e,ex⟩
   obtain⟨o,e,ex⟩:=z;refine⟨⟨o,e,ex.1⟩,fun a e2=>?_⟩;cases e2;exact⟨o,e,ex.2.1⟩
  .obtain⟨o,_,_,_,e,ex,_⟩:=I.hok p _ hk;refine⟨⟨o,e,ex.1⟩,fun a e2=>?_⟩;cases e2;exact⟨o,e,ex.2.1⟩
|_=>exact JG ty
def Jd(K:W.Frag)(T:String)(r:V->List V->Hp->VK->Prop)(to:TE)(t:TA):TE:=fun σ H Q=>to σ H fun x H1=>pU K T x H1/\t σ H1 fun xs H2=>r x xs H2 Q
variable{o e:Expr}{es:List Expr}{to:TE}{t:TA}{name:Str}{apos cpos:Pos}{T id:String}{r:V->List V->Hp->VK->Prop}
theorem wA(pa:PlainAttrs T)(slot:Slot T name id)(hty:PB (.builtin id)=pure (.type "method_descriptor"))(hm:kH X id r)(ho:PE X o to)(ha:PA X (e::es) t)(hbase:Kn o name X.env (eval o X.env)=eval o X.env:=by rfl)(hfew:((backTo cpos (g_ (e::es) X.env)).all (fun x=>! x.1)&&(MJ cpos (LA [] X.env)).all (fun x=>x.1.isSome)
   && decide ((e::es).length+([]:List Lr).length+(if ([]:List Lr).isEmpty then 0 else 1)<30))=true:=by rfl)(hline:(apos.endLine==cpos.line)=true:=by rfl)(hs:g_ (e::es) X.env=(false,eval e X.env)::g_ es X.env:=by rfl)(hplain:(backTo cpos (g_ es X.env)).any (·.1)=false:=by rfl):PE X (.Call (.Attribute o name apos) (e::es) [] cpos) (Jd X.K T r to t):=by intro pz s σ H Q I h;refine wpAny_Call_method_late hbase hfew hline rfl (aO (ho pz s σ H _ I h) fun v s1 ⟨x,H1,I1,r1,ty,q1⟩=>?_);obtain⟨h1,h2⟩:=DM I1 r1 ty;refine⟨T,id,pa,slot,hty,h1,h2,?_⟩;have hA:=ha cpos pz s1 σ H1 _ I1 q1;rw[hs]at hA ⊢;refine M6 (by show(false || (backTo cpos (g_ es X.env)).any (·.1))=false;rw[hplain] <;> rfl) (Nl ?_);exact aO hA fun us s2 ⟨vs,H2,I2,r2,q2⟩=>hm pz s2 σ H2 x vs v us Q I2 r1 r2 q2
end
def Jp(X:Cx)(id:String)(r:V->List V->Hp->VK->Prop):Prop:=∀(pz:List (Addr×Obj))(s:e_)(σ:St)(H:Hp)(x:V)(xs:List V)(v:b_)(us:List b_)(Q:VK),Inv X pz σ H s->ar x v->al xs us->r x xs H Q ->p_ (y_ X.prog X.w) X.A (call (.builtin id) (v::us)) (EP X pz σ Q) X.xe s
theorem al.one{x:V}{us:List b_}(h:al [x] us):∃u,us=[u]/\ar x u:=by cases h with
|cons r t=>cases t;exact⟨_,rfl,r⟩
theorem al.zero:∀{us:List b_},al [] us->us=[]
|_,.nil=>rfl
theorem al.eraseIdx:∀{xs:List V}{us:List b_}(i:Nat),al xs us->al (xs.eraseIdx i) (us.eraseIdx i)
|_,_,_,.nil=>.nil
|_,_,0,.cons _ t=>t
|_,_,i+1,.cons r t=>.cons r (al.eraseIdx i t)
theorem al.reverse{xs:List V}{us:List b_}(h:al xs us):al xs.reverse us.reverse:=by induction h with
|nil=>exact .nil
|cons r t ih=>rw[LJ,LJ];exact al.append ih (.cons r .nil)
theorem al.rep{xs:List V}{us:List b_}(h:al xs us):∀k:Nat,al (t_ k xs).flatten (t_ k us).flatten
|0=>.nil
|k+1=>by rw[JN,JN,Kf,Kf];exact al.append h (al.rep h k)
theorem zv(its:List b_):∀(k:Nat)(acc:List b_),OP (fun x1 x2=>x1++x2) acc.toArray (t_ k its.toArray)=(acc++(t_ k its).flatten).toArray
|0,acc=>by simp
|k+1,acc=>by
  have e:acc.toArray++its.toArray=(acc++its).toArray:=by simp
  have e2:(acc++its)++(t_ k its).flatten=acc++(t_ (k+1) its).flatten:=by rw[JN,Kf,N6]
  rw[<-e2,<-zv its k (acc++its),<-e,JN,L9]
section
variable{X:Cx}{pz:List (Addr×Obj)}{σ:St}{H:Hp}{s:e_}{l b:Addr}{xs ys zs:List V}
theorem Inv.lset{its its':List b_}{n:Nat}{f:Array b_->Array b_}{t':Nat}(I:Inv X pz σ H s)(hH:H l=some (.lst xs))(e:s.heap.get? l=some { cls:=.type "list",data:=.seq its.toArray n })(hf:f its.toArray=its'.toArray)(hv:al ys its')(hz:ys.length<=sizeLine):Inv X pz σ (upd H l (.lst ys)) { s with heap:=s.heap.update l (M4 f),toks:=t' }:=by have q:=PySem.IsL.update e f;rw[hf]at q;refine I.write (x:=l) (e:=l) (by rw[hH];exact trivial) (.inl rfl) (fun b' u hb hu=>(M5 s.heap (M4 f) (JX hb)).trans hu) ⟨_,q⟩ ?_;exact⟨hz,its',_,hv,q⟩
theorem Inv.lnew{its:List b_}{t':Nat}(I:Inv X pz σ H s)(hv:al ys its)(hz:ys.length<=sizeLine):Inv X pz σ (upd H s.heap.objs.size (.lst ys)) { s with heap:=s.heap.push { cls:=.type "list",data:=.seq its.toArray },toks:=t' }:=I.laid (fun _ _ q=>j_ _ q) (w_ _) ⟨hz,its,0,hv,D_ _ rfl⟩
theorem Inv.fresh(I:Inv X pz σ H s):H s.heap.objs.size=none:=I.hok.fresh (w_ _)
theorem Inv.lstM(I:Inv X pz σ H s)(hH:H l=some (.lst xs)):xs.length<=sizeLine/\∃(its:List b_)(n:Nat),al xs its/\xs.length=its.length/\s.heap.get? l=some { cls:=.type "list",data:=.seq its.toArray n }:=by obtain⟨z,its,n,r,e⟩:=I.hok l _ hH;exact⟨z,its,n,r,r.length,e⟩
theorem Fl{n:Nat}(h:n<=sizeLine):Ln n=false:=by unfold Ln;exact decide_eq_false (by omega)
end
section
variable{X:Cx}
def yM:V->List V->Hp->VK->Prop:=fun x vs H Q=>∃l xs y,x=.ref l/\vs=[y]/\H l=some (.lst xs)/\xs.length<sizeLine/\Q .non (upd H l (.lst (xs++[y])))
theorem mR:Jp X "list.append" yM:=by intro pz s σ H x vs v us Q I rx rv h;obtain⟨l,xs,y,rfl,rfl,hH,hz,q⟩:=h;cases rx;obtain⟨u,rfl,ru⟩:=rv.one;obtain⟨z,its,n,r,hl,e⟩:=I.lstM hH;refine NI F.slot_list_append ⟨_,e,rfl⟩ F.entry_list_append (F.args_list_append_2 _ _) (PySem.list_append l its.toArray n u (by rw[o_];omega)) ⟨e,?_⟩;refine⟨.non,_,I.lset (its':=its++[u]) hH e (by simp) (r.append (.cons ru .nil)) ?_,rfl,q⟩;rw[JH,Ni];omega
def uM:R2:=fun x y H Q=>∃l k xs,x=.ref l/\y=.int k/\H l=some (.lst xs)/\-(2^63)<=k/\k<2^63/\xs.length*k.toNat<=sizeLine /\∀p,H p=none->Q (.ref p) (upd H p (.lst (t_ k.toNat xs).flatten))
theorem EQ{α:Type}(xs:List α)(k:Nat):(t_ k xs).flatten.length=k*xs.length:=by induction k with
|zero=>simp
|succ k ih=>rw[JN,Kf,JH,ih,Nat.succ_mul,PC]
theorem Cj:bZ X (Kr .Mult) uM:=by
 intro pz s σ H x y v u Q I rx ry h;obtain⟨l,k,xs,rfl,rfl,hH,h1,h2,hz,q⟩:=h;cases rx;obtain⟨t,rfl⟩:=ry;obtain⟨z,its,n,r,hl,e⟩:=I.lstM hH;have hlen:its.toArray.size*k.toNat<=sizeLine:=by rw[o_,<-hl];exact hz
 have hcap:¬ its.toArray.size*k.toNat>(2^63-1)/8:=by
  have:(sizeLine:Nat)<=(2^63-1)/8:=by decide
  omega
 have hfit:¬ (! Mp k)=true:=by rw[fitsIndex_both h1 h2];exact l_
 have hlong:¬ Ln (its.toArray.size*k.toNat)=true:=by rw[Fl hlen];exact l_
 have hnew:OP (fun x1 x2=>x1++x2) #[] (t_ (if its.toArray.isEmpty=true then 0 else k.toNat) its.toArray)=(t_ k.toNat its).flatten.toArray:=by
  have f0:∀m:Nat,OP (fun x1 x2=>x1++x2) #[] (t_ m its.toArray)=(t_ m its).flatten.toArray:=fun m=>by have:=zv its m [];rw[Oz]at this;exact this
  rw[f0];cases its with
 |nil=>simp
 |cons a r'=>rw[if_neg (by simp)]
 refine wpAny_binaryOp_repeat_ref (T := "list") (U := "int") (by decide) ⟨_,e,rfl⟩ (fun s'=>OO s' k t) noFill_list_mul F.fills_int_mul F.slot_int_rmul repeat_list F.slot_int_index.lookup
  (NI F.slot_int_rmul (OO s k t) F.entry_int_rmul (F.args_int_rmul_2 _ _) (int___rmul___int_list k t l its.toArray n)
   ⟨e,rfl,⟨_,e,rfl⟩,NI F.slot_list_mul ⟨_,e,rfl⟩ F.entry_list_mul (F.args_list_mul_2 _ _) (AutoListH.list___mul___list_int_3 l its.toArray n k t hfit hcap hlong) ⟨e,?_⟩⟩)
 rw[hnew];exact⟨.ref _,_,I.lnew (t':=s.toks) (r.rep k.toNat) (by rw[EQ,Nat.mul_comm];exact hz),rfl,q _ I.fresh⟩
end
section
variable{κ:Type}[DecidableEq κ]
def cU(kvs:List (κ×V))(k:κ):Option V:=(kvs.find? fun kv=>decide (kv.1=k)).map (·.2)
def cN(kvs:List (κ×V))(k:κ)(v:V):List (κ×V):=if (kvs.any fun kv=>decide (kv.1=k))=true then kvs.map (fun kv=>if kv.1=k then(kv.1,v)else kv)else kvs++[(k,v)]
def vQ(kvs:List (κ×V))(k:κ):List (κ×V):=kvs.filter fun kv=>decide (kv.1≠k)
theorem pd{p:κ×V}{r:List (κ×V)}{k:κ}(e:p.1=k):cU (p::r) k=some p.2:=by simp[cU,Kj,e]
theorem pc{p:κ×V}{r:List (κ×V)}{k:κ}(e:¬ p.1=k):cU (p::r) k=cU r k:=by simp[cU,Kj,e]
theorem zA(k:κ):∀kvs:List (κ×V),(kvs.any fun kv=>decide (kv.1=k))=(cU kvs k).isSome
|[]=>rfl
|p::r=>by
  rw[L4];by_cases e:p.1=k
  .simp only[pd e,decide_eq_true e,Bool.true_or,Option.isSome_some]
  .rw[pc e,decide_eq_false e,Bool.false_or];exact zA k r
theorem zZ(kvs:List (κ×V))(k:κ)(v:V):(cN kvs k v).length<=kvs.length+1:=by
 unfold cN;split
 .rw[n_];omega
 .rw[JH,G_,OA];omega
theorem cI.isSome_eq{o:Option V}{u:Option b_}(r:cI o u):o.isSome=u.isSome:=by cases o with
|none=>cases u with
 |none=>rfl
 |some _=>exact(show False from r).elim
|some _=>cases u with
 |none=>exact(show False from r).elim
 |some _=>rfl
theorem cI.getD{o:Option V}{u:Option b_}{d:V}{d':b_}(r:cI o u)(rd:ar d d'):ar (o.getD d) (u.getD d'):=by cases o with
|none=>cases u with
 |none=>exact rd
 |some _=>exact(show False from r).elim
|some _=>cases u with
 |none=>exact(show False from r).elim
 |some _=>exact r
theorem KV.val{kvs:List (κ×V)}{vs:List (κ×b_)}(r:KV kvs vs)(k:κ):cI (cU kvs k) (Nx vs k):=by
 unfold KV at r
 induction r with
|nil=>exact True.intro
|@cons p q ps qs h t ih=>
  obtain⟨h1,h2⟩:=h;by_cases e:p.1=k
  .have e':q.1=k:=h1.symm.trans e;have b:Nx (q::qs) k=some q.2:=by simp[Nx,Kj,e']
   rw[pd e,b];exact h2
  .have e':¬ q.1=k:=fun z=>e (h1.trans z);have b:Nx (q::qs) k=Nx qs k:=by simp[Nx,Kj,e']
   rw[pc e,b];exact ih
theorem KV.any{kvs:List (κ×V)}{vs:List (κ×b_)}(r:KV kvs vs)(k:κ):(kvs.any fun kv=>decide (kv.1=k))=vs.any fun kv=>decide (kv.1=k):=by
 unfold KV at r
 induction r with
|nil=>rfl
|cons h t ih=>rw[L4,L4,ih,h.1]
theorem KV.repl{kvs:List (κ×V)}{vs:List (κ×b_)}(r:KV kvs vs)(k:κ){y:V}{u:b_}(ry:ar y u):KV (kvs.map fun kv=>if kv.1=k then(kv.1,y)else kv) (vs.map fun kv=>if kv.1=k then(kv.1,u)else kv):=by
 unfold KV at r ⊢
 induction r with
|nil=>exact .nil
|@cons p q ps qs h t ih=>
  rw[A_,A_];refine .cons ?_ ih;obtain⟨h1,h2⟩:=h;by_cases e:p.1=k
  .rw[if_pos e,if_pos (h1.symm.trans e)];exact⟨h1,ry⟩
  .rw[if_neg e,if_neg (fun z=>e (h1.trans z))];exact⟨h1,h2⟩
theorem KV.put{kvs:List (κ×V)}{vs:List (κ×b_)}(r:KV kvs vs)(k:κ){y:V}{u:b_}(ry:ar y u):KV (cN kvs k y) (stored vs k u):=by
 unfold cN stored;rw[r.any k];by_cases e:(vs.any fun kv=>decide (kv.1=k))=true
 .rw[if_pos e,if_pos e];exact r.repl k ry
 .rw[if_neg e,if_neg e];exact Paired.snoc r ⟨rfl,ry⟩
theorem KV.drop{kvs:List (κ×V)}{vs:List (κ×b_)}(r:KV kvs vs)(k:κ):KV (vQ kvs k) (without vs k):=by
 unfold KV at r ⊢;unfold vQ without
 induction r with
|nil=>exact .nil
|@cons p q ps qs h t ih=>
  obtain⟨h1,h2⟩:=h;rw[KJ,KJ];by_cases e:p.1=k
  .have a:¬ decide (p.1≠k)=true:=by simp[e]
   have b:¬ decide (q.1≠k)=true:=by simp[h1.symm.trans e]
   rw[if_neg a,if_neg b];exact ih
  .have e':¬ q.1=k:=fun z=>e (h1.trans z);have a:decide (p.1≠k)=true:=by simp[e]
   have b:decide (q.1≠k)=true:=by simp[e']
   rw[if_pos a,if_pos b];exact .cons ⟨h1,h2⟩ ih
theorem KV.keys{kvs:List (κ×V)}{vs:List (κ×b_)}(r:KV kvs vs):kvs.map (·.1)=vs.map (·.1):=by
 unfold KV at r
 induction r with
|nil=>rfl
|cons h t ih=>rw[A_,A_,ih,h.1]
theorem KV.length{kvs:List (κ×V)}{vs:List (κ×b_)}(r:KV kvs vs):kvs.length=vs.length:=Paired.length r
end
theorem qE{P:u_}{w:H_}{k:aH}{u:b_}(r:ar (kV k) u):(gm P w).is k u=true:=by cases k with
|inl i=>obtain⟨t,e⟩:=(show ∃t,u=Value.int i t from r);subst e;exact Io P w i t
|inr x=>obtain⟨t,e⟩:=(show ∃t,u=Value.str x t from r);subst e;exact Ip P w x t
theorem zP{P:u_}{w:H_}:∀{ks:List aH}{us:List b_},al (ks.map kV) us->ItemsAre (gm P w) ks us
|[],_,r=>by rw[N4]at r;cases r;exact .nil
|k::ks,_,r=>by rw[A_]at r;cases r with
 |cons h t=>exact .cons (qE h) (zP t)
abbrev KT(H:Hp):List (List aH×V)->List (List aH×Addr×b_)->Prop:=Paired fun p q=>p.1=q.1/\H q.2.1=some (.tup (p.1.map kV))/\ar p.2 q.2.2
theorem KT.val{H:Hp}{kvs:List (List aH×V)}{xs:List (List aH×Addr×b_)}(r:KT H kvs xs)(k:List aH):cI (cU kvs k) ((Ow xs k).map (·.2)):=by induction r with
|nil=>exact True.intro
|@cons p q ps qs h t ih=>
  obtain⟨h1,_,h2⟩:=h;by_cases e:p.1=k
  .have e':q.1=k:=h1.symm.trans e;have b:Ow (q::qs) k=some q.2:=by simp[Ow,Kj,e']
   rw[pd e,b];exact h2
  .have e':¬ q.1=k:=fun z=>e (h1.trans z);have b:Ow (q::qs) k=Ow qs k:=by simp[Ow,Kj,e']
   rw[pc e,b];exact ih
theorem KT.repl{H:Hp}{kvs:List (List aH×V)}{xs:List (List aH×Addr×b_)}(r:KT H kvs xs)(k:List aH){y:V}{u:b_}(ry:ar y u):KT H (kvs.map fun kv=>if kv.1=k then(kv.1,y)else kv) (xs.map (putAt k u)):=by induction r with
|nil=>exact .nil
|@cons p q ps qs h t ih=>
  rw[A_,A_];refine .cons ?_ ih;obtain⟨h1,h2,h3⟩:=h;unfold putAt;by_cases e:p.1=k
  .rw[if_pos e,if_pos (h1.symm.trans e)];exact⟨h1,h2,ry⟩
  .rw[if_neg e,if_neg (fun z=>e (h1.trans z))];exact⟨h1,h2,h3⟩
theorem KT.put{H:Hp}{kvs:List (List aH×V)}{xs:List (List aH×Addr×b_)}(r:KT H kvs xs)(k:List aH){b:Addr}{y:V}{u:b_}(hb:H b=some (.tup (k.map kV)))(ry:ar y u):KT H (cN kvs k y) (storedH xs k b u):=by
 have e:(kvs.any fun kv=>decide (kv.1=k))=(Ow xs k).isSome:=by rw[zA,(r.val k).isSome_eq,Option.isSome_map]
 unfold cN storedH;rw[e];by_cases q:(Ow xs k).isSome=true
 .rw[if_pos q,if_pos q];exact r.repl k ry
 .rw[if_neg q,if_neg q];exact Paired.snoc r ⟨rfl,hb,ry⟩
theorem KT.keeps{H H':Hp}{kvs:List (List aH×V)}{xs:List (List aH×Addr×b_)}(r:KT H kvs xs)(ht:∀b ys,H b=some (.tup ys)->H' b=some (.tup ys)):KT H' kvs xs:=Paired.mapP r fun _ _ z=>⟨z.1,ht _ _ z.2.1,z.2.2⟩
section
variable{P:u_}{w:H_}{H:Hp}{h:Heap}{a:Addr}
theorem wF{u:HO}(ok:ce P w H h)(e:Rd H a u):cE P w H h a u:=e.ok ok
theorem nZ{kvs:List (aH×V)}(ok:ce P w H h)(e:Rd H a (.dK kvs)):kvs.length<=sizeLine/\(a==Ls)=false/\∃vs,KV kvs vs/\h.DictOf (gm P w) a vs:=show cE P w H h a (.dK kvs)from wF ok e
theorem AO{kvs:List (aH×V)}(ok:ce P w H h)(e:H a=some (.dK kvs)):kvs.length<=sizeLine/\(a==Ls)=false/\∃vs,KV kvs vs/\h.DictOf (gm P w) a vs:=nZ ok (.inl e)
theorem q8{ks:List aH}(ok:ce P w H h)(e:H a=some (.tup (ks.map kV))):(Nt (gm P w)).is h ks a:=by
 obtain⟨_,its,r,⟨o,h1,h2,n,h3⟩,_⟩:=(show cE P w H h a (.tup (ks.map kV))from ok a _ e)
 exact⟨o,its.toArray,n,h1,h2,h3,by simpa using zP r⟩
theorem qk{kvs:List (List aH×V)}(ok:ce P w H h)(e:Rd H a (.dT kvs)):kvs.length<=sizeLine/\(a==Ls)=false /\∃xs,KT H kvs xs/\h.DictOfH (Nt (gm P w)) a xs:=by
 obtain⟨z,y,xs,r,o,es,ep,h1,h2,h3,h4,h5⟩:=(show cE P w H h a (.dT kvs)from wF ok e)
 refine⟨z,y,xs,r,o,es,ep,h1,h2,h3,h4,fun x hx=>?_,h5⟩;have all:∀{l:List (List aH×V)}{m:List (List aH×Addr×b_)},KT H l m->∀x∈m,(Nt (gm P w)).is h x.1 x.2.1:=by
  intro l m q
  induction q with
 |nil=>intro x hx;exact nomatch hx
 |@cons p q ps qs hq t ih=>
   intro x hx;rcases C_.mp hx with e|hx
   .subst e;exact q8 ok (by rw[<-hq.1];exact hq.2.1)
   .exact ih x hx
 exact all r x hx
theorem AQ{kvs:List (List aH×V)}(ok:ce P w H h)(e:H a=some (.dT kvs)):kvs.length<=sizeLine/\(a==Ls)=false /\∃xs,KT H kvs xs/\h.DictOfH (Nt (gm P w)) a xs:=qk ok (.inl e)
end
def fX(H:Hp)(a:Addr)(y:V)(r:Option V):Prop:=(∃kvs k,Rd H a (.dK kvs)/\y=kV k/\r=cU kvs k)\/∃kvs k b,Rd H a (.dT kvs)/\y=.ref b/\H b=some (.tup (k.map kV))/\r=cU kvs k
def fW(H:Hp)(a:Addr)(y v:V)(H':Hp):Prop:=(∃kvs k,H a=some (.dK kvs)/\y=kV k/\kvs.length<sizeLine/\H'=upd H a (.dK (cN kvs k v))) \/∃kvs k b,H a=some (.dT kvs)/\y=.ref b/\H b=some (.tup (k.map kV))/\kvs.length<sizeLine/\H'=upd H a (.dT (cN kvs k v))
theorem fX.k{H:Hp}{a:Addr}{kvs:List (aH×V)}{k:aH}(e:H a=some (.dK kvs)):fX H a (kV k) (cU kvs k):=.inl ⟨kvs,k,.inl e,rfl,rfl⟩
theorem fX.t{H:Hp}{a b:Addr}{kvs:List (List aH×V)}{k:List aH}(e:H a=some (.dT kvs))(eb:H b=some (.tup (k.map kV))):fX H a (.ref b) (cU kvs k):=.inr ⟨kvs,k,b,.inl e,rfl,eb,rfl⟩
theorem fW.k{H:Hp}{a:Addr}{kvs:List (aH×V)}{k:aH}{v:V}(e:H a=some (.dK kvs))(hl:kvs.length<sizeLine):fW H a (kV k) v (upd H a (.dK (cN kvs k v))):=.inl ⟨kvs,k,e,rfl,hl,rfl⟩
theorem fW.t{H:Hp}{a b:Addr}{kvs:List (List aH×V)}{k:List aH}{v:V}(e:H a=some (.dT kvs))(eb:H b=some (.tup (k.map kV)))(hl:kvs.length<sizeLine):fW H a (.ref b) v (upd H a (.dT (cN kvs k v))):=.inr ⟨kvs,k,b,e,rfl,eb,hl,rfl⟩
section
variable{X:Cx}{pz:List (Addr×Obj)}{σ:St}{H:Hp}{s:e_}{a:Addr}{y v:V}{u r:b_}{o:Option V}{A:Jr}{E:b_->e_->Prop}
theorem Gy{Q:b_->e_->Prop}(hu:A.units+1<Mm)(I:Inv X pz σ H s)(g:fX H a y (some v))(ry:ar y u)(h:∀w' s',Inv X pz σ H s'->ar v w'->Q w' s'):p_ (y_ X.prog X.w) A (MY (.ref a) u) Q E s:=by
 rcases g with⟨kvs,k,e,ey,l⟩|⟨kvs,k,b,e,ey,eb,l⟩
 .subst ey;obtain⟨z,hd,vs,rel,dd⟩:=nZ I.hok e;obtain⟨w',hw,rw'⟩:=cI.some_of (v:=v) (o:=Nx vs k) (by rw[l];exact rel.val k);exact wpAny_getItem_of (qE ry) dd.mapOf hw (h w' _ (I.tok _) rw')
 .subst ey;cases(show u=Value.ref b from ry);obtain⟨z,hd,xs,rel,dd⟩:=qk I.hok e;obtain⟨w',hw,rw'⟩:=cI.some_of (v:=v) (o:=(Ow xs k).map (·.2)) (by rw[l];exact rel.val k);obtain⟨p,hp,hp2⟩:=M7.mp hw;refine wpAny_getItem_heap (NJ hu) (q8 I.hok eb) dd hp ?_;rw[hp2];exact h w' _ (I.tok _) rw'
theorem yo{h':Heap}{t':Nat}{ob:HO}(I:Inv X pz σ H s)(mu:nO (H a))(hs:Me a s.heap h')(he:∃q,h'.get? a=some q)(new:cE X.prog X.w (upd H a ob) h' a ob):Inv X pz σ (upd H a ob) { s with heap:=h',toks:=t' }:=I.write (x:=a) (e:=a) mu (.inl rfl) (fun b q hb z=>(hs.2 b hb).trans z) he new
theorem Bu{P:u_}{w:H_}{H':Hp}{h':Heap}{kvs:List (aH×V)}{vs:List (aH×b_)}(z:kvs.length<=sizeLine)(hd:(a==Ls)=false)(rel:KV kvs vs)(dd:h'.DictOf (gm P w) a vs):cE P w H' h' a (.dK kvs):=⟨z,hd,vs,rel,dd⟩
theorem Gz{H':Hp}{Q:Unit->e_->Prop}(hu:A.units+1<Mm)(I:Inv X pz σ H s)(g:fW H a y v H')(ry:ar y u)(rv:ar v r)(h:∀s',Inv X pz σ H' s'->Q () s'):p_ (y_ X.prog X.w) A (NV (.ref a) u r) Q E s:=by
 rcases g with⟨kvs,k,e,ey,l,eH⟩|⟨kvs,k,b,e,ey,eb,l,eH⟩
 .subst ey eH;obtain⟨z,hd,vs,rel,dd⟩:=AO I.hok e;have hz:vs.length<=sizeLine:=by rw[<-rel.length];exact z
  have hl:(cN kvs k v).length<=sizeLine:=by have:=zZ kvs k v;omega
  refine wpAny_setItem_pairs (hsz:=hz) (qE ry) dd fun h' dd' hs=>h _ ?_;have he:∃q,h'.get? a=some q:=let⟨q,_,_,hq,_⟩:=dd';⟨q,hq⟩;exact yo I (by rw[e];exact True.intro) hs he (Bu hl hd (rel.put k rv) dd')
 .subst ey eH;cases(show u=Value.ref b from ry);obtain⟨z,hd,xs,rel,dd⟩:=AQ I.hok e;have hz:xs.length<=sizeLine:=by rw[<-Paired.length rel];exact z
  have hl:(cN kvs k v).length<=sizeLine:=by have:=zZ kvs k v;omega
  refine wpAny_setItem_heap (hsz:=hz) (NJ hu) (q8 I.hok eb) dd fun h' dd' hs=>h _ ?_;obtain⟨q,es,ep,hq,h2,h3,h4,_,h5⟩:=dd';refine yo I (by rw[e];exact True.intro) hs ⟨q,hq⟩ ⟨hl,hd,_,(rel.put k eb rv).keeps fun c ys ec=>?_,q,es,ep,hq,h2,h3,h4,h5⟩;rw[aK (A1 ec e (fun z=>nomatch z))];exact ec
end
section
variable{X:Cx}{pz:List (Addr×Obj)}{σ:St}{H:Hp}{s:e_}{a:Addr}{kvs:List (aH×V)}{k:aH}{u:b_}{A:Jr}{E:b_->e_->Prop}
theorem AN{Q:b_->e_->Prop}(I:Inv X pz σ H s)(e:Rd H a (.dK kvs))(h:∀t s',Inv X pz σ H s'->Q (.int kvs.length t) s'):p_ (y_ X.prog X.w) A (call (.builtin "len") [.ref a]) Q E s:=by obtain⟨z,hd,vs,rel,dd⟩:=nZ I.hok e;refine call_len_dict hd dd (by rw[<-rel.length];rw[Jz]at z;omega) ?_;rw[<-rel.length];exact h _ _ (I.tok _)
end
theorem Il{X:Cx}{pz:List (Addr×Obj)}{σ:St}{H:Hp}{s:e_}{a:Addr}{y:V}{o:Option V}(I:Inv X pz σ H s)(g:fX H a y o):s.TypeIs (.ref a) "dict" := by
 rcases g with⟨kvs,k,e,_,_⟩|⟨kvs,k,b,e,_,_,_⟩
 .obtain⟨_,_,vs,_,dd⟩:=nZ I.hok e;exact dd.typeIs
 .obtain⟨_,_,xs,_,dd⟩:=qk I.hok e;exact dd.typeIs
structure M1(X:Cx)(o:Expr)(m:Str)(apos:Pos)(e:Expr)(cpos:Pos):Prop where
 base:Kn o m X.env (eval o X.env)=eval o X.env
 few:((backTo cpos (g_ [e] X.env)).all (fun x=>! x.1)&&(MJ cpos (LA [] X.env)).all (fun x=>x.1.isSome)
  && decide (([e]:List Expr).length+([]:List Lr).length+(if ([]:List Lr).isEmpty then 0 else 1)<30))=true
 line:(apos.endLine==cpos.line)=true
 trees:backTo cpos (g_ [e] X.env)=[(false,eval e X.env)]
structure M2(X:Cx)(o:Expr)(m:Str)(apos:Pos)(e f:Expr)(cpos:Pos):Prop where
 base:Kn o m X.env (eval o X.env)=eval o X.env
 few:((backTo cpos (g_ [e,f] X.env)).all (fun x=>! x.1)&&(MJ cpos (LA [] X.env)).all (fun x=>x.1.isSome)
  && decide (([e,f]:List Expr).length+([]:List Lr).length+(if ([]:List Lr).isEmpty then 0 else 1)<30))=true
 line:(apos.endLine==cpos.line)=true
 trees:backTo cpos (g_ [e,f] X.env)=[(false,eval e X.env),(false,eval f X.env)]
end L2
namespace Att
open PySem PySem.W PySem.Calls PyProof.Rows
theorem IG{P:Params}{h:Heap}:∀(ns:List Int)(vs:List b_),WellAll P h vs (ns.map WData.int)->M0 vs ns:=by
 intro ns
 induction ns with
|nil=>intro vs w;rw[N4]at w;cases w;exact .nil
|cons n ns ih=>intro vs w;rw[A_]at w;cases w with
 |cons a b=>cases a;exact .cons _ _ (ih _ b)
theorem Hd{l:OpenLaw}{n:Nat}(hn:l.most=some n){P:Params}{h:Heap}{args:List WData}{vals:List b_}(hpre:l.row.toRowW.claim.pre args=true)(hwl:WellAll P h vals args):∃a vs ns,vals=[Value.ref a]/\args=[WData.list (ns.map WData.int)]/\h.get? a=some { cls:=.type "list",data:=.seq vs.toArray }/\M0 vs ns/\ns.length<=n:=by
 have hsh:WShape.hasAll [] args [.list .int]=true:=(pre_splitW hpre).1;have hc:l.pre.holds [] { args:=args }=true:=(pre_splitW hpre).2;obtain⟨d,r,rfl,h1,h2⟩:=hasAllW_cons hsh;obtain rfl:=hasAllW_nil h2;obtain⟨xs,rfl,h3⟩:=hasW_list h1;obtain⟨ns,rfl⟩:=items_int h3;have hlen:ns.length<=n:=by
  unfold OpenLaw.pre at hc;have h4:(WTm.not (.lt (.lit (.int (n:Int))) (.len (.arg 0)))).holds [] { args:=[.list (ns.map .int)] }=true:=by have h4:=(holds_andW hc).1;rw[hn]at h4;exact h4
  have h5:=condW_of h4 (w_not (w_lt w_lit (w_len_list (w_arg rfl))));rw[n_]at h5;refine Nat.le_of_not_lt fun q=>?_;have q':(n:Int)<((ns.length:Nat):Int):=by omega
  first
   |(rw[decide_eq_true q']at h5;exact absurd h5 (by decide))
   |(simp at h5;omega)
 cases hwl with
|cons w1 w2=>cases w2;cases w1 with
 |list ho hall=>exact⟨_,_,ns,rfl,rfl,ho,IG ns _ hall,hlen⟩
theorem Hr(l:OpenLaw)(args:List WData):l.row.toRowW.claim.post args (.bool true) args=true:=
 postW_of (r:=l.row.toRowW) (X:=(true==true))
  (show P2 [] (.bool true) .bool=true by first|rfl|decide|simp[P2,WShape.arms,WShape.armsAll])
  (show(WTm.eq .res (.lit (.bool true))).value [] { args:=args,res:=some (.bool true),after:=args }=some (.bool (true==true))from w_eq_bool (w_res rfl) w_lit) rfl
theorem attach_call{l:OpenLaw}{n:Nat}{q:u_}{loose:List Str}{XP:(Str->Option b_)->Heap->Prop}{YP:H_->Heap->Prop}{d:DefRec}(hn:l.most=some n)(hdf:d.params.defaults=[])(call:∀(w:H_)(s₀ s₁:e_)(mg mb:Str->Option b_)(fa:Addr)(o:Obj)(pm cd doc:b_)(a:Addr)(vs:List b_)(ns:List Int),Ground q loose [] XP w s₀ mg mb s₁.heap->YP w s₁.heap ->s₁.heap.get? fa=some o->o.data=.func (docDef d.name d.params d.body d.scope pm cd doc)->s₁.heap.CodeRec cd d.name->mg d.name=some (.ref fa) ->s₁.heap.get? a=some { cls:=.type "list",data:=.seq vs.toArray }->M0 vs ns->ns.length<=n->s₁.gens = #[] ->MV (y_ l.prog w) M8 (.call (.ref fa) ⟨[.ref a],[]⟩) (fun r s'=>r=.ok (.ret (.bool true))/\OldK s₁.heap s'.heap/\s'.os=s₁.os/\LC s'.gens) s₁):WalkO q loose XP YP l.row.toRowW d [] (fun f vs=>OQ f vs):=by intro w s₀ s₁ mg mb G Y fa o pm cd doc dV kV ho hd hcd hD hmg hg args vals as hpre hlay hrd hwl hlo;obtain rfl:dV=.none:=Dflts.none hD hdf;obtain rfl:kV=.none:=Dflts.noKw hD;obtain⟨a,vs,ns,rfl,rfl,hobj,hints,hlen⟩:=Hd hn hpre hwl;refine enter_call (Mf (call w s₀ s₁ mg mb fa o pm cd doc a vs ns G Y ho (fd_plain hd) hcd hmg hobj hints hlen hg) fun r s' hq=>?_);obtain⟨rfl,h2,h3,h4⟩:=hq;exact⟨.inl ⟨.bool true,.bool true,[],rfl,fun _=>rfl,.bool true,Hr l _,fun _=>⟨List.Pairwise.nil,fun _ hm=>(nomatch hm)⟩⟩,h2,h3,h4⟩
end Att
namespace L2
open PySem PySem.Spec PyProof.Rows
theorem zO:∀{vs:List b_}{ns:List Int},M0 vs ns->al (ns.map V.int) vs
|_,_,.nil=>.nil
|_,_,.cons n t h=>.cons ⟨t,rfl⟩ (zO h)
def kG(H:Hp):Prop:=∀b,H b=none\/∃o xs,H b=some (.frz o (.lst xs))
theorem Gf{P:u_}{w:H_}{K:W.Frag}{mg mb:Str->Option b_}{CX:gx}{k:Nat}{fa a:Addr}{fd:JP}{x:Str}{sp:Sp}{s₁:e_}{vs:List b_}{ns:List Int}(KX:K.In s₁.heap)(hns:s₁.heap.Ns Jt mg)(hb:s₁.heap.Ns OH mb)(hbb:∀x:Str,x≠"__name__"->mb x=KN x)(hlim:s₁.heap.NoLimit)(hg:s₁.gens = #[])(ha:s₁.heap.get? a=some { cls:=.type "list",data:=.seq vs.toArray })(hi:M0 vs ns)(hl:ns.length<=sizeLine)(hr:Room k M8)(F:∀base:Heap,K.In base->base.Ns Jt mg->FnOk P w K mg base CX k fa fd [x] sp)(hbind:∀(s:e_)(u:b_),Nw s fd ⟨[u],[]⟩ [(x,u)])(hsp:∀H:Hp,kG H->bb K H a (ns.map V.int)->sp [.ref a] H (fun v _=>v=.bl true) fun _ _ _=>False)(hCX:∀H e s',CX [] H s₁ (fun _ _ _=>False) e s'->False):MV (y_ P w) M8 (.call (.ref fa) ⟨[.ref a],[]⟩) (fun r s'=>r=.ok (.ret (.bool true))/\OldK s₁.heap s'.heap/\s'.os=s₁.os/\LC s'.gens) s₁:=by
 have rv:=zO hi;have lenV:=hi.length;have core:∀H:Hp,kG H->bb K H a (ns.map V.int)->ce P w H s₁.heap->(∀b,H b≠none->b=a)->(H a≠none->K.lookup a=none) ->MV (y_ P w) M8 (.call (.ref fa) ⟨[.ref a],[]⟩) (fun r s'=>r=.ok (.ret (.bool true))/\OldK s₁.heap s'.heap/\s'.os=s₁.os/\LC s'.gens) s₁:=by
  intro H hO hS hok hA hK;have base_of:∀{b:Addr}{o:Obj},s₁.heap.get? b=some o->H b=none->(d9 s₁.heap H).get? b=some o:=fun e n=>F9 e n;have noA:∀{b:Addr}{o:Obj}{es:Array DictEntry}{ep:Nat},s₁.heap.get? b=some o->o.data=.dict es ep->H b=none:=fun{b o es ep} e d=>by cases q:H b with
  |none=>rfl
  |some u=>have e':b=a:=hA b (by rw[q];simp);subst e';rw[ha]at e;cases e;have d':Data.seq vs.toArray _=Data.dict es ep:=d;cases d'
  have nsK:∀{b:Addr}{m:Str->Option b_},s₁.heap.Ns b m->(d9 s₁.heap H).Ns b m:=fun{b m} ⟨o,es,ep,e,d,r⟩=>⟨o,es,ep,base_of e (noA e d),d,r⟩
  have hKb:K.In (d9 s₁.heap H):=fun b o e=>base_of (KX b o e) (by cases q:H b with
  |none=>rfl
  |some u=>have e':b=a:=hA b (by rw[q];simp);subst e';rw[hK (by rw[q];simp)]at e;cases e)
  have hM:Mod K mg (d9 s₁.heap H):=⟨hKb,nsK hns,⟨mb,nsK hb,hbb⟩,let⟨mc,h1,h2⟩:=hlim;⟨mc,nsK h1,h2⟩⟩
  have e0:Env0 P w K mg (d9 s₁.heap H) M8 [] s₁ H:=⟨rfl,hM,fun b o e=>Es e,LI (GD _ _),trivial,fun b hb=>absurd (show b∈([]:List Addr)from hb) (by simp),hok,.of_eq hg⟩
  refine Mf ((F _ hKb (nsK hns)).run M8 [] s₁ H ⟨[.ref a],[]⟩ [.ref a] [.ref a] _ _ hr e0 (hbind s₁ (.ref a)) (.cons rfl .nil) (hsp H hO hS)) fun r s' h=>?_;cases r with
 |error e=>exact(hCX H e s' h).elim
 |ok fl=>cases fl with
  |next=>exact JG h
  |brk=>exact JG h
  |cont=>exact JG h
  |ret u=>obtain⟨v,H',os,bare,un,hok',r',q⟩:=h;have q':v=.bl true:=q;subst q';obtain rfl:u=Value.bool true:=r';refine⟨rfl,OldK.of_keep fun b o e=>?_,os,bare⟩;cases q:H b with
   |none=>exact un.keep b o e q (by intro z;exact absurd (show b∈([]:List Addr)from z) (by simp)) (by simp)
   |some u=>
     rcases hO b with z|⟨ob,xs,z⟩
     .rw[q]at z;cases z
     .have z2:=un.frzs b ob _ z;obtain⟨e1,_⟩:=hok b _ z;obtain⟨e2,_⟩:=hok' b _ z2;rw[e]at e1;cases e1;exact e2
 cases hk:K.lookup a with
|some o=>have e:=KX a o hk;rw[ha]at e;cases e;refine core (fun _=>none) (fun _=>.inl rfl) (.inr ⟨_,vs.toArray,_,hk,rfl,rfl,rfl,by rw[o_,lenV];exact hl,by simpa using rv⟩) (fun b u z=>by have z':(none:Option HO)=some u:=z;cases z') (fun b z=>absurd rfl z) fun z=>absurd rfl z
|none=>
  refine core (fun b=>if b=a then some (.frz { cls:=.type "list",data:=.seq vs.toArray } (.lst (ns.map V.int)))else none) (fun b=>?_) (.inl (.inr ⟨{ cls:=.type "list",data:=.seq vs.toArray },if_pos rfl⟩)) (fun b u z=>?_) (fun b z=>?_) fun _=>hk
  .by_cases hb:b=a
   .exact .inr ⟨_,_,if_pos hb⟩
   .exact .inl (if_neg hb)
  .by_cases hb:b=a
   .have z':=(if_pos hb).symm.trans z;cases z';subst hb;exact⟨ha,by rw[n_];exact hl,vs,_,rv,ha⟩
   .have z':=(if_neg hb).symm.trans z;cases z'
  .by_cases hb:b=a
   .exact hb
   .exact absurd (if_neg hb) z
abbrev aQ{K:W.Frag}{h:Heap}(_:K.In h):W.Frag:=K
theorem jg{l:W.OpenLaw}{n k:Nat}{q:u_}{loose:List Str}{XP:(Str->Option b_)->Heap->Prop}{YP:H_->Heap->Prop}{d:DefRec}{K:Params->W.Frag}{CX:H_->gx}{sp:H_->Sp}{x:Str}(hn:l.most=some n)(hn2:n<=sizeLine)(hdf:d.params.defaults=[])(hr:Room k M8)(hY:∀(w:H_)(h:Heap),YP w h->(K w.params).In h)(F:∀(w:H_)(mg:Str->Option b_)(fa:Addr)(h:Heap),(K w.params).In h->h.Ns Jt mg->mg d.name=some (.ref fa) ->∃fd:JP,(∀(s:e_)(u:b_),Nw s fd ⟨[u],[]⟩ [(x,u)]) /\∀base:Heap,(K w.params).In base->base.Ns Jt mg->FnOk l.prog w (K w.params) mg base (CX w) k fa fd [x] (sp w))(hsp:∀(w:H_)(H:Hp)(a:Addr)(ns:List Int),ns.length<=n->kG H->bb (K w.params) H a (ns.map V.int)->sp w [.ref a] H (fun v _=>v=.bl true) fun _ _ _=>False)(hCX:∀(w:H_)(H:Hp)(s:e_)(e:b_)(s':e_),CX w [] H s (fun _ _ _=>False) e s'->False):W.WalkO q loose XP YP l.row.toRowW d [] (fun f vs=>OQ f vs):=by refine Att.attach_call hn hdf fun w s₀ s₁ mg mb fa o pm cd doc a vs ns G Y ho hd hcd hmg hobj hints hlen hg=>?_;have KX:=hY w _ Y;obtain⟨fd,hb,hF⟩:=F w mg fa _ KX G.T.g hmg;exact Gf KX G.T.g G.T.b G.T.builtins G.T.nolimit hg hobj hints (JE hlen hn2) hr hF hb (fun H hO hS=>hsp w H a ns hlen hO hS) fun H e s'=>hCX w H s₁ e s'
def aI(s:Stmt):Arguments:=match s with
|.FunctionDef _ a _ _ _ _ _ _ _ _=>a
|_=>{ posonlyargs:=[],args:=[],vararg:=none,kwonlyargs:=[],kw_defaults:=[],kwarg:=none,defaults:=[] }
def ap(s:Stmt):List Stmt:=match s with
|.FunctionDef _ _ b _ _ _ _ _ _ _=>b
|_=>[]
def aa(s:Stmt):KG:=match s with
|.FunctionDef _ _ _ _ _ _ sc _ _ _=>sc
|_=>{ kind:=.function,names:=[],isGenerator:=false,isCoroutine:=false }
abbrev bP:gx:=fun _ _ _ _ _ _=>False
abbrev E0:XK:=fun _ _ _=>False
theorem lW{X:Cx}:qP bP X E0:=fun _ _ _ _ _ _ _ h=>h.elim
structure Fun(K:W.Frag)(x qual:Str)(st:Stmt)(f:Addr)(fd:JP):Prop where
 ex:∃(oc:b_)(od:Option Addr)(kV doc pm:b_)(an:Option Addr)(cdv ct:b_)(osl:Array (Option b_)),fd=W.fnOf x qual (aI st) (ap st) (aa st) .none kV doc pm an cdv ct/\K.lookup f=some ⟨oc,od,.func fd,osl⟩/\W.codeIn K cdv qual=true
 kp:W.keepIn K (.ref f)=true
section
variable{P:u_}{w:H_}{K:W.Frag}{mg:Str->Option b_}{base:Heap}
theorem Fun.ok{x qual:Str}{st:Stmt}{f:Addr}{fd:JP}{N ps:List Str}{k:Nat}{sp:Sp}(F:Fun K x qual st f fd)(S:FnScope N ps (aa st))(len:∀vs H Q E,sp vs H Q E->vs.length=ps.length)(hbody:∀(cdv:b_)(A:Jr)(outer:List Env)(s:e_)(H:Hp)(vs:List V)(Q:VK)(E:XK),Room k (A.deeper (KW qual (aa st) s.heap.objs.size f cdv))->sp vs H Q E ->∃t,bx (a9 bP P w K mg base N qual (aa st) f cdv A outer s H E).nox (ap st) t/\t { nx:=fun _ H'=>Q .non H',rt:=Q } (a8 N vs) H):FnOk P w K mg base bP (k+1) f fd ps sp:=by obtain⟨oc,od,kV,doc,pm,an,cdv,ct,osl,rfl,lk,hcd⟩:=F.ex;refine vT lk hcd S len fun A outer s H vs Q E hr hsp=>?_;obtain⟨t,h,q⟩:=hbody cdv A outer s H vs Q E hr hsp;exact⟨t,h.nox,q⟩
theorem Fun.binds{x qual:Str}{st:Stmt}{f:Addr}{fd:JP}{ps:List Str}(F:Fun K x qual st f fd)(h:∀(kV doc pm:b_)(an:Option Addr)(cdv ct:b_)(us:List b_),us.length=ps.length->Lm (W.fnOf x qual (aI st) (ap st) (aa st) .none kV doc pm an cdv ct) ⟨us,[]⟩=pure (ps.zip us)):eD K fd ps []:=by obtain⟨oc,od,kV,doc,pm,an,cdv,ct,osl,rfl,lk,hcd⟩:=F.ex;exact .all (h kV doc pm an cdv ct)
theorem fT{x qual:Str}{st:Stmt}{f:Addr}{oc:b_}{od an:Option Addr}{osl:Array (Option b_)}{kV doc pm cdv ct:b_}(l:K.lookup f=some ⟨oc,od,.func (W.fnOf x qual (aI st) (ap st) (aa st) .none kV doc pm an cdv ct),osl⟩)(c:W.codeIn K cdv qual=true)(k:W.keepIn K (.ref f)=true):Fun K x qual st f (W.fnOf x qual (aI st) (ap st) (aa st) .none kV doc pm an cdv ct):=⟨⟨oc,od,kV,doc,pm,an,cdv,ct,osl,rfl,l,c⟩,k⟩
end
theorem jC{A:Jr}{k:Nat}(hr:Room k A):A.units+1<Mm:=Mq (Nat.add_le_add_left (by decide:1<=64) _) hr.units
section
variable{X:Cx}
theorem Gs:dZ X (.builtin "len") (fun xs H Q=>∃a kvs,xs=[V.ref a]/\Rd H a (.dK kvs)/\Q (.int kvs.length) H):=by intro pz s σ H xs us Q I r h;obtain⟨a,kvs,rfl,ha,q⟩:=h;obtain⟨u,rfl,ru⟩:=jB r;cases ru;exact AN I ha fun t s' I'=>⟨.int kvs.length,H,I',⟨t,rfl⟩,q⟩
end
def Same(H H':Hp):Prop:=∀b o,H b=some o->H' b=some o
theorem Same.refl(H:Hp):Same H H:=fun _ _ h=>h
theorem Same.trans{H H1 H2:Hp}(a:Same H H1)(b:Same H1 H2):Same H H2:=fun c o h=>b c o (a c o h)
theorem Same.free{H H':Hp}(e:Same H H'){l:Addr}(h:H' l=Option.none):H l=Option.none:=by cases q:H l with
|none=>rfl
|some o=>rw[e l o q]at h;cases h
theorem Same.seq{K:W.Frag}{H H':Hp}{a:Addr}{xs:List V}(e:Same H H')(h:bb K H a xs):bb K H' a xs:=by
 rcases h with(h|⟨o,h⟩)|h
 .exact .inl (.inl (e _ _ h))
 .exact .inl (.inr ⟨o,e _ _ h⟩)
 .exact .inr h
end L2
end
namespace DL
open PySem
section
open PySem.SeqAt
open PySem.AutoSeq1 (wpAny_loadPart')
open PySem.MeetsSeq PySem.MeetsSeq2 PySem.MeetsSeq3
end
end DL
namespace DL
open PySem PyProof.Rows
end DL
namespace DL
open PySem PyProof.Rows PySem.W
def xX{α:Type}(c:Nat->Nat->Bool):KasT α->α
|.ret a=>a
|.ask i j k=>xX c (k (c i j))
inductive Asks(n:Nat){α:Type}(P:α->Prop):KasT α->Prop where
 |ret {a:α}:P a->Asks n P (.ret a)
 |ask {i j:Nat} {k:Bool->KasT α}:i<n->j<n->(∀b,Asks n P (k b))->Asks n P (.ask i j k)
theorem Asks.bind{n:Nat}{α β:Type}{P:α->Prop}{P':β->Prop}{t:KasT α}{f:α->KasT β}(h:Asks n P t)(hf:∀a,P a->Asks n P' (f a)):Asks n P' (t.bind f):=by induction h with
|ret h=>exact hf _ h
|ask h1 h2 _ ih=>exact .ask h1 h2 ih
theorem Asks.run{n:Nat}{α:Type}{P:α->Prop}{t:KasT α}(h:Asks n P t)(c:Nat->Nat->Bool):P (xX c t):=by induction h with
|ret h=>exact h
|ask _ _ _ ih=>exact ih _
theorem Asks.mono{n:Nat}{α:Type}{P P':α->Prop}{t:KasT α}(h:Asks n P t)(hp:∀a,P a->P' a):Asks n P' t:=by induction h with
|ret h=>exact .ret (hp _ h)
|ask h1 h2 _ ih=>exact .ask h1 h2 ih
def qf(n:Nat)(p:Array Nat):Prop:=p.toList.Perm (q_ n)
theorem qf.rev{n:Nat}{p:Array Nat}(h:qf n p)(i j:Nat):qf n (kas_rev p i j):=(Array.perm_iff_toList_perm.mp (mirror_perm p i j ((j-i)/2))).trans h
section
variable{n:Nat}(hn:0<n)
include hn
end
end DL
namespace DL
open PySem PyProof.Rows PySem.W PySem.Calls
end DL
namespace DL
open PySem PySem.Spec PyProof.Rows L2 PySem.W PySem.Calls
structure Lft(fr:List Addr)(a:Addr)(oe:Obj)(vs:Array b_)(T:Option Addr)(v:b_)(h h':Heap):Prop where
 keep:∀b o,b∉fr->b≠a->T≠some b->h.get? b=some o->h'.get? b=some o
 slot:∀b o,h.get? b=some o->(∀vs:Array b_,o.data≠Data.fields vs)->∃sl,h'.get? b=some { cls:=o.cls,dict:=o.dict,data:=o.data,slots:=sl }
 obj:∃tb ot ts,(h.get? tb=none\/T=some tb)/\tb≠a/\h'.get? a=some { cls:=oe.cls,dict:=oe.dict,data:=.fields (vs.setIfInBounds 1 (.ref tb)),slots:=oe.slots }/\h'.get? tb=some ot/\ot.data=.fields ts/\ts[3]? = some v
def nV(a:Addr)(h:Heap):Prop:=∃oe vs tb,h.get? a=some oe/\oe.data=Data.fields vs/\vs[1]? = some (Value.ref tb)
abbrev kz(fl:Option Addr):b_:=fl.elim Value.none fun f=>MC f
section
variable{M:NU}{A:Jr}{E:b_->e_->Prop}{s:e_}{B:Heap}{env:Env}{outer:List Env}{L a:Addr}{oe:Obj}{vs:Array b_}{Q:Unit->e_->Prop}
theorem yI{head:b_}{had:Bool}{fl:Option Addr}(hf:A.frames=some (env::outer))(ff:s.heap.FunFrames B (env::outer))(hL:env.frame=some L)(e0:s.heap.get? a=some oe)(hd:oe.data=.fields vs)(hs:1<vs.size)(q:∀h',Lft (bK (env::outer)) a oe vs none (kz fl) s.heap h'->Q () { heap:=h',gens:=s.gens,drawn:=s.drawn,toks:=s.toks,os:=s.os }) :
  p_ M A (do
   let f <-PySem.frameOf env;let pl <-entryPlaceOf L had;let b <-NB head f Value.none (MC ↑L) Value.none pl
   setField (Value.ref a) 1 b) (fun _ s'=>nV a s'.heap/\p_ M A (KU (Value.ref a) fl) Q E s') E s:=by
 have haf:a∉bK (env::outer):=fun z=>by obtain⟨_,o,e1,nf⟩:=ff.mem z;rw[e0]at e1;cases e1;exact nf vs hd
 refine c_ (wpAny_frameOf_fun hf ff hL fun h2 so=>?_);refine c_ (wpAny_entryPlaceOf fun pl hpl=>?_);obtain⟨so1,so2,so3⟩:=so;have e2:h2.get? a=some oe:=(so2 a haf).trans e0;have key:∀fs:List b_,fs.length<=100->fs[3]? = some (MC ↑L)->p_ M A ((do
   let b <-newFields "traceback" fs
   setField (Value.ref a) 1 b)) (fun _ s'=>nV a s'.heap/\p_ M A (KU (Value.ref a) fl) Q E s') E { heap:=h2,gens:=s.gens,drawn:=s.drawn,toks:=s.toks,os:=s.os }:=fun fs hlen h3=>by
  refine c_ ?_;unfold newFields;have hsz:sizeOk (Data.fields fs.toArray):=by
   show fs.toArray.size<=_;have:fs.toArray.size<=100:=by simpa using hlen
   exact JE this (by decide)
  refine J8 (T := "traceback") (data:=.fields fs.toArray) (dict:=none) ?_ hsz;have hat:a<h2.objs.size:=r_ e2;have htb:h2.get? h2.objs.size=none:=by cases z:h2.get? h2.objs.size with
  |none=>rfl
  |some o=>exact absurd (r_ z) (J5 _)
  have hne:h2.objs.size≠a:=fun z=>by rw[z]at hat;exact absurd hat (J5 _)
  generalize htbn:h2.objs.size=tb at *;have e3:(h2.push { cls:=.type "traceback",dict:=none,data:=.fields fs.toArray }).get? a=some oe:=j_ _ e2;have e3t:(h2.push { cls:=.type "traceback",dict:=none,data:=.fields fs.toArray }).get? tb=some { cls:=.type "traceback",dict:=none,data:=.fields fs.toArray }:=by rw[<-htbn];exact D_ _ rfl
  generalize hh3:h2.push { cls:=.type "traceback",dict:=none,data:=.fields fs.toArray }=h3' at *;refine KL (a:=a) (o:=oe) (vs:=vs) (i:=1) e3 hd hs ?_;have mf:∀g,Jv g oe={ cls:=oe.cls,dict:=oe.dict,data:=.fields (g vs),slots:=oe.slots }:=fun g=>by obtain⟨c,d,da,sl⟩:=oe;have:da=.fields vs:=hd;subst this;rfl
  have e4:=JI (h:=h3') (Jv fun v=>v.setIfInBounds 1 (.ref tb)) e3 (by rw[mf];rfl);rw[mf]at e4;have e4t:(h3'.update a (Jv fun v=>v.setIfInBounds 1 (.ref tb))).get? tb=some { cls:=.type "traceback",dict:=none,data:=.fields fs.toArray }:=by rw[JO _ _ _ _ hne];exact e3t
  have e4o:∀b,b≠a->(h3'.update a (Jv fun v=>v.setIfInBounds 1 (.ref tb))).get? b=h3'.get? b:=fun b hb=>JO _ _ _ _ hb;generalize h3'.update a (Jv fun v=>v.setIfInBounds 1 (.ref tb))=h4 at *;refine⟨⟨_,_,tb,e4,rfl,Jq hs⟩,?_⟩;unfold KU;refine c_ (JW (o:={ cls:=oe.cls,dict:=oe.dict,data:=.fields (vs.setIfInBounds 1 (.ref tb)),slots:=oe.slots }) (x:=.ref tb) e4 rfl ?_ ?_)
  .rw[Jq hs]
  .rw[if_pos (by rfl)];refine KL (a:=tb) (vs:=fs.toArray) (i:=3) e4t rfl ?_ ?_
   .have:=(f_.mp h3).1;simpa using this
   have e5:=JI (h:=h4) (Jv fun v=>v.setIfInBounds 3 (kz fl)) e4t rfl;have e5o:∀b,b≠tb->(h4.update tb (Jv fun v=>v.setIfInBounds 3 (kz fl))).get? b=h4.get? b:=fun b hb=>JO _ _ _ _ hb;refine q (h4.update tb (Jv fun v=>v.setIfInBounds 3 (kz fl))) ⟨fun b o nf ne _ e=>?_,fun b o e nf=>?_,tb,_,_,.inl ?_,hne,?_,e5,rfl,?_⟩
   .have hb2:h2.get? b=some o:=(so2 b nf).trans e;have hbt:b≠tb:=fun z=>by rw[z,htb]at hb2;cases hb2
    rw[e5o b hbt,e4o b ne,<-hh3];exact j_ _ hb2
   .obtain⟨sl,e1⟩:=so3 b o e;have hbt:b≠tb:=fun z=>by rw[z,htb]at e1;cases e1
    have hba:b≠a:=fun z=>by rw[z,e0]at e;cases e;exact nf vs hd
    refine⟨sl,?_⟩;rw[e5o b hbt,e4o b hba,<-hh3];exact j_ _ e1
   .cases z:s.heap.get? tb with
   |none=>rfl
   |some o=>obtain⟨sl,e1⟩:=so3 tb o z;rw[htb]at e1;cases e1
   .rw[e5o a (JX hne)];exact e4
   .show(fs.toArray.setIfInBounds 3 _)[3]? = _;rw[Jq (by have:=(f_.mp h3).1;simpa using this)]
 unfold NB;refine key _ ?_ rfl;rcases hpl with rfl|⟨x1,x2,x3,x4,x5,x6,_,rfl⟩ <;> simp
theorem o6{T fl:Option Addr}(hf:A.frames=some (env::outer))(ff:s.heap.FunFrames B (env::outer))(hL:env.frame=some L)(e0:s.heap.get? a=some oe)(hd:oe.data=.fields vs)(h1:(vs[1]? = some Value.none/\T=none)\/(∃T' oT ts,T=some T'/\vs[1]? = some (.ref T')/\T'≠a/\s.heap.get? T'=some oT/\oT.data=.fields ts/\ts[3]? = some Value.none)\/∃T' oT ts,T=some T'/\vs[1]? = some (.ref T')/\T'≠a/\s.heap.get? T'=some oT/\oT.data=.fields ts/\ts[3]? = some (MC ↑L))(q:∀h',Lft (bK (env::outer)) a oe vs T (kz fl) s.heap h'->Q () { heap:=h',gens:=s.gens,drawn:=s.drawn,toks:=s.toks,os:=s.os }):p_ M A (LW (.ref a) env) (fun _ s'=>nV a s'.heap/\p_ M A (KU (.ref a) fl) Q E s') E s:=by
 have hs:1<vs.size:=by rcases h1 with⟨z,_⟩|⟨_,_,_,_,z,_⟩|⟨_,_,_,_,z,_⟩ <;> exact(JQ.mp z).1
 unfold LW;simp only[hL];rcases h1 with⟨z,rfl⟩|⟨T',oT,ts,rfl,z,hTa,eT,hT,h3⟩|⟨T',oT,ts,rfl,z,hTa,eT,hT,h3⟩
 .refine c_ (JW e0 hd z ?_);rw[if_neg (by decide)];exact yI hf ff hL e0 hd hs q
 .refine c_ (JW e0 hd z ?_);rw[if_pos (by rfl)];refine c_ (JW eT hT h3 ?_);rw[if_neg (by intro z;cases z)];have h3s:3<ts.size:=(JQ.mp h3).1;refine c_ (KL eT hT h3s ?_);have eo:∀b,b≠T'->(s.heap.update T' (Jv fun v=>v.setIfInBounds 3 Value.none)).get? b=s.heap.get? b:=fun b hb=>JO _ _ _ _ hb;refine yI (s:={ heap:=s.heap.update T' (Jv fun v=>v.setIfInBounds 3 Value.none),gens:=s.gens,drawn:=s.drawn,toks:=s.toks,os:=s.os }) hf (ff.of_keeps fun b o e nf=>?_) hL ((eo a (JX hTa)).trans e0) hd hs fun h' l=>q h' ⟨fun b o nf ne hT' e=>?_,fun b o e nf=>?_,?_⟩
  .have hb:b≠T':=fun z=>by rw[z,eT]at e;cases e;exact nf ts hT
   exact⟨o,(eo b hb).trans e,rfl⟩
  .have hb:b≠T':=fun z=>hT' (by rw[z]);exact l.keep b o nf ne (by simp) ((eo b hb).trans e)
  .have hb:b≠T':=fun z=>by rw[z,eT]at e;cases e;exact nf ts hT
   exact l.slot b o ((eo b hb).trans e) nf
  .obtain⟨tb,ot,ts',t1,t2⟩:=l.obj;refine⟨tb,ot,ts',.inl ?_,t2⟩;have t1:=t1.resolve_right (by simp);by_cases hb:tb=T'
   .have mf:Jv (fun v=>v.setIfInBounds 3 Value.none) oT={ cls:=oT.cls,dict:=oT.dict,data:=.fields (ts.setIfInBounds 3 Value.none),slots:=oT.slots }:=by obtain⟨c,d,da,sl⟩:=oT;have:da=.fields ts:=hT;subst this;rfl
    have:=JI (h:=s.heap) (Jv fun v=>v.setIfInBounds 3 Value.none) eT (by rw[mf];rfl);rw[hb]at t1;exact absurd (t1.symm.trans this) (by simp)
   .exact(eo tb hb).symm.trans t1
 .refine c_ (JW e0 hd z ?_);rw[if_pos (by rfl)];refine c_ (JW eT hT h3 ?_);rw[if_pos (by simp)];refine i_ ⟨⟨oe,vs,T',e0,hd,z⟩,?_⟩;have h3s:3<ts.size:=(JQ.mp h3).1;have mf:∀g,Jv g oT={ cls:=oT.cls,dict:=oT.dict,data:=.fields (g ts),slots:=oT.slots }:=fun g=>by obtain⟨c,d,da,sl⟩:=oT;have:da=.fields ts:=hT;subst this;rfl
  unfold KU;refine c_ (JW e0 hd z ?_);rw[if_pos (by rfl)];refine KL eT hT h3s ?_;have eo:∀b,b≠T'->(s.heap.update T' (Jv fun v=>v.setIfInBounds 3 (kz fl))).get? b=s.heap.get? b:=fun b hb=>JO _ _ _ _ hb;have es:=JI (h:=s.heap) (Jv fun v=>v.setIfInBounds 3 (kz fl)) eT (by rw[mf];rfl);rw[mf]at es;refine q _ ⟨fun b o nf ne hT' e=>(eo b fun z=>hT' (by rw[z])).trans e,fun b o e nf=>?_,T',_,_,.inr rfl,hTa,?_,es,rfl,?_⟩
  .have hb:b≠T':=fun z=>by rw[z,eT]at e;cases e;exact nf ts hT
   exact⟨o.slots,(eo b hb).trans e⟩
  .rw[eo a (JX hTa),e0];obtain⟨c,d,da,sl⟩:=oe;have:da=.fields vs:=hd;subst this;have:vs.setIfInBounds 1 (.ref T')=vs:=by
    apply NK;intro i;rw[Array.getElem?_setIfInBounds];split
    .rename_i h;subst h;exact z.symm
    .rfl
   rw[this]
  .show(ts.setIfInBounds 3 _)[3]? = _;rw[Jq h3s]
theorem sk{T:Option Addr}(hf:A.frames=some (env::outer))(ff:s.heap.FunFrames B (env::outer))(hL:env.frame=some L)(e0:s.heap.get? a=some oe)(hd:oe.data=.fields vs)(h1:(vs[1]? = some Value.none/\T=none)\/(∃T' oT ts,T=some T'/\vs[1]? = some (.ref T')/\T'≠a/\s.heap.get? T'=some oT/\oT.data=.fields ts/\ts[3]? = some Value.none)\/∃T' oT ts,T=some T'/\vs[1]? = some (.ref T')/\T'≠a/\s.heap.get? T'=some oT/\oT.data=.fields ts/\ts[3]? = some (MC ↑L))(q:∀h',Lft (bK (env::outer)) a oe vs T Value.none s.heap h'->Q () { heap:=h',gens:=s.gens,drawn:=s.drawn,toks:=s.toks,os:=s.os }):p_ M A (leaving env (.ref a)) Q E s:=c_ (JF (o6 (fl:=none) hf ff hL e0 hd h1 q) (fun _ _ z=>z.2) fun _ _ z=>z)
end
def Bi(h B:Heap)(a:Addr)(cls:b_)(od L:Option Addr):Prop:=∃oe vs,h.get? a=some oe/\oe.cls=cls/\(∀dx,od=some dx->oe.dict=some dx)/\oe.data=.fields vs /\(vs[1]? = some Value.none\/(∃T oT ts,vs[1]? = some (.ref T)/\B.get? T=none/\T≠a/\h.get? T=some oT/\oT.data=.fields ts/\ts[3]? = some Value.none) \/∃l T oT ts,L=some l/\vs[1]? = some (.ref T)/\B.get? T=none/\T≠a/\h.get? T=some oT/\oT.data=.fields ts/\ts[3]? = some (MC ↑l))
def km(st:List Env):Option Addr:=st.head?.bind (·.frame)
structure Fly(P:u_)(w:H_)(st:List Env)(H:Hp)(s:e_)(H':Hp)(a:Addr)(cls:b_)(od:Option Addr)(s':e_):Prop where
 os:s'.os=s.os
 bare:LC s'.gens
 un:Un (bK st) [] H H' s.heap s'.heap
 hok:ce P w H' s'.heap
 ex:∃B:Heap,B.StaysIn s'.heap/\B.get? a=none/\s'.heap.FunFrames B st/\Bi s'.heap B a cls od (km st) /\(∀b o,s.heap.get? b=some o->b∉bK st->∃o',B.get? b=some o')/\∀b u,H' b=some u->∃o',B.get? b=some o'
section
variable{X:Cx}{pz:List (Addr×Obj)}{σ:L2.St}{H H':Hp}{s s':e_}{a:Addr}{cls:b_}{od:Option Addr}{M:NU}{E:b_->e_->Prop}
theorem Fly.inv(F:Fly X.prog X.w X.stack H s H' a cls od s')(I:Inv X pz σ H s):Inv X pz σ H' s':=I.call' F.os F.un F.hok F.bare fun b z=>absurd z (by simp)
theorem Fly.leaves{Q:Unit->e_->Prop}(F:Fly X.prog X.w X.stack H s H' a cls od s')(I:Inv X pz σ H s)(hst:X.stack=X.env::X.outer)(hfr:X.env.frame=some X.env.locals)(hex:X.ex=[])(q:∀s'',Fly X.prog X.w X.outer X.H₀ X.s₀ H' a cls od s''->Q () s''):p_ M X.A (leaving X.env (.ref a)) Q E s':=by
 have I':=F.inv I;obtain⟨B,hB,hBa,hff,⟨oe,vs,r1,r2,r3,r4,r5⟩,hd,hH⟩:=F.ex;have hfs:bK X.stack=X.env.locals::bK X.outer:=by rw[hst];unfold bK;rw[JU,hfr]
 have inB:∀b o,X.s₀.heap.get? b=some o->b∉bK X.outer->∃o',B.get? b=some o':=fun b o e n=>by
  obtain⟨o1,e1⟩:=I.base.there b o e (by rw[hex];simp);refine hd b o1 e1 ?_;rw[hfs];intro z;rcases C_.mp z with z|z
  .have h1:=r_ e;have h2:=I.ok.above;rw[z]at h1;exact absurd h1 (Nat.not_lt.mpr h2)
  .exact n z
 rw[hst]at hff;have fin:∀(T:Option Addr) h',(∀b,T=some b->B.get? b=none)->Lft (bK (X.env::X.outer)) a oe vs T Value.none s'.heap h'->Q () { heap:=h',gens:=s'.gens,drawn:=s'.drawn,toks:=s'.toks,os:=s'.os }:=fun T h' hT l=>by
  have same:∀b o,(∃o',B.get? b=some o')->s'.heap.get? b=some o->h'.get? b=some o:=fun b o ⟨o',e⟩ h=>by refine l.keep b o (fun z=>?_) (fun z=>by rw[z,hBa]at e;cases e) (fun z=>by rw[hT b z]at e;cases e) h;rw[(hff.mem z).1]at e;cases e
  have hso:=(show X.env.scope.kind≠ScopeKind.module/\(∃L o,X.env.frame=some L/\B.get? L=none/\s'.heap.get? L=some o/\∀(vs:Array b_),o.data≠Data.fields vs)/\s'.heap.FunFrames B X.outer by unfold LK at hff;exact hff).2.2;have ho:h'.FunFrames B X.outer:=hso.of_keeps fun b o e nf=>by obtain⟨sl,e1⟩:=l.slot b o e nf;exact⟨_,e1,rfl⟩
  obtain⟨tb,ot,ts,t1,t2,t3,t4,t5,t6⟩:=l.obj;have htB:B.get? tb=none:=by
   rcases t1 with t1|t1
   .cases z:B.get? tb with
   |none=>rfl
   |some o=>have:=hB tb o z;rw[t1]at this;cases this
   .exact hT tb t1
  have hs1:1<vs.size:=by rcases r5 with z|⟨_,_,_,z,_⟩|⟨_,_,_,_,_,z,_⟩ <;> exact(JQ.mp z).1
  refine q _ ⟨I'.os,F.bare,⟨fun b o e n f z=>?_,fun b o e n f z=>?_,fun b o e n z=>?_,fun b o e z=>?_,I'.base.tups,I'.base.frzs,I'.base.tbls⟩,fun b u e=>?_,B,fun b o e=>same b o ⟨o,e⟩ (hB b o e),hBa,ho,⟨_,_,t3,r2,r3,rfl,.inr (.inl ⟨tb,ot,ts,Jq hs1,htB,t2,t4,t5,t6⟩)⟩,inB,hH⟩
  .exact same b o (inB b o e f) (I'.base.keep b o e n f (by rw[hex];exact z))
  .obtain⟨sl,e1⟩:=I'.base.slot b o e n f (by rw[hex];exact z);obtain⟨_,o2,e2,nf⟩:=hso.mem f;rw[e1]at e2;cases e2;obtain⟨sl2,e3⟩:=l.slot b _ e1 nf;exact⟨sl2,e3⟩
  .exact I'.base.free b o e n (by rw[hex];exact z)
  .obtain⟨o1,e1⟩:=I'.base.there b o e (by rw[hex];exact z);by_cases f:b∈bK X.outer
   .obtain⟨_,o2,e2,nf⟩:=hso.mem f;obtain⟨sl,e3⟩:=l.slot b _ e2 nf;exact⟨_,e3⟩
   .exact⟨o1,same b o1 (inB b o e f) e1⟩
  .refine(F.hok b u e).stay (fun c v hc e1=>same c v ?_ e1) (fun _ z=>z) fun _ _ z=>z;rcases hc with hc|hc
   .rw[hc];exact hH b u e
   .exact hH c _ hc
 rcases r5 with z|⟨T,oT,ts,z1,z2,z3,z4,z5,z6⟩|⟨l,T,oT,ts,zl,z1,z2,z3,z4,z5,z6⟩
 .exact sk (T:=none) (by rw[I.ok.frames,hst]) hff hfr r1 r4 (.inl ⟨z,rfl⟩) fun h' l=>fin none h' (fun b e=>nomatch e) l
 .exact sk (T:=some T) (by rw[I.ok.frames,hst]) hff hfr r1 r4 (.inr (.inl ⟨T,oT,ts,rfl,z1,z3,z4,z5,z6⟩)) fun h' l=>fin (some T) h' (fun b e=>by cases e;exact z2) l
 .have hl:l=X.env.locals:=by unfold km at zl;rw[hst]at zl;exact(B_ (hfr.symm.trans (show X.env.frame=some l from zl))).symm
  subst hl;exact sk (T:=some T) (by rw[I.ok.frames,hst]) hff hfr r1 r4 (.inr (.inr ⟨T,oT,ts,rfl,z1,z3,z4,z5,z6⟩)) fun h' l=>fin (some T) h' (fun b e=>by cases e;exact z2) l
end
def kK(P:u_)(w:H_):gx:=fun outer H s E e s'=>∃a cls H' od,e=.ref a/\Fly P w outer H s H' a cls od s'/\E cls od H'
theorem oq{P:u_}{w:H_}{H:Hp}{h:Heap}{a:Addr}{o:HO}(x:cE P w H h a o):∃u,h.get? a=some u:=by cases o with
|lst xs=>obtain⟨_,_,_,_,e⟩:=x;exact⟨_,e⟩
|tup xs=>obtain⟨_,_,_,_,o,e,_⟩:=x;exact⟨_,e⟩
|dK kvs=>obtain⟨_,_,_,_,o,_,_,e,_⟩:=x;exact⟨_,e⟩
|dT kvs=>obtain⟨_,_,_,_,o,_,_,e,_⟩:=x;exact⟨_,e⟩
|set S n=>obtain⟨o,_,_,_,e,_⟩:=x;exact⟨_,e⟩
|ins C dx fs=>obtain⟨_,_,_,e,_⟩:=x;exact⟨_,e⟩
|own y=>exact x
|xd fs=>obtain⟨_,⟨_,_,_,e,_⟩,_⟩:=x;exact⟨_,e⟩
|rng lo hi=>obtain⟨_,_,_,e⟩:=x;exact⟨_,e⟩
|frz ob u=>obtain⟨e,_⟩:=x;exact⟨_,e⟩
|tbl ps=>exact⟨_,(show h.get? a=some _ from x)⟩
|met f y=>exact⟨_,(show h.get? a=some _ from x)⟩
|ext φ=>exact x.2.1
abbrev dM:List b_:=[Value.type "ValueError",Value.type "Exception",Value.type "BaseException",Value.type "object"]
theorem rQ{h:Heap}{bmB bm:List b_}{v:b_}(t:M9 h bmB bm)(hb:bmB.contains v=true):bm.contains v=true:=by induction t with
|base=>exact hb
|own _ _ _ _ ih=>rw[Ks,ih,LL]
theorem Ds{K:W.Frag}{h:Heap}{C:Addr}{bmB:List b_}{newId:String}(k:K.In h)(e:excIn K C bmB newId=true):∃bm N nm q bs hdct sn sub ab col dd k0 k1 k2 k3 k5 mN,h.get? C=some (JA nm q C N bs bm hdct sn sub ab col dd k0 k1 k2 k3 k5 newId)/\h.Ns N mN/\mN (F_ "__init__")=none/\M9 h bmB bm:=by
 unfold excIn at e;split at e
 .rename_i dict cd sl hk;split at e
  .rename_i C' bm k0 k1 k2 k3 n k5 hm hs;simp only[Jx,beq_iff_eq,KZ]at e;obtain⟨⟨⟨⟨⟨rfl,rfl⟩,hd⟩,ht⟩,hn⟩,hi⟩:=e;have hns:=OR k hn;obtain⟨nm,bs,mro,ns,q,hdct,sn,sub,ab,col,hdel⟩:=cd;have e1:mro=Value.ref C'::bm:=hm;have e2:hdel=false:=hd;subst e1 e2;have e3:sl = #[k0,k1,k2,k3,some (Value.builtin n),k5]:=by cases sl with
   |mk l=>exact congrArg Array.mk hs
   subst e3;exact⟨bm,ns,nm,q,bs,hdct,sn,sub,ab,col,dict,k0,k1,k2,k3,k5,h.nsMap ns,k _ _ hk,Nd hns,nsMap_none_of_in k hn hi,tail_of_in k ht⟩
  .cases e
 .cases e
structure XC(K:W.Frag)(mg:Str->Option b_)(x:Str)(C:Addr):Prop where
 bound:mg x=some (.ref C)
 exc:excIn K C dM "ValueError.__new__" = true
section
variable{X:Cx}{pz:List (Addr×Obj)}{σ:L2.St}{H:Hp}{s:e_}{x:Str}{C:Addr}{np cpos pos:Pos}{e₀:Expr}{rest:List Expr}{t:TA}
theorem Fly.made{h':Heap}{e:Addr}{cls:b_}{vs:List b_}(I:Inv X pz σ H s)(m:s.heap.MadeExcOf h' e cls vs):Fly X.prog X.w X.stack H s H e cls none { heap:=h',gens:=s.gens,drawn:=s.drawn,toks:=s.toks,os:=s.os }:=by
 obtain⟨t,m1,m2,m3⟩:=m.there;have hst:∀b o,(N7 s.heap (bK X.stack)).get? b=some o->h'.get? b=some o:=fun b o e=>m.keeps b o (OS _ e);refine⟨rfl,I.bare,Un.kept m.keeps,I.hok.kept m.keeps,N7 s.heap (bK X.stack),hst,?_,?_,⟨_,_,m1,rfl,(fun _ e=>nomatch e),rfl,.inl rfl⟩,fun b o e n=>⟨o,Nn _ e n⟩,fun b u e=>?_⟩
 .cases q:(N7 s.heap (bK X.stack)).get? e with
 |none=>rfl
 |some o=>have:=OS _ q;rw[m.new]at this;cases this
 .have ff:=I.stack;have key:∀l:List Env,(∀b∈bK l,b∈bK X.stack)->s.heap.FunFrames X.base l->h'.FunFrames (N7 s.heap (bK X.stack)) l:=by
   intro l
   induction l with
  |nil=>intro _ _;unfold LK;trivial
  |cons env l ih=>
    intro hs hf;unfold LK at hf ⊢;obtain⟨f1,⟨L,o,f2,f3,f4,f5⟩,f6⟩:=hf;refine⟨f1,⟨L,o,f2,N8 _ (hs L ?_),m.keeps _ _ f4,f5⟩,ih (fun b hb=>hs b ?_) f6⟩
    .unfold bK;rw[JU,f2];exact k_
    .unfold bK;rw[JU,f2];exact h_ _ hb
  exact key X.stack (fun _ hb=>hb) ff
 .obtain⟨o,eo⟩:=oq (I.hok b u e);exact⟨o,Nn _ eo fun z=>by rw[I.stkFree b z]at e;cases e⟩
theorem GY{Q:Flow->e_->Prop}(I:Inv X pz σ H s)(hc:X.calm=true)(c:XC X.K X.mg x C)(hg:Gl X x)(ha:PA X (e₀::rest) t)(h:t σ H fun vs H1=>vs.length<=sizeLine/\∀s1 a s',Inv X pz σ H1 s1->Fly X.prog X.w X.stack H1 s1 H1 a (.ref C) none s'->X.xe (.ref a) s')(hdb:(x==("__debug__" : Str))=false:=by decide)(he:g_ (e₀::rest) X.env=(false,eval e₀ X.env)::g_ rest X.env:=by rfl)(hpl:(backTo cpos (g_ rest X.env)).any (·.1)=false:=by rfl):p_ (y_ X.prog X.w) X.A (exec (.Raise (some (.Call (.Name x np) (e₀::rest) [] cpos)) none pos) X.env) Q X.xe s:=by
 obtain⟨bm,N,nm,q,bs,hdct,sn,sub,ab,col,dd,k0,k1,k2,k3,k5,mN,c1,c2,c3,c4⟩:=Ds I.ok.mod.kin c.exc;refine wpAny_Raise_call_subT (nm:=nm) (q:=q) (C:=C) (N:=N) (bs:=bs) (bm:=bm) (hdct:=hdct) (sn:=sn) (sub:=sub) (ab:=ab) (col:=col) (dd:=dd) (k0:=k0) (k1:=k1) (k2:=k2) (k3:=k3) (k5:=k5) (mN:=mN) F.excBase_ValueError (rQ c4 (by decide+kernel)) (I.ok.hd hc) ?_ c3 ?_
 .rw[he];exact hpl
 refine j4 I hg c.bound ⟨rfl,?_⟩ hdb;rw[he];refine evalArgs_plain ?_;have hp:=ha cpos pz s σ H _ I h;rw[he]at hp;refine aO hp fun us s1 ⟨vs,H1,I1,r,hl,q⟩=>⟨rfl,?_,I1.bk _ _ c1,?_,?_,fun h' e m=>q s1 e _ I1 (Fly.made I1 m)⟩
 .show us.length<=sizeLine;rw[<-r.length];exact hl
 .exact c2.keeps I1.bk
 .exact c4.keeps I1.bk
end
end DL
namespace DL
open PySem PySem.Spec PyProof.Rows L2
inductive D where
 |non|bl (b:Bool)|int (i:Int)|str (x:Str)
 |tup (ds:List D)|lst (ds:List D)
 |dic (kvs:List (aH×D))
 |obj (c:Nat) (fs:List (Str×D))
instance:Inhabited D:=⟨.non⟩
inductive Res(α:Type) where
 |ok (a:α)|exc (x:D)|stuck
def Res.bind{α β:Type}(r:Res α)(f:α->Res β):Res β:=match r with
|.ok a=>f a
|.exc x=>.exc x
|.stuck=>.stuck
@[simp] theorem bind_ok{α β:Type}(a:α)(f:α->Res β):(Res.ok a).bind f=f a:=rfl
@[simp] theorem bind_exc{α β:Type}(x:D)(f:α->Res β):(Res.exc x:Res α).bind f=.exc x:=rfl
@[simp] theorem bind_stuck{α β:Type}(f:α->Res β):(Res.stuck:Res α).bind f=.stuck:=rfl
def fin{α:Type}(r:Res α)(q:α->Prop)(x:D->Prop):Prop:=match r with
|.ok a=>q a
|.exc e=>x e
|.stuck=>False
theorem bh{α:Type}{r:Res α}{q q':α->Prop}{x:D->Prop}(h:fin r q x)(hq:∀a,q a->q' a):fin r q' x:=by cases r with
|ok a=>exact hq a h
|exc e=>exact h
|stuck=>exact h
theorem bu{α β:Type}{r:Res α}{f:α->Res β}{q:β->Prop}{x:D->Prop}(h:fin (r.bind f) q x):fin r (fun a=>fin (f a) q x) x:=by cases r with
|ok a=>exact h
|exc e=>exact h
|stuck=>exact h
abbrev GH:=Addr->Option D
inductive Scl:V->D->Prop where
 |non:Scl .non .non
 |bl (b:Bool):Scl (.bl b) (.bl b)
 |int (i:Int):Scl (.int i) (.int i)
 |str (x:Str):Scl (.str x) (.str x)
inductive KC(K:W.Frag)(a:Addr):D->Prop where
|lst {xs:List V} {ds:List D}:bb K (fun _=>none) a xs->Paired Scl xs ds->KC K a (.lst ds)
|tup {xs:List V} {ds:List D}:cr K (fun _=>none) a xs->Paired Scl xs ds->(∃o,K.lookup a=some o/\o.cls=.type "tuple"/\o.dict=none)->KC K a (.tup ds)
inductive RG(K:W.Frag)(G:GH):V->D->Prop where
 |scl {v:V} {d:D}:Scl v d->RG K G v d
 |ref {a:Addr} {d:D}:G a=some d->RG K G (.ref a) d
 |kc {a:Addr} {d:D}:KC K a d->RG K G (.ref a) d
abbrev b7(K:W.Frag)(G:GH):List V->List D->Prop:=Paired (RG K G)
abbrev gN(K:W.Frag)(G:GH):List (aH×V)->List (aH×D)->Prop:=Paired fun p q=>p.1=q.1/\RG K G p.2 q.2
abbrev xD(nm:Str)(ds:List (Str×D)):D:=.obj 0 (("__class__",.str nm)::ds)
def XN(K:W.Frag)(nm:Str)(C:Addr):Prop:=∃o cd,K.lookup C=some o/\o.data=Data.cls cd/\cd.name=nm
def hR(a C:Addr)(od:Option Addr):Heap->Prop:=fun h=>∃oe vs,h.get? a=some oe/\oe.cls=.ref C/\(∀dx,od=some dx->oe.dict=some dx)/\oe.data=.fields vs
def XF(G:GH)(od:Option Addr)(ds:List (Str×D)):Prop:=match od with
|none=>ds=[]
|some dx=>G dx=some (.obj 1 ds)
theorem XF.mono{G G':GH}{od:Option Addr}{ds:List (Str×D)}(h:XF G od ds)(ge:∀a d,G a=some d->G' a=some d):XF G' od ds:=by cases od with
|none=>exact h
|some dx=>exact ge _ _ h
abbrev vI(K:W.Frag)(G:GH):List (Str×V)->List (Str×D)->Prop:=Paired fun p q=>p.1=q.1/\RG K G p.2 q.2
inductive OB(K:W.Frag)(G:GH)(H:Hp)(a:Addr):D->Prop where
 |lst {xs:List V} {ds:List D}:Rd H a (.lst xs)->b7 K G xs ds->OB K G H a (.lst ds)
 |tup {xs:List V} {ds:List D}:Rd H a (.tup xs)->b7 K G xs ds->OB K G H a (.tup ds)
 |dic {ob:Obj} {ps:List (aH×V)} {kvs:List (aH×D)}:H a=some (.frz ob (.dK ps))->gN K G ps kvs->OB K G H a (.dic kvs)
 |exc {nm:Str} {C:Addr} {od:Option Addr} {ds:List (Str×D)}:H a=some (.ext (hR a C od))->XN K nm C->XF G od ds->OB K G H a (xD nm ds)
 |fld {fs:List (Str×V)} {ds:List (Str×D)}:H a=some (.xd fs)->vI K G fs ds->OB K G H a (.obj 1 ds)
def aN(K:W.Frag)(G:GH)(H:Hp):Prop:=∀a d,G a=some d->OB K G H a d
inductive OwnO(K:W.Frag)(G:GH)(H:Hp)(a:Addr):D->Prop where
 |lst {xs:List V} {ds:List D}:H a=some (.lst xs)->b7 K G xs ds->OwnO K G H a (.lst ds)
 |dic {ps:List (aH×V)} {kvs:List (aH×D)}:H a=some (.dK ps)->gN K G ps kvs->OwnO K G H a (.dic kvs)
structure Own(K:W.Frag)(G:GH)(H:Hp)(a:Addr)(d:D):Prop where
 un:G a=none
 ob:OwnO K G H a d
structure Grow(K:W.Frag)(G:GH)(H:Hp)(G':GH)(H':Hp):Prop where
 ok:aN K G' H'
 he:∀a o,H a=some o->H' a=some o
 ge:∀a d,G a=some d->G' a=some d
 gf:∀a,H a≠none->G' a=G a
section
variable{K:W.Frag}{G G' G1 G2:GH}{H H' H1 H2:Hp}{a p:Addr}{d:D}{v:V}
theorem Rd.mono{u:HO}(h:Rd H a u)(he:∀a o,H a=some o->H' a=some o):Rd H' a u:=by
 rcases h with h|⟨o,h⟩
 .exact .inl (he _ _ h)
 .exact .inr ⟨o,he _ _ h⟩
theorem Rd.isS{u:HO}(h:Rd H a u):H a≠none:=by rcases h with h|⟨o,h⟩ <;> rw[h] <;> simp
theorem RG.mono(h:RG K G v d)(ge:∀a d,G a=some d->G' a=some d):RG K G' v d:=by cases h with
|scl s=>exact .scl s
|ref e=>exact .ref (ge _ _ e)
|kc k=>exact .kc k
theorem b7.mono{xs:List V}{ds:List D}(h:b7 K G xs ds)(ge:∀a d,G a=some d->G' a=some d):b7 K G' xs ds:=Paired.mono (fun _ _ r=>r.mono ge) h
theorem gN.mono{xs:List (aH×V)}{ds:List (aH×D)}(h:gN K G xs ds)(ge:∀a d,G a=some d->G' a=some d):gN K G' xs ds:=Paired.mono (fun _ _ r=>⟨r.1,r.2.mono ge⟩) h
theorem OB.mono(h:OB K G H a d)(ge:∀a d,G a=some d->G' a=some d)(he:∀o,H a=some o->H' a=some o):OB K G' H' a d:=by
 have rd:∀{u:HO},Rd H a u->Rd H' a u:=fun r=>by
  rcases r with r|⟨o,r⟩
  .exact .inl (he _ r)
  .exact .inr ⟨o,he _ r⟩
 cases h with
|lst r s=>exact .lst (rd r) (s.mono ge)
|tup r s=>exact .tup (rd r) (s.mono ge)
|dic r s=>exact .dic (he _ r) (gN.mono s ge)
|exc r n f=>exact .exc (he _ r) n (f.mono ge)
|fld r s=>exact .fld (he _ r) (Paired.mono (fun _ _ r=>⟨r.1,r.2.mono ge⟩) s)
theorem OB.isS(h:OB K G H a d):H a≠none:=by cases h with
|lst r s=>exact Rd.isS r
|tup r s=>exact Rd.isS r
|dic r s=>rw[r];simp
|exc r n f=>rw[r];simp
|fld r s=>rw[r];simp
theorem aN.isN(g:aN K G H)(h:H p=none):G p=none:=by cases e:G p with
|none=>rfl
|some d=>exact absurd h (g p d e).isS
theorem OwnO.isS(h:OwnO K G H a d):H a≠none:=by cases h with
|lst r s=>rw[r];simp
|dic r s=>rw[r];simp
theorem OwnO.mono(h:OwnO K G H a d)(ge:∀a d,G a=some d->G' a=some d)(he:∀o,H a=some o->H' a=some o):OwnO K G' H' a d:=by cases h with
|lst r s=>exact .lst (he _ r) (s.mono ge)
|dic r s=>exact .dic (he _ r) (gN.mono s ge)
theorem Own.mono(h:Own K G H a d)(w:Grow K G H G' H'):Own K G' H' a d:=⟨by rw[w.gf a h.ob.isS];exact h.un,h.ob.mono w.ge fun o e=>w.he _ _ e⟩
def fz(H:Hp)(a:Addr)(ob:Obj):Hp:=match H a with
|some (.dK ps)=>upd H a (.frz ob (.dK ps))
|_=>H
theorem lR{b:Addr}{ob:Obj}(h:b≠a):fz H a ob b=H b:=by unfold fz;cases e:H a with
|none=>rfl
|some u=>cases u <;> first|rfl|exact aK h
theorem Bz{xs:List V}{ob:Obj}(h:H a=some (.lst xs)):fz H a ob=H:=by unfold fz;rw[h]
theorem By{ps:List (aH×V)}{ob:Obj}(h:H a=some (.dK ps)):fz H a ob a=some (.frz ob (.dK ps)):=by unfold fz;rw[h];exact bJ
theorem OwnO.fast(h:OwnO K G H a d)(ob:Obj):OB K G (fz H a ob) a d:=by cases h with
|lst r s=>rw[Bz r];exact .lst (.inl r) s
|dic r s=>exact .dic (By r) s
theorem aN.fast(g:aN K G H)(hn:G a=none)(ob:Obj):aN K G (fz H a ob):=fun b d e=>by
 have hb:b≠a:=by rintro rfl;rw[hn]at e;cases e
 exact(g b d e).mono (fun _ _ z=>z) fun o z=>by rw[lR hb];exact z
theorem Grow.refl(g:aN K G H):Grow K G H G H:=⟨g,fun _ _ e=>e,fun _ _ e=>e,fun _ _=>rfl⟩
theorem Grow.trans(x:Grow K G H G1 H1)(y:Grow K G1 H1 G2 H2):Grow K G H G2 H2:=
 ⟨y.ok,fun a o e=>y.he _ _ (x.he _ _ e),fun a d e=>y.ge _ _ (x.ge _ _ e),fun a h=>by
  have h1:H1 a≠Option.none:=by cases e:H a with
  |none=>exact absurd e h
  |some o=>rw[x.he _ _ e];simp
  rw[y.gf a h1,x.gf a h]⟩
def gset(G:GH)(a:Addr)(d:D):GH:=fun b=>if b=a then some d else G b
theorem cQ:gset G a d a=some d:=if_pos rfl
theorem cR{b:Addr}(h:b≠a):gset G a d b=G b:=if_neg h
theorem dW(hn:G a=none):∀b e,G b=some e->gset G a d b=some e:=fun b e h=>by
 have:b≠a:=by rintro rfl;rw[hn]at h;cases h
 rw[cR this];exact h
theorem aN.gset(g:aN K G H)(hn:G a=none)(o:OB K G H a d):aN K (gset G a d) H:=fun b e h=>by
 by_cases hb:b=a
 .subst hb;rw[cQ]at h;cases h;exact o.mono (dW hn) fun _ q=>q
 .rw[cR hb]at h;exact(g b e h).mono (dW hn) fun _ q=>q
theorem qX(hn:H p=none){o:HO}:∀a u,H a=some u->upd H p o a=some u:=fun a u e=>by rw[aK (kb e hn)];exact e
theorem Grow.new(g:aN K G H)(hn:H p=none)(o:HO):Grow K G H G (upd H p o):=⟨fun a d e=>(g a d e).mono (fun _ _ q=>q) fun u q=>qX hn _ _ q,fun a u e=>qX hn _ _ e,fun _ _ e=>e,fun _ _=>rfl⟩
theorem Grow.newF(g:aN K G H)(hn:H p=none){o:HO}(ob:OB K G (upd H p o) p d):Grow K G H (gset G p d) (upd H p o):=by have w:=Grow.new g hn o;have gn:=g.isN hn;exact⟨w.ok.gset gn ob,w.he,fun a e h=>dW gn a e h,fun a h=>cR (by rintro rfl;exact h hn)⟩
theorem Grow.frz(w:Grow K G H G' H')(hn:H a=none)(o:Own K G' H' a d)(ob:Obj):Grow K G H (gset G' a d) (fz H' a ob):=⟨(w.ok.fast o.un ob).gset o.un (o.ob.fast ob),fun b u e=>by rw[lR (by rintro rfl;rw[hn]at e;cases e)];exact w.he b u e,fun b e h=>dW o.un b e (w.ge b e h),fun b h=>by rw[cR (by rintro rfl;exact h hn)];exact w.gf b h⟩
theorem RG.lst{ds:List D}(g:aN K G H)(h:RG K G v (.lst ds)):∃a xs,v=.ref a/\bb K H a xs/\b7 K G xs ds:=by cases h with
|scl s=>cases s
|ref e=>cases g _ _ e with
 |lst r s=>exact⟨_,_,rfl,.inl r,s⟩
|kc k=>cases k with
 |lst r s=>
   refine⟨_,_,rfl,?_,Paired.mono (fun _ _ z=>.scl z) s⟩;rcases r with(r|⟨o,r⟩)|r
   .cases r
   .cases r
   .exact .inr r
theorem RG.tup{ds:List D}(g:aN K G H)(h:RG K G v (.tup ds)):∃a xs,v=.ref a/\cr K H a xs/\b7 K G xs ds:=by cases h with
|scl s=>cases s
|ref e=>cases g _ _ e with
 |tup r s=>exact⟨_,_,rfl,.inl r,s⟩
|kc k=>cases k with
 |tup r s _=>
   refine⟨_,_,rfl,?_,Paired.mono (fun _ _ z=>.scl z) s⟩;rcases r with(r|⟨o,r⟩)|r
   .cases r
   .cases r
   .exact .inr r
theorem RG.dic{kvs:List (aH×D)}(g:aN K G H)(h:RG K G v (.dic kvs)):∃a ps,v=.ref a/\Rd H a (.dK ps)/\gN K G ps kvs:=by cases h with
|scl s=>cases s
|ref e=>cases g _ _ e with
 |dic r s=>exact⟨_,_,rfl,.inr ⟨_,r⟩,s⟩
|kc k=>cases k
theorem RG.int{i:Int}(g:aN K G H)(h:RG K G v (.int i)):v=.int i:=by cases h with
|scl s=>cases s;rfl
|ref e=>cases g _ _ e
|kc k=>cases k
theorem RG.str{x:Str}(g:aN K G H)(h:RG K G v (.str x)):v=.str x:=by cases h with
|scl s=>cases s;rfl
|ref e=>cases g _ _ e
|kc k=>cases k
theorem RG.bl{b:Bool}(g:aN K G H)(h:RG K G v (.bl b)):v=.bl b:=by cases h with
|scl s=>cases s;rfl
|ref e=>cases g _ _ e
|kc k=>cases k
theorem RG.non(g:aN K G H)(h:RG K G v .non):v=.non:=by cases h with
|scl s=>cases s;rfl
|ref e=>cases g _ _ e
|kc k=>cases k
def RB(K:W.Frag)(G:GH)(H:Hp)(v:V)(d:D):Prop:=RG K G v d\/∃a,v=.ref a/\Own K G H a d
theorem RG.rb(h:RG K G v d):RB K G H v d:=.inl h
theorem RB.mono(h:RB K G H v d)(w:Grow K G H G' H'):RB K G' H' v d:=by
 rcases h with h|⟨a,e,h⟩
 .exact .inl (h.mono w.ge)
 .exact .inr ⟨a,e,h.mono w⟩
theorem RB.lst{ds:List D}(g:aN K G H)(h:RB K G H v (.lst ds)):∃a xs,v=.ref a/\bb K H a xs/\b7 K G xs ds:=by
 rcases h with h|⟨a,e,h⟩
 .exact h.lst g
 .cases h.ob with
 |lst r s=>exact⟨a,_,e,bb.of r,s⟩
theorem RB.tup{ds:List D}(g:aN K G H)(h:RB K G H v (.tup ds)):∃a xs,v=.ref a/\cr K H a xs/\b7 K G xs ds:=by
 rcases h with h|⟨a,e,h⟩
 .exact h.tup g
 .cases h.ob
theorem RB.dic{kvs:List (aH×D)}(g:aN K G H)(h:RB K G H v (.dic kvs)):∃a ps,v=.ref a/\Rd H a (.dK ps)/\gN K G ps kvs:=by
 rcases h with h|⟨a,e,h⟩
 .exact h.dic g
 .cases h.ob with
 |dic r s=>exact⟨a,_,e,.inl r,s⟩
theorem RB.int{i:Int}(g:aN K G H)(h:RB K G H v (.int i)):v=.int i:=by
 rcases h with h|⟨a,e,h⟩
 .exact h.int g
 .cases h.ob
theorem RB.str{x:Str}(g:aN K G H)(h:RB K G H v (.str x)):v=.str x:=by
 rcases h with h|⟨a,e,h⟩
 .exact h.str g
 .cases h.ob
theorem RB.bl{b:Bool}(g:aN K G H)(h:RB K G H v (.bl b)):v=.bl b:=by
 rcases h with h|⟨a,e,h⟩
 .exact h.bl g
 .cases h.ob
theorem RB.non(g:aN K G H)(h:RB K G H v .non):v=.non:=by
 rcases h with h|⟨a,e,h⟩
 .exact h.non g
 .cases h.ob
theorem Paired.get{α β:Type}{F:α->β->Prop}:∀{l:List α}{r:List β}{i:Nat}{b:β},Paired F l r->r[i]? = some b->∃a,l[i]? = some a/\F a b
|_,_,_,_,.nil,e=>by simp at e
|_,_,0,_,.cons h _,e=>by simp at e;subst e;exact⟨_,rfl,h⟩
|_,_,i+1,b,.cons _ t,e=>by obtain⟨a,h1,h2⟩:=Paired.get (i:=i) t (by simpa using e);exact⟨a,by simpa using h1,h2⟩
theorem Paired.app{α β:Type}{F:α->β->Prop}{l l':List α}{r r':List β}(h:Paired F l r)(q:Paired F l' r'):Paired F (l++l') (r++r'):=by induction h with
|nil=>exact q
|cons h _ ih=>exact .cons h ih
theorem Paired.tk{α β:Type}{F:α->β->Prop}{l:List α}{r:List β}(n:Nat)(h:Paired F l r):Paired F (l.take n) (r.take n):=by induction h generalizing n with
|nil=>cases n <;> exact .nil
|cons h _ ih=>cases n with
 |zero=>exact .nil
 |succ n=>exact .cons h (ih n)
theorem Paired.dr{α β:Type}{F:α->β->Prop}{l:List α}{r:List β}(n:Nat)(h:Paired F l r):Paired F (l.drop n) (r.drop n):=by induction h generalizing n with
|nil=>cases n <;> exact .nil
|cons h t ih=>cases n with
 |zero=>exact .cons h t
 |succ n=>exact ih n
theorem Paired.st{α β:Type}{F:α->β->Prop}{a:α}{b:β}(h:F a b){l:List α}{r:List β}(n:Nat)(p:Paired F l r):Paired F (l.set n a) (r.set n b):=by induction p generalizing n with
|nil=>exact .nil
|cons q t ih=>cases n with
 |zero=>exact .cons h t
 |succ n=>exact .cons q (ih n)
theorem Paired.er{α β:Type}{F:α->β->Prop}{l:List α}{r:List β}(n:Nat)(p:Paired F l r):Paired F (l.eraseIdx n) (r.eraseIdx n):=by induction p generalizing n with
|nil=>exact .nil
|cons q t ih=>cases n with
 |zero=>exact t
 |succ n=>exact .cons q (ih n)
end
inductive Md where
 |sh|ow|bw
 deriving DecidableEq
abbrev ah:=List (Option D)
structure GE where
 gh:GH
 h0:Hp
 hd:Nat->Option (Option V×Option D)
def Bw(K:W.Frag)(h0:Hp)(G:GH)(H:Hp)(v:V)(d:D):Prop:=RG K G v d\/∃a,v=V.ref a/\Own K G H a d/\h0 a≠none
theorem Bw.grow{K:W.Frag}{h0:Hp}{G G':GH}{H H':Hp}{v:V}{d:D}(h:Bw K h0 G H v d)(w:Grow K G H G' H'):Bw K h0 G' H' v d:=by
 rcases h with h|⟨a,e,h1,h2⟩
 .exact .inl (h.mono w.ge)
 .exact .inr ⟨a,e,h1.mono w,h2⟩
theorem Bw.rb{K:W.Frag}{h0:Hp}{G:GH}{H:Hp}{v:V}{d:D}(h:Bw K h0 G H v d):RB K G H v d:=by
 rcases h with h|⟨a,e,h1,h2⟩
 .exact .inl h
 .exact .inr ⟨a,e,h1⟩
def Lk(r:ah)(st:L2.St)(i:Nat)(o:Option V×Option D):Prop:=st[i]? = some o.1/\∀d,r[i]? = some (some d)->o.2=some d
structure SI(X:Cx)(g:GE)(m:List Md)(r:ah)(G:GH)(st:L2.St)(H:Hp):Prop where
 gok:aN X.K G H
 old:∀a o,g.h0 a=some o->H a=some o
 ge:∀a d,g.gh a=some d->G a=some d
 gf:∀a,g.h0 a≠none->G a=g.gh a
 lm:m.length=st.length
 lr:r.length=st.length
 sh:∀(i:Nat) d,r[i]? = some (some d)->m[i]? = some .sh->∃v,st[i]? = some (some v)/\RG X.K G v d
 ow:∀(i:Nat) d,r[i]? = some (some d)->m[i]? = some .ow->∃a,st[i]? = some (some (V.ref a))/\Own X.K G H a d/\g.h0 a=none
 bw:∀(i:Nat) d,r[i]? = some (some d)->m[i]? = some .bw->∃v,st[i]? = some (some v)/\Bw X.K g.h0 G H v d
 dis:∀(i j:Nat) a d e,i≠j->r[i]? = some (some d)->r[j]? = some (some e)->m[i]? = some .ow->m[j]? = some .ow->st[i]? = some (some (V.ref a))->st[j]? = some (some (V.ref a))->False
 lk:∀(i:Nat) o,g.hd i=some o->m[i]? = some .bw->Lk r st i o
section
variable{X:Cx}{g:GE}{m:List Md}{r:ah}{G G':GH}{st:L2.St}{H H':Hp}
theorem SI.grow(s:SI X g m r G st H)(w:Grow X.K G H G' H'):SI X g m r G' st H' where
 gok:=w.ok
 old:=fun a o e=>w.he _ _ (s.old a o e)
 ge:=fun a d e=>w.ge _ _ (s.ge a d e)
 gf:=fun a h=>by
  have h1:H a≠none:=by cases e:g.h0 a with
  |none=>exact absurd e h
  |some o=>rw[s.old _ _ e];simp
  rw[w.gf a h1,s.gf a h]
 lm:=s.lm
 lr:=s.lr
 sh:=fun i d h1 h2=>by obtain⟨v,h3,h4⟩:=s.sh i d h1 h2;exact⟨v,h3,h4.mono w.ge⟩
 ow:=fun i d h1 h2=>by obtain⟨a,h3,h4,h5⟩:=s.ow i d h1 h2;exact⟨a,h3,h4.mono w,h5⟩
 bw:=fun i d h1 h2=>by obtain⟨v,h3,h4⟩:=s.bw i d h1 h2;exact⟨v,h3,h4.grow w⟩
 dis:=s.dis
 lk:=s.lk
theorem SI.grown(s:SI X g m r G st H):Grow X.K g.gh g.h0 G H:=⟨s.gok,s.old,s.ge,s.gf⟩
theorem SI.frz(s:SI X g m r G st H)(i:Nat)(hi:m[i]? = some .ow):(∃G',(∀a d,G a=some d->G' a=some d)/\SI X g (m.set i .sh) r G' st H)\/∃a,∀ob,∃G',(∀a d,G a=some d->G' a=some d)/\SI X g (m.set i .sh) r G' st (fz H a ob):=by
 have hlt:i<m.length:=(f_.mp hi).1;by_cases hb:∃d,r[i]? = some (some d)
 .obtain⟨d,hd⟩:=hb;obtain⟨a,h1,h2,h3⟩:=s.ow i d hd hi;refine .inr ⟨a,fun ob=>⟨gset G a d,dW h2.un,(s.gok.fast h2.un ob).gset h2.un (h2.ob.fast ob),fun b o e=>by rw[lR (by rintro rfl;rw[h3]at e;cases e)];exact s.old b o e,fun b e h=>dW h2.un b e (s.ge b e h),fun b h=>?_,by simpa using s.lm,s.lr,?_,?_,?_,?_,fun j o hj hm=>?_⟩⟩
  .rw[cR (by rintro rfl;exact h h3)];exact s.gf b h
  .intro j e hj hm;by_cases hij:i=j
   .subst hij;rw[hd]at hj;cases hj;exact⟨_,h1,.ref cQ⟩
   .rw[a_ hij]at hm;obtain⟨v,q1,q2⟩:=s.sh j e hj hm;exact⟨v,q1,q2.mono (dW h2.un)⟩
  .intro j e hj hm;by_cases hij:i=j
   .subst hij;rw[d_ hlt]at hm;cases hm
   .rw[a_ hij]at hm;obtain⟨b,q1,q2,q3⟩:=s.ow j e hj hm;have hba:b≠a:=by
     rintro rfl
     exact s.dis i j b d e hij hd hj hi hm h1 q1
    exact⟨b,q1,⟨by rw[cR hba];exact q2.un,q2.ob.mono (dW h2.un) fun _ z=>by rw[lR hba];exact z⟩,q3⟩
  .intro j e hj hm;by_cases hij:i=j
   .subst hij;rw[d_ hlt]at hm;cases hm
   .rw[a_ hij]at hm;obtain⟨v,q1,q2⟩:=s.bw j e hj hm;refine⟨v,q1,?_⟩;rcases q2 with q2|⟨b,rfl,q2,q3⟩
    .exact .inl (q2.mono (dW h2.un))
    .have hba:b≠a:=by rintro rfl;exact q3 h3
     exact .inr ⟨b,rfl,⟨by rw[cR hba];exact q2.un,q2.ob.mono (dW h2.un) fun _ z=>by rw[lR hba];exact z⟩,q3⟩
  .intro j k b e e' hjk hj hk hm hm' q1 q2;have hij:i≠j:=by
    rintro rfl
    rw[d_ hlt]at hm;cases hm
   have hik:i≠k:=by
    rintro rfl
    rw[d_ hlt]at hm';cases hm'
   rw[a_ hij]at hm;rw[a_ hik]at hm';exact s.dis j k b e e' hjk hj hk hm hm' q1 q2
  .refine s.lk j o hj ?_;by_cases hij:i=j
   .subst hij;rw[d_ hlt]at hm;cases hm
   .rw[a_ hij]at hm;exact hm
 .refine .inl ⟨G,fun _ _ z=>z,s.gok,s.old,s.ge,s.gf,by simpa using s.lm,s.lr,?_,?_,?_,?_,fun j o hj hm=>?_⟩
  .intro j e hj hm;have hij:i≠j:=by rintro rfl;exact hb ⟨e,hj⟩
   rw[a_ hij]at hm;exact s.sh j e hj hm
  .intro j e hj hm;have hij:i≠j:=by rintro rfl;exact hb ⟨e,hj⟩
   rw[a_ hij]at hm;exact s.ow j e hj hm
  .intro j e hj hm;have hij:i≠j:=by rintro rfl;exact hb ⟨e,hj⟩
   rw[a_ hij]at hm;exact s.bw j e hj hm
  .intro j k b e e' hjk hj hk hm hm' q1 q2;have hij:i≠j:=by rintro rfl;exact hb ⟨e,hj⟩
   have hik:i≠k:=by rintro rfl;exact hb ⟨e',hk⟩
   rw[a_ hij]at hm;rw[a_ hik]at hm';exact s.dis j k b e e' hjk hj hk hm hm' q1 q2
  .refine s.lk j o hj ?_;by_cases hij:i=j
   .subst hij;rw[d_ hlt]at hm;cases hm
   .rw[a_ hij]at hm;exact hm
end
theorem PE.imp{X:Cx}{e:Expr}{t t':TE}(h:PE X e t)(i:∀σ H Q,t' σ H Q->t σ H Q):PE X e t':=fun pz s σ H Q I q=>h pz s σ H Q I (i σ H Q q)
theorem PT.imp{X:Cx}{e:Expr}{t t':TT}(h:PT X e t)(i:∀σ H Q,t' σ H Q->t σ H Q):PT X e t':=fun pz s σ H Q I q=>h pz s σ H Q I (i σ H Q q)
theorem PW.imp{X:Cx}{e:Expr}{t t':TT}(h:PW X e t)(i:∀σ H Q,t' σ H Q->t σ H Q):PW X e t':=fun whole pz s σ H Q I q=>h whole pz s σ H Q I (i σ H Q q)
theorem PA.imp{X:Cx}{e:List Expr}{t t':TA}(h:PA X e t)(i:∀σ H Q,t' σ H Q->t σ H Q):PA X e t':=fun pos pz s σ H Q I q=>h pos pz s σ H Q I (i σ H Q q)
theorem PS.imp{X:Cx}{e:Stmt}{t t':TS}(h:PS X e t)(i:∀D σ H,t' D σ H->t D σ H):PS X e t':=fun pz s σ H D I q=>h pz s σ H D I (i D σ H q)
theorem bx.imp{X:Cx}{e:List Stmt}{t t':TS}(h:bx X e t)(i:∀D σ H,t' D σ H->t D σ H):bx X e t':=fun pz s σ H D I q=>h pz s σ H D I (i D σ H q)
def AJ(X:Cx)(σ:L2.St)(G:GH)(H':Hp)(e:b_)(x:D)(s':e_):Prop:=∃pz s H1 a C od nm ds,e=.ref a/\x=xD nm ds/\XN X.K nm C/\XF G od ds/\Inv X pz σ H1 s/\Fly X.prog X.w X.stack H1 s H' a (.ref C) od s'
def XW(X:Cx)(σ:L2.St)(G:GH)(H:Hp)(x:D):Prop:=∀pz e s' G' H',Grow X.K G H G' H'->Inv X pz σ H' s'->AJ X σ G' H' e x s'->X.xe e s'
theorem XW.grow{X:Cx}{σ:L2.St}{G G1:GH}{H H1:Hp}{x:D}(h:XW X σ G H x)(w:Grow X.K G H G1 H1):XW X σ G1 H1 x:=fun pz e s' G' H' w' I q=>h pz e s' G' H' (w.trans w') I q
abbrev FE:=ah->Res D
def tE(X:Cx)(g:GE)(m:List Md)(f:FE):TE:=fun σ H Q=>∃r G,SI X g m r G σ H/\fin (f r) (fun d=>∀v G' H',Grow X.K G H G' H'->RG X.K G' v d->Q v H') (XW X σ G H)
def tB(X:Cx)(g:GE)(m:List Md)(f:FE):TE:=fun σ H Q=>∃r G,SI X g m r G σ H/\fin (f r) (fun d=>∀v G' H',Grow X.K G H G' H'->RB X.K G' H' v d->Q v H') (XW X σ G H)
def tO(X:Cx)(g:GE)(m:List Md)(f:FE):TE:=fun σ H Q=>∃r G,SI X g m r G σ H/\fin (f r) (fun d=>∀a G' H',Grow X.K G H G' H'->H a=none->Own X.K G' H' a d->Q (.ref a) H') (XW X σ G H)
def tQ(X:Cx)(g:GE)(m:List Md)(f:ah->Res Bool):TT:=fun σ H Q=>∃r G,SI X g m r G σ H/\fin (f r) (fun b=>∀G' H',Grow X.K G H G' H'->Q b H') (XW X σ G H)
def tL(X:Cx)(g:GE)(m:List Md)(f:ah->Res (List D)):TA:=fun σ H Q=>∃r G,SI X g m r G σ H/\fin (f r) (fun ds=>∀vs G' H',Grow X.K G H G' H'->b7 X.K G' vs ds->Q vs H') (XW X σ G H)
def uC(X:Cx)(g:GE)(m:List Md)(f:ah->Res (List D)):TA:=fun σ H Q=>∃r G,SI X g m r G σ H/\fin (f r) (fun ds=>∀vs G' H',Grow X.K G H G' H'->Paired (RB X.K G' H') vs ds->Q vs H') (XW X σ G H)
def SE(X:Cx)(g:GE)(m:List Md)(e:Expr)(f:FE):Prop:=PE X e (tE X g m f)
def SB(X:Cx)(g:GE)(m:List Md)(e:Expr)(f:FE):Prop:=PE X e (tB X g m f)
def SO(X:Cx)(g:GE)(m:List Md)(e:Expr)(f:FE):Prop:=PE X e (tO X g m f)
def SQ(X:Cx)(g:GE)(m:List Md)(e:Expr)(f:ah->Res Bool):Prop:=PT X e (tQ X g m f)
def SW(X:Cx)(g:GE)(m:List Md)(e:Expr)(f:ah->Res Bool):Prop:=PW X e (tQ X g m f)
def SA(X:Cx)(g:GE)(m:List Md)(es:List Expr)(f:ah->Res (List D)):Prop:=PA X es (tL X g m f)
def hW(X:Cx)(g:GE)(m:List Md)(es:List Expr)(f:ah->Res (List D)):Prop:=PA X es (uC X g m f)
section
variable{X:Cx}{g:GE}{m:List Md}{e a b c:Expr}{f fa fb fc:FE}{pos:Pos}
theorem SE.toB(h:SE X g m e f):SB X g m e f:=PE.imp h fun σ H Q ⟨r,G,si,q⟩=>⟨r,G,si,bh q fun d k v G' H' w z=>k v G' H' w z.rb⟩
theorem Inv.fast{pz:List (Addr×Obj)}{σ:L2.St}{H:Hp}{s:e_}(I:Inv X pz σ H s)(a:Addr):∃ob,Inv X pz σ (fz H a ob) s:=by cases e:H a with
|none=>exact⟨{ cls:=.none,data:=.fields #[] },by unfold fz;rw[e];exact I⟩
|some u=>cases u with
 |dK ps=>
   obtain⟨z1,z2,vs,z3,o,es,ep,z4,z5⟩:=(show cE X.prog X.w H s.heap a (.dK ps)from I.hok a _ e)
   have ef:fz H a o=upd H a (.frz o (.dK ps)):=by unfold fz;rw[e]
   refine⟨o,?_⟩;rw[ef];exact I.write (t':=s.toks) (h':=s.heap) (x:=a) (e:=a) (by rw[e];exact trivial) (.inl rfl) (fun b u _ q=>q) ⟨o,z4⟩ (show cE X.prog X.w _ s.heap a (.frz o (.dK ps))from⟨z4,z1,z2,vs,z3,o,es,ep,z4,z5⟩)
 |_=>exact⟨{ cls:=.none,data:=.fields #[] },by unfold fz;rw[e];exact I⟩
theorem SO.toE(h:SO X g m e f):SE X g m e f:=by intro pz s σ H Q I ⟨r,G,si,q⟩;refine aO (h pz s σ H (fun v H'=>∃a,v=.ref a/\∀ob,Q v (fz H' a ob)) I ⟨r,G,si,bh q fun d k a G' H' w hn o=>⟨a,rfl,fun ob=>k _ _ _ (w.frz hn o ob) (.ref cQ)⟩⟩) fun u s' ⟨v,H',I',rv,a,_,z⟩=>?_;obtain⟨ob,I2⟩:=Inv.fast I' a;exact⟨v,_,I2,rv,z ob⟩
theorem SO.toB(h:SO X g m e f):SB X g m e f:=h.toE.toB
theorem SE.eq{f':FE}(h:SE X g m e f)(q:∀r,f' r=f r):SE X g m e f':=by have:f'=f:=funext q;rw[this];exact h
theorem mw{v:V}{d:D}(h:PE X e (tC v))(s:Scl v d):SE X g m e fun _=>.ok d:=PE.imp h fun σ H Q ⟨r,G,si,q⟩=>q v G H (Grow.refl si.gok) (.scl s)
theorem gz{i:Int}{j}:SE X g m (.Constant (.int i) j pos) fun _=>.ok (.int i):=mw Co (.int i)
theorem d6{i:Bool}{j}:SE X g m (.Constant (.bool i) j pos) fun _=>.ok (.bl i):=mw B7 (.bl i)
theorem oj{j}:SE X g m (.Constant .none j pos) fun _=>.ok .non:=mw Cp .non
theorem jT{i:Str}{j}:SE X g m (.Constant (.str i) j pos) fun _=>.ok (.str i):=mw wX (.str i)
def cz(r:ah)(i:Nat):Res D:=match r[i]? with
|some (some d)=>.ok d
|_=>.stuck
theorem oY{r:ah}{i:Nat}{q:D->Prop}{x:D->Prop}(h:fin (cz r i) q x):∃d,r[i]? = some (some d)/\q d:=by
 unfold cz at h;split at h
 .rename_i d e;exact⟨d,e,h⟩
 .exact h.elim
theorem BK(i:Nat){x:Str}(hm:m[i]? = some .sh)(hN:X.N[i]? = some x)(hv:dk X.env.scope x)(hd:(x==("__debug__" : Str))=false:=by decide)(hcd:(x==("__classdict__" : Str))=false:=by decide):SE X g m (.Name x pos) fun r=>cz r i:=by refine PE.imp (dJ hN hv hd hcd) fun σ H Q ⟨r,G,si,q⟩=>?_;obtain⟨d,e,k⟩:=oY q;obtain⟨v,e1,e2⟩:=si.sh i d e hm;exact⟨v,e1,k v G H (Grow.refl si.gok) e2⟩
theorem Dx(i:Nat){x:Str}(hm:i<m.length)(hN:X.N[i]? = some x)(hv:dk X.env.scope x)(hd:(x==("__debug__" : Str))=false:=by decide)(hcd:(x==("__classdict__" : Str))=false:=by decide):SB X g m (.Name x pos) fun r=>cz r i:=by refine PE.imp (dJ hN hv hd hcd) fun σ H Q ⟨r,G,si,q⟩=>?_;obtain⟨d,e,k⟩:=oY q;have hm':m[i]? = some m[i]:=m_ hm;cases h:m[i]with
|sh=>obtain⟨v,e1,e2⟩:=si.sh i d e (hm'.trans (by rw[h]));exact⟨v,e1,k v G H (Grow.refl si.gok) e2.rb⟩
|ow=>obtain⟨v,e1,e2,_⟩:=si.ow i d e (hm'.trans (by rw[h]));exact⟨_,e1,k _ G H (Grow.refl si.gok) (.inr ⟨v,rfl,e2⟩)⟩
|bw=>obtain⟨v,e1,e2⟩:=si.bw i d e (hm'.trans (by rw[h]));exact⟨_,e1,k _ G H (Grow.refl si.gok) e2.rb⟩
theorem DY{x:Str}{v:V}{u:b_}{d:D}(hg:Gl X x)(hm:X.mg x=some u)(r:ar v u)(s:Scl v d)(hd:(x==("__debug__" : Str))=false:=by decide):SE X g m (.Name x pos) fun _=>.ok d:=mw (rJ hg hm r hd) s
theorem seq2{β:Type}{k:D->D->Res β}{q:β->Prop}{R:V->V->Hp->Prop}{r:ah}{G:GH}{σ:L2.St}{H:Hp}(si:SI X g m r G σ H)(h:fin ((fa r).bind fun d1=>(fb r).bind fun d2=>k d1 d2) q (XW X σ G H))(hk:∀d1 d2 v1 v2 G2 H2,Grow X.K G H G2 H2->RB X.K G2 H2 v1 d1->RB X.K G2 H2 v2 d2->fin (k d1 d2) q (XW X σ G H)->R v1 v2 H2):tB X g m fa σ H fun v1 H1=>tB X g m fb σ H1 fun v2 H2=>R v1 v2 H2:=by refine⟨r,G,si,bh (bu h) fun d1 h1 v1 G1 H1 w1 r1=>⟨r,G1,si.grow w1,?_⟩⟩;cases e:fb r with
|ok d2=>rw[e]at h1;exact fun v2 G2 H2 w2 r2=>hk d1 d2 v1 v2 G2 H2 (w1.trans w2) (r1.mono w2) r2 h1
|exc x=>rw[e]at h1;exact(show XW X σ G H x from h1).grow w1
|stuck=>rw[e]at h1;exact h1
def cn{α:Type}:Option α->Res α
|some a=>.ok a
|none=>.stuck
@[simp] theorem opt_some{α:Type}(a:α):cn (some a)=.ok a:=rfl
@[simp] theorem opt_none{α:Type}:cn (none:Option α)=.stuck:=rfl
theorem dc{α:Type}{o:Option α}{q:α->Prop}{x:D->Prop}(h:fin (cn o) q x):∃a,o=some a/\q a:=by cases o with
|none=>exact h.elim
|some a=>exact⟨a,rfl,h⟩
def fx(K:W.Frag)(r:R2)(k:D->D->Option D):Prop:=∀(G:GH)(H:Hp)(v1 v2:V)(d1 d2 d:D)(Q:VK),aN K G H->RB K G H v1 d1->RB K G H v2 d2->k d1 d2=some d ->(∀v G' H',Grow K G H G' H'->RG K G' v d->Q v H')->r v1 v2 H Q
def vJ(K:W.Frag)(r:R2)(k:D->D->Option D):Prop:=∀(G:GH)(H:Hp)(v1 v2:V)(d1 d2 d:D)(Q:VK),aN K G H->RB K G H v1 d1->RB K G H v2 d2->k d1 d2=some d ->(∀a G' H',Grow K G H G' H'->H a=none->Own K G' H' a d->Q (.ref a) H')->r v1 v2 H Q
def f2(fa fb:FE)(k:D->D->Option D):FE:=fun r=>(fa r).bind fun d1=>(fb r).bind fun d2=>cn (k d1 d2)
theorem qr{R:R2}{k:D->D->Option D}(ho:fx X.K R k)(h:PE X e (lH R (tB X g m fa) (tB X g m fb))):SE X g m e (f2 fa fb k):=by refine PE.imp h fun σ H Q ⟨r,G,si,q⟩=>?_;refine seq2 si q fun d1 d2 v1 v2 G2 H2 w r1 r2 q2=>?_;obtain⟨d,e,q2⟩:=dc q2;exact ho G2 H2 v1 v2 d1 d2 d Q w.ok r1 r2 e fun v G' H' w' z=>q2 v G' H' (w.trans w') z
theorem Dv{R:R2}{k:D->D->Option D}(ho:vJ X.K R k)(h:PE X e (lH R (tB X g m fa) (tB X g m fb))):SO X g m e (f2 fa fb k):=by
 refine PE.imp h fun σ H Q ⟨r,G,si,q⟩=>?_;refine seq2 si q fun d1 d2 v1 v2 G2 H2 w r1 r2 q2=>?_;obtain⟨d,e,q2⟩:=dc q2;exact ho G2 H2 v1 v2 d1 d2 d Q w.ok r1 r2 e fun a G' H' w' hn z=>q2 a G' H' (w.trans w') (by cases q:H a with
 |none=>rfl
 |some o=>rw[w.he _ _ q]at hn;cases hn) z
theorem jz{op:Operator}{R:R2}{k:D->D->Option D}(hr:bZ X (Kr op) R)(ho:fx X.K R k)(ha:SB X g m a fa)(hb:SB X g m b fb):SE X g m (.BinOp a op b pos) (f2 fa fb k):=qr ho (qw hr ha hb)
theorem DU{op:Operator}{R:R2}{k:D->D->Option D}(hr:bZ X (Kr op) R)(ho:vJ X.K R k)(ha:SB X g m a fa)(hb:SB X g m b fb):SO X g m (.BinOp a op b pos) (f2 fa fb k):=Dv ho (qw hr ha hb)
theorem qo{op:CmpOp}{R:R2}{k:D->D->Option D}(hr:bZ X (KS op) R)(ho:fx X.K R k)(ha:SB X g m a fa)(hb:SB X g m b fb)(hm:Ll op b=false):SE X g m (.Compare a [op] [b] pos) (f2 fa fb k):=qr ho (ED hr ha hb hm)
def iS:D->Option Bool
|.bl b=>some b
|_=>none
def aS(f:FE):ah->Res Bool:=fun r=>(f r).bind fun d=>cn (iS d)
theorem lX{op:CmpOp}{R:R2}{k:D->D->Option D}(hr:bZ X (KS op) R)(ho:fx X.K R k)(ha:SB X g m a fa)(hb:SB X g m b fb)(hm:Ll op b=false):SQ X g m (.Compare a [op] [b] pos) (aS (f2 fa fb k)):=by
 refine PT.imp (DZ hr ha hb hm) fun σ H Q ⟨r,G,si,q⟩=>?_;have e:aS (f2 fa fb k) r=(fa r).bind fun d1=>(fb r).bind fun d2=>(cn (k d1 d2)).bind fun d=>cn (iS d):=by unfold aS f2;cases fa r with
 |ok d1=>cases fb r <;> rfl
 |exc _=>rfl
 |stuck=>rfl
 rw[e]at q;refine seq2 (R:=fun x y H2=>R x y H2 fun x H'=>∃k,x=V.bl k/\Q k H') si q fun d1 d2 v1 v2 G2 H2 w r1 r2 q3=>?_;obtain⟨d,e,q3⟩:=dc (bu q3);obtain⟨b,eb,q3⟩:=dc q3;cases d with
|bl b'=>cases eb;exact ho G2 H2 v1 v2 d1 d2 _ _ w.ok r1 r2 e fun v G' H' w' z=>⟨_,z.bl w'.ok,q3 G' H' (w.trans w')⟩
|_=>cases eb
end
instance decMul(i j:Int):Decidable (fY i j):=by unfold fY;infer_instance
instance decDiv(i j:Int):Decidable (gQ i j):=by unfold gQ;infer_instance
instance decPow(i j:Int):Decidable (gP i j):=by unfold gP;infer_instance
def kN(k:Int->Int->D):D->D->Option D
|.int a,.int b=>some (k a b)
|_,_=>none
def iF(C:Int->Int->Prop)[∀a b,Decidable (C a b)](k:Int->Int->D):D->D->Option D
|.int a,.int b=>if C a b then some (k a b)else none
|_,_=>none
@[simp] theorem ints2_int(k:Int->Int->D)(a b:Int):kN k (.int a) (.int b)=some (k a b):=rfl
@[simp] theorem intsC_int(C:Int->Int->Prop)[∀a b,Decidable (C a b)](k:Int->Int->D)(a b:Int):iF C k (.int a) (.int b)=if C a b then some (k a b)else none:=rfl
section
variable{K:W.Frag}
theorem mr{gv:Int->Int->V}{gd:Int->Int->D}(hs:∀i j,Scl (gv i j) (gd i j)):fx K (ku gv) (kN gd):=by
 intro G H v1 v2 d1 d2 d Q g r1 r2 e q;unfold kN at e;split at e
 .cases e;exact⟨_,_,r1.int g,r2.int g,q _ G H (Grow.refl g) (.scl (hs _ _))⟩
 .cases e
theorem lh{C:Int->Int->Prop}[∀a b,Decidable (C a b)]{gv:Int->Int->V}{gd:Int->Int->D}(hs:∀i j,Scl (gv i j) (gd i j)):fx K (rI C gv) (iF C gd):=by
 intro G H v1 v2 d1 d2 d Q g r1 r2 e q;unfold iF at e;split at e
 .split at e
  .rename_i hc;cases e;exact⟨_,_,r1.int g,r2.int g,hc,q _ G H (Grow.refl g) (.scl (hs _ _))⟩
  .cases e
 .cases e
theorem fx.or{r r':R2}{k k':D->D->Option D}(h:fx K r k)(h':fx K r' k'):fx K (fun x y H Q=>r x y H Q\/r' x y H Q) (fun a b=>match k a b with|some d=>some d|none=>k' a b):=by intro G H v1 v2 d1 d2 d Q g r1 r2 e q;cases e1:k d1 d2 with
|some d'=>simp only[e1]at e;cases e;exact .inl (h G H v1 v2 d1 d2 d Q g r1 r2 e1 q)
|none=>simp only[e1]at e;exact .inr (h' G H v1 v2 d1 d2 d Q g r1 r2 e q)
end
abbrev cW:D->D->Option D:=kN fun a b=>.int (a-b)
abbrev bj:D->D->Option D:=iF fY fun a b=>.int (a*b)
abbrev fm:D->D->Option D:=iF gQ fun a b=>.int (a/b)
abbrev aJ:D->D->Option D:=iF (fun _ b=>0<b) fun a b=>.int (a%b)
abbrev ir:D->D->Option D:=iF gP fun a b=>.int (a^b.toNat)
abbrev hJ:D->D->Option D:=kN fun a b=>.bl (decide (a<b))
abbrev c9:D->D->Option D:=kN fun a b=>.bl (decide (b<a))
section
variable{X:Cx}{g:GE}{m:List Md}{e a b c:Expr}{f fa fb fc:FE}{pos:Pos}
theorem kQ(ha:SB X g m a fa)(hb:SB X g m b fb):SE X g m (.BinOp a .Sub b pos) (f2 fa fb cW):=jz Ck (mr fun _ _=>.int _) ha hb
theorem gX(ha:SB X g m a fa)(hb:SB X g m b fb):SE X g m (.BinOp a .Mult b pos) (f2 fa fb bj):=jz Ch (lh fun _ _=>.int _) ha hb
theorem ja(ha:SB X g m a fa)(hb:SB X g m b fb):SE X g m (.BinOp a .FloorDiv b pos) (f2 fa fb fm):=jz Ez (lh fun _ _=>.int _) ha hb
theorem db(ha:SB X g m a fa)(hb:SB X g m b fb):SE X g m (.BinOp a .Mod b pos) (f2 fa fb aJ):=jz Cg (lh fun _ _=>.int _) ha hb
theorem BG(ha:SB X g m a fa)(hb:SB X g m b fb):SE X g m (.BinOp a .Pow b pos) (f2 fa fb ir):=jz Ci (lh fun _ _=>.int _) ha hb
theorem uI(ha:SB X g m a fa)(hb:SB X g m b fb):SE X g m (.Compare a [.Lt] [b] pos) (f2 fa fb hJ):=qo vZ (mr fun _ _=>.bl _) ha hb (jE _)
theorem ko(ha:SB X g m a fa)(hb:SB X g m b fb):SE X g m (.Compare a [.Gt] [b] pos) (f2 fa fb c9):=qo wM (mr fun _ _=>.bl _) ha hb (jE _)
theorem ik(ha:SB X g m a fa)(hb:SB X g m b fb):SQ X g m (.Compare a [.Lt] [b] pos) (aS (f2 fa fb hJ)):=lX vZ (mr fun _ _=>.bl _) ha hb (jE _)
theorem eU(ha:SB X g m a fa)(hb:SB X g m b fb):SQ X g m (.Compare a [.Gt] [b] pos) (aS (f2 fa fb c9)):=lX wM (mr fun _ _=>.bl _) ha hb (jE _)
def f1(fa:FE)(k:D->Option D):FE:=fun r=>(fa r).bind fun d=>cn (k d)
def fR:D->Option D
|.int a=>some (.int (-a))
|_=>none
@[simp] theorem negI_int(a:Int):fR (.int a)=some (.int (-a)):=rfl
theorem qq(ha:SB X g m a fa):SE X g m (.UnaryOp .USub a pos) (f1 fa fR):=by
 refine PE.imp (B8 DO ha) fun σ H Q ⟨r,G,si,q⟩=>⟨r,G,si,bh (bu q) fun d q1 v G1 H1 w1 r1=>?_⟩
 obtain⟨d',e,q2⟩:=dc q1;cases d with
|int i=>cases e;exact⟨i,r1.int w1.ok,q2 _ G1 H1 w1 (.scl (.int _))⟩
|_=>cases e
def gD:D->Option Bool
|.non=>some false
|.bl b=>some b
|.int i=>some (i != 0)
|.str y=>if y.length<=sizeLine then some ((y.length:Int) != 0)else none
|.lst ds=>some (! ds.isEmpty)
|.tup ds=>some (! ds.isEmpty)
|.dic kvs=>some (! kvs.isEmpty)
|.obj _ _=>none
theorem sf{α β:Type}{F:α->β->Prop}{l:List α}{r:List β}(h:Paired F l r):l.isEmpty=r.isEmpty:=by cases h <;> rfl
theorem E1{K:W.Frag}{G:GH}{H:Hp}{v:V}{d:D}{b:Bool}(gk:aN K G H)(h:RB K G H v d)(e:gD d=some b):kE K v H b:=by cases d with
|non=>cases e;rw[h.non gk];rfl
|bl b'=>cases e;rw[h.bl gk];rfl
|int i=>cases e;rw[h.int gk];rfl
|str y=>
  rw[h.str gk];have e':(if y.length<=sizeLine then some ((y.length:Int) != 0)else none)=some b:=e;by_cases hy:y.length<=sizeLine
  .rw[if_pos hy]at e';cases e';exact⟨hy,rfl⟩
  .rw[if_neg hy]at e';cases e'
|lst ds=>cases e;obtain⟨a,xs,rfl,s,r⟩:=h.lst gk;exact .inl ⟨xs,s,by rw[sf r]⟩
|tup ds=>cases e;obtain⟨a,xs,rfl,s,r⟩:=h.tup gk;exact .inr (.inl ⟨xs,s,by rw[sf r]⟩)
|dic kvs=>cases e;obtain⟨a,xs,rfl,s,r⟩:=h.dic gk;exact .inr (.inr ⟨xs,s,by rw[sf r]⟩)
|obj _ _=>cases e
def aR(f:FE):ah->Res Bool:=fun r=>(f r).bind fun d=>cn (gD d)
theorem dq(ha:SB X g m a fa)(he:∀whole,isTrue a X.env whole=(do let v <-whole;Nu a.pos;KO [v] (truthy v)):=by intro _;rfl):SQ X g m a (aR fa):=by
 refine PT.imp (FG ha he) fun σ H Q ⟨r,G,si,q⟩=>⟨r,G,si,bh (bu q) fun d q1 v G1 H1 w1 r1=>?_⟩
 obtain⟨b,e,q2⟩:=dc q1;exact⟨b,E1 w1.ok r1 e,q2 G1 H1 w1⟩
abbrev FQ:=ah->Res Bool
def bn(p q:FQ):FQ:=fun r=>(p r).bind fun c=>if c=true then q r else .ok false
def eI(p q:FQ):FQ:=fun r=>(p r).bind fun c=>if c=true then .ok true else q r
def bG(p:FQ):FQ:=fun r=>(p r).bind fun c=>.ok (! c)
variable{p q:FQ}{rest:List Expr}
theorem AR{α:Type}{r:Res α}{q:α->Prop}{x x':D->Prop}(h:fin r q x)(hx:∀e,x e->x' e):fin r q x':=by cases r with
|ok a=>exact h
|exc e=>exact hx e h
|stuck=>exact h
theorem g6{α:Type}{r:Res α}{σ:L2.St}{G G1:GH}{H H1:Hp}{P P':α->Prop}(h:fin r P (XW X σ G H))(w:Grow X.K G H G1 H1)(hp:∀a,P a->P' a):fin r P' (XW X σ G1 H1):=AR (bh h hp) fun _ x=>x.grow w
theorem kY(ha:SQ X g m a p):SW X g m (.BoolOp .And [a] pos) p:=D5 ha
theorem i3(ha:SQ X g m a p):SW X g m (.BoolOp .Or [a] pos) p:=Cy ha
theorem iG(ha:SQ X g m a p)(hb:SW X g m (.BoolOp .And (b::rest) pos) q):SW X g m (.BoolOp .And (a::b::rest) pos) (bn p q):=by
 refine PW.imp (Cw ha hb) fun σ H Q ⟨r,G,si,k⟩=>⟨r,G,si,bh (bu k) fun c k1 G1 H1 w1=>?_⟩
 cases c with
|true=>rw[if_pos rfl]at k1 ⊢;exact⟨r,G1,si.grow w1,g6 k1 w1 fun b z G' H' w'=>z G' H' (w1.trans w')⟩
|false=>rw[if_neg l_]at k1 ⊢;exact k1 G1 H1 w1
theorem de(ha:SQ X g m a p)(hb:SW X g m (.BoolOp .Or (b::rest) pos) q):SW X g m (.BoolOp .Or (a::b::rest) pos) (eI p q):=by
 refine PW.imp (Ca ha hb) fun σ H Q ⟨r,G,si,k⟩=>⟨r,G,si,bh (bu k) fun c k1 G1 H1 w1=>?_⟩
 cases c with
|true=>rw[if_pos rfl]at k1 ⊢;exact k1 G1 H1 w1
|false=>rw[if_neg l_]at k1 ⊢;exact⟨r,G1,si.grow w1,g6 k1 w1 fun b z G' H' w'=>z G' H' (w1.trans w')⟩
theorem SW.toQ(h:SW X g m e p):SQ X g m e p:=PW.pt h
theorem fq(ha:SQ X g m a p):SQ X g m (.UnaryOp .Not a pos) (bG p):=PT.imp (Cv ha) fun σ H Q ⟨r,G,si,k⟩=>⟨r,G,si,bh (bu k) fun c k1 G1 H1 w1=>k1 G1 H1 w1⟩
def cV(fa fb:FE):FE:=fun r=>(fa r).bind fun d=>(cn (iS d)).bind fun c=>if c=true then fb r else .ok (.bl false)
def IT(fa fb:FE):FE:=fun r=>(fa r).bind fun d=>(cn (iS d)).bind fun c=>if c=true then .ok (.bl true)else fb r
def gB(fa:FE):FE:=fun r=>(fa r).bind fun d=>(cn (iS d)).bind fun c=>.ok (.bl (! c))
theorem kP{op}(h:SE X g m a fa):SE X g m (.BoolOp op [a] pos) fa:=Cr h
theorem jS(ha:SE X g m a fa)(hb:SE X g m (.BoolOp .And (b::rest) pos) fb):SE X g m (.BoolOp .And (a::b::rest) pos) (cV fa fb):=by
 refine PE.imp (Cm ha hb) fun σ H Q ⟨r,G,si,k⟩=>⟨r,G,si,bh (bu k) fun d k1 v G1 H1 w1 r1=>?_⟩
 obtain⟨c,e,k2⟩:=dc (bu k1);cases d with
|bl c'=>cases e;refine⟨_,r1.bl w1.ok,?_⟩;cases c with
 |true=>rw[if_pos rfl]at k2 ⊢;exact⟨r,G1,si.grow w1,g6 k2 w1 fun b z v G' H' w'=>z v G' H' (w1.trans w')⟩
 |false=>rw[if_neg l_]at k2 ⊢;exact k2 _ G1 H1 w1 (.scl (.bl _))
|_=>cases e
theorem wO(ha:SE X g m a fa):SE X g m (.UnaryOp .Not a pos) (gB fa):=by
 refine PE.imp (Cq ha) fun σ H Q ⟨r,G,si,k⟩=>⟨r,G,si,bh (bu k) fun d k1 v G1 H1 w1 r1=>?_⟩
 obtain⟨c,e,k2⟩:=dc (bu k1);cases d with
|bl c'=>cases e;exact⟨_,r1.bl w1.ok,k2 _ G1 H1 w1 (.scl (.bl _))⟩
|_=>cases e
def Jn(p:FQ)(fa fb:FE):FE:=fun r=>(p r).bind fun c=>if c=true then fa r else fb r
variable{es:List Expr}{fl fr:ah->Res (List D)}
def ae:ah->Res (List D):=fun _=>.ok []
def ag(fa:FE)(fl:ah->Res (List D)):ah->Res (List D):=fun r=>(fa r).bind fun d=>(fl r).bind fun ds=>.ok (d::ds)
theorem cf:SA X g m [] ae:=PA.imp hZ fun σ H Q ⟨r,G,si,k⟩=>k [] G H (Grow.refl si.gok) .nil
theorem bg(ha:SE X g m e fa)(hr:SA X g m es fl)(hs:g_ (e::es) X.env=(false,eval e X.env)::g_ es X.env:=by rfl):SA X g m (e::es) (ag fa fl):=by
 refine PA.imp (d4 ha hr hs) fun σ H Q ⟨r,G,si,k⟩=>⟨r,G,si,bh (bu k) fun d k1 v G1 H1 w1 r1=>⟨r,G1,si.grow w1,?_⟩⟩
 exact g6 (bu k1) w1 fun ds z vs G2 H2 w2 r2=>z (v::vs) G2 H2 (w1.trans w2) (.cons (r1.mono w2.ge) r2)
theorem bW:hW X g m [] ae:=PA.imp hZ fun σ H Q ⟨r,G,si,k⟩=>k [] G H (Grow.refl si.gok) .nil
theorem bR(ha:SB X g m e fa)(hr:hW X g m es fl)(hs:g_ (e::es) X.env=(false,eval e X.env)::g_ es X.env:=by rfl):hW X g m (e::es) (ag fa fl):=by
 refine PA.imp (d4 ha hr hs) fun σ H Q ⟨r,G,si,k⟩=>⟨r,G,si,bh (bu k) fun d k1 v G1 H1 w1 r1=>⟨r,G1,si.grow w1,?_⟩⟩
 exact g6 (bu k1) w1 fun ds z vs G2 H2 w2 r2=>z (v::vs) G2 H2 (w1.trans w2) (.cons (r1.mono w2) r2)
def sz(ds:List D):Option (List D):=if ds.length<=sizeLine then some ds else none
theorem qF{ds ds':List D}(h:sz ds=some ds'):ds'=ds/\ds.length<=sizeLine:=by
 unfold sz at h;split at h
 .rename_i hl;cases h;exact⟨rfl,hl⟩
 .cases h
theorem BO{ds:List D}(h:ds.length<=sizeLine):sz ds=some ds:=if_pos h
def cw(fl:ah->Res (List D)):FE:=fun r=>(fl r).bind fun ds=>(cn (sz ds)).bind fun ds=>.ok (.tup ds)
def eG(fl:ah->Res (List D)):FE:=fun r=>(fl r).bind fun ds=>(cn (sz ds)).bind fun ds=>.ok (.lst ds)
theorem dQ{x1}(h:SA X g m es fl):SE X g m (.Tuple es x1 pos) (cw fl):=by
 refine PE.imp (wY h) fun σ H Q ⟨r,G,si,k⟩=>⟨r,G,si,bh (bu k) fun ds k1 vs G1 H1 w1 r1=>?_⟩
 obtain⟨ds',e,k2⟩:=dc (bu k1);obtain⟨rfl,hl⟩:=qF e;have hlen:=Paired.length r1;refine⟨by omega,fun p hp=>?_⟩;exact k2 _ _ _ (w1.trans (Grow.newF (d:=.tup ds') w1.ok hp (.tup (.inl bJ) r1))) (.ref cQ)
theorem iZ(h:SA X g m es fl):SO X g m (.List es pos) (eG fl):=by
 refine PE.imp (wW h) fun σ H Q ⟨r,G,si,k⟩=>⟨r,G,si,bh (bu k) fun ds k1 vs G1 H1 w1 r1=>?_⟩
 obtain⟨ds',e,k2⟩:=dc (bu k1);obtain⟨rfl,hl⟩:=qF e;have hlen:=Paired.length r1;refine⟨by omega,fun p hp=>?_⟩;have hn:H p=none:=by cases q:H p with
 |none=>rfl
 |some o=>rw[w1.he _ _ q]at hp;cases hp
 exact k2 p G1 _ (w1.trans (Grow.new w1.ok hp _)) hn ⟨w1.ok.isN hp,.lst bJ r1⟩
end
def jw(K:W.Frag)(r:List V->Hp->VK->Prop)(k:List D->Option D):Prop:=∀(G:GH)(H:Hp)(vs:List V)(ds:List D)(d:D)(Q:VK),aN K G H->Paired (RB K G H) vs ds->k ds=some d ->(∀v G' H',Grow K G H G' H'->RG K G' v d->Q v H')->r vs H Q
def vW(K:W.Frag)(r:List V->Hp->VK->Prop)(k:List D->Option D):Prop:=∀(G:GH)(H:Hp)(vs:List V)(ds:List D)(d:D)(Q:VK),aN K G H->Paired (RB K G H) vs ds->k ds=some d ->(∀a G' H',Grow K G H G' H'->H a=none->Own K G' H' a d->Q (.ref a) H')->r vs H Q
def fC(fl:ah->Res (List D))(k:List D->Option D):FE:=fun r=>(fl r).bind fun ds=>cn (k ds)
theorem Grow.back{K:W.Frag}{G G1:GH}{H H1:Hp}(w:Grow K G H G1 H1){a:Addr}(hn:H1 a=none):H a=none:=by cases q:H a with
|none=>rfl
|some o=>rw[w.he _ _ q]at hn;cases hn
section
variable{X:Cx}{g:GE}{m:List Md}{e a b c:Expr}{f fa fb fc:FE}{pos p p2:Pos}{es:List Expr}{fl:ah->Res (List D)}{x:Str}{id T:String}{R:List V->Hp->VK->Prop}{k:List D->Option D}
theorem fN(hk:jw X.K R k)(h:PE X e (pW R (uC X g m fl))):SE X g m e (fC fl k):=by
 refine PE.imp h fun σ H Q ⟨r,G,si,q⟩=>⟨r,G,si,bh (bu q) fun ds q1 vs G1 H1 w1 r1=>?_⟩
 obtain⟨d,e,q2⟩:=dc q1;exact hk G1 H1 vs ds d Q w1.ok r1 e fun v G' H' w' z=>q2 v G' H' (w1.trans w') z
theorem BE(hk:vW X.K R k)(h:PE X e (pW R (uC X g m fl))):SO X g m e (fC fl k):=by
 refine PE.imp h fun σ H Q ⟨r,G,si,q⟩=>⟨r,G,si,bh (bu q) fun ds q1 vs G1 H1 w1 r1=>?_⟩
 obtain⟨d,e,q2⟩:=dc q1;exact hk G1 H1 vs ds d Q w1.ok r1 e fun v G' H' w' hn z=>q2 v G' H' (w1.trans w') (w1.back hn) z
def lenD:List D->Option D
|[.str y]=>if y.length<=sizeLine then some (.int y.length)else none
|[.lst ds]=>some (.int ds.length)
|[.tup ds]=>some (.int ds.length)
|[.dic kvs]=>some (.int kvs.length)
|_=>none
theorem CM{K:W.Frag}:jw K (fun xs H Q=>(∃x n,xs=[x]/\nP K x H n/\Q (.int n) H)\/∃a kvs,xs=[V.ref a]/\Rd H a (.dK kvs)/\Q (.int kvs.length) H) lenD:=by
 intro G H vs ds d Q gk rs e q;unfold lenD at e;split at e
 .split at e
  .cases e;cases rs with
  |cons r t=>cases t;exact .inl ⟨_,_,rfl,by rw[r.str gk];exact⟨by assumption,rfl⟩,q _ G H (Grow.refl gk) (.scl (.int _))⟩
  .cases e
 .cases e;cases rs with
 |cons r t=>cases t;obtain⟨a,xs,rfl,s,r⟩:=r.lst gk;have:=Paired.length r;exact .inl ⟨_,_,rfl,.inl ⟨xs,s,rfl⟩,q _ G H (Grow.refl gk) (.scl (by rw[this];exact .int _))⟩
 .cases e;cases rs with
 |cons r t=>cases t;obtain⟨a,xs,rfl,s,r⟩:=r.tup gk;have:=Paired.length r;exact .inl ⟨_,_,rfl,.inr ⟨xs,s,rfl⟩,q _ G H (Grow.refl gk) (.scl (by rw[this];exact .int _))⟩
 .cases e;cases rs with
 |cons r t=>cases t;obtain⟨a,xs,rfl,s,r⟩:=r.dic gk;have:=Paired.length r;exact .inr ⟨_,_,rfl,s,q _ G H (Grow.refl gk) (.scl (by rw[this];exact .int _))⟩
 .cases e
theorem eF(hg:Gl X "len")(hm:X.mg "len" = none)(ha:hW X g m (e::es) fl)(he:g_ (e::es) X.env=(false,eval e X.env)::g_ es X.env:=by rfl)(hpl:(backTo pos (g_ es X.env)).any (·.1)=false:=by rfl):SE X g m (.Call (.Name "len" p) (e::es) [] pos) (fC fl lenD):=fN CM (je (dZ.or FL Gs) hg hm PySem.boot_len ha (by decide) (by decide) he hpl)
def jX:List D->Option D
|[.lst ds]=>some (.lst ds)
|[.tup ds]=>some (.lst ds)
|_=>none
theorem ER{K:W.Frag}:vW K (fun xs H Q=>∃p ys,xs=[.ref p]/\(bb K H p ys\/cr K H p ys)/\∀l,H l=none->Q (.ref l) (upd H l (.lst ys))) jX:=by
 intro G H vs ds d Q gk rs e q;have fin:∀{ys:List V}{zs:List D},b7 K G ys zs->(∀(a:Addr)(G':GH)(H':Hp),Grow K G H G' H'->H a=none->Own K G' H' a (.lst zs)->Q (.ref a) H')->∀l,H l=none->Q (.ref l) (upd H l (.lst ys)):=fun r q l hl=>q l G _ (Grow.new gk hl _) hl ⟨gk.isN hl,.lst bJ r⟩;unfold jX at e;split at e
 .cases e;cases rs with
 |cons r t=>cases t;obtain⟨a,xs,rfl,s,r⟩:=r.lst gk;exact⟨a,xs,rfl,.inl s,fin r q⟩
 .cases e;cases rs with
 |cons r t=>cases t;obtain⟨a,xs,rfl,s,r⟩:=r.tup gk;exact⟨a,xs,rfl,.inr s,fin r q⟩
 .cases e
theorem CW(hg:Gl X "list")(hm:X.mg "list" = none)(ha:hW X g m (e::es) fl)(he:g_ (e::es) X.env=(false,eval e X.env)::g_ es X.env:=by rfl)(hpl:(backTo pos (g_ es X.env)).any (·.1)=false:=by rfl):SO X g m (.Call (.Name "list" p) (e::es) [] pos) (fC fl jX):=BE ER (zS Ik hg hm rfl ha (by decide) (by decide) he hpl)
def tupD:List D->Option D
|[.lst ds]=>some (.tup ds)
|[.tup ds]=>some (.tup ds)
|_=>none
theorem DK{K:W.Frag}:jw K (fun xs H Q=>∃p ys,xs=[.ref p]/\((bb K H p ys/\∀l,H l=none->Q (.ref l) (upd H l (.tup ys)))\/(cr K H p ys/\Q (.ref p) H))) tupD:=by
 intro G H vs ds d Q gk rs e q;unfold tupD at e;split at e
 .cases e;cases rs with
 |cons r t=>cases t;obtain⟨a,xs,rfl,s,r⟩:=r.lst gk;exact⟨a,xs,rfl,.inl ⟨s,fun l hl=>q _ _ _ (Grow.newF gk hl (.tup (.inl bJ) r)) (.ref cQ)⟩⟩
 .cases e;cases rs with
 |cons r t=>
   cases t;rcases r with r|⟨a,_,o⟩
   .obtain⟨a,xs,rfl,s,r'⟩:=r.tup gk;exact⟨a,xs,rfl,.inr ⟨s,q _ G H (Grow.refl gk) r⟩⟩
   .cases o.ob
 .cases e
theorem j5(hg:Gl X "tuple")(hm:X.mg "tuple" = none)(ha:hW X g m (e::es) fl)(he:g_ (e::es) X.env=(false,eval e X.env)::g_ es X.env:=by rfl)(hpl:(backTo pos (g_ es X.env)).any (·.1)=false:=by rfl):SE X g m (.Call (.Name "tuple" p) (e::es) [] pos) (fC fl tupD):=fN DK (zS Iz hg hm rfl ha (by decide) (by decide) he hpl)
def ixD:D->D->Option D
|.lst ds,.int i=>dY ds i
|.tup ds,.int i=>dY ds i
|.str z,.int i=>if z.length<=sizeLine then(dY z.cps.toList i).map fun c=>.str ⟨#[c]⟩else none
|_,_=>none
theorem vO{K:W.Frag}{G:GH}{xs:List V}{ds:List D}{i:Int}{d:D}(r:b7 K G xs ds)(h:dY ds i=some d):∃v,dY xs i=some v/\RG K G v d:=by unfold dY at h ⊢;rw[Paired.length r];cases e:c8 ds.length i with
|none=>rw[e]at h;cases h
|some j=>rw[e]at h;exact Paired.get r h
theorem qz{K:W.Frag}:fx K (uN K) ixD:=by
 intro G H v1 v2 d1 d2 d Q gk r1 r2 e q;unfold ixD at e;split at e
 .obtain⟨a,xs,rfl,s,r⟩:=r1.lst gk;obtain⟨v,ev,rv⟩:=vO r e;exact .inl ⟨a,xs,_,v,rfl,r2.int gk,s,ev,q v G H (Grow.refl gk) rv⟩
 .obtain⟨a,xs,rfl,s,r⟩:=r1.tup gk;obtain⟨v,ev,rv⟩:=vO r e;exact .inr (.inl ⟨a,xs,_,v,rfl,r2.int gk,s,ev,q v G H (Grow.refl gk) rv⟩)
 .split at e
  .rename_i z i hz;cases ec:dY z.cps.toList i with
  |none=>rw[ec]at e;cases e
  |some c=>rw[ec]at e;cases e;exact .inr (.inr ⟨z,i,c,r1.str gk,r2.int gk,hz,ec,q _ G H (Grow.refl gk) (.scl (.str _))⟩)
  .cases e
 .cases e
def bf{α:Type}(xs:List α)(lo hi:Option Int):List α:=(xs.drop (HT.sIx xs.length 0 lo)).take (HT.sIx xs.length xs.length hi-HT.sIx xs.length 0 lo)
theorem qj{α β:Type}{F:α->β->Prop}{xs:List α}{ds:List β}(r:Paired F xs ds)(lo hi:Option Int):Paired F (bf xs lo hi) (bf ds lo hi):=by unfold bf;rw[Paired.length r];exact Paired.tk _ (Paired.dr _ r)
abbrev FP:=ah->Res (Option Int)
def tP(X:Cx)(g:GE)(m:List Md)(f:FP):TO:=fun σ H Q=>∃r G,SI X g m r G σ H/\fin (f r) (fun o=>∀G' H',Grow X.K G H G' H'->Q o H') (XW X σ G H)
def lO(X:Cx)(g:GE)(m:List Md)(e:Option Expr)(f:FP):Prop:=PO X e (tP X g m f)
theorem PO.imp{X:Cx}{e:Option Expr}{t t':TO}(h:PO X e t)(i:∀σ H Q,t' σ H Q->t σ H Q):PO X e t':=fun pz s σ H Q I q=>h pz s σ H Q I (i σ H Q q)
def Jo:D->Option Int
|.int i=>some i
|_=>none
def gT(f:FE):FP:=fun r=>(f r).bind fun d=>(cn (Jo d)).bind fun i=>.ok (some i)
theorem ou:lO X g m none fun _=>.ok none:=PO.imp EJ fun σ H Q ⟨r,G,si,q⟩=>q G H (Grow.refl si.gok)
theorem ox(h:SB X g m e f):lO X g m (some e) (gT f):=by
 refine PO.imp (EK h) fun σ H Q ⟨r,G,si,q⟩=>⟨r,G,si,bh (bu q) fun d q1 v G1 H1 w1 r1=>?_⟩
 obtain⟨i,e,q2⟩:=dc (bu q1);cases d with
|int j=>cases e;exact⟨_,r1.int w1.ok,q2 G1 H1 w1⟩
|_=>cases e
def AB(d:D)(lo hi:Option Int):Option D:=match d with
|.tup ds=>if HT.sIx ds.length 0 lo=0/\HT.sIx ds.length ds.length hi=ds.length then none else some (.tup (bf ds lo hi))
|.lst ds=>some (.lst (bf ds lo hi))
|_=>none
def lM(fa:FE)(fl fh:FP):FE:=fun r=>(fa r).bind fun d=>(fl r).bind fun lo=>(fh r).bind fun hi=>cn (AB d lo hi)
theorem DA{R:V->Option Int->Option Int->Hp->Prop}{fl fh:FP}{r:ah}{G:GH}{σ:L2.St}{H:Hp}{q:D->Prop}(si:SI X g m r G σ H)(h:fin (lM fa fl fh r) q (XW X σ G H))(hk:∀d lo hi v G2 H2 d',Grow X.K G H G2 H2->RB X.K G2 H2 v d->AB d lo hi=some d'->q d'->R v lo hi H2):tB X g m fa σ H fun x H1=>tP X g m fl σ H1 fun l H2=>tP X g m fh σ H2 fun u H3=>R x l u H3:=by refine⟨r,G,si,bh (bu h) fun d h1 v G1 H1 w1 r1=>⟨r,G1,si.grow w1,g6 (bu h1) w1 fun lo h2 G2 H2 w2=>⟨r,G2,(si.grow w1).grow w2,?_⟩⟩⟩;refine g6 (bu h2) (w1.trans w2) fun hi h3 G3 H3 w3=>?_;obtain⟨d',e,h4⟩:=dc h3;exact hk d lo hi v G3 H3 d' ((w1.trans w2).trans w3) ((r1.mono w2).mono w3) e h4
theorem A7{lo hi:Option Expr}{fl fh:FP}(he:SB X g m e f)(hl:lO X g m lo fl)(hu:lO X g m hi fh):SO X g m (.Subscript e (.Slice lo hi none p2) pos) (fun r=>(lM f fl fh r).bind fun d=>match d with|.lst ds=>.ok (.lst ds)|_=>.stuck):=by refine PE.imp (zg yD he hl hu) fun σ H Q ⟨r,G,si,q⟩=>?_;refine DA si (bu q) fun d lo hi v G2 H2 d' w r1 e q2=>?_;cases d with
|lst ds=>cases e;obtain⟨a,xs,rfl,s,r⟩:=r1.lst w.ok;exact⟨a,xs,rfl,s,fun p hp=>q2 p G2 _ (w.trans (Grow.new w.ok hp _)) (w.back hp) ⟨w.ok.isN hp,.lst bJ (qj r lo hi)⟩⟩
|tup ds=>
  have e':(if HT.sIx ds.length 0 lo=0/\HT.sIx ds.length ds.length hi=ds.length then none else some (D.tup (bf ds lo hi)))=some d':=e;split at e'
  .cases e'
  .cases e';exact q2.elim
|_=>cases e
end
inductive Out where
 |nx (r:ah)|rt (d:D)|bk (r:ah)|ct (r:ah)|exc (x:D) (r:ah)|stuck
abbrev FS:=ah->Out
def aG(G G':GH):Prop:=∀a d,G a=some d->G' a=some d
theorem aG.refl(G:GH):aG G G:=fun _ _ e=>e
theorem aG.trans{G G1 G2:GH}(a:aG G G1)(b:aG G1 G2):aG G G2:=fun x d e=>b x d (a x d e)
def forget(m:List Md)(r:ah):ah:=List.zipWith (fun md o=>if md=Md.sh then o else none) m r
def cP(m:List Md):List Md:=m.map fun _=>Md.sh
theorem mP{m:List Md}{r:ah}{i:Nat}{d:D}(h:(forget m r)[i]? = some (some d)):r[i]? = some (some d)/\m[i]? = some .sh:=by unfold forget at h;rw[List.getElem?_zipWith]at h;cases e1:m[i]? with
|none=>rw[e1]at h;cases h
|some md=>cases e2:r[i]? with
 |none=>rw[e1,e2]at h;cases h
 |some o=>
   rw[e1,e2]at h;have h':(if md=Md.sh then o else none)=some d:=B_ h;split at h'
   .rename_i hm;subst hm;rw[h'];exact⟨rfl,rfl⟩
   .cases h'
section
variable{X:Cx}{g:GE}{m:List Md}{r:ah}{G:GH}{st:L2.St}{H:Hp}
theorem SI.forget(s:SI X g m r G st H):SI X g (cP m) (forget m r) G st H where
 gok:=s.gok
 old:=s.old
 ge:=s.ge
 gf:=s.gf
 lm:=by rw[cP,n_];exact s.lm
 lr:=by rw[DL.forget,List.length_zipWith,s.lm,s.lr,Nat.min_self]
 sh:=fun i d h _=>s.sh i d (mP h).1 (mP h).2
 ow:=fun i d h hm=>by rw[cP,s_,(mP h).2]at hm;cases hm
 bw:=fun i d h hm=>by rw[cP,s_,(mP h).2]at hm;cases hm
 dis:=fun i j a d e _ h _ hm=>by rw[cP,s_,(mP h).2]at hm;cases hm
 lk:=fun i o _ hm=>by rw[cP,s_]at hm;cases q:m[i]? <;> rw[q]at hm <;> cases hm
theorem SI.set(s:SI X g m r G st H)(i:Nat){v:V}{d:D}(hv:RG X.K G v d):SI X g (m.set i .sh) (r.set i (some d)) G (st.set i (some v)) H where
 gok:=s.gok
 old:=s.old
 ge:=s.ge
 gf:=s.gf
 lm:=by simp[s.lm]
 lr:=by simp[s.lr]
 sh:=fun j e h hm=>by
  by_cases hij:i=j
  .subst hij;have hl:i<r.length:=by have:=(f_.mp h).1;simpa using this
   rw[d_ hl]at h;cases h;exact⟨v,by rw[d_ (by rw[<-s.lr];exact hl)],hv⟩
  .rw[a_ hij]at h hm;rw[a_ hij];exact s.sh j e h hm
 ow:=fun j e h hm=>by
  by_cases hij:i=j
  .subst hij;have hl:i<m.length:=by have:=(f_.mp hm).1;simpa using this
   rw[d_ hl]at hm;cases hm
  .rw[a_ hij]at h hm;rw[a_ hij];exact s.ow j e h hm
 bw:=fun j e h hm=>by
  by_cases hij:i=j
  .subst hij;have hl:i<m.length:=by have:=(f_.mp hm).1;simpa using this
   rw[d_ hl]at hm;cases hm
  .rw[a_ hij]at h hm;rw[a_ hij];exact s.bw j e h hm
 dis:=fun j k a d1 d2 hjk h1 h2 hm hm' q1 q2=>by
  have hij:i≠j:=by
   rintro rfl
   have hl:i<m.length:=by have:=(f_.mp hm).1;simpa using this
   rw[d_ hl]at hm;cases hm
  have hik:i≠k:=by
   rintro rfl
   have hl:i<m.length:=by have:=(f_.mp h2).1;rw[JD,s.lr,<-s.lm]at this;exact this
   rw[d_ hl]at hm';cases hm'
  rw[a_ hij]at h1 hm q1;rw[a_ hik]at h2 hm' q2;exact s.dis j k a d1 d2 hjk h1 h2 hm hm' q1 q2
 lk:=fun j o hj hm=>by
  have hij:i≠j:=by
   rintro rfl
   have hl:i<m.length:=by have:=(f_.mp hm).1;simpa using this
   rw[d_ hl]at hm;cases hm
  rw[a_ hij]at hm;have:=s.lk j o hj hm;exact⟨by rw[a_ hij];exact this.1,fun d h=>this.2 d (by rw[a_ hij]at h;exact h)⟩
theorem SI.setO(s:SI X g m r G st H)(i:Nat){a:Addr}{d:D}(ho:Own X.K G H a d)(h0:g.h0 a=none)(hx:∀(j:Nat)(b:Addr)(e:D),r[j]? = some (some e)->m[j]? = some Md.ow->st[j]? = some (some (V.ref b))->b≠a):SI X g (m.set i .ow) (r.set i (some d)) G (st.set i (some (V.ref a))) H where
 gok:=s.gok
 old:=s.old
 ge:=s.ge
 gf:=s.gf
 lm:=by simp[s.lm]
 lr:=by simp[s.lr]
 sh:=fun j e h hm=>by
  by_cases hij:i=j
  .subst hij;have hl:i<m.length:=by have:=(f_.mp hm).1;simpa using this
   rw[d_ hl]at hm;cases hm
  .rw[a_ hij]at h hm;rw[a_ hij];exact s.sh j e h hm
 ow:=fun j e h hm=>by
  by_cases hij:i=j
  .subst hij;have hl:i<r.length:=by have:=(f_.mp h).1;simpa using this
   rw[d_ hl]at h;cases h;exact⟨a,by rw[d_ (by rw[<-s.lr];exact hl)],ho,h0⟩
  .rw[a_ hij]at h hm;rw[a_ hij];exact s.ow j e h hm
 bw:=fun j e h hm=>by
  by_cases hij:i=j
  .subst hij;have hl:i<m.length:=by have:=(f_.mp hm).1;simpa using this
   rw[d_ hl]at hm;cases hm
  .rw[a_ hij]at h hm;rw[a_ hij];exact s.bw j e h hm
 dis:=fun j k b d1 d2 hjk h1 h2 hm hm' q1 q2=>by
  by_cases hij:i=j
  .subst hij;rw[a_ hjk]at h2 hm' q2;have hl:i<st.length:=by have:=(f_.mp q1).1;simpa using this
   rw[d_ hl]at q1;have e:a=b:=by injection q1 with q1;injection q1 with q1;injection q1
   exact hx k b d2 h2 hm' q2 e.symm
  .by_cases hik:i=k
   .subst hik;rw[a_ hij]at h1 hm q1;have hl:i<st.length:=by have:=(f_.mp q2).1;simpa using this
    rw[d_ hl]at q2;have e:a=b:=by injection q2 with q2;injection q2 with q2;injection q2
    exact hx j b d1 h1 hm q1 e.symm
   .rw[a_ hij]at h1 hm q1;rw[a_ hik]at h2 hm' q2;exact s.dis j k b d1 d2 hjk h1 h2 hm hm' q1 q2
 lk:=fun j o hj hm=>by
  have hij:i≠j:=by
   rintro rfl
   have hl:i<m.length:=by have:=(f_.mp hm).1;simpa using this
   rw[d_ hl]at hm;cases hm
  rw[a_ hij]at hm;have:=s.lk j o hj hm;exact⟨by rw[a_ hij];exact this.1,fun d h=>this.2 d (by rw[a_ hij]at h;exact h)⟩
theorem SI.other(s:SI X g m r G st H){p:Addr}(hp:G p=none)(h0:g.h0 p=none)(hm:∀(i:Nat),m[i]?≠some Md.ow)(o:HO):SI X g m r G st (upd H p o) where
 gok:=fun b e h=>(s.gok b e h).mono (fun _ _ z=>z) fun o' q=>by rw[aK (by rintro rfl;rw[hp]at h;cases h)];exact q
 old:=fun b o' h=>by rw[aK (by rintro rfl;rw[h0]at h;cases h)];exact s.old b o' h
 ge:=s.ge
 gf:=s.gf
 lm:=s.lm
 lr:=s.lr
 sh:=s.sh
 ow:=fun i d _ h=>absurd h (hm i)
 bw:=fun i d h1 h2=>by
  obtain⟨v,h3,h4⟩:=s.bw i d h1 h2;refine⟨v,h3,?_⟩;rcases h4 with h4|⟨a,rfl,h4,h5⟩
  .exact .inl h4
  .have ha:a≠p:=by rintro rfl;exact h5 h0
   exact .inr ⟨a,rfl,⟨h4.un,h4.ob.mono (fun _ _ z=>z) fun o' z=>by rw[aK ha];exact z⟩,h5⟩
 dis:=fun i j a d e _ _ _ h=>absurd h (hm i)
 lk:=s.lk
theorem SI.less(s:SI X g m r G st H){r':ah}(hl:r'.length=r.length)(h:∀(i:Nat) d,r'[i]? = some (some d)->r[i]? = some (some d)):SI X g m r' G st H:=⟨s.gok,s.old,s.ge,s.gf,s.lm,hl.trans s.lr,fun i d a b=>s.sh i d (h i d a) b,fun i d a b=>s.ow i d (h i d a) b,fun i d a b=>s.bw i d (h i d a) b,fun i j a d e n p q x y=>s.dis i j a d e n (h i d p) (h j e q) x y,fun i o hi hm=>by have:=s.lk i o hi hm;exact⟨this.1,fun d hd=>this.2 d (h i d hd)⟩⟩
theorem SI.held(s:SI X g m r G st H){j:Nat}{b:Addr}{e:D}(h:r[j]? = some (some e))(hm:m[j]? = some .ow)(hs:st[j]? = some (some (V.ref b))):H b≠none:=by
 obtain⟨a,h1,h2,_⟩:=s.ow j e h hm;rw[hs]at h1;injection h1 with h1;injection h1 with h1;injection h1 with h1
 rw[h1];exact h2.ob.isS
theorem SI.new(s:SI X g m r G st H){a:Addr}(hn:H a=none):g.h0 a=none:=by cases q:g.h0 a with
|none=>rfl
|some o=>rw[s.old _ _ q]at hn;cases hn
theorem SI.setN(s:SI X g m r G st H){G':GH}{H':Hp}(w:Grow X.K G H G' H')(i:Nat){a:Addr}{d:D}(hn:H a=none)(ho:Own X.K G' H' a d):SI X g (m.set i .ow) (r.set i (some d)) G' (st.set i (some (V.ref a))) H':=by
 refine(s.grow w).setO i ho ?_ fun j b e h1 h2 h3=>?_
 .cases q:g.h0 a with
 |none=>rfl
 |some o=>rw[s.old _ _ q]at hn;cases hn
 .rintro rfl
  exact s.held h1 h2 h3 hn
theorem SI.mut(s:SI X g m r G st H){i:Nat}{d:D}(hm:m[i]? = some .ow)(hd:r[i]? = some (some d)):∃a,st[i]? = some (some (V.ref a))/\Own X.K G H a d/\∀(o':HO)(d':D),OwnO X.K G (upd H a o') a d'->SI X g m (r.set i (some d')) G st (upd H a o'):=by
 obtain⟨a,h1,h2,h3⟩:=s.ow i d hd hm;have hl:i<r.length:=(f_.mp hd).1;refine⟨a,h1,h2,fun o' d' ob=>?_⟩;have oth:∀(j:Nat)(b:Addr)(e:D),j≠i->r[j]? = some (some e)->m[j]? = some .ow->st[j]? = some (some (V.ref b))->b≠a:=fun j b e hj q1 q2 q3 z=>by subst z;exact s.dis i j b d e (JX hj) hd q1 hm q2 h1 q3
 refine⟨fun b e h=>?_,fun b o h=>?_,s.ge,s.gf,s.lm,by simp[s.lr],?_,?_,?_,?_,fun j o hj hm'=>?_⟩
 .have hb:b≠a:=by rintro rfl;rw[h2.un]at h;cases h
  exact(s.gok b e h).mono (fun _ _ z=>z) fun o q=>by rw[aK hb];exact q
 .have hb:b≠a:=by rintro rfl;rw[h3]at h;cases h
  rw[aK hb];exact s.old b o h
 .intro j e h hm';have hij:i≠j:=by rintro rfl;rw[hm]at hm';cases hm'
  rw[a_ hij]at h;exact s.sh j e h hm'
 .intro j e h hm';by_cases hij:i=j
  .subst hij;rw[d_ hl]at h;cases h;exact⟨a,h1,⟨h2.un,ob⟩,h3⟩
  .rw[a_ hij]at h;obtain⟨b,q1,q2,q3⟩:=s.ow j e h hm';have hb:=oth j b e (JX hij) h hm' q1;exact⟨b,q1,⟨q2.un,q2.ob.mono (fun _ _ z=>z) fun o z=>by rw[aK hb];exact z⟩,q3⟩
 .intro j e h hm';have hij:i≠j:=by rintro rfl;rw[hm]at hm';cases hm'
  rw[a_ hij]at h;obtain⟨v,q1,q2⟩:=s.bw j e h hm';refine⟨v,q1,?_⟩;rcases q2 with q2|⟨b,rfl,q2,q3⟩
  .exact .inl q2
  .have hb:b≠a:=by rintro rfl;exact q3 h3
   exact .inr ⟨b,rfl,⟨q2.un,q2.ob.mono (fun _ _ z=>z) fun o z=>by rw[aK hb];exact z⟩,q3⟩
 .have bound:∀(j:Nat) e,(r.set i (some d'))[j]? = some (some e)->∃e',r[j]? = some (some e'):=fun j e h=>by
   by_cases hij:i=j
   .subst hij;exact⟨d,hd⟩
   .rw[a_ hij]at h;exact⟨e,h⟩
  intro j k b d1 d2 hjk q1 q2 p1 p2 z1 z2;obtain⟨e1,q1⟩:=bound j d1 q1;obtain⟨e2,q2⟩:=bound k d2 q2;exact s.dis j k b e1 e2 hjk q1 q2 p1 p2 z1 z2
 .have hij:i≠j:=by rintro rfl;rw[hm]at hm';cases hm'
  have:=s.lk j o hj hm';exact⟨this.1,fun d'' h=>this.2 d'' (by rw[a_ hij]at h;exact h)⟩
end
def RV(ro:Bool)(K:W.Frag)(H0:Hp)(G:GH)(H:Hp)(v:V)(d:D):Prop:=match ro with
|false=>RG K G v d
|true=>(∃a,v=.ref a/\H0 a=none/\Own K G H a d)\/(d=.non/\v=.non)
def br(X:Cx)(g:GE)(ro:Bool)(m' mb:List Md)(G:GH)(D:Ends):Out->Prop
|.nx r'=>∀σ' G' H',aG G G'->SI X g m' r' G' σ' H'->D.nx σ' H'
|.rt d=>∀v G' H',Grow X.K g.gh g.h0 G' H'->RV ro X.K g.h0 G' H' v d->D.rt v H'
|.bk r'=>∀σ' G' H',aG G G'->SI X g mb r' G' σ' H'->D.bk σ' H'
|.ct r'=>∀σ' G' H',aG G G'->SI X g mb r' G' σ' H'->D.ct σ' H'
|.exc x r'=>∀pz e s' σ' G' H',aG G G'->SI X g (cP m') r' G' σ' H'->Inv X pz σ' H' s'->AJ X σ' G' H' e x s'->X.xe e s'
|.stuck=>False
def tS(X:Cx)(g:GE)(ro:Bool)(m m' mb:List Md)(f:FS):TS:=fun D σ H=>∃r G,SI X g m r G σ H/\br X g ro m' mb G D (f r)
def SS(X:Cx)(g:GE)(ro:Bool)(mb m:List Md)(st:Stmt)(f:FS)(m':List Md):Prop:=m'.length=m.length/\PS X st (tS X g ro m m' mb f)
def dH(X:Cx)(g:GE)(ro:Bool)(mb m:List Md)(st:List Stmt)(f:FS)(m':List Md):Prop:=m'.length=m.length/\bx X st (tS X g ro m m' mb f)
theorem pj{m m':List Md}(h:m'.length=m.length):cP m'=cP m:=by unfold cP;rw[OC,OC,h]
theorem br.x{X:Cx}{g:GE}{ro:Bool}{m m' mb:List Md}{r:ah}{G:GH}{D:Ends}{σ:L2.St}{H:Hp}{x:DL.D}(h:br X g ro m' mb G D (.exc x (forget m r)))(si:SI X g m r G σ H)(hl:m'.length=m.length):XW X σ G H x:=fun pz e s' G' H' w I ex=>h pz e s' σ G' H' w.ge (by rw[pj hl];exact(si.grow w).forget) I ex
section
variable{X:Cx}{g:GE}{ro:Bool}{m m' m1 mb:List Md}{e a b c tg:Expr}{f fa fb fc:FE}{p:FQ}{pos pos':Pos}{st:Stmt}{sts sts':List Stmt}{s1 s2:FS}
theorem br.gle{G G1:GH}{D:Ends}{o:Out}(h:br X g ro m' mb G D o)(w:aG G G1):br X g ro m' mb G1 D o:=by cases o with
|nx r'=>exact fun σ' G' H' q si=>h σ' G' H' (w.trans q) si
|rt d=>exact h
|bk r'=>exact fun σ' G' H' q si=>h σ' G' H' (w.trans q) si
|ct r'=>exact fun σ' G' H' q si=>h σ' G' H' (w.trans q) si
|exc x r'=>exact fun pz e s' σ' G' H' q=>h pz e s' σ' G' H' (w.trans q)
|stuck=>exact h
def af(s1 s2:FS):FS:=fun r=>match s1 r with
|.nx r'=>s2 r'
|o=>o
def ao:FS:=fun r=>.nx r
theorem ay:dH X g ro mb m [] ao m:=⟨rfl,bx.imp oO fun D σ H ⟨r,G,si,q⟩=>q σ G H (aG.refl G) si⟩
theorem am(h1:SS X g ro mb m st s1 m1)(h2:dH X g ro mb m1 sts s2 m'):dH X g ro mb m (st::sts) (af s1 s2) m':=by refine⟨h2.1.trans h1.1,bx.imp (ib h1.2 h2.2) fun D σ H ⟨r,G,si,q⟩=>⟨r,G,si,?_⟩⟩;unfold af at q;cases e:s1 r with
|nx r'=>rw[e]at q;exact fun σ' G' H' w si'=>⟨r',G',si',br.gle q w⟩
|rt d=>rw[e]at q;exact q
|bk r'=>rw[e]at q;exact q
|ct r'=>rw[e]at q;exact q
|exc x r'=>rw[e]at q;exact fun pz e s' σ' G' H' w si'=>q pz e s' σ' G' H' w (by rw[pj h2.1];exact si')
|stuck=>rw[e]at q;exact q
theorem Ei:SS X g ro mb m st (fun _=>.stuck) m:=⟨rfl,PS.imp FD fun D σ H ⟨r,G,si,q⟩=>q⟩
theorem qp(i:Nat)(hi:m[i]? = some .ow)(h:SS X g ro mb (m.set i .sh) st s1 m'):SS X g ro mb m st s1 m':=by
 refine⟨h.1.trans (by simp),fun pz s σ H D I ⟨r,G,si,q⟩=>?_⟩;rcases si.frz i hi with⟨G',le,si'⟩|⟨a,z⟩
 .exact h.2 pz s σ H D I ⟨r,G',si',br.gle q le⟩
 .obtain⟨ob,I2⟩:=Inv.fast I a;obtain⟨G',le,si'⟩:=z ob;exact h.2 pz s σ _ D I2 ⟨r,G',si',br.gle q le⟩
def eY{α:Type}(m:List Md)(r:ah)(x:Res α)(k:α->Out):Out:=match x with
|.ok a=>k a
|.exc e=>.exc e (forget m r)
|.stuck=>.stuck
@[simp] theorem onE_ok{α:Type}(m:List Md)(r:ah)(a:α)(k:α->Out):eY m r (.ok a) k=k a:=rfl
theorem eO{α:Type}{x:Res α}{k:α->Out}{r:ah}{G:GH}{D:Ends}{σ:L2.St}{H:Hp}(si:SI X g m r G σ H)(hl:m'.length=m.length)(h:br X g ro m' mb G D (eY m r x k)):fin x (fun a=>br X g ro m' mb G D (k a)) (XW X σ G H):=by cases x with
|ok a=>exact h
|exc e=>exact br.x h si hl
|stuck=>exact h
def av(m:List Md)(i:Nat)(f:FE):FS:=fun r=>eY m r (f r) fun d=>.nx (r.set i (some d))
theorem BH(i:Nat){x:Str}(hN:X.N.Nodup)(hi:X.N[i]? = some x)(hx:fj X.env.scope x)(he:SE X g m e f)(hs:Kp e (some (.Name x pos')) pos.line X.env=pure false:=by rfl)(hf:X.fn x=true\/X.env.scope.names.lookup x=some .local:=by first|exact .inl rfl|exact .inr rfl|assumption):SS X g ro mb m (.Assign [.Name x pos'] e pos) (av m i f) (m.set i .sh):=by
 have hl:(m.set i .sh).length=m.length:=by simp
 refine⟨hl,PS.imp (jF hN hi hx he hs hf) fun D σ H ⟨r,G,si,q⟩=>⟨r,G,si,?_⟩⟩;exact bh (eO si hl q) fun d q v G' H' w rv=>q _ G' H' w.ge ((si.grow w).set i rv)
theorem oJ(i:Nat){x:Str}(hN:X.N.Nodup)(hi:X.N[i]? = some x)(hx:fj X.env.scope x)(he:SO X g m e f)(hs:Kp e (some (.Name x pos')) pos.line X.env=pure false:=by rfl)(hf:X.fn x=true\/X.env.scope.names.lookup x=some .local:=by first|exact .inl rfl|exact .inr rfl|assumption):SS X g ro mb m (.Assign [.Name x pos'] e pos) (av m i f) (m.set i .ow):=by
 have hl:(m.set i .ow).length=m.length:=by simp
 refine⟨hl,PS.imp (jF hN hi hx he hs hf) fun D σ H ⟨r,G,si,q⟩=>⟨r,G,si,?_⟩⟩;exact bh (eO si hl q) fun d q a G' H' w hn ho=>q _ G' H' w.ge (si.setN w i hn ho)
def kU(m:List Md)(f:FE):FS:=fun r=>eY m r (f r) fun _=>.nx r
theorem DW(he:SE X g m e f)(hs:Kp e none pos.line X.env=pure false:=by rfl):SS X g ro mb m (.Expr e pos) (kU m f) m:=⟨rfl,PS.imp (oN he hs) fun D σ H ⟨r,G,si,q⟩=>⟨r,G,si,bh (eO si rfl q) fun d q v G' H' w _=>q σ G' H' w.ge (si.grow w)⟩⟩
def au(m:List Md)(f:FE):FS:=fun r=>eY m r (f r) fun d=>.rt d
theorem bX(he:SE X g m e f):SS X g false mb m (.Return (some e) pos) (au m f) m:=⟨rfl,PS.imp (mh he) fun D σ H ⟨r,G,si,q⟩=>⟨r,G,si,bh (eO si rfl q) fun d q v G' H' w rv=>q v G' H' (si.grow w).grown rv⟩⟩
theorem xF(he:SO X g m e f):SS X g true mb m (.Return (some e) pos) (au m f) m:=⟨rfl,PS.imp (mh he) fun D σ H ⟨r,G,si,q⟩=>⟨r,G,si,bh (eO si rfl q) fun d q a G' H' w hn ho=>q (.ref a) G' H' (si.grow w).grown (.inl ⟨a,rfl,si.new hn,ho⟩)⟩⟩
theorem qR(i:Nat){x:Str}(hm:m[i]? = some .ow)(hN:X.N[i]? = some x)(hv:dk X.env.scope x)(hd:(x==("__debug__" : Str))=false:=by decide)(hcd:(x==("__classdict__" : Str))=false:=by decide):SS X g true mb m (.Return (some (.Name x pos')) pos) (au m fun r=>cz r i) m:=by refine⟨rfl,PS.imp (mh (dJ hN hv hd hcd)) fun D σ H ⟨r,G,si,q⟩=>?_⟩;obtain⟨d,e,q⟩:=oY (eO si rfl q);obtain⟨a,h1,h2,h3⟩:=si.ow i d e hm;exact⟨_,h1,q _ G H si.grown (.inl ⟨a,rfl,h3,h2⟩)⟩
def bN(m:List Md)(p:FQ)(s1 s2:FS):FS:=fun r=>eY m r (p r) fun c=>if c=true then s1 r else s2 r
theorem ba(hc:SQ X g m c p)(h1:dH X g ro mb m sts s1 m')(h2:dH X g ro mb m sts' s2 m'):SS X g ro mb m (.If c sts sts' pos) (bN m p s1 s2) m':=by refine⟨h1.1,PS.imp (nX hc h1.2 h2.2) fun D σ H ⟨r,G,si,q⟩=>⟨r,G,si,bh (eO si h1.1 q) fun c q G' H' w=>?_⟩⟩;cases c with
|true=>rw[if_pos rfl]at q ⊢;exact⟨r,G',si.grow w,br.gle q w.ge⟩
|false=>rw[if_neg l_]at q ⊢;exact⟨r,G',si.grow w,br.gle q w.ge⟩
theorem He(i:Nat)(h:dH X g ro mb m sts s1 m')(hi:m'[i]? = some .ow):dH X g ro mb m sts s1 (m'.set i .sh):=by
 refine⟨by simp[h.1],fun pz s σ H D I ⟨r,G,si,q⟩=>?_⟩;refine aO (h.2 pz s σ H ⟨fun σ' H'=>D.nx σ' H'\/∃a,∀ob,D.nx σ' (fz H' a ob),D.rt,D.bk,D.ct⟩ I ⟨r,G,si,?_⟩) fun f s' p=>?_
 .cases e:s1 r with
 |nx r'=>
   rw[e]at q;intro σ' G' H' w si';rcases si'.frz i hi with⟨G2,le,si2⟩|⟨a,z⟩
   .exact .inl (q σ' G2 H' (w.trans le) si2)
   .refine .inr ⟨a,fun ob=>?_⟩;obtain⟨G2,le,si2⟩:=z ob;exact q σ' G2 _ (w.trans le) si2
 |rt d=>rw[e]at q;exact q
 |bk r'=>rw[e]at q;exact q
 |ct r'=>rw[e]at q;exact q
 |exc x r'=>rw[e]at q;exact fun pz e s' σ' G' H' w si'=>q pz e s' σ' G' H' w (by rw[pj (m:=m') (by simp)];exact si')
 |stuck=>rw[e]at q;exact q
 .cases f with
 |next=>
   obtain⟨σ',H',I',z|⟨a,z⟩⟩:=p
   .exact⟨σ',H',I',z⟩
   .obtain⟨ob,I2⟩:=Inv.fast I' a;exact⟨σ',_,I2,z ob⟩
 |brk=>exact p
 |cont=>exact p
 |ret u=>exact p
end
abbrev FT:=D->ah->Option ah
abbrev iW:=List D->ah->Option ah
def tG(X:Cx)(g:GE)(m m':List Md)(ft:FT):TG:=fun v σ H Q=>∃r G d,SI X g m r G σ H/\RG X.K G v d/\∃r',ft d r=some r'/\∀σ',SI X g m' r' G σ' H->Q σ' H
def Jb(X:Cx)(g:GE)(m m':List Md)(ft:iW):iT:=fun vs σ H Q=>∃r G ds,SI X g m r G σ H/\b7 X.K G vs ds/\∃r',ft ds r=some r'/\∀σ',SI X g m' r' G σ' H->Q σ' H
theorem PG.imp{X:Cx}{e:Expr}{t t':TG}(h:PG X e t)(i:∀v σ H Q,t' v σ H Q->t v σ H Q):PG X e t':=fun pz s σ H v u Q I r q=>h pz s σ H v u Q I r (i v σ H Q q)
theorem iy.imp{X:Cx}{e:List Expr}{t t':iT}(h:iy X e t)(i:∀v σ H Q,t' v σ H Q->t v σ H Q):iy X e t':=fun pz s σ H v u Q I r q=>h pz s σ H v u Q I r (i v σ H Q q)
def SG(X:Cx)(g:GE)(m:List Md)(tg:Expr)(ft:FT)(m':List Md):Prop:=m'.length=m.length/\PG X tg (tG X g m m' ft)
structure SGs(X:Cx)(g:GE)(m:List Md)(ts:List Expr)(n:Nat)(ft:iW)(m':List Md):Prop where
 ml:m'.length=m.length
 ln:∀ds r r',ft ds r=some r'->ds.length=n
 pg:iy X ts (Jb X g m m' ft)
def ax(i:Nat):FT:=fun d r=>some (r.set i (some d))
def ck(ft:iW):FT:=fun d r=>match d with
|.tup ds=>ft ds r
|.lst ds=>ft ds r
|_=>none
def cj:iW:=fun ds r=>match ds with
|[]=>some r
|_=>none
def aT(ft:FT)(fts:iW):iW:=fun ds r=>match ds with
|[]=>none
|d::ds=>(ft d r).bind fun r'=>fts ds r'
section
variable{X:Cx}{g:GE}{m m' m1:List Md}{tg:Expr}{ts:List Expr}{ft:FT}{fts:iW}{pos:Pos}{n:Nat}
theorem BA(i:Nat){x:Str}(hN:X.N.Nodup)(hi:X.N[i]? = some x)(hx:fj X.env.scope x)(hf:X.fn x=true\/X.env.scope.names.lookup x=some .local:=by first|exact .inl rfl|exact .inr rfl|assumption):SG X g m (.Name x pos) (ax i) (m.set i .sh):=⟨by simp,PG.imp (EG hN hi hx hf) fun v σ H Q ⟨r,G,d,si,rv,r',e,k⟩=>by cases e;exact k _ (si.set i rv)⟩
theorem iC:SGs X g m [] 0 cj m:=by
 refine⟨rfl,fun ds r r' e=>?_,iy.imp EH fun v σ H Q ⟨r,G,ds,si,rv,r',e,k⟩=>?_⟩
 .cases ds with
 |nil=>rfl
 |cons _ _=>cases e
 .cases rv with
 |nil=>cases e;exact⟨rfl,k σ si⟩
 |cons _ _=>cases e
theorem dR(h1:SG X g m tg ft m1)(h2:SGs X g m1 ts n fts m')(hs:(JV (tg::ts) X.env).map (·.2)=Lg tg X.env::(JV ts X.env).map (·.2):=by rfl):SGs X g m (tg::ts) (n+1) (aT ft fts) m':=by
 refine⟨h2.ml.trans h1.1,fun ds r r' e=>?_,iy.imp (Fw h1.2 h2.pg hs) fun v σ H Q ⟨r,G,ds,si,rv,r',e,k⟩=>?_⟩
 .cases ds with
 |nil=>cases e
 |cons d ds=>have e':((ft d r).bind fun r'=>fts ds r')=some r':=e;cases q:ft d r with
  |none=>rw[q]at e';cases e'
  |some r1=>rw[q]at e';have:=h2.ln ds r1 r' e';simp[this]
 .cases rv with
 |nil=>cases e
 |@cons v0 d vs ds rv rs=>have e':((ft d r).bind fun r'=>fts ds r')=some r':=e;cases q:ft d r with
  |none=>rw[q]at e';cases e'
  |some r1=>rw[q]at e';exact⟨_,_,rfl,r,G,d,si,rv,r1,q,fun σ' si'=>⟨r1,G,ds,si',rs,r',e',k⟩⟩
theorem Cu{k:Nat}{t:iT}(hc:X.calm=true)(h:iy X ts t)(hn:(JV ts X.env).length=n)(hst:(JV ts X.env).findIdx? (·.1)=none):PG X (.Tuple ts k pos) (fun v σ H Q=>∃a xs,v=.ref a/\bb X.K H a xs/\xs.length=n/\t xs σ H Q):=by intro pz s σ H v u Q I r hw;obtain⟨a,xs,e1,hq,hl,hw⟩:=hw;subst e1;cases r;obtain⟨its,rv,⟨o,nn,l1,l2,l3,l4⟩,hz⟩:=I.list hq;rw[O_];refine c_ (Lj ?_);unfold unpack;rw[hst,show(JV ts X.env).length=its.toArray.size by simp[hn,<-hl,rv.length]];refine c_ (J6 (W.kun_itemsOf (I.ok.hd hc) ⟨o,l1,l2,nn,l4⟩ fun h' hx=>?_));have I1:Inv X pz σ H { s with heap:=h' }:=I.kept (t':=s.toks) fun b o e=>hx b o (Js (r_ e)) e;exact h pz _ σ H xs _ Q I1 (by simpa using rv) hw
theorem PG.or{e:Expr}{t t':TG}(h:PG X e t)(h':PG X e t'):PG X e (fun v σ H Q=>t v σ H Q\/t' v σ H Q):=fun pz s σ H v u Q I r q=>q.elim (h pz s σ H v u Q I r) (h' pz s σ H v u Q I r)
theorem iE{k:Nat}(hc:X.calm=true)(h:SGs X g m ts n fts m')(hn:(JV ts X.env).length=n:=by rfl)(hst:(JV ts X.env).findIdx? (·.1)=none:=by rfl):SG X g m (.Tuple ts k pos) (ck fts) m':=by refine⟨h.ml,PG.imp (PG.or (Ct hc h.pg hn hst) (Cu hc h.pg hn hst)) fun v σ H Q ⟨r,G,d,si,rv,r',e,k⟩=>?_⟩;cases d with
|tup ds=>obtain⟨a,xs,rfl,s,rs⟩:=rv.tup si.gok;exact .inl ⟨a,xs,rfl,s,(Paired.length rs).trans (h.ln ds r r' e),r,G,ds,si,rs,r',e,k⟩
|lst ds=>obtain⟨a,xs,rfl,s,rs⟩:=rv.lst si.gok;exact .inr ⟨a,xs,rfl,s,(Paired.length rs).trans (h.ln ds r r' e),r,G,ds,si,rs,r',e,k⟩
|_=>cases e
end
structure Yields(K:W.Frag)(J:It)(ds:List D)(G0:GH):Prop where
 go:∀G H (i:Nat),aG G0 G->aN K G H->i<ds.length->J.go i H
 yld:∀G H (i:Nat) x H' d,aG G0 G->aN K G H->J.yld i H x H'->ds[i]? = some d->∃G',Grow K G H G' H'/\RG K G' x d
 stop:∀G H,aG G0 G->aN K G H->J.stop ds.length H
abbrev FI:=ah->Res (List D)
def tI(X:Cx)(g:GE)(m:List Md)(f:FI):TI:=fun σ H R=>∃r G,SI X g m r G σ H/\fin (f r) (fun ds=>∀J G' H',Grow X.K G H G' H'->Yields X.K J ds G'->R J H') (XW X σ G H)
def iV(X:Cx)(g:GE)(m:List Md)(tg iter:Expr)(f:FI):Prop:=PI X tg iter (tI X g m f)
theorem PI.imp{X:Cx}{tg e:Expr}{t t':TI}(h:PI X tg e t)(i:∀σ H Q,t' σ H Q->t σ H Q):PI X tg e t':=fun pz s σ H R I q=>h pz s σ H R I (i σ H R q)
theorem zj{K:W.Frag}{a:Addr}{ds:List D}{G0:GH}(h0:RG K G0 (.ref a) (.lst ds)):Yields K (nQ K a) ds G0:=by
 have at_:∀G H,aG G0 G->aN K G H->∃xs,bb K H a xs/\b7 K G xs ds:=fun G H w gk=>by obtain⟨b,xs,e,s,r⟩:=(h0.mono w).lst gk;cases e;exact⟨xs,s,r⟩
 refine⟨fun G H i w gk hi=>?_,fun G H i x H' d w gk y e=>?_,fun G H w gk=>?_⟩
 .obtain⟨xs,s,r⟩:=at_ G H w gk;have hl:=Paired.length r;exact⟨xs,xs[i],s,m_ (by omega)⟩
 .obtain⟨xs,s,r⟩:=at_ G H w gk;obtain⟨rfl,y⟩:=y;obtain⟨v,e1,rv⟩:=Paired.get r e;have:=y xs s;rw[e1]at this;cases this;exact⟨G,Grow.refl gk,rv⟩
 .obtain⟨xs,s,r⟩:=at_ G H w gk;exact⟨xs,s,LI (Paired.length r)⟩
theorem xN{K:W.Frag}{a:Addr}{ds:List D}{G0:GH}(h0:RG K G0 (.ref a) (.tup ds)):Yields K (vL K a) ds G0:=by
 have at_:∀G H,aG G0 G->aN K G H->∃xs,cr K H a xs/\b7 K G xs ds:=fun G H w gk=>by obtain⟨b,xs,e,s,r⟩:=(h0.mono w).tup gk;cases e;exact⟨xs,s,r⟩
 refine⟨fun G H i w gk hi=>?_,fun G H i x H' d w gk y e=>?_,fun G H w gk=>?_⟩
 .obtain⟨xs,s,r⟩:=at_ G H w gk;have hl:=Paired.length r;exact⟨xs,xs[i],s,m_ (by omega)⟩
 .obtain⟨xs,s,r⟩:=at_ G H w gk;obtain⟨rfl,y⟩:=y;obtain⟨v,e1,rv⟩:=Paired.get r e;have:=y xs s;rw[e1]at this;cases this;exact⟨G,Grow.refl gk,rv⟩
 .obtain⟨xs,s,r⟩:=at_ G H w gk;exact⟨xs,s,LI (Paired.length r)⟩
def eQ(lo:Int)(n:Nat):List D:=(q_ n).map fun(i:Nat)=>D.int (lo+(i:Int))
theorem Da{K:W.Frag}{lo:Int}{n:Nat}{G0:GH}:Yields K (p0 lo n) (eQ lo n) G0:=by
 have hl:(eQ lo n).length=n:=by simp[eQ]
 refine⟨fun G H i w gk hi=>(by rw[hl]at hi;exact hi),fun G H i x H' d w gk y e=>?_,fun G H w gk=>(by rw[hl];exact w_ _)⟩;obtain⟨rfl,rfl⟩:=y;have hi:i<n:=by have:=(f_.mp e).1;rw[hl]at this;exact this
 unfold eQ at e;rw[s_,Lh hi]at e;cases e;exact⟨G,Grow.refl gk,.scl (.int _)⟩
def cg:D->Option (List D)
|.lst ds=>some ds
|.tup ds=>some ds
|_=>none
section
variable{X:Cx}{g:GE}{m m' m1 mb:List Md}{tg e a b c iter:Expr}{f fa fb:FE}{p:FQ}{pos pos':Pos}{ro:Bool}{fl:ah->Res (List D)}{sts:List Stmt}{s1:FS}
def aV(k:D->Option (List D))(f:FE):FI:=fun r=>(f r).bind fun d=>cn (k d)
theorem wZ{l:Expr}{tl:TE}(hl:PE X l tl):PI X tg l (fun σ H R=>tl σ H fun x H1=>(∃a,x=.ref a/\(∃xs,bb X.K H1 a xs)/\R (nQ X.K a) H1)\/∃a,x=.ref a/\(∃xs,cr X.K H1 a xs)/\R (vL X.K a) H1):=by
 intro pz s σ H R I h;refine aO (hl pz s σ H _ I h) fun v s1 ⟨x,H1,I1,r1,q1⟩=>?_;rcases q1 with⟨a,e,⟨xs,hq⟩,q⟩|⟨a,e,⟨xs,hq⟩,q⟩
 .subst e;cases r1;obtain⟨its,rv,p,hz⟩:=I1.list hq;refine wpAny_pyIter_list p.isList ?_;refine⟨s1.heap.objs.size,[s1.heap.objs.size],_,_,H1,rfl,I1.kept (t':=s1.toks) fun b o e=>j_ _ e,Hj a _,⟨_,D_ _ rfl,rfl,rfl⟩,fun b hb=>?_,q⟩;have e:b=s1.heap.objs.size:=by simpa using hb
  subst e;exact I1.fpOk (w_ _) (I1.hok.fresh (w_ _))
 .subst e;cases r1;obtain⟨its,rv,p,hz⟩:=I1.tuple hq;refine Lw (show s1.heap.IsTuple a its.toArray from p) ?_;refine⟨s1.heap.objs.size,[s1.heap.objs.size],_,_,H1,rfl,I1.kept (t':=s1.toks) fun b o e=>j_ _ e,HV a _,⟨_,D_ _ rfl,rfl,rfl⟩,fun b hb=>?_,q⟩;have e:b=s1.heap.objs.size:=by simpa using hb
  subst e;exact I1.fpOk (w_ _) (I1.hok.fresh (w_ _))
structure YieldsC(K:W.Frag)(J:It)(ds:List D)(G0:GH)(H0:Hp):Prop where
 go:∀G H (i:Nat),Grow K G0 H0 G H->i<ds.length->J.go i H
 yld:∀G H (i:Nat) x H' d,Grow K G0 H0 G H->J.yld i H x H'->ds[i]? = some d->∃G',Grow K G H G' H'/\RG K G' x d
 stop:∀G H,Grow K G0 H0 G H->J.stop ds.length H
theorem Yields.toC{K:W.Frag}{J:It}{ds:List D}{G0:GH}{H0:Hp}(y:Yields K J ds G0):YieldsC K J ds G0 H0:=⟨fun G H i w hi=>y.go G H i w.ge w.ok hi,fun G H i x H' d w q e=>y.yld G H i x H' d w.ge w.ok q e,fun G H w=>y.stop G H w.ge w.ok⟩
def IZ(X:Cx)(g:GE)(m:List Md)(f:FI):TI:=fun σ H R=>∃r G,SI X g m r G σ H/\fin (f r) (fun ds=>∀J G' H',Grow X.K G H G' H'->YieldsC X.K J ds G' H'->R J H') (XW X σ G H)
def iw(X:Cx)(g:GE)(m:List Md)(tg iter:Expr)(f:FI):Prop:=PI X tg iter (IZ X g m f)
theorem iV.toC{fi:FI}(h:iV X g m tg iter fi):iw X g m tg iter fi:=PI.imp h fun σ H R ⟨r,G,si,q⟩=>⟨r,G,si,bh q fun ds k J G' H' w y=>k J G' H' w y.toC⟩
theorem DQ{K:W.Frag}{a:Addr}{ds:List D}{G0:GH}{H0:Hp}(o:Own K G0 H0 a (.lst ds)):YieldsC K (nQ K a) ds G0 H0:=by
 have at_:∀G H,Grow K G0 H0 G H->∃xs,bb K H a xs/\b7 K G xs ds:=fun G H w=>by cases(o.mono w).ob with
 |lst r s=>exact⟨_,bb.of r,s⟩
 refine⟨fun G H i w hi=>?_,fun G H i x H' d w y e=>?_,fun G H w=>?_⟩
 .obtain⟨xs,s,r⟩:=at_ G H w;have hl:=Paired.length r;exact⟨xs,xs[i],s,m_ (by omega)⟩
 .obtain⟨xs,s,r⟩:=at_ G H w;obtain⟨rfl,y⟩:=y;obtain⟨v,e1,rv⟩:=Paired.get r e;have:=y xs s;rw[e1]at this;cases this;exact⟨G,Grow.refl w.ok,rv⟩
 .obtain⟨xs,s,r⟩:=at_ G H w;exact⟨xs,s,LI (Paired.length r)⟩
theorem gl(h:SB X g m e f):iw X g m tg e (aV cg f):=by
 refine PI.imp (wZ h) fun σ H R ⟨r,G,si,q⟩=>⟨r,G,si,bh (bu q) fun d q v G' H' w rv=>?_⟩
 obtain⟨ds,e,q⟩:=dc q;cases d with
|lst ds'=>
  cases e;rcases rv with rv|⟨a,rfl,o⟩
  .obtain⟨a,xs,rfl,s,rs⟩:=rv.lst w.ok;exact .inl ⟨a,rfl,⟨xs,s⟩,q _ G' H' w (zj rv).toC⟩
  .cases o.ob with
  |lst r s=>exact .inl ⟨a,rfl,⟨_,bb.of r⟩,q _ G' H' w (DQ o)⟩
|tup ds'=>
  cases e;rcases rv with rv|⟨a,rfl,o⟩
  .obtain⟨a,xs,rfl,s,rs⟩:=rv.tup w.ok;exact .inr ⟨a,rfl,⟨xs,s⟩,q _ G' H' w (xN rv).toC⟩
  .cases o.ob
|_=>cases e
def cX:List D->Option (List D)
|[.int j]=>if-(2^62)<=j/\j<2^62 then some (eQ 0 j.toNat)else none
|_=>none
def di(k:List D->Option (List D))(fl:ah->Res (List D)):FI:=fun r=>(fl r).bind fun ds=>cn (k ds)
theorem j6{pn:Pos}(hg:Gl X "range")(hm:X.mg "range" = none)(ha:hW X g m [a] fl)(hs:g_ [a] X.env=[(false,eval a X.env)]:=by rfl):iV X g m tg (.Call (.Name "range" pn) [a] [] pos) (di cX fl):=by
 refine PI.imp (Hq hg hm ha hs) fun σ H R ⟨r,G,si,q⟩=>⟨r,G,si,bh (bu q) fun ds q vs G' H' w rs=>?_⟩
 obtain⟨zs,e,q⟩:=dc q;unfold cX at e;split at e
 .split at e
  .rename_i j hj;cases e;cases rs with
  |cons r1 t=>cases t;exact⟨j,by rw[r1.int w.ok],hj.1,hj.2,q _ G' H' w Da⟩
  .cases e
 .cases e
def aF(ft:FT)(body:FS):List D->FS
|[],r=>.nx r
|d::ds,r=>match ft d r with
 |none=>.stuck
 |some r1=>match body r1 with
  |.nx r'=>aF ft body ds r'
  |.ct r'=>aF ft body ds r'
  |.bk r'=>.nx r'
  |o=>o
def dE(m:List Md)(fi:FI)(ft:FT)(body:FS):FS:=fun r=>eY m r (fi r) fun ds=>aF ft body ds r
theorem jA(hp:Mh (y_ X.prog X.w) X.A X.env X.xe)(hc:X.calm=true){ft:FT}{fi:FI}(hi:iV X g m tg iter fi)(hg:SG X g m tg ft m)(hb:dH X g ro m m sts s1 m)(hs:∀x,Ke iter X.env x=pure x:=by intro _;rfl):SS X g ro mb m (.For tg iter sts [] pos) (dE m fi ft s1) m:=by
 refine⟨rfl,PS.imp (oG hp hc hi hg.2 hb.2 hs) fun D σ H ⟨r,G,si,q⟩=>⟨r,G,si,bh (eO si rfl q) fun ds q J G0 H0 w0 Y=>?_⟩⟩;refine⟨fun i n σ H=>∃r G,SI X g m r G σ H/\aG G0 G/\i<=ds.length/\n=ds.length-i/\br X g ro m mb G D (aF ft s1 (ds.drop i) r),⟨ds.length,r,G0,si.grow w0,aG.refl G0,JK _,rfl,br.gle q w0.ge⟩,?_⟩
 rintro i n σ1 H1 ⟨r1,G1,si1,le1,hi,rfl,q1⟩
 by_cases hlt:i<ds.length
 .have hd:ds.drop i=ds[i]::ds.drop (i+1):=Kb hlt;rw[hd]at q1;unfold aF at q1;refine .inr ⟨Y.go G1 H1 i le1 si1.gok hlt,fun σ' H'=>∃r G,SI X g m r G σ' H'/\aG G0 G/\br X g ro m mb G D (aF ft s1 (ds.drop (i+1)) r),fun σ' H' ⟨r',G',si',le',q'⟩=>⟨ds.length-(i+1),by omega,r',G',si',le',hlt,rfl,q'⟩,fun x H' y=>?_⟩;obtain⟨G',w',rv⟩:=Y.yld G1 H1 i x H' ds[i] le1 si1.gok y (m_ hlt);have le':aG G0 G':=le1.trans w'.ge;cases eft:ft ds[i] r1 with
 |none=>simp only[eft]at q1;exact q1.elim
 |some r2=>simp only[eft]at q1;refine⟨r1,G',ds[i],si1.grow w',rv,r2,eft,fun σ2 si2=>⟨r2,G',si2,?_⟩⟩;cases eb:s1 r2 with
  |nx r'=>simp only[eb]at q1;exact fun σ3 G3 H3 le3 si3=>⟨r',G3,si3,le'.trans le3,br.gle q1 (aG.trans w'.ge le3)⟩
  |ct r'=>simp only[eb]at q1;exact fun σ3 G3 H3 le3 si3=>⟨r',G3,si3,le'.trans le3,br.gle q1 (aG.trans w'.ge le3)⟩
  |bk r'=>simp only[eb]at q1;exact fun σ3 G3 H3 le3 si3=>q1 σ3 G3 H3 (aG.trans w'.ge le3) si3
  |rt d=>simp only[eb]at q1;exact q1
  |exc x r'=>simp only[eb]at q1;exact fun pz e s' σ3 G3 H3 le3=>q1 pz e s' σ3 G3 H3 (aG.trans w'.ge le3)
  |stuck=>simp only[eb]at q1;exact q1
 .have e:i=ds.length:=by omega
  subst e;rw[La]at q1;exact .inl ⟨Y.stop G1 H1 le1 si1.gok,q1 σ1 G1 H1 (aG.refl _) si1⟩
def cL(m:List Md):List Md:=m.map fun x=>if x=Md.sh then Md.sh else Md.bw
def jY(m:List Md)(r:ah)(st:L2.St)(G:GH)(H:Hp):GE:=⟨G,H,fun i=>if m[i]? = some Md.ow\/m[i]? = some Md.bw then some ((st[i]?).join,(r[i]?).join)else none⟩
theorem mQ{m:List Md}{i:Nat}{x:Md}(h:m[i]? = some x):(cL m)[i]? = some (if x=Md.sh then Md.sh else Md.bw):=by unfold cL;rw[s_,h];rfl
theorem Fi{m:List Md}{i:Nat}(h:(cL m)[i]? = some Md.sh):m[i]? = some Md.sh:=by cases q:m[i]? with
|none=>unfold cL at h;rw[s_,q]at h;cases h
|some x=>rw[mQ q]at h;cases x <;> first|rfl|(simp at h)
theorem y0{m:List Md}{i:Nat}(h:(cL m)[i]? = some Md.ow):False:=by cases q:m[i]? with
|none=>unfold cL at h;rw[s_,q]at h;cases h
|some x=>rw[mQ q]at h;cases x <;> simp at h
theorem lockM_bw{m:List Md}{i:Nat}(h:(cL m)[i]? = some Md.bw):m[i]? = some Md.ow\/m[i]? = some Md.bw:=by cases q:m[i]? with
|none=>unfold cL at h;rw[s_,q]at h;cases h
|some x=>rw[mQ q]at h;cases x with
 |sh=>simp at h
 |ow=>exact .inl rfl
 |bw=>exact .inr rfl
theorem SI.lock{r:ah}{G:GH}{st:L2.St}{H:Hp}(s:SI X g m r G st H):SI X (jY m r st G H) (cL m) r G st H where
 gok:=s.gok
 old:=fun _ _ e=>e
 ge:=fun _ _ e=>e
 gf:=fun _ _=>rfl
 lm:=by unfold cL;rw[n_];exact s.lm
 lr:=s.lr
 sh:=fun i d h hm=>s.sh i d h (Fi hm)
 ow:=fun i d h hm=>(y0 hm).elim
 bw:=fun i d h hm=>by
  rcases lockM_bw hm with z|z
  .obtain⟨a,h1,h2,_⟩:=s.ow i d h z;exact⟨_,h1,.inr ⟨a,rfl,h2,h2.ob.isS⟩⟩
  .obtain⟨v,h1,h2⟩:=s.bw i d h z;refine⟨v,h1,?_⟩;rcases h2 with h2|⟨a,e,h2,_⟩
   .exact .inl h2
   .exact .inr ⟨a,e,h2,h2.ob.isS⟩
 dis:=fun i j a d e _ _ _ hm=>(y0 hm).elim
 lk:=fun i o h hm=>by
  have h':(if m[i]? = some Md.ow\/m[i]? = some Md.bw then some ((st[i]?).join,(r[i]?).join)else none)=some o:=h;rw[if_pos (lockM_bw hm)]at h';cases h';have hi:i<st.length:=by have:=(f_.mp hm).1;unfold cL at this;rw[n_,s.lm]at this;exact this
  refine⟨?_,fun d hd=>by rw[hd];rfl⟩;rw[m_ hi];rfl
theorem SI.unlock{r r':ah}{G G':GH}{st st':L2.St}{H H':Hp}(s:SI X g m r G st H)(s':SI X (jY m r st G H) (cL m) r' G' st' H'):SI X g m r' G' st' H':=by
 have w:Grow X.K G H G' H':=s'.grown;have hlk:∀(i:Nat),(m[i]? = some Md.ow\/m[i]? = some Md.bw)->st'[i]? = some (st[i]?).join/\∀d,r'[i]? = some (some d)->r[i]? = some (some d):=fun i hi=>by
  have hm:(cL m)[i]? = some Md.bw:=by rcases hi with z|z <;> rw[mQ z] <;> simp
  obtain⟨h1,h2⟩:=s'.lk i ((st[i]?).join,(r[i]?).join) (if_pos hi) hm;refine⟨h1,fun d hd=>?_⟩;have:=h2 d hd;cases q:r[i]? with
 |none=>rw[q]at this;cases this
 |some o=>rw[q]at this;rw[show o=some d from this]
 have hst:∀(i:Nat) v,(m[i]? = some Md.ow\/m[i]? = some Md.bw)->st[i]? = some (some v)->st'[i]? = some (some v):=fun i v hi h=>by rw[(hlk i hi).1,h];rfl
 refine⟨s'.gok,fun a o e=>s'.old a o (s.old a o e),fun a d e=>s'.ge a d (s.ge a d e),fun a h=>?_,?_,s'.lr,fun i d h hm=>?_,fun i d h hm=>?_,fun i d h hm=>?_,fun i j a d e hij h1 h2 m1 m2 q1 q2=>?_,fun i o hi hm=>?_⟩
 .have h1:H a≠none:=by cases e:g.h0 a with
  |none=>exact absurd e h
  |some o=>rw[s.old _ _ e];simp
  rw[w.gf a h1,s.gf a h]
 .have:=s'.lm;unfold cL at this;rw[n_]at this;exact this
 .exact s'.sh i d h (by rw[mQ hm];simp)
 .obtain⟨a,h1,h2,h3⟩:=s.ow i d ((hlk i (.inl hm)).2 d h) hm;exact⟨a,hst i _ (.inl hm) h1,h2.mono w,h3⟩
 .obtain⟨v,h1,h2⟩:=s.bw i d ((hlk i (.inr hm)).2 d h) hm;exact⟨v,hst i _ (.inr hm) h1,h2.grow w⟩
 .have e1:=(hlk i (.inl m1)).2 d h1;have e2:=(hlk j (.inl m2)).2 e h2;obtain⟨b,z1,_,_⟩:=s.ow i d e1 m1;obtain⟨c,z2,_,_⟩:=s.ow j e e2 m2;have y1:=hst i _ (.inl m1) z1;have y2:=hst j _ (.inl m2) z2;rw[q1]at y1;rw[q2]at y2;cases y1;cases y2;exact s.dis i j a d e hij e1 e2 m1 m2 z1 z2
 .obtain⟨h1,h2⟩:=s.lk i o hi hm;refine⟨?_,fun d hd=>h2 d ((hlk i (.inr hm)).2 d hd)⟩;rw[(hlk i (.inr hm)).1,h1];rfl
theorem SI.unlockX{r r':ah}{G G':GH}{st st':L2.St}{H H':Hp}(s:SI X g m r G st H)(s':SI X (jY m r st G H) (cP (cL m)) r' G' st' H'):SI X g (cP m) r' G' st' H':=by
 have w:Grow X.K G H G' H':=s'.grown;have el:cP (cL m)=cP m:=pj (by unfold cL;rw[n_]);rw[el]at s';have no:∀{i:Nat}{x:Md},(cP m)[i]? = some x->x=Md.sh:=fun{i x} h=>by unfold cP at h;rw[s_]at h;cases q:m[i]? with
 |none=>rw[q]at h;cases h
 |some y=>rw[q]at h;cases h;rfl
 refine⟨s'.gok,fun a o e=>s'.old a o (s.old a o e),fun a d e=>s'.ge a d (s.ge a d e),fun a h=>?_,s'.lm,s'.lr,s'.sh,fun i d h hm=>(nomatch (no hm)),fun i d h hm=>(nomatch (no hm)),fun i j a d e hij h1 h2 m1 m2=>(nomatch (no m1)),fun i o hi hm=>(nomatch (no hm))⟩;have h1:H a≠none:=by cases e:g.h0 a with
 |none=>exact absurd e h
 |some o=>rw[s.old _ _ e];simp
 rw[w.gf a h1,s.gf a h]
theorem oH(hp:Mh (y_ X.prog X.w) X.A X.env X.xe)(hc:X.calm=true){ft:FT}{fi:FI}(hi:iw X g m tg iter fi)(hg:∀g',SG X g' (cL m) tg ft (cL m))(hb:∀g',dH X g' ro (cL m) (cL m) sts s1 (cL m))(hs:∀x,Ke iter X.env x=pure x:=by intro _;rfl):SS X g ro mb m (.For tg iter sts [] pos) (dE m fi ft s1) m:=by
 have hgA:PG X tg (fun v σ H Q=>∃g',tG X g' (cL m) (cL m) ft v σ H Q):=fun pz s σ H v u Q I r ⟨g',q⟩=>(hg g').2 pz s σ H v u Q I r q;have hbA:bx X sts (fun D σ H=>∃g',tS X g' ro (cL m) (cL m) (cL m) s1 D σ H):=fun pz s σ H D I ⟨g',q⟩=>(hb g').2 pz s σ H D I q;refine⟨rfl,PS.imp (oG hp hc hi hgA hbA hs) fun D σ H ⟨r,G,si,q⟩=>⟨r,G,si,bh (eO si rfl q) fun ds q J G0 H0 w0 Y=>?_⟩⟩;have si0:=si.grow w0;refine⟨fun i n σ1 H1=>∃r1 G1,SI X (jY m r σ G0 H0) (cL m) r1 G1 σ1 H1/\i<=ds.length/\n=ds.length-i/\br X g ro m mb G1 D (aF ft s1 (ds.drop i) r1),⟨ds.length,r,G0,si0.lock,JK _,rfl,br.gle q w0.ge⟩,?_⟩
 rintro i n σ1 H1 ⟨r1,G1,si1,hi,rfl,q1⟩
 have wg:Grow X.K G0 H0 G1 H1:=si1.grown;by_cases hlt:i<ds.length
 .have hd:ds.drop i=ds[i]::ds.drop (i+1):=Kb hlt;rw[hd]at q1;unfold aF at q1;refine .inr ⟨Y.go G1 H1 i wg hlt,fun σ' H'=>∃r' G',SI X (jY m r σ G0 H0) (cL m) r' G' σ' H'/\br X g ro m mb G' D (aF ft s1 (ds.drop (i+1)) r'),fun σ' H' ⟨r',G',si',q'⟩=>⟨ds.length-(i+1),by omega,r',G',si',hlt,rfl,q'⟩,fun x H' y=>?_⟩;obtain⟨G',w',rv⟩:=Y.yld G1 H1 i x H' ds[i] wg y (m_ hlt);cases eft:ft ds[i] r1 with
 |none=>simp only[eft]at q1;exact q1.elim
 |some r2=>simp only[eft]at q1;refine⟨jY m r σ G0 H0,r1,G',ds[i],si1.grow w',rv,r2,eft,fun σ2 si2=>⟨jY m r σ G0 H0,r2,G',si2,?_⟩⟩;cases eb:s1 r2 with
  |nx r'=>simp only[eb]at q1;exact fun σ3 G3 H3 le3 si3=>⟨r',G3,si3,br.gle q1 (aG.trans w'.ge le3)⟩
  |ct r'=>simp only[eb]at q1;exact fun σ3 G3 H3 le3 si3=>⟨r',G3,si3,br.gle q1 (aG.trans w'.ge le3)⟩
  |bk r'=>simp only[eb]at q1;exact fun σ3 G3 H3 le3 si3=>q1 σ3 G3 H3 (aG.trans w'.ge le3) (si0.unlock si3)
  |rt d=>simp only[eb]at q1;intro v G2 H2 wr rv2;refine q1 v G2 H2 (si0.grown.trans wr) ?_;cases ro with
   |false=>exact rv2
   |true=>
     rcases rv2 with⟨a,e1,e2,e3⟩|z
     .exact .inl ⟨a,e1,si0.grown.back e2,e3⟩
     .exact .inr z
  |exc x r'=>simp only[eb]at q1;exact fun pz e s' σ3 G3 H3 le3 si3=>q1 pz e s' σ3 G3 H3 (aG.trans w'.ge le3) (si0.unlockX si3)
  |stuck=>simp only[eb]at q1;exact q1
 .have e:i=ds.length:=by omega
  subst e;rw[La]at q1;exact .inl ⟨Y.stop G1 H1 wg,q1 σ1 G1 H1 (aG.refl _) (si0.unlock si1)⟩
def eN(m:List Md)(p:FQ)(body:FS):Nat->FS
|0,_=>.stuck
|n+1,r=>eY m r (p r) fun c=>if c=true then(match body r with
  |.nx r'=>eN m p body n r'
  |.ct r'=>eN m p body n r'
  |.bk r'=>.nx r'
  |o=>o)else .nx r
theorem yA(n:Nat)(hp:Mh (y_ X.prog X.w) X.A X.env X.xe)(hc:SQ X g m c p)(hb:dH X g ro m m sts s1 m):SS X g ro mb m (.While c sts [] pos) (eN m p s1 n) m:=by
 refine⟨rfl,PS.imp (FF hp hc hb.2) fun D σ H ⟨r,G,si,q⟩=>?_⟩;refine⟨fun n σ H=>∃r G,SI X g m r G σ H/\br X g ro m mb G D (eN m p s1 n r),⟨n,r,G,si,q⟩,?_⟩
 rintro n σ1 H1 ⟨r1,G1,si1,q1⟩
 cases n with
|zero=>exact q1.elim
|succ n=>unfold eN at q1;refine⟨r1,G1,si1,bh (eO si1 rfl q1) fun c q2 G2 H2 w2=>?_⟩;cases c with
 |false=>rw[if_neg l_]at q2 ⊢;exact q2 σ1 G2 H2 w2.ge (si1.grow w2)
 |true=>rw[if_pos rfl]at q2 ⊢;refine⟨fun σ' H'=>∃r G,SI X g m r G σ' H'/\br X g ro m mb G D (eN m p s1 n r),fun σ' H' h=>⟨n,K9 _,h⟩,r1,G2,si1.grow w2,?_⟩;cases eb:s1 r1 with
  |nx r'=>simp only[eb]at q2;exact fun σ3 G3 H3 le3 si3=>⟨r',G3,si3,br.gle q2 (aG.trans w2.ge le3)⟩
  |ct r'=>simp only[eb]at q2;exact fun σ3 G3 H3 le3 si3=>⟨r',G3,si3,br.gle q2 (aG.trans w2.ge le3)⟩
  |bk r'=>simp only[eb]at q2;exact fun σ3 G3 H3 le3 si3=>q2 σ3 G3 H3 (aG.trans w2.ge le3) si3
  |rt d=>simp only[eb]at q2;exact q2
  |exc x r'=>simp only[eb]at q2;exact fun pz e s' σ3 G3 H3 le3=>q2 pz e s' σ3 G3 H3 (aG.trans w2.ge le3)
  |stuck=>simp only[eb]at q2;exact q2
end
def lL:Res D->Res D
|.ok d=>.ok d
|_=>.stuck
@[simp] theorem noX_ok(d:D):lL (.ok d)=.ok d:=rfl
inductive ArgsOk(K:W.Frag)(G:GH)(H:Hp):List Md->List V->List D->Prop where
 |nil:ArgsOk K G H [] [] []
 |sh {v:V} {d:D} {ms:List Md} {vs:List V} {ds:List D}:RG K G v d->ArgsOk K G H ms vs ds->ArgsOk K G H (.sh::ms) (v::vs) (d::ds)
 |bw {v:V} {d:D} {ms:List Md} {vs:List V} {ds:List D}:RB K G H v d->ArgsOk K G H ms vs ds->ArgsOk K G H (.bw::ms) (v::vs) (d::ds)
section
variable{K:W.Frag}{G G':GH}{H H':Hp}
theorem ArgsOk.mono:∀{ms:List Md}{vs:List V}{ds:List D},ArgsOk K G H ms vs ds->Grow K G H G' H'->ArgsOk K G' H' ms vs ds
|_,_,_,.nil,_=>.nil
|_,_,_,.sh h t,w=>.sh (h.mono w.ge) (t.mono w)
|_,_,_,.bw h t,w=>.bw (h.mono w) (t.mono w)
theorem ArgsOk.len{ms:List Md}{vs:List V}{ds:List D}(h:ArgsOk K G H ms vs ds):vs.length=ms.length/\ds.length=ms.length:=by induction h with
|nil=>exact⟨rfl,rfl⟩
|sh h t ih=>exact⟨congrArg (· + 1) ih.1,congrArg (· + 1) ih.2⟩
|bw h t ih=>exact⟨congrArg (· + 1) ih.1,congrArg (· + 1) ih.2⟩
theorem ArgsOk.app{dvs:List V}{dds:List D}(hs:Paired Scl dvs dds):∀{ms:List Md}{vs:List V}{ds:List D},ArgsOk K G H ms vs ds->ArgsOk K G H (ms++t_ dds.length .sh) (vs++dvs) (ds++dds)
|_,_,_,.nil=>by induction hs with
 |nil=>exact .nil
 |cons h t ih=>exact .sh (.scl h) ih
|_,_,_,.sh h t=>.sh h (t.app hs)
|_,_,_,.bw h t=>.bw h (t.app hs)
theorem ArgsOk.get:∀{ms:List Md}{vs:List V}{ds:List D}{i:Nat}{d:D},ArgsOk K G H ms vs ds->ds[i]? = some d->∃v,vs[i]? = some v/\((ms[i]? = some .sh/\RG K G v d)\/(ms[i]? = some .bw/\RB K G H v d))
|_,_,_,_,_,.nil,e=>by simp at e
|_,_,_,0,_,.sh h t,e=>by simp at e;subst e;exact⟨_,rfl,.inl ⟨rfl,h⟩⟩
|_,_,_,0,_,.bw h t,e=>by simp at e;subst e;exact⟨_,rfl,.inr ⟨rfl,h⟩⟩
|_,_,_,i+1,d,.sh h t,e=>by obtain⟨v,h1,h2⟩:=t.get (i:=i) (d:=d) (by simpa using e);exact⟨v,by simpa using h1,by simpa using h2⟩
|_,_,_,i+1,d,.bw h t,e=>by obtain⟨v,h1,h2⟩:=t.get (i:=i) (d:=d) (by simpa using e);exact⟨v,by simpa using h1,by simpa using h2⟩
end
def iR(K:W.Frag)(ro:Bool)(ms:List Md)(F:List D->Res D):Sp:=fun vs H Q _=>∃G ds,aN K G H/\ArgsOk K G H ms vs ds/\fin (F ds) (fun d=>∀v G' H',Grow K G H G' H'->RV ro K H G' H' v d->Q v H') fun _=>False
def outR(ro:Bool):Out->Res D
|.nx _=>if ro=true then .stuck else .ok .non
|.rt d=>.ok d
|.exc x _=>.exc x
|_=>.stuck
def a7(n:Nat)(ds:List D):ah:=ds.map some++t_ (n-ds.length) none
def fE(n:Nat)(ms:List Md):List Md:=ms++t_ (n-ms.length) .sh
section
variable{P:u_}{w:H_}{K:W.Frag}{mg:Str->Option b_}{base:Heap}
theorem mL{X:Cx}{N:List Str}{ms:List Md}{vs:List V}{ds:List D}{G:GH}{H:Hp}(gk:aN X.K G H)(rs:ArgsOk X.K G H ms vs ds)(hn:ms.length<=N.length):SI X ⟨G,H,fun _=>none⟩ (fE N.length ms) (a7 N.length ds) G (L2.a8 N vs) H:=by
 obtain⟨l1,l2⟩:=rs.len;have e1:(L2.a8 N vs).length=N.length:=by unfold L2.a8;rw[JH,n_,Kt];omega
 have e2:(a7 N.length ds).length=N.length:=by unfold a7;rw[JH,n_,Kt];omega
 have e3:(fE N.length ms).length=N.length:=by unfold fE;rw[JH,Kt];omega
 have at_:∀(i:Nat) d,(a7 N.length ds)[i]? = some (some d)->i<ms.length/\(fE N.length ms)[i]? = ms[i]?/\∃v,(L2.a8 N vs)[i]? = some (some v)/\((ms[i]? = some .sh/\RG X.K G v d)\/(ms[i]? = some .bw/\RB X.K G H v d)):=fun i d h=>by
  unfold a7 at h;by_cases hi:i<ds.length
  .rw[JB (by simpa using hi),s_]at h;have hd:ds[i]? = some d:=by cases z:ds[i]? with
   |none=>rw[z]at h;cases h
   |some d'=>rw[z]at h;cases h;rfl
   obtain⟨v,hv,rv⟩:=rs.get hd;refine⟨by omega,?_,v,?_,rv⟩
   .unfold fE;rw[JB (by omega)]
   .unfold L2.a8;rw[JB (by rw[n_];omega),s_,hv];rfl
  .rw[K5 (by simpa using hi),J4]at h;split at h <;> cases h
 refine⟨gk,fun _ _ e=>e,fun _ _ e=>e,fun _ _=>rfl,by rw[e3,e1],by rw[e1,e2],fun i d h hm=>?_,fun i d h hm=>?_,fun i d h hm=>?_,fun i j a d e _ h _ hm=>?_,fun i o h=>nomatch h⟩
 .obtain⟨_,hq,v,h1,h2⟩:=at_ i d h;rw[hq]at hm;rcases h2 with⟨_,h2⟩|⟨h3,h2⟩
  .exact⟨v,h1,h2⟩
  .rw[hm]at h3;cases h3
 .obtain⟨_,hq,v,h1,h2⟩:=at_ i d h;rw[hq]at hm;rcases h2 with⟨h3,h2⟩|⟨h3,h2⟩ <;> rw[hm]at h3 <;> cases h3
 .obtain⟨_,hq,v,h1,h2⟩:=at_ i d h;rw[hq]at hm;rcases h2 with⟨h3,h2⟩|⟨h3,h2⟩
  .rw[hm]at h3;cases h3
  .refine⟨v,h1,?_⟩;rcases h2 with h2|⟨a,rfl,h2⟩
   .exact .inl h2
   .exact .inr ⟨a,rfl,h2,h2.ob.isS⟩
 .obtain⟨_,hq,v,h1,h2⟩:=at_ i d h;rw[hq]at hm;rcases h2 with⟨h3,h2⟩|⟨h3,h2⟩ <;> rw[hm]at h3 <;> cases h3
theorem Gj{X:Cx}{ro:Bool}{fs:FS}{m':List Md}{G:GH}{H:Hp}{r:ah}{Q:VK}(q:fin (outR ro (fs r)) (fun d=>∀v G' H',Grow X.K G H G' H'->RV ro X.K H G' H' v d->Q v H') fun _=>False):br X ⟨G,H,fun _=>none⟩ ro m' [] G { nx:=fun _ H'=>Q .non H',rt:=Q } (fs r):=by cases e:fs r with
|nx r'=>rw[e]at q;cases ro with
 |false=>exact fun σ' G' H' _ si=>q .non G' H' si.grown (.scl .non)
 |true=>exact q.elim
|rt d=>rw[e]at q;exact fun v G' H' wg rv=>q v G' H' wg rv
|bk r'=>rw[e]at q;exact q.elim
|ct r'=>rw[e]at q;exact q.elim
|exc x r'=>rw[e]at q;exact q.elim
|stuck=>rw[e]at q;exact q
theorem xU{x qual:Str}{st:Stmt}{f:Addr}{fd:JP}{N ps:List Str}{k:Nat}{ro:Bool}{ms:List Md}{fs:FS}{m':List Md}(F:Fun K x qual st f fd)(S:FnScope N ps (aa st))(hms:ms.length=ps.length)(hbody:∀(cdv:b_)(A:Jr)(outer:List Env)(s:e_)(H:Hp)(g:GE)(E:XK),Room k (A.deeper (KW qual (aa st) s.heap.objs.size f cdv)) ->dH (a9 bP P w K mg base N qual (aa st) f cdv A outer s H E).nox g ro [] (fE N.length ms) (ap st) fs m'):FnOk P w K mg base bP (k+1) f fd ps (iR K ro ms fun ds=>outR ro (fs (a7 N.length ds))):=by
 refine F.ok S (fun vs H Q E ⟨G,ds,gk,rs,q⟩=>rs.len.1.trans hms) fun cdv A outer s H vs Q E hr h=>?_;obtain⟨G,ds,gk,rs,q⟩:=h;have hpl:ps.length<=N.length:=by have:=congrArg K4 S.pre;rw[JM]at this;omega
 exact⟨_,(hbody cdv A outer s H ⟨G,H,fun _=>none⟩ E hr).2,a7 N.length ds,G,mL gk rs (by omega),Gj q⟩
end
section
variable{X:Cx}{g:GE}{m:List Md}{e:Expr}{f:FE}{es:List Expr}{fl:ah->Res (List D)}{k:Nat}{fa:Addr}{fd:JP}{ps:List Str}{F:List D->Res D}{dvs:List V}{ds:List b_}{dds:List D}{x:Str}{p pos:Pos}{ms:List Md}
def uB(X:Cx)(g:GE)(m:List Md)(ms:List Md)(f:ah->Res (List D)):TA:=fun σ H Q=>∃r G,SI X g m r G σ H/\fin (f r) (fun ds=>∀vs G' H',Grow X.K G H G' H'->ArgsOk X.K G' H' ms vs ds->Q vs H') (XW X σ G H)
def gu(X:Cx)(g:GE)(m:List Md)(es:List Expr)(ms:List Md)(f:ah->Res (List D)):Prop:=PA X es (uB X g m ms f)
theorem bi:gu X g m [] [] ae:=PA.imp hZ fun σ H Q ⟨r,G,si,k⟩=>k [] G H (Grow.refl si.gok) .nil
theorem aW(ha:SE X g m e f)(hr:gu X g m es ms fl)(hs:g_ (e::es) X.env=(false,eval e X.env)::g_ es X.env:=by rfl):gu X g m (e::es) (.sh::ms) (ag f fl):=by
 refine PA.imp (d4 ha hr hs) fun σ H Q ⟨r,G,si,k⟩=>⟨r,G,si,bh (bu k) fun d k1 v G1 H1 w1 r1=>⟨r,G1,si.grow w1,?_⟩⟩
 exact g6 (bu k1) w1 fun ds z vs G2 H2 w2 r2=>z (v::vs) G2 H2 (w1.trans w2) (.sh (r1.mono w2.ge) r2)
theorem aw(ha:SB X g m e f)(hr:gu X g m es ms fl)(hs:g_ (e::es) X.env=(false,eval e X.env)::g_ es X.env:=by rfl):gu X g m (e::es) (.bw::ms) (ag f fl):=by
 refine PA.imp (d4 ha hr hs) fun σ H Q ⟨r,G,si,k⟩=>⟨r,G,si,bh (bu k) fun d k1 v G1 H1 w1 r1=>⟨r,G1,si.grow w1,?_⟩⟩
 exact g6 (bu k1) w1 fun ds z vs G2 H2 w2 r2=>z (v::vs) G2 H2 (w1.trans w2) (.bw (r1.mono w2) r2)
def aM(fl:ah->Res (List D))(dds:List D)(F:List D->Res D):FE:=fun r=>(fl r).bind fun ds=>lL (F (ds++dds))
theorem Gp{ro:Bool}{vs:List V}{zs:List D}{G:GH}{H:Hp}{Q:VK}(gk:aN X.K G H)(rs:ArgsOk X.K G H ms vs zs)(hsc:Paired Scl dvs dds)(q:fin (lL (F (zs++dds))) (fun d=>∀v G' H',Grow X.K G H G' H'->RV ro X.K H G' H' v d->Q v H') fun _=>False):iR X.K ro (ms++t_ dds.length .sh) F (vs++dvs) H Q E0:=by refine⟨G,zs++dds,gk,rs.app hsc,?_⟩;cases e:F (zs++dds)with
|ok d=>rw[e]at q;exact q
|exc x=>rw[e]at q;exact q.elim
|stuck=>rw[e]at q;exact q.elim
theorem GB{α:Type}{r:Res α}{q:α->Prop}{x:D->Prop}(h:fin r q x)(hr:∀e,r≠.exc e):fin r q fun _=>False:=by cases r with
|ok a=>exact h
|exc e=>exact absurd rfl (hr e)
|stuck=>exact h
theorem CV(r:Res D)(e:D):lL r≠.exc e:=by cases r <;> simp[lL]
theorem DV(G1:FnOk X.prog X.w X.K X.mg X.base bP k fa fd ps (iR X.K false (ms++t_ dds.length .sh) F))(hr:Room k X.A)(hg:Gl X x)(hm:X.mg x=some (.ref fa))(hk:W.keepIn X.K (.ref fa)=true)(hb:eD X.K fd ps ds)(hd:al dvs ds)(hsc:Paired Scl dvs dds)(ha:gu X g m (e::es) ms fl)(hdb:(x==("__debug__" : Str))=false:=by decide)(he:g_ (e::es) X.env=(false,eval e X.env)::g_ es X.env:=by rfl)(hpl:(backTo pos (g_ es X.env)).any (·.1)=false:=by rfl):SE X g m (.Call (.Name x p) (e::es) [] pos) (aM fl dds F):=by
 refine PE.imp (mv G1 hr hg hm hk hb hd lW ha hdb he hpl) fun σ H Q ⟨r,G,si,q⟩=>⟨r,G,si,?_⟩
 cases ez:fl r with
|ok zs=>unfold aM at q;rw[ez]at q;intro vs G' H' w' rs;exact Gp w'.ok rs hsc (bh (GB q (CV _)) fun d k v G2 H2 w2 rv=>k v G2 H2 (w'.trans w2) rv)
|exc x=>unfold aM at q;rw[ez]at q;exact q
|stuck=>unfold aM at q;rw[ez]at q;exact q
end
theorem FV{env:Env}:∀(l:List (Str×K3))(cs:List (Str×Addr)),(∀x∈l,x.2=.free->∃c,env.cells.lookup x.1=some c)->(∀x c,cs.lookup x=some c->env.cells.lookup x=some c) ->∃cl,(forIn l cs (fun(x:Str×K3)(cs:List (Str×Addr))=>if (x.2==NameKind.free)=true then(do let a <-PD env x.1;pure (ForInStep.yield ((x.1,a)::cs)))else pure (ForInStep.yield cs)):Sem (List (Str×Addr)))=pure cl /\(∀x c,cl.lookup x=some c->env.cells.lookup x=some c)/\(∀x,(x,NameKind.free)∈l->∃c,cl.lookup x=some c)/\(∀x c,cs.lookup x=some c->∃c',cl.lookup x=some c'):=by
 intro l
 induction l with
|nil=>intro cs _ h;exact⟨cs,rfl,h,fun x hx=>(by cases hx),fun x c h=>⟨c,h⟩⟩
|cons y l ih=>
  intro cs hf hc;obtain⟨n,k⟩:=y;by_cases hk:k=.free
  .subst hk;obtain⟨c,ec⟩:=hf (n,.free) k_ rfl;have e1:PD env n=pure c:=by unfold PD;rw[ec]
   have hc':∀x c',((n,c)::cs).lookup x=some c'->env.cells.lookup x=some c':=fun x c' h=>by rw[KM]at h;cases q:x==n with
   |true=>rw[q]at h;cases h;rw[Ly q];exact ec
   |false=>rw[q]at h;exact hc x c' h
   obtain⟨cl,e2,h1,h2,h3⟩:=ih ((n,c)::cs) (fun x hx=>hf x (h_ _ hx)) hc';refine⟨cl,?_,h1,fun x hx=>?_,fun x c' h=>?_⟩
   .rw[<-e2];rw[Nf];show(PD env n >>= fun a=>pure (ForInStep.yield ((n,a)::cs))) >>= _=_;rw[e1];rfl
   .rcases C_.mp hx with z|z
    .cases z;exact h3 n c (by rw[KM];simp)
    .exact h2 x z
   .cases q:x==n with
   |true=>exact h3 x c (by rw[KM,q])
   |false=>exact h3 x c' (by rw[KM,q];exact h)
  .obtain⟨cl,e2,h1,h2,h3⟩:=ih cs (fun x hx=>hf x (h_ _ hx)) hc;have hb:(k==NameKind.free)=false:=by simpa using hk
   refine⟨cl,?_,h1,fun x hx=>?_,h3⟩
   .rw[<-e2,Nf];simp only[hb,Bool.false_eq_true,if_false];rfl
   .rcases C_.mp hx with z|z
    .cases z;exact absurd rfl hk
    .exact h2 x z
theorem Ib{scope:KG}{env:Env}(hf:∀x∈scope.names,x.2=.free->∃c,env.cells.lookup x.1=some c):∃cl,OT scope env=pure cl/\(∀x c,cl.lookup x=some c->env.cells.lookup x=some c)/\(∀x,(x,NameKind.free)∈scope.names->∃c,cl.lookup x=some c):=by obtain⟨cl,e,h1,h2,_⟩:=FV scope.names [] hf (fun x c h=>by cases h);refine⟨cl,?_,h1,h2⟩;have e0:OT scope env=((forIn scope.names ([]:List (Str×Addr)) (fun(x:Str×K3)(cs:List (Str×Addr))=>if (x.2==NameKind.free)=true then(do let a <-PD env x.1;pure (ForInStep.yield ((x.1,a)::cs)))else pure (ForInStep.yield cs)):Sem (List (Str×Addr))) >>= fun cs=>pure cs):=rfl;rw[e0,e];rfl
theorem Ao{f:Str->K3->K3}:∀(l:List (Str×K3))(x:Str),(l.map fun y=>(y.1,f y.1 y.2)).lookup x=(l.lookup x).map (f x)
|[],x=>rfl
|(n,k)::l,x=>by rw[A_,KM,KM];cases q:x==n with
 |true=>simp[Ly q]
 |false=>exact Ao l x
def dN(env:Env)(n:Str)(k:K3):K3:=if (k==.free&&env.scope.kind==.function&&env.kindOf n==some .cell)=true then .cell else k
theorem Ap(scope:KG)(env:Env)(x:Str):(N9 scope env).names.lookup x=(scope.names.lookup x).map (dN env x):=by
 rw[<-Ao];unfold N9;congr 1;apply KH;intro y _;obtain⟨n,k⟩:=y;show(if (k==NameKind.free&&env.scope.kind==.function&&env.kindOf n==some .cell)=true then(n,NameKind.cell)else(n,k))=(n,dN env n k)
 unfold dN;split <;> rfl
structure CompSc(X:Cx)(scope:KG)(N':List Str)(nl:Nat)(cap:List Nat):Prop where
 kind:scope.kind=.function
 nocell:∀y∈scope.names,y.2≠.cell
 names:∀y∈scope.names,y.2=.local->scope.names.lookup y.1=some .local
 freeK:∀y∈scope.names,y.2=.free->X.env.kindOf y.1=some .cell\/X.env.kindOf y.1=some .free
 len:N'.length=nl+cap.length
 capN:∀j,j<cap.length->∃x,N'[nl+j]? = some x/\X.N[cap.getD j 0]? = some x/\scope.names.lookup x=some .free
def eJ(X:Cx)(s₀:e_)(H₀:Hp)(N':List Str)(scope:KG)(cl:List (Str×Addr))(C:Addr)(fp:List Addr):Cx where
 prog:=X.prog
 w:=X.w
 K:=X.K
 mg:=X.mg
 base:=X.base
 A:=X.A
 N:=N'
 s₀:=s₀
 H₀:=H₀
 env:=No scope cl C X.env
 outer:=X.stack
 stack:=X.stack
 ex:=fp
 fn:=fun _=>false
 calm:=X.calm
 pn:=[]
 xe:=fun _ _=>False
section
variable{X:Cx}{pz:List (Addr×Obj)}{σ:L2.St}{H:Hp}{s:e_}{scope:KG}{N':List Str}{nl:Nat}{cap:List Nat}{cl:List (Str×Addr)}{C:Addr}{fp:List Addr}
theorem Bt(I:Inv X pz σ H s)(sc:CompSc X scope N' nl cap)(h1:∀x c,cl.lookup x=some c->X.env.cells.lookup x=some c)(h2:∀x,(x,NameKind.free)∈scope.names->∃c,cl.lookup x=some c)(hf:∀b∈fp,dm X pz H b/\b<s.heap.objs.size)(hC:s.heap.objs.size<=C):(eJ X s H N' scope cl C fp).Ok where
 mod:=I.ok.mod
 kind:=sc.kind
 glob:=I.ok.glob
 blt:=I.ok.blt
 above:=hC
 inj:=fun x y c a b=>I.ok.inj x y c (h1 x c a) (h1 y c b)
 has:=fun x hk=>by
  have hk':(scope.names.lookup x).map (dN X.env x)=some .cell\/(scope.names.lookup x).map (dN X.env x)=some .free:=by rw[<-Ap];exact hk
  cases e:scope.names.lookup x with
 |none=>rw[e]at hk';rcases hk' with z|z <;> cases z
 |some k=>
   have hm:=J_ e;have kf:k=.free:=by
    rw[e]at hk';have hk2:dN X.env x k=.cell\/dN X.env x k=.free:=by
     rcases hk' with z|z
     .exact .inl (B_ z)
     .exact .inr (B_ z)
    unfold dN at hk2;split at hk2
    .rename_i hc;simp only[Jx,beq_iff_eq]at hc;exact hc.1.1
    .rcases hk2 with z|z
     .exact absurd z (sc.nocell _ hm)
     .exact z
   subst kf;exact h2 x hm
 cab:=fun x c h=>by cases h
 hd:=I.ok.hd
 frames:=I.ok.frames
 stk:=.inl rfl
 exf:=fun b hb=>⟨Js (x_ (hf b hb).2 hC),fun x c e=>(hf b hb).1.2.2.2.2.1 x c (h1 x c e)⟩
 bs:=I.bs
 bsz:=JE I.ok.bsz I.sz
 noex:=fun b o e hb=>by
  obtain⟨_,_,_,hx,_⟩:=(hf b hb).1;rcases hx with z|z
  .exact I.ok.noex b o e z
  .exact absurd (x_ (r_ e) (JE I.ok.bsz z)) (J5 _)
 exfs:=fun b hb hfs=>by
  obtain⟨_,q1,q2,_⟩:=(hf b hb).1;rcases C_.mp (I.stkSub b hfs)with z|z
  .exact q1 z
  .exact q2 z
 funs:=I.stack
 frf:=I.stkFree
end
def fy(ft:FT)(q:FQ)(fe:FE)(r0:ah):List D->Res (List D)
|[]=>.ok []
|d::ds=>(cn (ft d r0)).bind fun r1=>(q r1).bind fun c=>if c=true then(fe r1).bind fun v=>(fy ft q fe r0 ds).bind fun vs=>.ok (v::vs)else fy ft q fe r0 ds
def bp(nl:Nat)(cap:List Nat)(r:ah):ah:=t_ nl none++cap.map fun i=>r.getD i none
def aP(nl:Nat)(cap:List Nat)(m:List Md):List Md:=t_ nl Md.sh++cap.map fun i=>if m.getD i Md.sh=Md.sh then Md.sh else Md.bw
def dj(nl:Nat)(cap:List Nat)(st:L2.St):L2.St:=t_ nl none++cap.map fun i=>st.getD i none
theorem mC{α:Type}{nl:Nat}{cap:List Nat}{u:α}{h:Nat->α}{i:Nat}(hi:nl<=i):(t_ nl u++cap.map h)[i]? = (cap[i-nl]?).map h:=by rw[K5 (by simpa using hi),Kt,s_]
section
variable{X:Cx}{pz:List (Addr×Obj)}{σ:L2.St}{H H':Hp}{s:e_}{scope:KG}{N':List Str}{nl:Nat}{cap:List Nat}{cl:List (Str×Addr)}{C:Addr}{fp:List Addr}{g:GE}{G G':GH}{m:List Md}{r:ah}
theorem AK(si:SI X g m r G σ H)(w:Grow X.K G H G' H'):SI (eJ X s H N' scope cl C fp) ⟨G,H,fun _=>none⟩ (aP nl cap m) (bp nl cap r) G' (dj nl cap σ) H':=by
 have lens:(aP nl cap m).length=nl+cap.length:=by simp[aP]
 have lens2:(bp nl cap r).length=nl+cap.length:=by simp[bp]
 have lens3:(dj nl cap σ).length=nl+cap.length:=by simp[dj]
 have rget:∀(i:Nat) d,(bp nl cap r)[i]? = some (some d)->nl<=i/\∃j,cap[i-nl]? = some j/\r[j]? = some (some d):=fun i d h=>by
  by_cases hi:i<nl
  .unfold bp at h;rw[JB (by simpa using hi),J4]at h;split at h <;> cases h
  .refine⟨by omega,?_⟩;unfold bp at h;rw[mC (by omega)]at h;cases e:cap[i-nl]? with
  |none=>rw[e]at h;cases h
  |some j=>rw[e]at h;refine⟨j,rfl,?_⟩;have h':r.getD j none=some d:=B_ h;rw[z_]at h';cases e2:r[j]? with
   |none=>rw[e2]at h';cases h'
   |some o=>rw[e2]at h';rw[show o=some d from h']
 have mget:∀(i j:Nat) md,nl<=i->cap[i-nl]? = some j->(aP nl cap m)[i]? = some md->md=if m.getD j Md.sh=Md.sh then Md.sh else Md.bw:=fun i j md hi hj h=>by unfold aP at h;rw[mC hi,hj]at h;exact(B_ h).symm
 have sget:∀(i j:Nat) v,nl<=i->cap[i-nl]? = some j->σ[j]? = some (some v)->(dj nl cap σ)[i]? = some (some v):=fun i j v hi hj h=>by unfold dj;rw[mC hi,hj];show some (σ.getD j none)=_;rw[z_,h];rfl
 have mj:∀(j:Nat) d,r[j]? = some (some d)->m[j]? = some (m.getD j Md.sh):=fun j d h=>by
  have hl:j<m.length:=by have:=(f_.mp h).1;rw[si.lr,<-si.lm]at this;exact this
  rw[z_,m_ hl];rfl
 refine⟨w.ok,w.he,w.ge,w.gf,by rw[lens,lens3],by rw[lens2,lens3],fun i d h hm=>?_,fun i d h hm=>?_,fun i d h hm=>?_,fun i j a d e _ h _ hm=>?_,fun i o h=>nomatch h⟩
 .obtain⟨hi,j,hj,hr⟩:=rget i d h;have e:=mget i j _ hi hj hm;have hsh:m.getD j Md.sh=Md.sh:=by
   by_cases z:m.getD j Md.sh=Md.sh
   .exact z
   .rw[if_neg z]at e;cases e
  obtain⟨v,h1,h2⟩:=si.sh j d hr (by rw[mj j d hr,hsh]);exact⟨v,sget i j v hi hj h1,h2.mono w.ge⟩
 .obtain⟨hi,j,hj,hr⟩:=rget i d h;have e:=mget i j _ hi hj hm;split at e <;> cases e
 .obtain⟨hi,j,hj,hr⟩:=rget i d h;have e:=mget i j _ hi hj hm;have hsh:m.getD j Md.sh≠Md.sh:=by intro z;rw[if_pos z]at e;cases e
  have hmj:=mj j d hr;cases q:m.getD j Md.sh with
 |sh=>exact absurd q hsh
 |ow=>rw[q]at hmj;obtain⟨a,h1,h2,_⟩:=si.ow j d hr hmj;exact⟨_,sget i j _ hi hj h1,.inr ⟨a,rfl,h2.mono w,h2.ob.isS⟩⟩
 |bw=>
   rw[q]at hmj;obtain⟨v,h1,h2⟩:=si.bw j d hr hmj;refine⟨v,sget i j _ hi hj h1,?_⟩;rcases h2 with h2|⟨a,rfl,h2,_⟩
   .exact .inl (h2.mono w.ge)
   .exact .inr ⟨a,rfl,h2.mono w,h2.ob.isS⟩
 .obtain⟨hi,j',hj,hr⟩:=rget i d h;have e:=mget i j' _ hi hj hm;split at e <;> cases e
theorem Bo(I:Inv X pz σ H s)(ok:(eJ X s H N' scope cl C fp).Ok)(sc:CompSc X scope N' nl cap)(h1:∀x c,cl.lookup x=some c->X.env.cells.lookup x=some c)(h2:∀x,(x,NameKind.free)∈scope.names->∃c,cl.lookup x=some c)(hN:X.N.Nodup){s4:e_}{H4:Hp}{mc:Str->Option b_}(hos:s4.os=s.os)(hb:LC s4.gens)(kp:∀b o,s.heap.get? b=some o->s4.heap.get? b=some o)(hns:s4.heap.Ns C mc)(hC:s.heap.objs.size<=C)(hHC:H4 C=none)(hH:∀b,H b=none->b<s.heap.objs.size->H4 b=none)(un:Un (bK X.stack) fp H H4 s.heap s4.heap)(hok:ce X.prog X.w H4 s4.heap):Inv (eJ X s H N' scope cl C fp) [] (dj nl cap σ) H4 s4:=by
 refine⟨ok,hos,hb,un,⟨mc,hns,fun i x v e1 e2 e3=>?_⟩,fun x c e=>?_,hHC,fun x c e=>?_,fun p hp=>absurd (show p∈([]:List (Addr×Obj))from hp) (by simp),hok,?_⟩
 .have hi:nl<=i:=by
   by_cases z:i<nl
   .unfold dj at e2;rw[JB (by simpa using z),J4]at e2;split at e2 <;> cases e2
   .omega
  unfold dj at e2;rw[mC hi]at e2;cases ej:cap[i-nl]? with
 |none=>rw[ej]at e2;cases e2
 |some j=>
   rw[ej]at e2;have hj:i-nl<cap.length:=(f_.mp ej).1;obtain⟨x',q1,q2,q3⟩:=sc.capN (i-nl) hj;have ed:cap.getD (i-nl) 0=j:=by rw[z_,ej];rfl
   rw[ed]at q2;have ei:nl+(i-nl)=i:=by omega
   rw[ei]at q1;have e1':N'[i]? = some x:=e1;rw[q1]at e1';have ex:x'=x:=B_ e1';subst ex;have hv:σ[j]? = some (some v):=by have z:σ.getD j none=some v:=B_ e2;rw[z_]at z;cases q:σ[j]? with
   |none=>rw[q]at z;cases z
   |some o=>rw[q]at z;rw[show o=some v from z]
   have hfree:=J_ q3;have kX:=sc.freeK _ hfree rfl;obtain⟨mx,hnx,hl⟩:=I.loc;obtain⟨u,ru,lk⟩:=hl j x' v q2 hv (.inr kX);refine⟨u,ru,.inr ?_⟩;obtain⟨c,ec⟩:=h2 x' hfree;have hkk:Env.kindOf (eJ X s H N' scope cl C fp).env x'=some .cell\/Env.kindOf (eJ X s H N' scope cl C fp).env x'=some .free:=by
    have z:(N9 scope X.env).names.lookup x'=some (dN X.env x' .free):=by rw[Ap,q3];rfl
    show(N9 scope X.env).names.lookup x'=_\/(N9 scope X.env).names.lookup x'=_;rw[z];unfold dN;split
    .exact .inl rfl
    .exact .inr rfl
   refine⟨hkk,c,ec,?_⟩;rcases lk with⟨k,_⟩|⟨_,c',ec',hcell⟩
   .rcases kX with z|z <;> rw[k]at z <;> cases z
   .rw[h1 x' c ec]at ec';cases ec';obtain⟨o,ho,hd⟩:=hcell;exact⟨o,kp c o ho,hd⟩
 .obtain⟨v,o,ho,hd⟩:=I.cell x c (h1 x c e);exact⟨v,o,kp c o ho,hd⟩
 .obtain⟨v,o,ho,hd⟩:=I.cell x c (h1 x c e);exact hH c (I.freeC x c (h1 x c e)) (r_ ho)
 .show(dj nl cap σ).length=N'.length;rw[sc.len];simp[dj]
end
section
variable{prog:u_}{w:H_}{A:Jr}{R:Pz->e_->Prop}{s:e_}
theorem Dm{elt target iter:Expr}{ifs:List Expr}{scope:KG}{pos:Pos}{it acc:b_}{env:Env}(I:Nat->e_->Prop)(turn:∀n s,I n s->p_ (y_ prog w) A (pyNext it) (fun r s1=>match r with
  |none=>R (.ok .next) s1
  |some v=>p_ (y_ prog w) A (L8 target it v) (fun _ s1'=>p_ (y_ prog w) A (Lg target env v) (fun _ s2=>
     p_ (y_ prog w) A (forIn ifs true fun c r=>if r=true then do let ok <-isTrue c env (eval c env);pure (ForInStep.yield ok)else pure (ForInStep.yield r)) (fun ok s3=>
      if ok=true then p_ (y_ prog w) A (eval elt env) (fun x s4=>p_ (y_ prog w) A (call (.builtin "list.append") [acc,x]) (fun _ s5=>∃m,m<n/\I m s5) (Mz (y_ prog w) A env fun e s'=>R (.error e) s') s4) (Mz (y_ prog w) A env fun e s'=>R (.error e) s') s3
      else ∃m,m<n/\I m s3) (Mz (y_ prog w) A env fun e s'=>R (.error e) s') s2) (Mz (y_ prog w) A env fun e s'=>R (.error e) s') s1')
     (Mz (y_ prog w) A env fun e s'=>R (.error e) s') s1) (Mz (y_ prog w) A env fun e s'=>R (.error e) s') s)(n:Nat)(h:I n s):MV (y_ prog w) A (.compLoop (.ListComp elt [⟨target,iter,ifs,0⟩] scope pos) 0 it acc env) R s:=by refine codeAny_loop rfl I (fun n s hI=>?_) n h;show p_ _ A ((compTurn (.ListComp elt [⟨target,iter,ifs,0⟩] scope pos) 0 it acc env).onRaise (fun x=>do LW x env;theTreesLotGoes x)) _ _ s;refine wpAny_noted ?_;rw[compTurn_list];refine c_ (Lj (c_ (JF (turn n s hI) (fun r s1 h1=>?_) fun _ _ h'=>h')));cases r with
|none=>exact i_ h1
|some v=>refine c_ (JF h1 (fun _ s1' h1'=>?_) fun _ _ h'=>h');refine c_ (JF h1' (fun _ s2 h2=>c_ (JF h2 (fun ok s3 h3=>?_) fun _ _ h'=>h')) fun _ _ h'=>h');cases ok with
 |false=>exact i_ ⟨rfl,h3⟩
 |true=>exact c_ (c_ (JF h3 (fun x s4 h4=>c_ (JF h4 (fun _ s5 h5=>i_ (i_ ⟨rfl,h5⟩)) fun _ _ h'=>h')) fun _ _ h'=>h'))
end
def lN(X:Cx)(g:GE)(m:List Md)(ifs:List Expr)(f:FQ):Prop:=∀(pz:List (Addr×Obj))(s:e_)(σ:L2.St)(H:Hp)(Q:Bool->Hp->Prop),Inv X pz σ H s->tQ X g m f σ H Q ->p_ (y_ X.prog X.w) X.A (forIn ifs true fun c r=>if r=true then do let ok <-isTrue c X.env (eval c X.env);pure (ForInStep.yield ok)else pure (ForInStep.yield r)) (TP X pz σ Q) X.xe s
section
variable{X:Cx}{g:GE}{m:List Md}{c:Expr}{p:FQ}
theorem g4:lN X g m [] fun _=>.ok true:=fun pz s σ H Q I ⟨r,G,si,q⟩=>wpAny_tests_nil ⟨H,I,q G H (Grow.refl si.gok)⟩
end
def gO(ft:FT)(nl:Nat):Prop:=∀d r r1,ft d r=some r1->r1.length=r.length/\∀i,nl<=i->r1[i]? = r[i]?
def nU(ft:iW)(nl:Nat):Prop:=∀d r r1,ft d r=some r1->r1.length=r.length/\∀i,nl<=i->r1[i]? = r[i]?
theorem gj{i nl:Nat}(h:i<nl):gO (ax i) nl:=fun d r r1 e=>by cases e;exact⟨by simp,fun j hj=>by rw[a_ (by omega)]⟩
theorem yT{nl:Nat}:nU cj nl:=fun ds r r1 e=>by cases ds with
|nil=>cases e;exact⟨rfl,fun _ _=>rfl⟩
|cons _ _=>cases e
theorem pe{ft:FT}{fts:iW}{nl:Nat}(h1:gO ft nl)(h2:nU fts nl):nU (aT ft fts) nl:=fun ds r r1 e=>by cases ds with
|nil=>cases e
|cons d ds=>have e':((ft d r).bind fun r'=>fts ds r')=some r1:=e;cases q:ft d r with
 |none=>rw[q]at e';cases e'
 |some r2=>rw[q]at e';obtain⟨a1,a2⟩:=h1 d r r2 q;obtain⟨b1,b2⟩:=h2 ds r2 r1 e';exact⟨b1.trans a1,fun i hi=>(b2 i hi).trans (a2 i hi)⟩
theorem xV{fts:iW}{nl:Nat}(h:nU fts nl):gO (ck fts) nl:=fun d r r1 e=>by cases d with
|tup ds=>exact h ds r r1 e
|lst ds=>exact h ds r r1 e
|_=>cases e
section
variable{X:Cx}{pz:List (Addr×Obj)}{σ:L2.St}{H2:Hp}{s2:e_}{scope:KG}{N':List Str}{nl:Nat}{cap:List Nat}{cl:List (Str×Addr)}{fp:List Addr}{g:GE}{G2:GH}{m:List Md}{r:ah}{elt tg iter:Expr}{ifs:List Expr}{pos:Pos}{J:It}{it:Addr}{tn:Nat->Heap->Prop}{ds vs:List D}{ft:FT}{q:FQ}{fe:FE}{E:b_->e_->Prop}
theorem Dk(i:Nat):(aP nl cap m)[i]?≠some Md.ow:=fun h=>by
 by_cases hi:i<nl
 .unfold aP at h;rw[JB (by simpa using hi),J4]at h;split at h <;> cases h
 .unfold aP at h;rw[mC (by omega)]at h;cases e:cap[i-nl]? with
 |none=>rw[e]at h;cases h
 |some j=>rw[e]at h;have h':(if m.getD j Md.sh=Md.sh then Md.sh else Md.bw)=Md.ow:=B_ h;split at h' <;> cases h'
theorem Gv{i:Nat}(hi:i<nl)(d:D):(bp nl cap r)[i]?≠some (some d):=fun h=>by unfold bp at h;rw[JB (by simpa using hi),J4]at h;split at h <;> cases h
def uF(El:W.Frag->GH->Hp->GH->Hp->V->D->Prop)(X:Cx)(g:GE)(m:List Md)(f:FE):TE:=fun σ H Q=>∃r G,SI X g m r G σ H/\fin (f r) (fun d=>∀v G' H',Grow X.K G H G' H'->El X.K G H G' H' v d->Q v H') (XW X σ G H)
theorem zH{El:W.Frag->GH->Hp->GH->Hp->V->D->Prop}{Rl:Addr->GH->Hp->List V->List D->Prop}(R0:∀p G H,Rl p G H [] [])(Rg:∀{p G H G' H' ws ds},Rl p G H ws ds->Grow X.K G H G' H'->Rl p G' H' ws ds)(Rn:∀{p G H ws ds},Rl p G H ws ds->ws.length=ds.length)(Ra:∀{p G H G' H' ws ds v d},Rl p G H ws ds->Grow X.K G H G' H'->Grow X.K G2 H2 G H->H p=some (.lst ws)->El X.K G H G' H' v d->Rl p G' (upd H' p (.lst (ws++[v]))) (ws++[v]) (ds++[d]))(hN:X.N.Nodup)(hcalm:X.calm=true)(sc:CompSc X scope N' nl cap)(h1:∀x c,cl.lookup x=some c->X.env.cells.lookup x=some c)(h2:∀x,(x,NameKind.free)∈scope.names->∃c,cl.lookup x=some c)(I2:Inv X pz σ H2 s2)(si:SI X g m r G2 σ H2)(T:Turn X.prog X.w X.K tg J fp it tn)(st:tn 0 s2.heap)(hf:∀b∈fp,dm X pz H2 b)(Y:YieldsC X.K J ds G2 H2)(hsz:ds.length<=sizeLine)(hg:∀C,SG (eJ X s2 H2 N' scope cl C fp) ⟨G2,H2,fun _=>none⟩ (aP nl cap m) tg ft (aP nl cap m))(hft:gO ft nl)(hq:∀C,lN (eJ X s2 H2 N' scope cl C fp) ⟨G2,H2,fun _=>none⟩ (aP nl cap m) ifs q)(he:∀C,PE (eJ X s2 H2 N' scope cl C fp) elt (uF El (eJ X s2 H2 N' scope cl C fp) ⟨G2,H2,fun _=>none⟩ (aP nl cap m) fe))(hres:fy ft q fe (bp nl cap r) ds=.ok vs){RR:b_->Addr->Pz->e_->Prop}(hRR:∀(p C:Addr)(s':e_)(H':Hp)(G':GH),Inv X pz σ H' s'->(∃mm,s'.heap.Ns C mm)->H' C=none->C≠X.env.locals->X.s₀.heap.objs.size<=C->(∀x c,X.env.cells.lookup x=some c->c≠C)->(∀z∈X.pn++pz,z.1≠C) ->Grow X.K G2 H2 G' H'->H2 p=none->(∃ws,H' p=some (.lst ws)/\G' p=none/\Rl p G' H' ws vs)->RR (.ref p) C (.ok .next) s'):p_ (y_ X.prog X.w) X.A (newList []) (fun acc s3=>p_ (y_ X.prog X.w) X.A (newFunctionEnv scope X.env.globals cl [] X.env.qual none .none (some X.env)) (fun cenv s4=>MV (y_ X.prog X.w) X.A (.compStart (.ListComp elt [⟨tg,iter,ifs,0⟩] scope pos) 0 (.ref it) acc { cenv with scope:=N9 scope X.env }) (RR acc cenv.locals) s4) E s3) E s2:=by
 refine J8 (wpAny_newFunctionEnv sc.nocell (by intro y hy;simp at hy) (fun h₁ hns₁ hsb₁=>?_) sc.kind)
 dsimp only at hns₁ hsb₁ ⊢
 generalize hH2:s2.heap.push { cls:=.type "list",dict:=none,data:=.seq ([]:List b_).toArray }=HH at hns₁ hsb₁ ⊢;have hC:HH.objs.size=s2.heap.objs.size+1:=by rw[<-hH2,LH]
 have hDC:s2.heap.objs.size≠HH.objs.size:=by rw[hC];exact Js (K9 _)
 have hCle:s2.heap.objs.size<=HH.objs.size:=by rw[hC];exact Ox _
 have below:∀b,b<s2.heap.objs.size->b≠HH.objs.size/\b≠s2.heap.objs.size:=fun b hb=>⟨by rw[hC];exact Js (Nat.lt_succ_of_lt hb),Js hb⟩
 have old:∀b o,s2.heap.get? b=some o->h₁.get? b=some o:=fun b o e=>hsb₁.extBut b o (below b (r_ e)).1 (j_ _ (hH2▸j_ _ e));have hacc:h₁.get? s2.heap.objs.size=some { cls:=.type "list",dict:=none,data:=.seq ([]:List b_).toArray }:=hsb₁.extBut _ _ hDC (j_ _ (hH2▸D_ _ rfl));have hp2:H2 s2.heap.objs.size=none:=I2.hok.fresh (w_ _);have hflt:∀b∈fp,dm X pz H2 b/\b<s2.heap.objs.size:=fun b hb=>⟨hf b hb,by obtain⟨o,e,_⟩:=T.obj 0 s2.heap st b hb;exact r_ e⟩
 have ok:=Bt (fp:=fp) I2 sc h1 h2 hflt hCle;generalize hXX:eJ X s2 H2 N' scope cl HH.objs.size fp=XX at ok;have hG2p:G2 s2.heap.objs.size=none:=si.gok.isN hp2;have w0:Grow X.K G2 H2 G2 (upd H2 s2.heap.objs.size (.lst [])):=Grow.new si.gok hp2 _;have hok4:ce X.prog X.w (upd H2 s2.heap.objs.size (.lst [])) h₁:=I2.hok.laid old (w_ _) ⟨JK _,[],0,.nil,hacc⟩;have IC:Inv XX [] (dj nl cap σ) (upd H2 s2.heap.objs.size (.lst [])) { s2 with heap:=h₁,toks:=s2.toks+([]:List (Str×b_)).length }:=by
  subst hXX;refine Bo I2 ok sc h1 h2 hN rfl I2.bare old hns₁ hCle ?_ (fun b hb hlt=>?_) (Un.laid old (w_ _) hp2) hok4
  .rw[aK (JX hDC)];exact I2.hok.fresh hCle
  .rw[aK (below b hlt).2];exact hb
 have SC:SI XX ⟨G2,H2,fun _=>none⟩ (aP nl cap m) (bp nl cap r) G2 (dj nl cap σ) (upd H2 s2.heap.objs.size (.lst [])):=by subst hXX;exact AK si w0
 have hst₁:tn 0 h₁:=T.keep _ _ _ st fun b _ o e=>old b o e;have hfX:∀(H':Hp),(∀b∈fp,H' b=none)->∀b∈fp,dm XX [] H' b:=fun H' hn b hb=>by
  clear IC SC;subst hXX;obtain⟨z0,z1,z2,z3,z4,z5⟩:=hf b hb;refine⟨hn b hb,?_,?_,?_,?_,?_⟩
  .exact(below b (hflt b hb).2).1
  .intro hfs;rcases C_.mp (I2.stkSub b hfs)with z|z
   .exact z1 z
   .exact z2 z
  .exact .inl hb
  .exact fun x c e=>z4 x c (h1 x c e)
  .intro p hp;exact absurd (show p∈([]:List (Addr×Obj))from hp) (by simp)
 have eA:XX.A=X.A:=Eq.rec (motive:=fun z _=>z.A=X.A) rfl hXX;have eP:XX.prog=X.prog:=Eq.rec (motive:=fun z _=>z.prog=X.prog) rfl hXX;have eW:XX.w=X.w:=Eq.rec (motive:=fun z _=>z.w=X.w) rfl hXX;have eK:XX.K=X.K:=Eq.rec (motive:=fun z _=>z.K=X.K) rfl hXX;have eX:XX.xe=fun _ _=>False:=Eq.rec (motive:=fun z _=>z.xe=fun _ _=>False) rfl hXX;have eE:XX.env=No scope cl HH.objs.size X.env:=Eq.rec (motive:=fun z _=>z.env=No scope cl HH.objs.size X.env) rfl hXX;have eC:XX.calm=true:=Eq.rec (motive:=fun z _=>z.calm=true) hcalm hXX;have eH:XX.H₀=H2:=Eq.rec (motive:=fun z _=>z.H₀=H2) rfl hXX;have hg':PG XX tg (tG XX ⟨G2,H2,fun _=>none⟩ (aP nl cap m) (aP nl cap m) ft):=Eq.rec (motive:=fun z _=>PG z tg (tG z ⟨G2,H2,fun _=>none⟩ (aP nl cap m) (aP nl cap m) ft)) (hg _).2 hXX;have hq':lN XX ⟨G2,H2,fun _=>none⟩ (aP nl cap m) ifs q:=Eq.rec (motive:=fun z _=>lN z ⟨G2,H2,fun _=>none⟩ (aP nl cap m) ifs q) (hq _) hXX;have he':PE XX elt (uF El XX ⟨G2,H2,fun _=>none⟩ (aP nl cap m) fe):=Eq.rec (motive:=fun z _=>PE z elt (uF El z ⟨G2,H2,fun _=>none⟩ (aP nl cap m) fe)) (he _) hXX;have fin':∀{H':Hp}{s':e_}{σ':L2.St}{G':GH}{ws:List V},Inv XX [] σ' H' s'->Grow X.K G2 H2 G' H'->H' s2.heap.objs.size=some (.lst ws)->G' s2.heap.objs.size=none->Rl s2.heap.objs.size G' H' ws vs->RR (.ref s2.heap.objs.size) HH.objs.size (.ok .next) s':=fun{H' s' σ' G' ws} J1 wg hpp hgp rs=>by
  clear IC SC hfX hg' hq' he' eA eP eW eK eX eE eC eH;subst hXX;have un:=J1.base;refine hRR _ _ s' H' G' ?_ (let⟨mm,hn,_⟩:=J1.loc;⟨mm,hn⟩) J1.free (LG (x_ I2.lt hCle)) (JE I2.sz hCle) (fun x c e z=>?_) (fun z hz e=>?_) wg hp2 ⟨_,hpp,hgp,rs⟩
  .refine I2.call' J1.os un J1.hok J1.bare fun b hb=>?_;obtain⟨z0,z1,z2,z3,z4,z5⟩:=hf b hb;exact⟨z3,z1,z4,z5⟩
  .obtain⟨v,o,ho,_⟩:=I2.cell x c e;exact absurd (x_ (r_ ho) hCle) (by rw[z];exact J5 _)
  .have:=(I2.pin z hz).1;exact absurd (x_ (r_ this) hCle) (by rw[e];exact J5 _)
 have loop:MV (y_ X.prog X.w) X.A (.compLoop (.ListComp elt [⟨tg,iter,ifs,0⟩] scope pos) 0 (.ref it) (.ref s2.heap.objs.size) (No scope cl HH.objs.size X.env)) (RR (.ref s2.heap.objs.size) HH.objs.size)
   { s2 with heap:=h₁,toks:=s2.toks+([]:List (Str×b_)).length }:=by
  refine Dm (fun n s'=>∃(i:Nat)(σ':L2.St)(H':Hp)(G':GH)(ws:List V)(done rest:List D),Inv XX [] σ' H' s'/\SI XX ⟨G2,H2,fun _=>none⟩ (aP nl cap m) (bp nl cap r) G' σ' H'/\tn i s'.heap/\(∀b∈fp,H' b=none)/\Grow X.K G2 H2 G' H' /\H' s2.heap.objs.size=some (.lst ws)/\G' s2.heap.objs.size=none/\Rl s2.heap.objs.size G' H' ws done/\fy ft q fe (bp nl cap r) (ds.drop i)=.ok rest/\vs=done++rest/\done.length<=i/\i<=ds.length/\n=ds.length-i) ?_ ds.length
   ⟨0,_,_,G2,[],[],vs,IC,SC,hst₁,fun b hb=>?_,w0,bJ,hG2p,R0 _ _ _,hres,rfl,w_ _,JK _,rfl⟩
  rotate_left
  .rw[aK (below b (hflt b hb).2).2];exact(hf b hb).1
  rintro n s3 ⟨i,σ3,H3,G3,ws,done,rest,I3,S3,st3,fr3,w3,hp3,hg3,rs3,hr3,hv3,hd3,hi3,rfl⟩
  have weaken:∀{α:Type}{t:Sem α}{Q:α->e_->Prop}{s':e_}{E':b_->e_->Prop},p_ (y_ XX.prog XX.w) XX.A t Q XX.xe s'->p_ (y_ X.prog X.w) X.A t Q E' s':=fun h=>by rw[eP,eW,eA,eX]at h;exact JF h (fun _ _ z=>z) fun _ _ z=>z.elim
  by_cases hlt:i<ds.length
  .have hd:ds.drop i=ds[i]::ds.drop (i+1):=Kb hlt;rw[hd]at hr3;unfold fy at hr3;have it3:=T.item XX eP eW eK eC i [] s3 σ3 H3 (Mz (y_ X.prog X.w) X.A (No scope cl HH.objs.size X.env) fun e s'=>RR (.ref s2.heap.objs.size) HH.objs.size (.error e) s') I3 (hfX H3 fr3) st3 (Y.go G3 H3 i w3 hlt);rw[eA]at it3;refine aO it3 fun rr s4 ⟨u,hr,h4⟩=>?_;subst hr;refine aO h4 fun _ s5 ⟨x,H5,I5,r5,y5,st5,fr5⟩=>?_;obtain⟨G5,w5,rv5⟩:=Y.yld G3 H3 i x H5 ds[i] w3 y5 (m_ hlt);have w25:=w3.trans w5;cases eft:ft ds[i] (bp nl cap r)with
  |none=>rw[eft]at hr3;cases hr3
  |some r1=>
    rw[eft]at hr3;simp only[opt_some,bind_ok]at hr3;have I5':=I5.pinned (hfX H5 fr5) (T.obj _ _ st5);have S5:SI XX ⟨G2,H2,fun _=>none⟩ (aP nl cap m) (bp nl cap r) G5 σ3 H5:=S3.grow (by rw[eK];exact w5);have rv5':RG XX.K G5 x ds[i]:=by rw[eK];exact rv5
    have as5:=hg' _ s5 σ3 H5 x u (fun σ6 H6=>H6=H5/\SI XX ⟨G2,H2,fun _=>none⟩ (aP nl cap m) r1 G5 σ6 H5) I5' r5 ⟨bp nl cap r,G5,ds[i],S5,rv5',r1,eft,fun σ6 si6=>⟨rfl,si6⟩⟩;rw[eE]at as5;refine aO (weaken as5) fun _ s6 ⟨σ6,H6,I6,e6,S6⟩=>?_;subst e6;obtain⟨fl1,fl2⟩:=hft _ _ _ eft;cases eq1:q r1 with
   |stuck=>rw[eq1]at hr3;cases hr3
   |exc xx=>rw[eq1]at hr3;cases hr3
   |ok b1=>
     rw[eq1]at hr3;simp only[bind_ok]at hr3;have te6:=hq' _ s6 σ6 H6 (fun b H7=>b=b1/\∃G7,Grow X.K G5 H6 G7 H7) I6 ⟨r1,G5,S6,by rw[eq1];exact fun G7 H7 w7=>⟨rfl,G7,by rw[eK]at w7;exact w7⟩⟩;rw[eE]at te6;refine aO (weaken te6) fun b s7 ⟨H7,I7,eb,G7,w7⟩=>?_;subst eb;have S7:SI XX ⟨G2,H2,fun _=>none⟩ (aP nl cap m) r1 G7 σ6 H7:=S6.grow (by rw[eK];exact w7);have w27:=w25.trans w7;have hp7:H7 s2.heap.objs.size=some (.lst ws):=w7.he _ _ (w5.he _ _ hp3);have hg7:G7 s2.heap.objs.size=none:=by rw[w7.gf _ (by rw[w5.he _ _ hp3];simp),w5.gf _ (by rw[hp3];simp)];exact hg3
     have back:∀{σ8:L2.St}{H8:Hp}{G8:GH}{s8:e_},Inv XX ([]++me fp s5.heap) σ8 H8 s8->Inv XX [] σ8 H8 s8/\tn (i+1) s8.heap/\∀b∈fp,H8 b=none:=fun{σ8 H8 G8 s8} I8=>by refine⟨I8.unpinned,T.keep _ _ _ st5 fun b hb o e=>(I8.pin (b,o) (Ju _ (Ju _ (pB hb e)))).1,fun b hb=>?_⟩;obtain⟨o,e,_⟩:=T.obj _ _ st5 b hb;exact(I8.pin (b,o) (Ju _ (Ju _ (pB hb e)))).2.1
     have less:∀{σ8:L2.St}{H8:Hp}{G8:GH},SI XX ⟨G2,H2,fun _=>none⟩ (aP nl cap m) r1 G8 σ8 H8->SI XX ⟨G2,H2,fun _=>none⟩ (aP nl cap m) (bp nl cap r) G8 σ8 H8:=fun h=>h.less fl1.symm fun j d hj=>by
      by_cases hjn:j<nl
      .exact absurd hj (Gv hjn d)
      .rw[fl2 j (by omega)];exact hj
     cases b with
    |false=>rw[if_neg l_]at hr3 ⊢;obtain⟨I7',t7,f7⟩:=back (G8:=G7) I7;exact⟨ds.length-(i+1),by omega,i+1,σ6,H7,G7,ws,done,rest,I7',less S7,t7,f7,w27,hp7,hg7,Rg rs3 (w5.trans w7),hr3,hv3,by omega,hlt,rfl⟩
    |true=>rw[if_pos rfl]at hr3 ⊢;cases ee1:fe r1 with
     |stuck=>rw[ee1]at hr3;cases hr3
     |exc xx=>rw[ee1]at hr3;cases hr3
     |ok d1=>rw[ee1]at hr3;simp only[bind_ok]at hr3;cases er:fy ft q fe (bp nl cap r) (ds.drop (i+1))with
      |stuck=>rw[er]at hr3;cases hr3
      |exc xx=>rw[er]at hr3;cases hr3
      |ok rest'=>
        rw[er]at hr3;simp only[bind_ok]at hr3;cases hr3;have el7:=he' _ s7 σ6 H7 (fun v H8=>∃G8,Grow X.K G7 H7 G8 H8/\El X.K G7 H7 G8 H8 v d1) I7 ⟨r1,G7,S7,by rw[ee1];exact fun v G8 H8 w8 rv=>⟨G8,by rw[eK]at w8;exact w8,by rw[eK]at rv;exact rv⟩⟩;rw[eE]at el7;refine aO (weaken el7) fun u8 s8 ⟨v8,H8,I8,r8,G8,w8,rv8⟩=>?_;have hp8:H8 s2.heap.objs.size=some (.lst ws):=w8.he _ _ hp7;have hg8:G8 s2.heap.objs.size=none:=by rw[w8.gf _ (by rw[hp7];simp)];exact hg7
        have S8:SI XX ⟨G2,H2,fun _=>none⟩ (aP nl cap m) r1 G8 σ6 H8:=S7.grow (by rw[eK];exact w8);have hlen:=Rn rs3;have ap8:=mR (X:=XX) _ s8 σ6 H8 (.ref s2.heap.objs.size) [v8] (.ref s2.heap.objs.size) [u8] (fun v H9=>H9=upd H8 s2.heap.objs.size (.lst (ws++[v8]))) I8 rfl (.cons r8 .nil) ⟨_,ws,v8,rfl,rfl,hp8,by omega,rfl⟩;refine aO (weaken ap8) fun u9 s9 ⟨v9,H9,I9,r9,e9⟩=>?_;subst e9;obtain⟨I9',t9,f9⟩:=back (G8:=G8) I9;have rsn:=Ra (Rg rs3 (w5.trans w7)) w8 w27 hp7 rv8;have w28:=w27.trans w8;refine⟨ds.length-(i+1),by omega,i+1,σ6,_,G8,ws++[v8],done++[d1],rest',I9',less (S8.other hg8 hp2 Dk _),t9,f9,?_,bJ,hg8,rsn,er,by rw[hv3,N6];rfl,by rw[JH,Ni];omega,hlt,rfl⟩;refine⟨fun b e hb=>(w28.ok b e hb).mono (fun _ _ z=>z) fun o z=>?_,fun b o hb=>?_,w28.ge,w28.gf⟩
        .rw[aK (by rintro rfl;rw[hg8]at hb;cases hb)];exact z
        .rw[aK (by rintro rfl;rw[hp2]at hb;cases hb)];exact w28.he b o hb
  .have e:i=ds.length:=by omega
   subst e;rw[La]at hr3;cases hr3;rw[JZ]at hv3;subst hv3;have dn:=T.done XX eP eW eK eC ds.length [] s3 σ3 H3 (Mz (y_ X.prog X.w) X.A (No scope cl HH.objs.size X.env) fun e s'=>RR (.ref s2.heap.objs.size) HH.objs.size (.error e) s') I3 (hfX H3 fr3) st3 (Y.stop G3 H3 w3);rw[eA]at dn;refine aO dn fun rr s4 ⟨hr,I4⟩=>?_;subst hr;exact fin' I4 w3 hp3 hg3 rs3
 exact codeAny_compStart_list loop (T.self X.A 0 _ _ _ hst₁ loop)
end
def nL:Res (List D)->Res (List D)
|.ok d=>.ok d
|_=>.stuck
@[simp] theorem noXL_ok(d:List D):nL (.ok d)=.ok d:=rfl
def dC(nl:Nat)(cap:List Nat)(fi:FI)(ft:FT)(q:FQ)(fe:FE):FE:=fun r=>(fi r).bind fun ds=>(cn (sz ds)).bind fun ds=>(nL (fy ft q fe (bp nl cap r) ds)).bind fun vs=>.ok (.lst vs)
section
variable{X:Cx}{g:GE}{m mb:List Md}{scope:KG}{N':List Str}{nl:Nat}{cap:List Nat}{elt tg iter:Expr}{ifs:List Expr}{pos pos' spos:Pos}{fi:FI}{ft:FT}{q:FQ}{fe:FE}{ro:Bool}
theorem zu{r:ah}{P:D->Prop}{x:D->Prop}(h:fin (dC nl cap fi ft q fe r) P x):fin (fi r) (fun ds=>∃vs,ds.length<=sizeLine/\fy ft q fe (bp nl cap r) ds=.ok vs/\P (.lst vs)) x:=by unfold dC at h;refine bh (bu h) fun ds h1=>?_;obtain⟨ds',e2,h2⟩:=dc (bu h1);obtain⟨rfl,hl⟩:=qF e2;cases e3:fy ft q fe (bp nl cap r) ds' with
|ok vs=>rw[e3]at h2;exact⟨vs,hl,rfl,h2⟩
|exc x=>rw[e3]at h2;exact h2.elim
|stuck=>rw[e3]at h2;exact h2.elim
theorem CompSc.clo{pz:List (Addr×Obj)}{σ:L2.St}{H:Hp}{s:e_}(sc:CompSc X scope N' nl cap)(ok:X.Ok):∃cl,OT scope X.env=pure cl/\(∀x c,cl.lookup x=some c->X.env.cells.lookup x=some c)/\(∀x,(x,NameKind.free)∈scope.names->∃c,cl.lookup x=some c):=Ib fun y hy hf=>ok.has y.1 (sc.freeK y hy hf)
theorem i8(hN:X.N.Nodup)(hcalm:X.calm=true)(sc:CompSc X scope N' nl cap)(hi:iw X g m tg iter fi)(hg:∀s0 H0 cl C fp g',SG (eJ X s0 H0 N' scope cl C fp) g' (aP nl cap m) tg ft (aP nl cap m))(hft:gO ft nl)(hq:∀s0 H0 cl C fp g',lN (eJ X s0 H0 N' scope cl C fp) g' (aP nl cap m) ifs q)(he:∀s0 H0 cl C fp g',SE (eJ X s0 H0 N' scope cl C fp) g' (aP nl cap m) elt fe)(hs:∀x,Ke iter X.env x=pure x:=by intro _;rfl):SO X g m (.ListComp elt [⟨tg,iter,ifs,0⟩] scope pos) (dC nl cap fi ft q fe):=by
 intro pz s σ H Q I h;obtain⟨r,G,si,k⟩:=h;obtain⟨cl,hcl,h1,h2⟩:=sc.clo (pz:=pz) (σ:=σ) (H:=H) (s:=s) I.ok;have k1:=zu k;rw[eval_ListComp];refine ME (use:=none) rfl hs hcl sc.kind sc.names (aO (hi pz s σ H (fun J H'=>∃G' ds vs,Grow X.K G H G' H'/\YieldsC X.K J ds G' H'/\ds.length<=sizeLine/\fy ft q fe (bp nl cap r) ds=.ok vs /\(∀a G' H',Grow X.K G H G' H'->H a=none->Own X.K G' H' a (.lst vs)->Q (.ref a) H')) I ⟨r,G,si,bh k1 fun ds ⟨vs,z1,z2,z3⟩ J G' H' w y=>⟨G',ds,vs,w,y,z1,z2,z3⟩⟩) fun v s1 hv=>aO hv fun itv s2 hv2=>?_);obtain⟨it,fp,tn,J,H2,rfl,I2,T,st,hf,G2,ds,vs,w2,Y,hsz,hres,hQ⟩:=hv2;refine zH (El:=fun K _ _ G' _ v d=>RG K G' v d) (Rl:=fun _ G _ ws ds=>b7 X.K G ws ds) (fun _ _ _=>.nil) (fun h w=>h.mono w.ge) Paired.length (fun h w _ _ e=>Paired.snoc (h.mono w.ge) e) (RR:=fun acc C=>compPost (y_ X.prog X.w) X.A X.xe none (EP X pz σ Q) acc C) hN hcalm sc h1 h2 I2 (si.grow w2) T st hf Y hsz (fun C=>hg _ _ _ _ _ _) hft (fun C=>hq _ _ _ _ _ _) (fun C=>he _ _ _ _ _ _) hres ?_;intro p C s' H' G' I' hns hC1 hC2 hC3 hC4 hC5 w' hp ⟨ws,o1,o2,o3⟩;have ho:Own X.K G' H' p (.lst vs):=⟨o2,.lst o1 o3⟩
 obtain⟨mm,hn⟩:=hns;refine⟨mm,hn,fun h' hsb=>⟨.ref p,H',?_,rfl,hQ p G' H' (w2.trans w') (w2.back hp) ho⟩⟩;exact I'.turned (it:=C) (t':=s'.toks) (fun b o hb e=>hsb.extBut b o hb e) hC1 hC2.symm.symm (.inr hC3) hC4 hC5
theorem rY(i:Nat){y:Str}(hN:X.N.Nodup)(hcalm:X.calm=true)(hy:X.N[i]? = some y)(hyl:X.env.scope.names.lookup y=some .local)(sc:CompSc X scope N' nl cap)(hi:iw X g m tg iter fi)(hg:∀s0 H0 cl C fp g',SG (eJ X s0 H0 N' scope cl C fp) g' (aP nl cap m) tg ft (aP nl cap m))(hft:gO ft nl)(hq:∀s0 H0 cl C fp g',lN (eJ X s0 H0 N' scope cl C fp) g' (aP nl cap m) ifs q)(he:∀s0 H0 cl C fp g',SE (eJ X s0 H0 N' scope cl C fp) g' (aP nl cap m) elt fe)(hsw:Kp (.ListComp elt [⟨tg,iter,ifs,0⟩] scope pos) (some (.Name y pos')) spos.line X.env=pure true:=by rfl)(hs:∀x,Ke iter X.env x=pure x:=by intro _;rfl):SS X g ro mb m (.Assign [.Name y pos'] (.ListComp elt [⟨tg,iter,ifs,0⟩] scope pos) spos) (av m i (dC nl cap fi ft q fe)) (m.set i .ow):=by
 refine⟨by simp,?_⟩;intro pz s σ H D0 I h;obtain⟨r,G,si,k⟩:=h;obtain⟨cl,hcl,h1,h2⟩:=sc.clo (pz:=pz) (σ:=σ) (H:=H) (s:=s) I.ok;have k1:=zu (eO si (m':=m.set i .ow) (by simp) k);rw[exec_Assign_Name_used _ _ _ _ hsw];refine c_ (Lj (c_ ?_));show p_ _ X.A (do let _ <-comprehension (.ListComp elt [⟨tg,iter,ifs,0⟩] scope pos) scope X.env _ (newList []) false (eval iter X.env) (some (Lg (.Name y pos') X.env))) _ _ s;refine c_ (JF (ME (use:=some (Lg (.Name y pos') X.env)) (Q:=fun _ s'=>SP X pz D0 .next s') rfl hs hcl sc.kind sc.names (aO (hi pz s σ H (fun J H'=>∃G' ds vs,Grow X.K G H G' H'/\YieldsC X.K J ds G' H'/\ds.length<=sizeLine/\fy ft q fe (bp nl cap r) ds=.ok vs /\(∀σ' G' H',aG G G'->SI X g (m.set i .ow) (r.set i (some (.lst vs))) G' σ' H'->D0.nx σ' H')) I ⟨r,G,si,bh k1 fun ds ⟨vs,z1,z2,z3⟩ J G' H' w y=>⟨G',ds,vs,w,y,z1,z2,z3⟩⟩) fun v s1 hv=>aO hv fun itv s2 hv2=>?_)) (fun _ s' hq=>i_ (i_ hq)) fun _ _ e=>e);obtain⟨it,fp,tn,J,H2,rfl,I2,T,st,hf,G2,ds,vs,w2,Y,hsz,hres,hQ⟩:=hv2;refine zH (El:=fun K _ _ G' _ v d=>RG K G' v d) (Rl:=fun _ G _ ws ds=>b7 X.K G ws ds) (fun _ _ _=>.nil) (fun h w=>h.mono w.ge) Paired.length (fun h w _ _ e=>Paired.snoc (h.mono w.ge) e) (RR:=fun acc C=>compPost (y_ X.prog X.w) X.A X.xe (some (Lg (.Name y pos') X.env)) (fun _ s'=>SP X pz D0 .next s') acc C) hN hcalm sc h1 h2 I2 (si.grow w2) T st hf Y hsz (fun C=>hg _ _ _ _ _ _) hft (fun C=>hq _ _ _ _ _ _) (fun C=>he _ _ _ _ _ _) hres ?_;intro p C s' H' G' I' hns hC1 hC2 hC3 hC4 hC5 w' hp ⟨ws,o1,o2,o3⟩;have ho:Own X.K G' H' p (.lst vs):=⟨o2,.lst o1 o3⟩
 obtain⟨mm,hn⟩:=hns;show p_ _ X.A (Lg (.Name y pos') X.env (.ref p)) _ _ s';refine NW (zN I' hN hy (.inl hyl) (v:=.ref p) rfl (fun s'' I'' ⟨a,hsb,ha⟩=>?_) (.inr hyl));have hCa:C≠a:=by
  rcases ha with z|z
  .rw[z];exact hC2
  .exact(hC4 y a z).symm
 refine⟨mm,hn.sameBut hsb hCa,fun h' hsb'=>?_⟩;refine⟨_,H',I''.turned (it:=C) (t':=s''.toks) (fun b o hb e=>hsb'.extBut b o hb e) hC1 hC2 (.inr hC3) hC4 hC5,?_⟩;exact hQ _ G' H' (w2.trans w').ge (si.setN (w2.trans w') i (w2.back hp) ho)
end
def ju(K:W.Frag)(r:V->List V->Hp->VK->Prop)(mk:D->List D->Option D):Prop:=∀(G:GH)(H:Hp)(a:Addr)(d:D)(vs:List V)(ds:List D)(d':D)(Q:VK),aN K G H->Own K G H a d->b7 K G vs ds->mk d ds=some d' ->(∀o',OwnO K G (upd H a o') a d'->Q .non (upd H a o'))->r (.ref a) vs H Q
def pV(T:String):D->Bool
|.lst _=>T == "list"
|.dic _=>T == "dict"
|_=>false
def d8(T:String)(m:List Md)(i:Nat)(fl:ah->Res (List D))(mk:D->List D->Option D):FS:=fun r=>match r[i]? with
|some (some d)=>if pV T d=true then eY m r (fl r) fun ds=>(match mk d ds with
 |some d'=>.nx (r.set i (some d'))
 |none=>.stuck)else .stuck
|_=>.stuck
theorem DN{K:W.Frag}{G:GH}{H:Hp}{a:Addr}{d:D}{T:String}(o:Own K G H a d)(t:pV T d=true):pU K T (.ref a) H:=by cases o.ob with
|lst r s=>exact .inl ⟨Ly t,_,bb.of r⟩
|dic r s=>exact .inr (.inr (.inl ⟨Ly t,.inl ⟨_,.inl r⟩⟩))
section
variable{X:Cx}{g:GE}{m mb:List Md}{e a b o:Expr}{es:List Expr}{f fa fb:FE}{fl:ah->Res (List D)}{pos pos' apos cpos:Pos}{ro:Bool}{x name:Str}{T id:String}{R:V->List V->Hp->VK->Prop}{mk:D->List D->Option D}
theorem Fk(i:Nat)(hm:m[i]? = some .ow)(hk:ju X.K R mk){D0:Ends}{σ:L2.St}{H:Hp}(h:tS X g ro m m mb (d8 T m i fl mk) D0 σ H):∃v,σ[i]? = some (some v)/\pU X.K T v H/\tL X g m fl σ H fun xs H2=>R v xs H2 fun _ H1=>D0.nx σ H1:=by obtain⟨r,G,si,k⟩:=h;unfold d8 at k;cases er:r[i]? with
|none=>simp only[er]at k;exact(show False from k).elim
|some oo=>cases oo with
 |none=>simp only[er]at k;exact(show False from k).elim
 |some d=>
   simp only[er]at k;by_cases ht:pV T d=true
   .rw[if_pos ht]at k;obtain⟨a,h1,h2,h3⟩:=si.mut hm er;refine⟨_,h1,DN h2 ht,r,G,si,bh (eO si rfl k) fun ds k2 vs G' H' w rs=>?_⟩;cases em:mk d ds with
   |none=>simp only[em]at k2;exact(show False from k2).elim
   |some d'=>simp only[em]at k2;obtain⟨a',h1',h2',h3'⟩:=(si.grow w).mut hm er;rw[h1]at h1';cases h1';exact hk G' H' a d vs ds d' _ w.ok h2' rs em fun o' ob=>k2 σ G' _ w.ge (h3' o' d' ob)
   .rw[if_neg ht]at k;exact(show False from k).elim
theorem oi(i:Nat)(hm:m[i]? = some .ow)(pa:PlainAttrs T)(slot:Slot T name id)(hty:PB (.builtin id)=pure (.type "method_descriptor"))(hmt:kH X id R)(hk:ju X.K R mk)(hN:X.N[i]? = some x)(hv:dk X.env.scope x)(ha:SA X g m (e::es) fl)(hd:(x==("__debug__" : Str))=false:=by decide)(hcd:(x==("__classdict__" : Str))=false:=by decide)(hbase:Kn (.Name x pos') name X.env (eval (.Name x pos') X.env)=eval (.Name x pos') X.env:=by rfl)(hfew:((backTo cpos (g_ (e::es) X.env)).all (fun x=>! x.1)&&(MJ cpos (LA [] X.env)).all (fun x=>x.1.isSome)&&decide ((e::es).length+([]:List Lr).length+(if ([]:List Lr).isEmpty then 0 else 1)<30))=true:=by rfl)(hline:(apos.endLine==cpos.line)=true:=by rfl)(hst:g_ (e::es) X.env=(false,eval e X.env)::g_ es X.env:=by rfl)(hplain:(backTo cpos (g_ es X.env)).any (·.1)=false:=by rfl):SS X g ro mb m (.Expr (.Call (.Attribute (.Name x pos') name apos) (e::es) [] cpos) pos) (d8 T m i fl mk) m:=⟨rfl,PS.imp (oN (wA pa slot hty hmt (dJ hN hv hd hcd) ha hbase hfew hline hst hplain)) fun D0 σ H h=>Fk i hm hk h⟩
def appD:D->List D->Option D
|.lst ds,[d]=>if ds.length<sizeLine then some (.lst (ds++[d]))else none
|_,_=>none
theorem qQ{K:W.Frag}:ju K yM appD:=by
 intro G H a d vs ds d' Q gk ow rs e q;unfold appD at e;split at e
 .split at e
  .rename_i hl;cases e;cases ow.ob with
  |lst r s=>cases rs with
   |cons r1 t=>cases t;have:=Paired.length s;exact⟨a,_,_,rfl,rfl,r,by omega,q _ (.lst bJ (Paired.snoc s r1))⟩
  .cases e
 .cases e
theorem Paired.rev{α β:Type}{F:α->β->Prop}:∀{l:List α}{r:List β},Paired F l r->Paired F l.reverse r.reverse
|_,_,.nil=>.nil
|_,_,.cons h t=>by rw[LJ,LJ];exact Paired.snoc (Paired.rev t) h
def qy(x:Int)(n:Nat):Nat:=if x<0 then(x+(n:Int)).toNat else min x.toNat n
def b9{α:Type}(xs:List α)(x:Int)(y:α):List α:=xs.take (qy x xs.length)++y::xs.drop (qy x xs.length)
def yN:V->List V->Hp->VK->Prop:=fun x vs H Q=>∃l xs i y,x=.ref l/\vs=[.int i,y]/\H l=some (.lst xs)/\-(2^63)<=i/\i<2^63/\xs.length<sizeLine/\Q .non (upd H l (.lst (b9 xs i y)))
theorem Hl:kH X "list.insert" yN:=by
 intro pz s σ H x vs v us Q I rx rv h;obtain⟨l,xs,i,y,rfl,rfl,hH,h1,h2,hz,q⟩:=h;cases rx;obtain⟨u,w',rfl,⟨t,rfl⟩,ry⟩:=kS rv;obtain⟨z,its,n,r,hl,e⟩:=I.lstM hH;have hfit:¬(! Mp i)=true:=by rw[fitsIndex_both h1 h2];exact l_
 refine NI MF ⟨_,e,rfl⟩ PySem.F.entry_list_insert (PySem.F.args_list_insert_3 _ _ _) (AutoListH.list_insert_list_int_val_1 l its.toArray n i t w' hfit (by rw[o_];omega)) ⟨e,?_⟩;refine⟨.non,_,I.lset (its':=b9 its i w') hH e ?_ ?_ ?_,rfl,q⟩
 .show((its.toArray.extract 0 (if i<0 then(i+((its.toArray.size:Nat):Int)).toNat else min i.toNat its.toArray.size)).push w'++its.toArray.extract (if i<0 then(i+((its.toArray.size:Nat):Int)).toNat else min i.toNat its.toArray.size))=(b9 its i w').toArray;rw[o_];unfold b9 qy;generalize(if i<0 then(i+((its.length:Nat):Int)).toNat else min i.toNat its.length)=k;apply Array.ext';simp;exact M_ (by rw[K_];exact w_ _)
 .unfold b9;rw[hl];exact al.append (r.take _) (.cons ry (r.drop _))
 .unfold b9;rw[JH,G_,JM,K_];omega
def insD:D->List D->Option D
|.lst ds,[.int i,d]=>if ds.length<sizeLine/\-(2^63)<=i/\i<2^63 then some (.lst (b9 ds i d))else none
|_,_=>none
theorem CZ{α β:Type}{F:α->β->Prop}{l:List α}{r:List β}{x:α}{y:β}(h:Paired F l r)(i:Int)(hxy:F x y):Paired F (b9 l i x) (b9 r i y):=by unfold b9;rw[Paired.length h];exact Paired.app (Paired.tk _ h) (.cons hxy (Paired.dr _ h))
theorem C1{K:W.Frag}:ju K yN insD:=by
 intro G H a d vs ds d' Q gk ow rs e q;unfold insD at e;split at e
 .split at e
  .rename_i hl;cases e;cases ow.ob with
  |lst r s=>cases rs with
   |cons r1 t=>cases t with
    |cons r2 t=>cases t;have:=Paired.length s;exact⟨a,_,_,_,rfl,by rw[r1.int gk],r,hl.2.1,hl.2.2,by omega,q _ (.lst bJ (CZ s _ r2))⟩
  .cases e
 .cases e
end
def i6:D->Bool
|.non=>true
|.bl _=>true
|.int _=>true
|.str _=>true
|_=>false
def iQ:D->V
|.non=>.non
|.bl b=>.bl b
|.int i=>.int i
|.str x=>.str x
|_=>.non
def iu(a b:D):Bool:=AG (iQ a) (iQ b)
@[simp] theorem eqs_int(a b:Int):iu (.int a) (.int b)=(a==b):=rfl
@[simp] theorem eqs_str(a b:Str):iu (.str a) (.str b)=(a==b):=rfl
@[simp] theorem eqs_non_int(b:Int):iu .non (.int b)=false:=rfl
@[simp] theorem eqs_int_non(b:Int):iu (.int b) .non=false:=rfl
section
variable{K:W.Frag}{G:GH}{H:Hp}{v:V}{d:D}
theorem RB.flat(h:RB K G H v d)(gk:aN K G H)(hf:i6 d=true):v=iQ d/\AS v=true:=by cases d with
|non=>rw[h.non gk];exact⟨rfl,rfl⟩
|bl b=>rw[h.bl gk];exact⟨rfl,rfl⟩
|int i=>rw[h.int gk];exact⟨rfl,rfl⟩
|str x=>rw[h.str gk];exact⟨rfl,rfl⟩
|_=>cases hf
end
def eZ:D->Option aH
|.int i=>some (.inl i)
|.str x=>some (.inr x)
|_=>none
def uV(kvs:List (aH×D))(k:aH):Bool:=kvs.any fun kv=>decide (kv.1=k)
def gJ(kvs:List (aH×D))(k:aH):Option D:=(kvs.find? fun kv=>decide (kv.1=k)).map (·.2)
def inB(x c:D):Option Bool:=match c with
|.lst ds=>if i6 x=true/\ds.all i6=true then some (ds.any fun y=>iu y x)else none
|.tup ds=>if i6 x=true/\ds.all i6=true then some (ds.any fun y=>iu y x)else none
|.dic kvs=>(eZ x).map (uV kvs)
|.str y=>match x with
 |.str z=>some (!(Builtin.Str.occurrences y z 0 y.length 1).isEmpty)
 |_=>none
|_=>none
theorem Bx{K:W.Frag}{G:GH}{k:aH}{ps:List (aH×V)}{kvs:List (aH×D)}(h:gN K G ps kvs)(d:D)(e:gJ kvs k=some d):∃v,cU ps k=some v/\RG K G v d:=by induction h with
|nil=>cases e
|@cons p q ps kvs r t ih=>
  obtain⟨k1,v1⟩:=p;obtain⟨k2,d2⟩:=q;obtain⟨e1,r1⟩:=r;have e1':k1=k2:=e1;subst e1';by_cases hk:k1=k
  .subst hk;have:d2=d:=by simpa[gJ,Kj]using e
   subst this;exact⟨v1,pd rfl,r1⟩
  .have e':gJ kvs k=some d:=by simpa[gJ,Kj,hk]using e
   obtain⟨v,h1,h2⟩:=ih e';exact⟨v,by rw[pc hk];exact h1,h2⟩
theorem xY{K:W.Frag}{G:GH}{H:Hp}{v:V}{d:D}{k:aH}(gk:aN K G H)(h:RB K G H v d)(e:eZ d=some k):v=kV k:=by cases d with
|int i=>cases e;exact h.int gk
|str x=>cases e;exact h.str gk
|_=>cases e
section
variable{X:Cx}{g:GE}{m mb:List Md}{e a b o c:Expr}{f fa fb fc:FE}{pos pos':Pos}
def AE:D->D->Option D
|.non,.non=>some (.bl true)
|_,.non=>some (.bl false)
|_,_=>none
def gI:D->D->Option D
|.non,.non=>some (.bl false)
|_,.non=>some (.bl true)
|_,_=>none
theorem RB.isnon{K:W.Frag}{G:GH}{H:Hp}{v:V}{d:D}(gk:aN K G H)(h:RB K G H v d):(v=.non↔d=.non):=by
 constructor
 .intro e;subst e;rcases h with h|⟨a,e,_⟩
  .cases h with
  |scl s=>cases s;rfl
  .cases e
 .intro e;subst e;exact h.non gk
theorem C2{K:W.Frag}:fx K (fun x y H Q=>y=.non/\Q (.bl (! decide (x=.non))) H) gI:=by intro G H v1 v2 d1 d2 d Q gk r1 r2 e q;have hn:=r1.isnon gk;cases d2 with
|non=>refine⟨r2.non gk,q _ G H (Grow.refl gk) ?_⟩;cases d1 with
 |non=>cases e;rw[decide_eq_true (hn.mpr rfl)];exact .scl (.bl _)
 |_=>cases e;rw[decide_eq_false (fun z=>by have:=hn.mp z;cases this)];exact .scl (.bl _)
|_=>cases d1 <;> cases e
theorem Cb(ha:SB X g m a fa)(hb:SB X g m b fb):SQ X g m (.Compare a [.IsNot] [b] pos) (aS (f2 fa fb gI)):=lX EB C2 ha hb (jE _)
end
end DL
section
namespace DL
open PySem PySem.Spec PyProof.Rows L2
section
variable{X:Cx}{g:GE}{m mb:List Md}{e a b o c:Expr}{f fa fb fc:FE}{pos pos' p1 p2:Pos}{ro:Bool}{x:Str}
def nF:R2:=fun x y H Q=>∃a v,x=.ref a/\fX H a y (some v)/\Q v H
theorem CB(hu:X.A.units+1<Mm):iz X nF:=by intro value slice pz s σ H x y v u Q I rx ry h hs;obtain⟨a,w,rfl,hg,q⟩:=h;cases rx;exact tail_any (Il I hg) PySem.F.slot_dict_getitem.lookup (Gy hu I hg ry fun w' s' I' rw'=>⟨w,H,I',rw',q⟩) hs
def az:D->D->Option D
|.dic kvs,k=>(eZ k).bind (gJ kvs)
|c,k=>ixD c k
theorem C9{K:W.Frag}:fx K (fun x y H Q=>nF x y H Q\/uN K x y H Q) az:=by intro G H v1 v2 d1 d2 d Q gk r1 r2 e q;cases d1 with
|dic kvs=>obtain⟨a,ps,rfl,hs,rs⟩:=r1.dic gk;have e':(eZ d2).bind (gJ kvs)=some d:=e;cases ek:eZ d2 with
 |none=>rw[ek]at e';cases e'
 |some k=>rw[ek]at e';obtain⟨v,h1,h2⟩:=Bx rs d e';refine .inl ⟨a,v,rfl,?_,q v G H (Grow.refl gk) h2⟩;rw[xY gk r2 ek,<-h1];exact .inl ⟨ps,k,hs,rfl,rfl⟩
|lst ds=>exact .inr (qz G H v1 v2 _ d2 d Q gk r1 r2 e q)
|tup ds=>exact .inr (qz G H v1 v2 _ d2 d Q gk r1 r2 e q)
|str ds=>exact .inr (qz G H v1 v2 _ d2 d Q gk r1 r2 e q)
|_=>cases e
theorem gW(hu:X.A.units+1<Mm)(ha:SB X g m a fa)(hb:SB X g m b fb)(hs:mz b:=by intro _ _;rfl):SE X g m (.Subscript a b pos) (f2 fa fb az):=qr C9 (qv (iz.or (CB hu) CC) ha hb hs)
def iq(kvs:List (aH×D))(k:aH)(d:D):List (aH×D):=if (kvs.any fun kv=>decide (kv.1=k))=true then kvs.map fun kv=>if kv.1=k then(kv.1,d)else kv else kvs++[(k,d)]
theorem Gg{K:W.Frag}{G:GH}{k:aH}{ps:List (aH×V)}{kvs:List (aH×D)}(h:gN K G ps kvs):(ps.any fun kv=>decide (kv.1=k))=kvs.any fun kv=>decide (kv.1=k):=by induction h with
|nil=>rfl
|cons r t ih=>rw[L4,L4,ih,r.1]
theorem B9{K:W.Frag}{G:GH}{ps:List (aH×V)}{kvs:List (aH×D)}{k:aH}{v:V}{d:D}(r:gN K G ps kvs)(h:RG K G v d):gN K G (cN ps k v) (iq kvs k d):=by
 unfold cN iq;rw[Gg r];by_cases hc:(kvs.any fun kv=>decide (kv.1=k))=true
 .rw[if_pos hc,if_pos hc];clear hc
  induction r with
 |nil=>exact .nil
 |@cons p q ps kvs r t ih=>
   refine .cons ?_ ih;obtain⟨p1,p2⟩:=p;obtain⟨q1,q2⟩:=q;have e:p1=q1:=r.1;subst e;by_cases hk:p1=k
   .simp only[hk,if_true,true_and];exact h
   .simp only[hk,if_false,true_and];exact r.2
 .rw[if_neg hc,if_neg hc];exact Paired.snoc r ⟨rfl,h⟩
def fM:D->D->D->Option D
|.lst ds,.int k,v=>(c8 ds.length k).map fun j=>.lst (ds.set j v)
|.dic kvs,k,v=>(eZ k).bind fun k=>if kvs.length<sizeLine then some (.dic (iq kvs k v))else none
|_,_,_=>none
def wC:V->V->V->Hp->(Hp->Prop)->Prop:=fun o i v H Q=>∃p H',o=.ref p/\fW H p i v H'/\Q H'
theorem Fb(hu:X.A.units+1<Mm):fg X wC:=by intro pz s σ H o i v ov iv u Q I ro ri rv h;obtain⟨p,H',rfl,hp,q⟩:=h;cases ro;exact Gz hu I hp ri rv fun s' I'=>⟨H',I',q⟩
theorem fg.or{t t':js}(h:fg X t)(h':fg X t'):fg X (fun o i v H Q=>t o i v H Q\/t' o i v H Q):=by
 intro pz s σ H o i v ov iv u Q I ro ri rv q;rcases q with q|q
 .exact h pz s σ H o i v ov iv u Q I ro ri rv q
 .exact h' pz s σ H o i v ov iv u Q I ro ri rv q
theorem DD{K:W.Frag}{G:GH}{H:Hp}{a:Addr}{d k v d':D}{kv vv:V}{Q:Hp->Prop}(gk:aN K G H)(ow:Own K G H a d)(rk:RB K G H kv k)(rv:RG K G vv v)(e:fM d k v=some d')(q:∀o',OwnO K G (upd H a o') a d'->Q (upd H a o')):wE (.ref a) kv vv H Q\/wC (.ref a) kv vv H Q:=by cases ow.ob with
|@lst xs ds r s=>cases k with
 |int k=>have e':(c8 ds.length k).map (fun j=>D.lst (ds.set j v))=some d':=e;cases ej:c8 ds.length k with
  |none=>rw[ej]at e';cases e'
  |some j=>rw[ej]at e';cases e';exact .inl ⟨a,xs,k,j,rfl,rk.int gk,r,by rw[Paired.length s];exact ej,q _ (.lst bJ (Paired.st rv j s))⟩
 |_=>cases e
|@dic ps kvs r s=>have e':(eZ k).bind (fun k=>if kvs.length<sizeLine then some (D.dic (iq kvs k v))else none)=some d':=e;cases ek:eZ k with
 |none=>rw[ek]at e';cases e'
 |some k'=>
   rw[ek]at e';have e2:(if kvs.length<sizeLine then some (D.dic (iq kvs k' v))else none)=some d':=e';by_cases hl:kvs.length<sizeLine
   .rw[if_pos hl]at e2;cases e2;have:=Paired.length s;refine .inr ⟨a,_,rfl,?_,q _ (.dic bJ (B9 s rv))⟩;rw[xY gk rk ek];exact fW.k r (by omega)
   .rw[if_neg hl]at e2;cases e2
def putF(m:List Md)(i:Nat)(fk fv:FE):FS:=fun r=>eY m r (fv r) fun v=>match r[i]? with
|some (some d)=>eY m r (fk r) fun k=>(match fM d k v with
 |some d'=>.nx (r.set i (some d'))
 |none=>.stuck)
|_=>.stuck
theorem lT(i:Nat)(hu:X.A.units+1<Mm)(hm:m[i]? = some .ow)(hN:X.N[i]? = some x)(hv:dk X.env.scope x)(hk:SB X g m b fb)(he:SE X g m e f)(hd:(x==("__debug__" : Str))=false:=by decide)(hcd:(x==("__classdict__" : Str))=false:=by decide)(ha:∀v,Lg (.Subscript (.Name x p1) b p2) X.env v=(do
   let ov <-KO [v] (eval (.Name x p1) X.env);let iv <-KO [v,ov] (eval b X.env)
   Nu p2
   KO [v,ov,iv] (NV ov iv v)
   Px [v,ov,iv] []):=by intro _;rfl)(hs:L1 [.Subscript (.Name x p1) b p2] e pos.line X.env=pure false:=by rfl)(hw:L3 [.Subscript (.Name x p1) b p2] e X.env=pure none:=by rfl)(h1:(JV [.Subscript (.Name x p1) b p2] X.env).map (·.2)=[Lg (.Subscript (.Name x p1) b p2) X.env]:=by rfl):SS X g ro mb m (.Assign [.Subscript (.Name x p1) b p2] e pos) (putF m i fb f) m:=by refine⟨rfl,PS.imp (oy he (qY (dJ hN hv hd hcd) hk (fg.or rN (Fb hu)) ha) hs hw h1) fun D0 σ H ⟨r,G,si,k⟩=>⟨r,G,si,?_⟩⟩;refine bh (eO si rfl k) fun v k1 vv G1 H1 w1 rv=>?_;cases er:r[i]? with
|none=>simp only[er]at k1;exact(show False from k1).elim
|some oo=>cases oo with
 |none=>simp only[er]at k1;exact(show False from k1).elim
 |some d=>simp only[er]at k1;obtain⟨a,h1,h2,h3⟩:=(si.grow w1).mut hm er;refine⟨_,h1,r,G1,si.grow w1,?_⟩;refine bh (eO (m:=m) (si.grow w1) rfl (br.gle k1 w1.ge)) fun kk k2 kv G2 H2 w2 rk=>?_;cases es:fM d kk v with
  |none=>simp only[es]at k2;exact(show False from k2).elim
  |some d'=>simp only[es]at k2;obtain⟨a',h1',h2',h3'⟩:=((si.grow w1).grow w2).mut hm er;rw[h1]at h1';cases h1';exact DD w2.ok h2' rk (rv.mono w2.ge) es fun o' ob=>k2 σ G2 _ w2.ge (h3' o' d' ob)
end
mutual
def aU:D->PyData
|.non=>.none
|.bl b=>.bool b
|.int i=>.int i
|.str x=>.str x
|.tup ds=>.tuple (zej ds)
|.lst ds=>.list (zej ds)
|.dic _=>.none
|.obj _ _=>.none
def zej:List D->List PyData
|[]=>[]
|d::ds=>aU d::zej ds
end
def bO:Nat->D->Prop
|_,.non=>True
|_,.bl _=>True
|_,.int _=>True
|_,.str x=>N_ x=true
|0,.tup _=>False
|0,.lst _=>False
|k+1,.tup ds=>∀d∈ds,bO k d
|k+1,.lst ds=>∀d∈ds,bO k d
|_,.dic _=>False
|_,.obj _ _=>False
theorem rh{k:Nat}{ds:List D}:bO (k+1) (.lst ds)↔∀d∈ds,bO k d:=by simp only[bO]
theorem my{k:Nat}{ds:List D}:bO (k+1) (.tup ds)↔∀d∈ds,bO k d:=by simp only[bO]
def jQ(a b:D):Bool:=K6 (aU a) (aU b)
section
variable{X:Cx}{pz:List (Addr×Obj)}{σ:L2.St}{H:Hp}{s:e_}{G:GH}
theorem zT{k:Nat}(ih:∀(d:D)(v:V)(u:b_),bO k d->RG X.K G v d->L2.ar v u->∃as,Reads s.heap u (aU d) as)(ds:List D)(vs:List V)(us:List b_)(h:∀d∈ds,bO k d)(r:b7 X.K G vs ds)(q:al vs us):∃as,ReadsAll s.heap us (zej ds) as:=by induction r generalizing us with
|nil=>cases q;exact⟨[],.nil⟩
|cons r t ih'=>cases q with
 |cons r' t'=>obtain⟨a1,h1⟩:=ih _ _ _ (h _ k_) r r';obtain⟨a2,h2⟩:=ih' _ (fun x hx=>h x (h_ _ hx)) t';exact⟨a1++a2,.cons h1 h2⟩
theorem o8(I:Inv X pz σ H s)(gk:aN X.K G H):∀(k:Nat)(d:D)(v:V)(u:b_),bO k d->RB X.K G H v d->L2.ar v u->∃as,Reads s.heap u (aU d) as:=by
 intro k
 induction k with
|zero=>intro d v u hs r ru;cases d with
 |non=>rw[r.non gk]at ru;cases ru;exact⟨_,.none⟩
 |bl b=>rw[r.bl gk]at ru;cases ru;exact⟨_,.bool b⟩
 |int i=>rw[r.int gk]at ru;obtain⟨t,rfl⟩:=ru;exact⟨_,.int i t⟩
 |str x=>rw[r.str gk]at ru;obtain⟨t,rfl⟩:=ru;exact⟨_,.str x t⟩
 |tup _=>unfold bO at hs;exact hs.elim
 |lst _=>unfold bO at hs;exact hs.elim
 |dic _=>unfold bO at hs;exact hs.elim
 |obj _ _=>unfold bO at hs;exact hs.elim
|succ k ih=>intro d v u hs r ru;cases d with
 |non=>rw[r.non gk]at ru;cases ru;exact⟨_,.none⟩
 |bl b=>rw[r.bl gk]at ru;cases ru;exact⟨_,.bool b⟩
 |int i=>rw[r.int gk]at ru;obtain⟨t,rfl⟩:=ru;exact⟨_,.int i t⟩
 |str x=>rw[r.str gk]at ru;obtain⟨t,rfl⟩:=ru;exact⟨_,.str x t⟩
 |tup ds=>obtain⟨a,xs,rfl,sq,rs⟩:=r.tup gk;cases ru;obtain⟨its,rv,pl,_⟩:=I.tuple sq;obtain⟨o,ho,hc,n,hd⟩:=pl;obtain⟨as,h⟩:=zT (k:=k) (fun d v u h1 h2 h3=>ih d v u h1 h2.rb h3) ds xs its (my.mp hs) rs rv;refine⟨as,?_⟩;unfold aU;exact .tuple ho hc hd (by simpa using h)
 |lst ds=>obtain⟨a,xs,rfl,sq,rs⟩:=r.lst gk;cases ru;obtain⟨its,rv,pl,_⟩:=I.list sq;obtain⟨o,ho,hc,n,hd⟩:=pl.isList;obtain⟨as,h⟩:=zT (k:=k) (fun d v u h1 h2 h3=>ih d v u h1 h2.rb h3) ds xs its (rh.mp hs) rs rv;refine⟨a::as,?_⟩;unfold aU;exact .list ho hc hd (by simpa using h)
 |dic _=>unfold bO at hs;exact hs.elim
 |obj _ _=>unfold bO at hs;exact hs.elim
theorem rg{k:Nat}(ih:∀d,bO k d->JR (aU d)=true/\J0 (aU d)<=k):∀ds:List D,(∀d∈ds,bO k d)->MA (zej ds)=true/\L_ (zej ds)<=k
|[],_=>by unfold zej MA L_;exact⟨rfl,JK _⟩
|d::ds,h=>by obtain⟨a1,a2⟩:=ih d (h d k_);obtain⟨b1,b2⟩:=rg ih ds fun x hx=>h x (h_ _ hx);unfold zej MA L_;rw[a1,b1];exact⟨rfl,Nat.max_le.mpr ⟨a2,b2⟩⟩
theorem Dz:∀(k:Nat)(d:D),bO k d->JR (aU d)=true/\J0 (aU d)<=k:=by
 intro k
 induction k with
|zero=>intro d hs;cases d with
 |non=>unfold aU JR J0;exact⟨rfl,JK _⟩
 |bl b=>unfold aU JR J0;exact⟨rfl,JK _⟩
 |int i=>unfold aU JR J0;exact⟨rfl,JK _⟩
 |str x=>unfold bO at hs;unfold aU JR J0;exact⟨hs,JK _⟩
 |tup _=>unfold bO at hs;exact hs.elim
 |lst _=>unfold bO at hs;exact hs.elim
 |dic _=>unfold bO at hs;exact hs.elim
 |obj _ _=>unfold bO at hs;exact hs.elim
|succ k ih=>intro d hs;cases d with
 |non=>unfold aU JR J0;exact⟨rfl,JK _⟩
 |bl b=>unfold aU JR J0;exact⟨rfl,JK _⟩
 |int i=>unfold aU JR J0;exact⟨rfl,JK _⟩
 |str x=>unfold bO at hs;unfold aU JR J0;exact⟨hs,JK _⟩
 |tup ds=>obtain⟨b1,b2⟩:=rg ih ds (my.mp hs);unfold aU JR J0;exact⟨b1,On b2⟩
 |lst ds=>obtain⟨b1,b2⟩:=rg ih ds (rh.mp hs);unfold aU JR J0;exact⟨b1,On b2⟩
 |dic _=>unfold bO at hs;exact hs.elim
 |obj _ _=>unfold bO at hs;exact hs.elim
theorem ph{d:D}(h:bO 60 d):PF (aU d)=true:=by obtain⟨a,b⟩:=Dz 60 d h;unfold PF;rw[a,decide_eq_true (JE b (by decide))];rfl
end
section
variable{X:Cx}{g:GE}{m mb:List Md}{e a b o c:Expr}{f fa fb fc:FE}{pos pos':Pos}
def jU(a b:D):Bool:=i6 a&&i6 b&&jh (iQ a) (iQ b)
open Classical in
def fw(a b:D):Option Bool:=if jU a b=true then some (iu a b)else if bO 60 a/\bO 60 b then some (jQ a b)else none
def eqD(a b:D):Option D:=(fw a b).map .bl
def neD(a b:D):Option D:=(fw a b).map fun c=>.bl (! c)
theorem rT{a b:D}(h:jU a b=false)(h1:bO 60 a)(h2:bO 60 b):fw a b=some (jQ a b):=by unfold fw;rw[if_neg (by rw[h];exact l_),if_pos ⟨h1,h2⟩]
theorem mE{a b:D}(h:jU a b=true):fw a b=some (iu a b):=by unfold fw;rw[if_pos h]
@[simp] theorem eqB_int(a b:Int):fw (.int a) (.int b)=some (a==b):=mE rfl
@[simp] theorem eqB_str(a b:Str):fw (.str a) (.str b)=some (a==b):=mE rfl
@[simp] theorem eqB_non_int(b:Int):fw .non (.int b)=some false:=mE rfl
@[simp] theorem eqB_int_non(b:Int):fw (.int b) .non=some false:=mE rfl
@[simp] theorem eqB_non_non:fw .non .non=some true:=mE rfl
theorem zx{a b:D}(h:jh (iQ a) (iQ b)=true)(fa:i6 a=true)(fb:i6 b=true):decide (iQ a=iQ b)=iu a b:=by
 cases a <;> cases b <;> first
  |exact absurd (show false=true from fa) l_
  |exact absurd (show false=true from fb) l_
  |exact absurd (show false=true from h) l_
  |exact rA
  |exact qK
  |exact rB
  |rfl
  |simp[iQ,iu,AG]
def oP(K:W.Frag)(neg:Bool):R2:=fun x y H Q=>∃(G:GH)(d1 d2:D),aN K G H/\RB K G H x d1/\RB K G H y d2/\bO 60 d1/\bO 60 d2/\Q (.bl (if neg then ! jQ d1 d2 else jQ d1 d2)) H
theorem zQ(hu:X.A.units+64<Mm):bZ X (KS .Eq) (oP X.K false):=by intro pz s σ H x y v u Q I rx ry h;obtain⟨G,d1,d2,gk,r1,r2,s1,s2,q⟩:=h;obtain⟨as,h1⟩:=o8 I gk 60 d1 x v s1 r1 rx;obtain⟨bs,h2⟩:=o8 I gk 60 d2 y u s2 r2 ry;exact SeqAt.compareEq_shaped h1 h2 (ph s1) (ph s2) hu ⟨.bl _,H,I,rfl,q⟩
theorem Ho(hu:X.A.units+64<Mm):bZ X (KS .NotEq) (oP X.K true):=by intro pz s σ H x y v u Q I rx ry h;obtain⟨G,d1,d2,gk,r1,r2,s1,s2,q⟩:=h;obtain⟨as,h1⟩:=o8 I gk 60 d1 x v s1 r1 rx;obtain⟨bs,h2⟩:=o8 I gk 60 d2 y u s2 r2 ry;exact SeqAt.compareNe_shaped h1 h2 (ph s1) (ph s2) hu ⟨.bl _,H,I,rfl,q⟩
theorem eq_cases{a b:D}{c:Bool}(h:fw a b=some c):(jU a b=true/\c=iu a b)\/(bO 60 a/\bO 60 b/\c=jQ a b):=by
 unfold fw at h;split at h
 .rename_i hs;cases h;exact .inl ⟨hs,rfl⟩
 .split at h
  .rename_i hs;cases h;exact .inr ⟨hs.1,hs.2,rfl⟩
  .cases h
theorem vR{K:W.Frag}:fx K (fun x y H Q=>AD x y H Q\/oP K false x y H Q) eqD:=by intro G H v1 v2 d1 d2 d Q gk r1 r2 e q;unfold eqD at e;cases ec:fw d1 d2 with
|none=>rw[ec]at e;cases e
|some c=>
  rw[ec]at e;cases e;rcases eq_cases ec with⟨hs,rfl⟩|⟨s1,s2,rfl⟩
  .unfold jU at hs;rw[Jx,Jx]at hs;obtain⟨e1,_⟩:=RB.flat r1 gk hs.1.1;obtain⟨e2,_⟩:=RB.flat r2 gk hs.1.2;refine .inl ⟨by rw[e1,e2];exact hs.2,?_⟩;rw[e1,e2,zx hs.2 hs.1.1 hs.1.2];exact q _ G H (Grow.refl gk) (.scl (.bl _))
  .exact .inr ⟨G,d1,d2,gk,r1,r2,s1,s2,q _ G H (Grow.refl gk) (.scl (.bl _))⟩
theorem A2{K:W.Frag}:fx K (fun x y H Q=>AC x y H Q\/oP K true x y H Q) neD:=by intro G H v1 v2 d1 d2 d Q gk r1 r2 e q;unfold neD at e;cases ec:fw d1 d2 with
|none=>rw[ec]at e;cases e
|some c=>
  rw[ec]at e;cases e;rcases eq_cases ec with⟨hs,rfl⟩|⟨s1,s2,rfl⟩
  .unfold jU at hs;rw[Jx,Jx]at hs;obtain⟨e1,_⟩:=RB.flat r1 gk hs.1.1;obtain⟨e2,_⟩:=RB.flat r2 gk hs.1.2;refine .inl ⟨by rw[e1,e2];exact hs.2,?_⟩;rw[e1,e2,zx hs.2 hs.1.1 hs.1.2];exact q _ G H (Grow.refl gk) (.scl (.bl _))
  .exact .inr ⟨G,d1,d2,gk,r1,r2,s1,s2,q _ G H (Grow.refl gk) (.scl (.bl _))⟩
theorem gG(hu:X.A.units+64<Mm)(ha:SB X g m a fa)(hb:SB X g m b fb):SE X g m (.Compare a [.Eq] [b] pos) (f2 fa fb eqD):=qo (bZ.or wL (zQ hu)) vR ha hb (jE _)
theorem df(hu:X.A.units+64<Mm)(ha:SB X g m a fa)(hb:SB X g m b fb):SQ X g m (.Compare a [.Eq] [b] pos) (aS (f2 fa fb eqD)):=lX (bZ.or wL (zQ hu)) vR ha hb (jE _)
theorem eR(hu:X.A.units+64<Mm)(ha:SB X g m a fa)(hb:SB X g m b fb):SQ X g m (.Compare a [.NotEq] [b] pos) (aS (f2 fa fb neD)):=lX (bZ.or B6 (Ho hu)) A2 ha hb (jE _)
def qm(K:W.Frag):R2:=fun x y H Q=>∃l b xs zs,x=.ref l/\y=.ref b/\bb K H l xs/\bb K H b zs/\xs.length+zs.length<=sizeLine/\∀p,H p=none->Q (.ref p) (upd H p (.lst (xs++zs)))
theorem yJ:bZ X (Kr .Add) (qm X.K):=by
 intro pz s σ H x y v u Q I rx ry h;obtain⟨l,b,xs,zs,rfl,rfl,hH,hB,hz,q⟩:=h;cases rx;cases ry;obtain⟨its,r,pl,_⟩:=I.list hH;obtain⟨its2,r2,pl2,_⟩:=I.list hB;have l1:=r.length;have l2:=r2.length;obtain⟨⟨cls,dd,data,sl⟩,ho,hc,n,hd⟩:=pl.isList;obtain⟨⟨cls2,dd2,data2,sl2⟩,ho2,hc2,n2,hd2⟩:=pl2.isList;simp only at hc hd hc2 hd2;subst hc hd hc2 hd2;have e:its.toArray++its2.toArray=(its++its2).toArray:=by simp
 refine NZ ⟨_,ho,rfl⟩ ⟨_,ho2,rfl⟩ noFill_list_add seq_list_add PySem.F.slot_list_add PySem.F.entry_list_add (PySem.F.args_list_add_2 _ _) (list_addW _ _ its.toArray its2.toArray n n2 dd dd2 sl sl2 (by simp;omega)) ⟨ho,ho2,?_⟩;rw[e];exact⟨.ref _,_,I.lnew (t':=s.toks) (r.append r2) (by rw[JH];omega),rfl,q _ I.fresh⟩
def catL:D->D->Option D
|.lst a,.lst b=>if a.length+b.length<=sizeLine then some (.lst (a++b))else none
|_,_=>none
theorem Dl{K:W.Frag}:vJ K (qm K) catL:=by
 intro G H v1 v2 d1 d2 d Q gk r1 r2 e q;unfold catL at e;split at e
 .split at e
  .rename_i hl;cases e;obtain⟨a,xs,rfl,s1,t1⟩:=r1.lst gk;obtain⟨b,ys,rfl,s2,t2⟩:=r2.lst gk;have l1:=Paired.length t1;have l2:=Paired.length t2;exact⟨a,b,xs,ys,rfl,rfl,s1,s2,by omega,fun p hp=>q p G _ (Grow.new gk hp _) hp ⟨gk.isN hp,.lst bJ (Paired.app t1 t2)⟩⟩
  .cases e
 .cases e
theorem A5(ha:SB X g m a fa)(hb:SB X g m b fb):SO X g m (.BinOp a .Add b pos) (f2 fa fb catL):=DU yJ Dl ha hb
def addA:D->D->Option D
|.int a,.int b=>some (.int (a+b))
|.str a,.str b=>if a.length+b.length<=sizeLine then some (.str (a++b))else none
|.lst a,.lst b=>if a.length+b.length<=sizeLine then some (.lst (a++b))else none
|.tup (x::a),.tup b=>if (x::a).length+b.length<=sizeLine then some (.tup (x::a++b))else none
|_,_=>none
theorem Dd{K:W.Frag}:fx K (fun x y H Q=>(∃i j,x=.int i/\y=.int j/\Q (.int (i+j)) H)\/(∃i j,x=.str i/\y=.str j/\i.length+j.length<=sizeLine/\Q (.str (i++j)) H)\/qm K x y H Q\/wB K x y H Q) addA:=by
 intro G H v1 v2 d1 d2 d Q gk r1 r2 e q;unfold addA at e;split at e
 .cases e;exact .inl ⟨_,_,r1.int gk,r2.int gk,q _ G H (Grow.refl gk) (.scl (.int _))⟩
 .split at e
  .rename_i hl;cases e;exact .inr (.inl ⟨_,_,r1.str gk,r2.str gk,hl,q _ G H (Grow.refl gk) (.scl (.str _))⟩)
  .cases e
 .split at e
  .rename_i hl;cases e;obtain⟨a,xs,rfl,s1,t1⟩:=r1.lst gk;obtain⟨b,ys,rfl,s2,t2⟩:=r2.lst gk;have l1:=Paired.length t1;have l2:=Paired.length t2;exact .inr (.inr (.inl ⟨a,b,xs,ys,rfl,rfl,s1,s2,by omega,fun p hp=>q _ _ _ (Grow.newF gk hp (.lst (.inl bJ) (Paired.app t1 t2))) (.ref cQ)⟩))
  .cases e
 .split at e
  .rename_i x0 a0 b0 hl;cases e;rcases r1 with r1|⟨a',_,oo⟩
   .obtain⟨a,xs,rfl,s1,t1⟩:=r1.tup gk;obtain⟨b,ys,rfl,s2,t2⟩:=r2.tup gk;have l1:=Paired.length t1;have l2:=Paired.length t2;refine .inr (.inr (.inr ⟨a,b,xs,ys,rfl,rfl,s1,s2,?_,by omega,fun hy=>?_,fun _ p hp=>q _ _ _ (Grow.newF gk hp (.tup (.inl bJ) (Paired.app t1 t2))) (.ref cQ)⟩))
    .rintro rfl
     cases t1
    .subst hy;cases t2;refine q _ G H (Grow.refl gk) ?_;rw[JZ];exact r1
   .cases oo.ob
  .cases e
 .cases e
theorem c7(ha:SB X g m a fa)(hb:SB X g m b fb):SE X g m (.BinOp a .Add b pos) (f2 fa fb addA):=jz (bZ.or CY (bZ.or HK (bZ.or yJ Ey))) Dd ha hb
end
end DL
end
namespace DL
open PySem PySem.Spec PyProof.Rows L2
structure DefAt(K:W.Frag)(mg:Str->Option b_)(x:Str)(st:Stmt):Prop where
 ex:∃f fd,mg x=some (.ref f)/\Fun K x x st f fd
structure Callee(P:u_)(w:H_)(K:W.Frag)(mg:Str->Option b_)(base:Heap)(x:Str)(ps:List Str)(ds:List b_)(k:Nat)(ro:Bool)(ms:List Md)(F:List D->Res D):Prop where
 ex:∃f fd,mg x=some (.ref f)/\W.keepIn K (.ref f)=true/\eD K fd ps ds/\FnOk P w K mg base bP k f fd ps (iR K ro ms F)
section
variable{P:u_}{w:H_}{K:W.Frag}{mg:Str->Option b_}{base:Heap}
theorem CP{x:Str}{st:Stmt}{N ps:List Str}{k:Nat}{ro:Bool}{ms:List Md}{fs:FS}{m':List Md}(A:DefAt K mg x st)(S:FnScope N ps (aa st))(hms:ms.length=ps.length)(hb:∀(kV doc pm:b_)(an:Option Addr)(cdv ct:b_)(us:List b_),us.length=ps.length->Lm (W.fnOf x x (aI st) (ap st) (aa st) .none kV doc pm an cdv ct) ⟨us,[]⟩=pure (ps.zip us))(hbody:∀(f:Addr)(cdv:b_)(A:Jr)(outer:List Env)(s:e_)(H:Hp)(g:GE)(E:XK),Room k (A.deeper (KW x (aa st) s.heap.objs.size f cdv)) ->dH (a9 bP P w K mg base N x (aa st) f cdv A outer s H E).nox g ro [] (fE N.length ms) (ap st) fs m'):Callee P w K mg base x ps [] (k+1) ro ms fun ds=>outR ro (fs (a7 N.length ds)):=by obtain⟨f,fd,h1,F⟩:=A.ex;exact⟨f,fd,h1,F.kp,F.binds hb,xU F S hms (hbody f)⟩
structure DefAtD(K:W.Frag)(mg:Str->Option b_)(x:Str)(st:Stmt)(dds:List b_):Prop where
 ex:∃(f T:Addr)(o:Obj)(n:Nat)(oc:b_)(od:Option Addr)(kV doc pm:b_)(an:Option Addr)(cdv ct:b_)(osl:Array (Option b_)),mg x=some (.ref f)/\K.lookup T=some o/\o.data=.seq dds.toArray n/\K.lookup f=some ⟨oc,od,.func (W.fnOf x x (aI st) (ap st) (aa st) (.ref T) kV doc pm an cdv ct),osl⟩/\W.codeIn K cdv x=true/\W.keepIn K (.ref f)=true
end
section
variable{X:Cx}{g:GE}{m:List Md}{e:Expr}{es:List Expr}{fl:ah->Res (List D)}{k:Nat}{ps:List Str}{F:List D->Res D}{dvs:List V}{ds:List b_}{dds:List D}{x:Str}{p pos:Pos}{i:Nat}{ms ms':List Md}
theorem Bn(c:Callee X.prog X.w X.K X.mg X.base x ps ds k false ms' F)(hr:Room k X.A)(ha:gu X g m (e::es) ms fl)(hms:ms'=ms++t_ dds.length .sh:=by rfl)(hg:Gl X x:=by rfl)(hd:al dvs ds:=by exact .nil)(hsc:Paired Scl dvs dds:=by exact .nil)(hdb:(x==("__debug__" : Str))=false:=by decide)(he:g_ (e::es) X.env=(false,eval e X.env)::g_ es X.env:=by rfl)(hpl:(backTo pos (g_ es X.env)).any (·.1)=false:=by rfl):SE X g m (.Call (.Name x p) (e::es) [] pos) (aM fl dds F):=by subst hms;obtain⟨f,fd,h1,h2,h3,h4⟩:=c.ex;exact DV h4 hr hg h1 h2 h3 hd hsc ha hdb he hpl
theorem v_(i:Nat)(hm:m[i]? = some .sh:=by rfl)(hN:X.N[i]? = some x:=by rfl)(hv:dk X.env.scope x:=by first|exact Or.inl rfl|exact Or.inr (Or.inl rfl)|exact Or.inr (Or.inr rfl))(hd:(x==("__debug__" : Str))=false:=by decide)(hcd:(x==("__classdict__" : Str))=false:=by decide):SE X g m (.Name x p) fun r=>cz r i:=BK i hm hN hv hd hcd
theorem ai(i:Nat)(hm:i<m.length:=by decide)(hN:X.N[i]? = some x:=by rfl)(hv:dk X.env.scope x:=by first|exact Or.inl rfl|exact Or.inr (Or.inl rfl)|exact Or.inr (Or.inr rfl))(hd:(x==("__debug__" : Str))=false:=by decide)(hcd:(x==("__classdict__" : Str))=false:=by decide):SB X g m (.Name x p) fun r=>cz r i:=Dx i hm hN hv hd hcd
end
def rn(osc:KG)(ON:List Str)(sc:KG)(N':List Str)(nl:Nat)(cap:List Nat):Bool:=decide (sc.kind=.function)&&sc.names.all (fun y=>decide (y.2≠.cell))&&sc.names.all (fun y=>decide (y.2≠.local) || decide (sc.names.lookup y.1=some .local)) &&
 sc.names.all (fun y=>decide (y.2≠.free) || (decide (osc.names.lookup y.1=some .cell) || decide (osc.names.lookup y.1=some .free)))&&decide (N'.length=nl+cap.length) &&
 (q_ cap.length).all fun j=>match N'[nl+j]?,ON[cap.getD j 0]? with
 |some x,some y=>decide (x=y)&&decide (sc.names.lookup x=some .free)
 |_,_=>false
theorem g5{X:Cx}{osc:KG}{ON:List Str}{sc:KG}{N':List Str}{nl:Nat}{cap:List Nat}(h1:X.env.scope=osc)(h2:X.N=ON)(h:rn osc ON sc N' nl cap=true):CompSc X sc N' nl cap:=by subst h1 h2;unfold rn at h;simp only[Jx,JJ,decide_eq_true_eq,OD]at h;obtain⟨⟨⟨⟨⟨a1,a2⟩,a3⟩,a4⟩,a5⟩,a6⟩:=h;refine⟨a1,a2,fun y hy hl=>(a3 y hy).resolve_left fun z=>z hl,fun y hy hf=>(a4 y hy).resolve_left fun z=>z hf,a5,fun j hj=>?_⟩;have h6:=a6 j (J7.mpr hj);cases e1:N'[nl+j]? with
|none=>rw[e1]at h6;cases h6
|some x=>cases e2:X.N[cap.getD j 0]? with
 |none=>rw[e1,e2]at h6;cases h6
 |some y=>rw[e1,e2]at h6;simp only[Jx,decide_eq_true_eq]at h6;exact⟨x,rfl,by rw[h6.1],h6.2⟩
theorem cK{K:W.Frag}{h:Heap}{mg:Str->Option b_}{x:Str}{st:Stmt}(KX:K.In h)(G:h.Ns Jt mg){f:Addr}{oc:b_}{od an:Option Addr}{osl:Array (Option b_)}{kV doc pm cdv ct:b_}(a:W.nsIn K Jt x=some (some (.ref f)))(l:K.lookup f=some ⟨oc,od,.func (W.fnOf x x (aI st) (ap st) (aa st) .none kV doc pm an cdv ct),osl⟩)(c:W.codeIn K cdv x=true)(k:W.keepIn K (.ref f)=true):DefAt K mg x st:=⟨f,_,W.mg_of KX G a,fT l c k⟩
theorem Bf{P:u_}{w:H_}{K:W.Frag}{mg:Str->Option b_}{x p:Str}{st:Stmt}{k:Nat}{F:List D->Res D}{fa:Addr}(hfa:mg x=some (.ref fa))(A:DefAt K mg x st)(hb:∀(kV doc pm:b_)(an:Option Addr)(cdv ct:b_)(us:List b_),us.length=[p].length->Lm (W.fnOf x x (aI st) (ap st) (aa st) .none kV doc pm an cdv ct) ⟨us,[]⟩=pure ([p].zip us))(C:∀(f:Addr)(fd:JP),Fun K x x st f fd->∀base:Heap,FnOk P w K mg base bP k f fd [p] (iR K false [.sh] F)):∃fd:JP,(∀(s:e_)(u:b_),Nw s fd ⟨[u],[]⟩ [(p,u)])/\∀base:Heap,K.In base->base.Ns Jt mg->FnOk P w K mg base bP k fa fd [p] (iR K false [.sh] F):=by obtain⟨f,fd,h1,Fn⟩:=A.ex;rw[hfa]at h1;cases h1;refine⟨fd,fun s u=>?_,fun base _ _=>C fa fd Fn base⟩;obtain⟨oc,od,kV,doc,pm,an,cdv,ct,osl,rfl,lk,hcd⟩:=Fn.ex;exact .of_eq (hb kV doc pm an cdv ct [u] rfl)
theorem A9{l:W.OpenLaw}{k:Nat}{q:u_}{loose:List Str}{XP:(Str->Option b_)->Heap->Prop}{YP:H_->Heap->Prop}{d:DefRec}{K:Params->W.Frag}{x:Str}{F:List D->Res D}(hn:l.most=some 63)(hdf:d.params.defaults=[])(hr:Room k M8)(hY:∀(w:H_)(h:Heap),YP w h->(K w.params).In h)(hF:∀ns:List Int,ns.length<=63->F [.lst (ns.map .int)]=.ok (.bl true))(C:∀(w:H_)(mg:Str->Option b_)(fa:Addr)(h:Heap),(K w.params).In h->h.Ns Jt mg->mg d.name=some (.ref fa) ->∃fd:JP,(∀(s:e_)(u:b_),Nw s fd ⟨[u],[]⟩ [(x,u)])/\∀base:Heap,(K w.params).In base->base.Ns Jt mg->FnOk l.prog w (K w.params) mg base bP k fa fd [x] (iR (K w.params) false [.sh] F)):W.WalkO q loose XP YP l.row.toRowW d [] (fun f vs=>OQ f vs):=by
 refine L2.jg (n:=63) (k:=k) (x:=x) (CX:=fun _=>bP) (sp:=fun w=>iR (K w.params) false [.sh] F) hn (by decide) hdf hr hY C (fun w H a ns hl hO hS=>?_) fun _ _ _ _ _ z=>z;have intsP:∀(l:List Int),Paired Scl (l.map V.int) (l.map D.int):=fun l=>by induction l with
 |nil=>exact .nil
 |cons i l ih=>exact .cons (.int i) ih
 rcases hS with hS|hS
 .refine⟨fun b=>if b=a then some (.lst (ns.map D.int))else none,[.lst (ns.map .int)],fun b d' hb=>?_,.sh (.ref (if_pos rfl)) .nil,?_⟩
  .by_cases e:b=a
   .subst e;have hb':some (D.lst (ns.map D.int))=some d':=(if_pos rfl).symm.trans hb;cases hb';exact .lst hS (Paired.mono (fun _ _ z=>.scl z) (intsP ns))
   .have hb':(none:Option D)=some d':=(if_neg e).symm.trans hb;cases hb'
  .rw[hF ns hl];intro v G' H' w' rv;exact rv.bl w'.ok
 .refine⟨fun _=>none,[.lst (ns.map .int)],fun b d' hb=>(by cases hb),.sh (.kc (.lst (.inr hS) (intsP ns))) .nil,?_⟩;rw[hF ns hl];intro v G' H' w' rv;exact rv.bl w'.ok
section
open AutoSeq1 (wpAny_loadPart')
section
variable{prog:u_}{w:H_}{A:Jr}{E:b_->e_->Prop}{s:e_}
theorem II{it t:Addr}{i:Nat}{items}{x:b_}{Q:b_->e_->Prop}(hit:s.heap.IsTupleIter it t i)(ht:s.heap.IsTuple t items)(hx:items[i]? = some x)(hQ:∀h',h'.IsTupleIter it t (i+1)->Me it s.heap h'->Q x { s with heap:=h' }):p_ (y_ prog w) A (Kw (.ref it)) Q E s:=by
 obtain⟨o,ho,hc,hd⟩:=id hit;obtain⟨ol,hol,_,nl,hdl⟩:=ht;unfold Kw;refine c_ (KI (name:=F_ "__next__") hit.typeIs F.slot_tuple_iterator_next
  (LV F.slot_tuple_iterator_next hit.typeIs F.entry_tuple_iterator_next ?_ (F.args_tuple_iterator_next_1 _)))
 show p_ _ _ (field (.ref it) 0 >>= _) _ _ s;refine c_ (JW ho hd (x:=.ref t) rfl ?_);show p_ _ _ (if (Value.ref t==Value.none)=true then _ else _) _ _ s;rw[if_neg (show ¬ ((Value.ref t==Value.none)=true)from l_)];show p_ _ _ (field (.ref it) 1 >>= _) _ _ s;refine c_ (JW ho hd (x:=.int i 0) rfl ?_);show p_ _ _ (seqItems? (.ref t) >>= _) _ _ s;refine c_ (wpAny_seqItems hol hdl ?_);simp only[LM,hx];refine c_ (KL ho hd (by simp) (i_ ⟨x,rfl,i_ (hQ _ ?_ (NC ..))⟩));exact⟨_,JI _ ho (Obj.isFreed_of_fields (NL hd _)),(Obj.cls_mapFields ..).trans hc,by rw[NL hd];simp[MC]⟩
theorem IK{it t:Addr}{i:Nat}{items}{Q:b_->e_->Prop}(hh:A.handled=none)(hit:s.heap.IsTupleIter it t i)(ht:s.heap.IsTuple t items)(hx:items[i]? = none)(hE:∀h' e,Heap.ExtBut it s.heap h'->(∃o,h'.get? e=some o/\o.cls=.type "StopIteration")->E (.ref e) { s with heap:=h' }):p_ (y_ prog w) A (Kw (.ref it)) Q E s:=by
 obtain⟨o,ho,hc,hd⟩:=id hit;obtain⟨ol,hol,_,nl,hdl⟩:=ht;unfold Kw;refine c_ (KI (name:=F_ "__next__") hit.typeIs F.slot_tuple_iterator_next
  (LV F.slot_tuple_iterator_next hit.typeIs F.entry_tuple_iterator_next ?_ (F.args_tuple_iterator_next_1 _)))
 show p_ _ _ (field (.ref it) 0 >>= _) _ _ s;refine c_ (JW ho hd (x:=.ref t) rfl ?_);show p_ _ _ (if (Value.ref t==Value.none)=true then _ else _) _ _ s;rw[if_neg (show ¬ ((Value.ref t==Value.none)=true)from l_)];show p_ _ _ (field (.ref it) 1 >>= _) _ _ s;refine c_ (JW ho hd (x:=.int i 0) rfl ?_);show p_ _ _ (seqItems? (.ref t) >>= _) _ _ s;refine c_ (wpAny_seqItems hol hdl ?_);simp only[LM,hx];refine c_ (NM (c_ (KL ho hd (by simp) ?_)));show p_ _ _ (newExc (.type "StopIteration") [] >>= _) _ _ _;refine c_ ?_;simp only[newExc,newTuple];refine c_ (J8 ?_ (by size_fits));refine c_ (m:=firstArgMember _ _) (wpAny_of_eq (a:=Value.none) (by first|rfl|(simp only[firstArgMember];rfl)) ?_);refine J8 ?_ (by size_fits);simp only[raiseNew];refine c_ (wpAny_handled ?_)
 first|rw[show A.in1.handled=none from hh]|rw[hh]
 refine c_ (i_ (wpAny_throw ?_));exact hE _ _ (((NC ..).extBut.push _).push _) ⟨_,D_ _ rfl,rfl⟩
end
theorem xQ{prog:u_}{w:H_}{A:Jr}(hh:A.handled=none)(it l:Addr)(hne:l≠it)(items:Array b_):Draws prog w A it [it,l] items.size (fun i v=>items[i]? = some v) (fun i h=>h.IsTupleIter it l i/\h.IsTuple l items) where
 live:=fun _ _ st=>let⟨o,ho,_⟩:=st.1;⟨o,ho⟩
 frame:=fun _ _ _ st hk=>⟨let⟨o,ho,r⟩:=st.1;⟨o,hk it (by simp) o ho,r⟩,let⟨o,ho,r⟩:=st.2;⟨o,hk l (by simp) o ho,r⟩⟩
 item:=fun i s Q E hi st hQ=>by refine II st.1 st.2 (x:=items[i]) (by simp[hi]) fun h' hit' hs'=>?_;exact hQ _ h' s.toks (by simp[hi]) ⟨hit',st.2.extBut hs'.extBut hne⟩ hs'
 done:=fun s Q E st hE=>IK hh st.1 st.2 (by simp) hE
theorem IH(l:Addr)(items:Array b_)(n:Nat)(dct:Option Addr)(sl:Array (Option b_)) :
  Meets (Lb.«enumerate.__new__» ⟨[.type "enumerate",.ref l],[]⟩) (fun _ R s=>s.heap.get? l=some { cls:=.type "tuple",dict:=dct,data:=.seq items n,slots:=sl } /\
   R (.ok (.ret (.ref (s.heap.push { cls:=.type "tuple_iterator",data:=.fields #[.ref l,.int 0 0] }).objs.size)))
    { s with heap:=(s.heap.push { cls:=.type "tuple_iterator",data:=.fields #[.ref l,.int 0 0] }).push { cls:=.type "enumerate",data:=.fields #[.none,.bool false,.ref s.heap.objs.size,MC 0,.none,.none] } }):=
 .of_wp fun prog w A R s h=>by
  obtain⟨hp,g,d,tk,os⟩:=s;obtain⟨hl,h⟩:=h;have hsub:=sub_enumerate;have hL:Heap.IsTuple (Shared.heap ⟨hp,g,d,tk,os⟩) l items:=⟨_,hl,rfl,n,rfl⟩
  wp_walk using Ma hl
  refine wpAny_stack_any fun st=>i_ ?_;split
  .rename_i c _ _ _ _ _;cases(c==Value.type "enumerate")
   .wp_walk using Ma hl,Lw hL
    exact⟨_,rfl,h⟩
   .wp_walk using Ma hl,Lw hL
    exact⟨_,rfl,h⟩
  .wp_walk using Ma hl,Lw hL
   exact⟨_,rfl,h⟩
section
variable{prog:u_}{w:H_}{A:Jr}{E:b_->e_->Prop}{s:e_}
theorem IF{l:Addr}{items:Array b_}{Q:b_->e_->Prop}(hL:s.heap.IsTuple l items)(h:∀h',IsEnum h' (s.heap.objs.size+1) s.heap.objs.size 0 .none->h'.IsTupleIter s.heap.objs.size l 0->h'.objs.size=s.heap.objs.size+2 ->(∀b o,s.heap.get? b=some o->h'.get? b=some o)->Q (.ref (s.heap.objs.size+1)) { s with heap:=h' }):p_ (y_ prog w) A (call (.type "enumerate") [.ref l]) Q E s:=by
 obtain⟨⟨c,dct,dt,sl⟩,hl,hc,n,hd⟩:=hL;replace hc:c=.type "tuple" := hc;replace hd:dt=.seq items n:=hd;subst hc hd;refine callType_new F.called_enumerate (by decide) (F.typeCall_enumerate_1 _) (F.newCall_enumerate_1 _) (fun obj=>F.args_object_init_2 obj _) F.entry_enumerate_new
  (IH l items n dct sl) ⟨hl,?_⟩
 have hz:(s.heap.push { cls:=.type "tuple_iterator",data:=.fields #[.ref l,.int 0 0] }).objs.size=s.heap.objs.size+1:=LH ..;show _/\_;rw[hz];have he:IsEnum ((s.heap.push { cls:=.type "tuple_iterator",data:=.fields #[.ref l,.int 0 0] }).push
   { cls:=.type "enumerate",data:=.fields #[.none,.bool false,.ref s.heap.objs.size,MC 0,.none,.none] }) (s.heap.objs.size+1) s.heap.objs.size 0 .none:=by
  have:=D_ (s.heap.push { cls:=.type "tuple_iterator",data:=.fields #[.ref l,.int 0 0] })
   (o:={ cls:=.type "enumerate",data:=.fields #[.none,.bool false,.ref s.heap.objs.size,MC 0,.none,.none] }) rfl
  rw[hz]at this;exact this
 refine⟨⟨_,he,rfl⟩,h _ he ⟨_,j_ _ (D_ _ rfl),rfl,rfl⟩ (by rw[LH,hz]) fun b o x=>j_ _ (j_ _ x)⟩
end
theorem yV{X:Cx}{pz:List (Addr×Obj)}{σ:L2.St}{H:Hp}{s:e_}{h':Heap}{ch:List Addr}{T:Addr}{o:HO}{t':Nat}(I:Inv X pz σ H s)(hch:∀b∈ch,dm X pz H b)(k:∀b ob,b∉ch->s.heap.get? b=some ob->h'.get? b=some ob)(hT:s.heap.objs.size<=T)(new:cE X.prog X.w (upd H T o) h' T o):Inv X pz σ (upd H T o) { s with heap:=h',toks:=t' }:=by
 have hTn:H T=none:=I.hok.fresh hT;have trk:∀b u,H b=some u->b∉ch:=fun b u e hb=>by rw[(hch b hb).1]at e;cases e
 have neT:∀b ob,s.heap.get? b=some ob->b≠T:=fun b ob e=>Js (x_ (r_ e) hT);have keepU:∀b u,H b=some u->upd H T o b=some u:=fun b u e=>by rw[aK (kb e hTn)];exact e
 refine I.step (g':=s.gens) (d':=s.drawn) (ch:=ch) (fun b hb=>?_) (fun b ob _ _ hc e _=>k b ob hc e) (fun b ob _ _ hc e _=>⟨ob.slots,k b ob hc e⟩) (fun b ob hc e n=>by rw[aK (neT b ob e)];exact n)
  (fun b ob hc e=>⟨ob,k b ob hc e⟩) (fun b xs e=>keepU b _ e) (fun b ob u e=>keepU b _ e) (fun b ps e=>⟨#[],by rw[keepU b _ e];simp⟩) (fun m hm=>?_) (fun b u e=>?_) I.bare
 .obtain⟨z0,z1,z2,z3,z4,z5⟩:=hch b hb;exact⟨z3,z1,z4,z5⟩
 .obtain⟨ob,es,ep,ho,r⟩:=hm;exact⟨ob,es,ep,k _ ob (fun hb=>(hch _ hb).2.1 rfl) ho,r⟩
 .by_cases hb:b=T
  .subst hb;rw[bJ]at e;cases e;exact new
  .rw[aK hb]at e;refine(I.hok b u e).stay (fun c v hc q=>k c v ?_ q) (fun c q=>keepU c _ q) fun c xs q=>keepU c _ q;rcases hc with z|z
   .rw[z];exact trk b u e
   .exact trk c _ z
def kJ(sq:Hp->List V->Prop):It:=⟨fun i H=>∃xs x,sq H xs/\xs[i]? = some x,fun i H x H'=>∃p v,H p=none/\x=.ref p/\H'=upd H p (.tup [.int i,v])/\∀xs,sq H xs->xs[i]? = some v,fun i H=>∃xs,sq H xs/\xs.length=i⟩
theorem yL{P:u_}{w:H_}{H:Hp}{h:Heap}{T:Addr}{i:Nat}{tk:Tok}{x:b_}{v:V}(hT:h.get? T=some { cls:=.type "tuple",data:=.seq #[.int i tk,x] })(r:L2.ar v x):cE P w H h T (.tup [.int i,v]):=⟨by show 2<=sizeLine;decide,[.int i tk,x],.cons ⟨tk,rfl⟩ (.cons r .nil),⟨_,hT,rfl,0,rfl⟩,_,hT,rfl⟩
theorem HR{P:u_}{w:H_}{K:W.Frag}{elts:List Expr}{k:Nat}{pos:Pos}(a it e:Addr)(hei:e≠it):Turn P w K (.Tuple elts k pos) (kJ fun H xs=>bb K H a xs) [e,it] e (fun i h=>(∃old,IsEnum h e it i old)/\h.IsListIter it a i) where
 mem:=by simp
 obj:=fun i h st b hb=>by
  obtain⟨⟨old,he⟩,o,ho,hc,hd⟩:=st;rcases C_.mp hb with rfl|hb
  .exact⟨_,he,fun v z=>by have z':Data.fields _=Data.cell v:=z;cases z'⟩
  .rw[E_.mp hb];exact⟨o,ho,fun v z=>by rw[hd]at z;cases z⟩
 keep:=fun i h h' st kk=>by obtain⟨⟨old,he⟩,hi⟩:=st;exact⟨⟨old,kk e (by simp) _ he⟩,hi.at fun o q=>kk it (by simp) o q⟩
 item:=by
  intro X hP hw hK hc i pz s σ H E I hf st hg;subst hP hw hK;obtain⟨xs,x,hq,hx⟩:=hg;obtain⟨its,rv,p,hz⟩:=I.list hq;obtain⟨⟨old,he⟩,hi⟩:=st;obtain⟨o1,ho1,hc1,hd1⟩:=id hi;obtain⟨o2,ho2,hc2,_⟩:=id p.isList;have hai:a≠it:=by rintro rfl;rw[ho1]at ho2;cases ho2;rw[hc1]at hc2;exact absurd hc2 (by decide)
  have hea:e≠a:=by rintro rfl;rw[he]at ho2;cases ho2;exact absurd (show Value.type "enumerate" = _ from hc2) (by decide)
  have hlt:i<its.toArray.size:=by have:=(f_.mp hx).1;rw[o_,<-rv.length];exact this
  refine MK (P3 (A:=X.A.in1) (show X.A.in1.handled=none from I.ok.hd hc) it a hai its.toArray) he ⟨hi,p.isList⟩ hlt hei (by simp[hei,hea]) fun y h' tk hP ho hs' hT hsz hk=>?_;refine⟨_,rfl,Mr ho fun h'' he'' hs''=>?_⟩;obtain⟨u,hu,ru⟩:=rv.get hx;have hy:y=u:=by
   have:its[i]? = some y:=by simpa using hP
   rw[hu]at this;exact(B_ this).symm
  subst hy;have hTe:s.heap.objs.size≠e:=LG (r_ he);have hT'':h''.get? s.heap.objs.size=some { cls:=.type "tuple",data:=.seq #[.int i tk,y] }:=(hs''.2 _ hTe).trans hT;refine⟨.ref s.heap.objs.size,upd H s.heap.objs.size (.tup [.int i,x]),yV (s:=s) (h':=h'') (t':=tk+1) (ch:=[e,it]) I hf (fun b ob hb q=>?_) (w_ _) (yL hT'' ru),rfl,⟨_,x,I.hok.fresh (w_ _),rfl,rfl,fun ys hy=>by rw[I.list_inj hy hq];exact hx⟩,⟨⟨_,by simpa using he''⟩,hs'.1.extBut hs''.extBut (JX hei)⟩,fun b hb=>?_⟩
  .have hbe:b≠e:=fun z=>hb (by simp[z]);exact(hs''.2 b hbe).trans (hk b ob hbe (fun z=>hb (by simp[z])) q)
  .rw[aK ?_]
   .exact(hf b hb).1
   .rcases C_.mp hb with rfl|hb
    .exact Js (r_ he)
    .rw[E_.mp hb];exact Js (r_ ho1)
 done:=by
  intro X hP hw hK hc i pz s σ H E I hf st hg;subst hP hw hK;obtain⟨xs,hq,hx⟩:=hg;obtain⟨its,rv,p,hz⟩:=I.list hq;obtain⟨⟨old,he⟩,hi⟩:=st;obtain⟨o1,ho1,hc1,hd1⟩:=id hi;obtain⟨o2,ho2,hc2,_⟩:=id p.isList;have hai:a≠it:=by rintro rfl;rw[ho1]at ho2;cases ho2;rw[hc1]at hc2;exact absurd hc2 (by decide)
  obtain⟨f0,f1,f2,f3,f4,f5⟩:=hf it (by simp);have hn:its.toArray.size=i:=by rw[o_,<-rv.length];exact hx
  refine Na (P3 (A:=X.A.in1) (show X.A.in1.handled=none from I.ok.hd hc) it a hai its.toArray) he ⟨by rw[hn];exact hi,p.isList⟩ fun h' eb=>⟨rfl,I.turned (t':=s.toks) (fun b o hb q=>eb b o hb q) f0 f1 f3 f4 f5⟩
 self:=fun _ _ _ _ _ st h=>let⟨⟨_,he⟩,_⟩:=st;LO he h
theorem IsTupleIter.at'{h h':Heap}{a t:Addr}{i:Nat}(x:h.IsTupleIter a t i)(hs:∀o,h.get? a=some o->h'.get? a=some o):h'.IsTupleIter a t i:=let⟨o,ho,r⟩:=x;⟨o,hs o ho,r⟩
theorem HS{P:u_}{w:H_}{K:W.Frag}{elts:List Expr}{k:Nat}{pos:Pos}(a it e:Addr)(hei:e≠it):Turn P w K (.Tuple elts k pos) (kJ fun H xs=>cr K H a xs) [e,it] e (fun i h=>(∃old,IsEnum h e it i old)/\h.IsTupleIter it a i) where
 mem:=by simp
 obj:=fun i h st b hb=>by
  obtain⟨⟨old,he⟩,o,ho,hc,hd⟩:=st;rcases C_.mp hb with rfl|hb
  .exact⟨_,he,fun v z=>by have z':Data.fields _=Data.cell v:=z;cases z'⟩
  .rw[E_.mp hb];exact⟨o,ho,fun v z=>by rw[hd]at z;cases z⟩
 keep:=fun i h h' st kk=>by obtain⟨⟨old,he⟩,hi⟩:=st;exact⟨⟨old,kk e (by simp) _ he⟩,IsTupleIter.at' hi fun o q=>kk it (by simp) o q⟩
 item:=by
  intro X hP hw hK hc i pz s σ H E I hf st hg;subst hP hw hK;obtain⟨xs,x,hq,hx⟩:=hg;obtain⟨its,rv,p,hz⟩:=I.tuple hq;obtain⟨⟨old,he⟩,hi⟩:=st;obtain⟨o1,ho1,hc1,hd1⟩:=id hi;obtain⟨o2,ho2,hc2,_⟩:=id p;have hai:a≠it:=by rintro rfl;rw[ho1]at ho2;cases ho2;rw[hc1]at hc2;exact absurd hc2 (by decide)
  have hea:e≠a:=by rintro rfl;rw[he]at ho2;cases ho2;exact absurd (show Value.type "enumerate" = _ from hc2) (by decide)
  have hlt:i<its.toArray.size:=by have:=(f_.mp hx).1;rw[o_,<-rv.length];exact this
  refine MK (xQ (A:=X.A.in1) (show X.A.in1.handled=none from I.ok.hd hc) it a hai its.toArray) he ⟨hi,p⟩ hlt hei (by simp[hei,hea]) fun y h' tk hP ho hs' hT hsz hk=>?_;refine⟨_,rfl,Mr ho fun h'' he'' hs''=>?_⟩;obtain⟨u,hu,ru⟩:=rv.get hx;have hy:y=u:=by
   have:its[i]? = some y:=by simpa using hP
   rw[hu]at this;exact(B_ this).symm
  subst hy;have hTe:s.heap.objs.size≠e:=LG (r_ he);have hT'':h''.get? s.heap.objs.size=some { cls:=.type "tuple",data:=.seq #[.int i tk,y] }:=(hs''.2 _ hTe).trans hT;refine⟨.ref s.heap.objs.size,upd H s.heap.objs.size (.tup [.int i,x]),yV (s:=s) (h':=h'') (t':=tk+1) (ch:=[e,it]) I hf (fun b ob hb q=>?_) (w_ _) (yL hT'' ru),rfl,⟨_,x,I.hok.fresh (w_ _),rfl,rfl,fun ys hy=>by rw[I.tuple_inj hy hq];exact hx⟩,⟨⟨_,by simpa using he''⟩,hs'.1.extBut hs''.extBut (JX hei)⟩,fun b hb=>?_⟩
  .have hbe:b≠e:=fun z=>hb (by simp[z]);exact(hs''.2 b hbe).trans (hk b ob hbe (fun z=>hb (by simp[z])) q)
  .rw[aK ?_]
   .exact(hf b hb).1
   .rcases C_.mp hb with rfl|hb
    .exact Js (r_ he)
    .rw[E_.mp hb];exact Js (r_ ho1)
 done:=by
  intro X hP hw hK hc i pz s σ H E I hf st hg;subst hP hw hK;obtain⟨xs,hq,hx⟩:=hg;obtain⟨its,rv,p,hz⟩:=I.tuple hq;obtain⟨⟨old,he⟩,hi⟩:=st;obtain⟨o1,ho1,hc1,hd1⟩:=id hi;obtain⟨o2,ho2,hc2,_⟩:=id p;have hai:a≠it:=by rintro rfl;rw[ho1]at ho2;cases ho2;rw[hc1]at hc2;exact absurd hc2 (by decide)
  obtain⟨f0,f1,f2,f3,f4,f5⟩:=hf it (by simp);have hn:its.toArray.size=i:=by rw[o_,<-rv.length];exact hx
  refine Na (xQ (A:=X.A.in1) (show X.A.in1.handled=none from I.ok.hd hc) it a hai its.toArray) he ⟨by rw[hn];exact hi,p⟩ fun h' eb=>⟨rfl,I.turned (t':=s.toks) (fun b o hb q=>eb b o hb q) f0 f1 f3 f4 f5⟩
 self:=fun _ _ _ _ _ st h=>let⟨⟨_,he⟩,_⟩:=st;LO he h
end
def ig:D->Option String
|.non=>some "NoneType"
|.bl _=>some "bool"
|.int _=>some "int"
|.str _=>some "str"
|.tup _=>some "tuple"
|.lst _=>some "list"
|.dic _=>some "dict"
|.obj _ _=>none
def cM(t T:String):Bool:=t==T || (t == "bool" && T == "int")
def dh(T:String)(d:D):Option D:=(ig d).map fun t=>.bl (cM t T)
def vG(K:W.Frag)(x:V)(H:Hp)(t:String):Prop:=match x with
|.non=>t = "NoneType"
|.bl _=>t = "bool"
|.int _=>t = "int"
|.str _=>t = "str"
|.ref p=>(t = "list"/\∃xs,bb K H p xs)\/(t = "tuple"/\∃xs,cr K H p xs)\/(t = "dict"/\∃kvs,Rd H p (.dK kvs))
|_=>False
theorem xK{K:W.Frag}{G:GH}{H:Hp}{v:V}{d:D}{t:String}(gk:aN K G H)(h:RB K G H v d)(e:ig d=some t):vG K v H t:=by cases d with
|non=>cases e;rw[h.non gk];rfl
|bl b=>cases e;rw[h.bl gk];rfl
|int i=>cases e;rw[h.int gk];rfl
|str x=>cases e;rw[h.str gk];rfl
|tup ds=>cases e;obtain⟨a,xs,rfl,s,r⟩:=h.tup gk;exact .inr (.inl ⟨rfl,xs,s⟩)
|lst ds=>cases e;obtain⟨a,xs,rfl,s,r⟩:=h.lst gk;exact .inl ⟨rfl,xs,s⟩
|dic ds=>cases e;obtain⟨a,xs,rfl,s,r⟩:=h.dic gk;exact .inr (.inr ⟨rfl,xs,s⟩)
|obj _ _=>cases e
section
variable{X:Cx}{g:GE}{m:List Md}{e a:Expr}{f:FE}{pos p p2:Pos}
theorem Go:dZ X (.builtin "isinstance") (fun xs H Q=>∃x t T b,xs=[x,.ty T]/\vG X.K x H t/\W.kitOne X.K (.type t) (.type T)=some b/\Q (.bl b) H):=by
 intro pz s σ H xs us Q I r h;obtain⟨x,t,T,b,rfl,ty,e,q⟩:=h;obtain⟨u,w',rfl,rx,ry⟩:=kS r;cases ry;have fin:∀tk,EP X pz σ Q (.bool b) { s with toks:=tk }:=fun tk=>⟨.bl b,H,I.tok tk,rfl,q⟩
 cases x with
|non=>cases rx;cases(show t = "NoneType" from ty);exact W.kia_one W.kitx_none I.kIn True.intro e (fun z=>nomatch z) fin
|bl y=>cases rx;cases(show t = "bool" from ty);exact W.kia_one W.kitx_bool I.kIn True.intro e (fun z=>nomatch z) fin
|int i=>obtain⟨t,rfl⟩:=rx;cases ty;exact W.kia_one W.kitx_int I.kIn True.intro e (fun z=>nomatch z) fin
|str i=>obtain⟨t,rfl⟩:=rx;cases ty;exact W.kia_one W.kitx_str I.kIn True.intro e (fun z=>nomatch z) fin
|ref p=>
  cases rx;rcases ty with⟨rfl,xs,hq⟩|⟨rfl,xs,hq⟩|⟨rfl,kvs,hq⟩
  .obtain⟨its,_,pl,_⟩:=I.list hq;obtain⟨o,ho,hc,_⟩:=pl.isList;exact W.kia_one W.kitx_list I.kIn ⟨o,ho,hc⟩ e (fun z=>nomatch z) fin
  .obtain⟨its,_,pl,_⟩:=I.tuple hq;obtain⟨o,ho,hc,_⟩:=pl;exact W.kia_one W.kitx_tuple I.kIn ⟨o,ho,hc⟩ e (fun z=>nomatch z) fin
  .obtain⟨_,_,vs,_,pp⟩:=(show cE X.prog X.w H s.heap p (.dK kvs)from hq.ok I.hok)
   obtain⟨o,es,ep,h1,h2,_⟩:=pp;exact W.kia_one W.kitx_dict I.kIn ⟨o,h1,h2.1⟩ e (fun z=>nomatch z) fin
|_=>exact(show False from ty).elim
theorem iH(x:Str)(T:String)(hv:KN x=some (.type T))(hk:∀(d:D)(t:String),ig d=some t->W.kitOne X.K (.type t) (.type T)=some (cM t T))(hg:Gl X "isinstance")(hm:X.mg "isinstance" = none)(hgT:Gl X x)(hmT:X.mg x=none)(he:SB X g m e f)(hn:x≠"__name__" := by decide)(hd:(x==("__debug__" : Str))=false:=by decide)(hs1:g_ [e,.Name x p2] X.env=(false,eval e X.env)::g_ [.Name x p2] X.env:=by rfl)(hs2:g_ [.Name x p2] X.env=(false,eval (.Name x p2) X.env)::g_ [] X.env:=by rfl)(hpl:(backTo pos (g_ [.Name x p2] X.env)).any (·.1)=false:=by rfl):SE X g m (.Call (.Name "isinstance" p) [e,.Name x p2] [] pos) (f1 f (dh T)):=by
 refine PE.imp (je Go hg hm (by first|exact KR|rfl) (d4 he (d4 (oK (v:=.ty T) hgT hmT hv rfl hn hd) hZ hs2) hs1) (by decide) (by decide) hs1 hpl) fun σ H Q ⟨r,G,si,q⟩=>⟨r,G,si,bh (bu q) fun d q1 v G1 H1 w1 r1=>?_⟩
 obtain⟨d',e',q2⟩:=dc q1;unfold dh at e';cases et:ig d with
|none=>rw[et]at e';cases e'
|some t=>rw[et]at e';cases e';exact⟨v,t,T,_,rfl,xK w1.ok r1 et,hk d t et,q2 _ G1 H1 w1 (.scl (.bl _))⟩
end
theorem pi{d:D}{t:String}(h:ig d=some t){P:String->Prop}(h1:P "NoneType")(h2:P "bool")(h3:P "int")(h4:P "str")(h5:P "tuple")(h6:P "list")(h7:P "dict"):P t:=by cases d <;> cases h <;> assumption
theorem yO(K:W.Frag)(d:D)(t:String)(h:ig d=some t):W.kitOne K (.type t) (.type "int")=some (cM t "int"):=pi (P:=fun t=>W.kitOne K (.type t) (.type "int")=some (cM t "int")) h (by kernel_rfl) (by kernel_rfl) (by kernel_rfl) (by kernel_rfl) (by kernel_rfl) (by kernel_rfl) (by kernel_rfl)
theorem yW(K:W.Frag)(d:D)(t:String)(h:ig d=some t):W.kitOne K (.type t) (.type "bool")=some (cM t "bool"):=pi (P:=fun t=>W.kitOne K (.type t) (.type "bool")=some (cM t "bool")) h (by kernel_rfl) (by kernel_rfl) (by kernel_rfl) (by kernel_rfl) (by kernel_rfl) (by kernel_rfl) (by kernel_rfl)
theorem lg(K:W.Frag)(d:D)(t:String)(h:ig d=some t):W.kitOne K (.type t) (.type "tuple")=some (cM t "tuple"):=pi (P:=fun t=>W.kitOne K (.type t) (.type "tuple")=some (cM t "tuple")) h (by kernel_rfl) (by kernel_rfl) (by kernel_rfl) (by kernel_rfl) (by kernel_rfl) (by kernel_rfl) (by kernel_rfl)
section
variable{X:Cx}{g:GE}{m mb:List Md}{e a b o:Expr}{es:List Expr}{f fa fb fo:FE}{fl:ah->Res (List D)}{pos pos' apos cpos:Pos}{ro:Bool}{x name:Str}{T id:String}{R:V->List V->Hp->VK->Prop}{k:D->List D->Option D}
def isInt:D->Bool
|.int _=>true
|_=>false
def BX:D->Option D
|.dic kvs=>some (.lst (kvs.map (·.2)))
|_=>none
end
def bH:Nat->List D->List D
|_,[]=>[]
|i,d::ds=>.tup [.int i,d]::bH (i+1) ds
theorem rR:∀(i:Nat)(ds:List D),(bH i ds).length=ds.length
|_,[]=>rfl
|i,d::ds=>congrArg (· + 1) (rR (i+1) ds)
theorem yR:∀(i j:Nat)(ds:List D),(bH i ds)[j]? = (ds[j]?).map fun d=>D.tup [.int ((i+j:Nat):Int),d]
|_,_,[]=>by simp[bH]
|i,0,d::ds=>by simp[bH]
|i,j+1,d::ds=>by show(bH (i+1) ds)[j]? = _;rw[yR (i+1) j ds];simp only[List.getElem?_cons_succ];rw[show i+1+j=i+(j+1)by omega]
theorem yH{K:W.Frag}{ds:List D}{G0:GH}{sq:Hp->List V->Prop}(h:∀G H,aG G0 G->aN K G H->∃xs,sq H xs/\b7 K G xs ds):Yields K (kJ sq) (bH 0 ds) G0:=by
 refine⟨fun G H i w gk hi=>?_,fun G H i x H' d w gk y e=>?_,fun G H w gk=>?_⟩
 .obtain⟨xs,s,r⟩:=h G H w gk;rw[rR]at hi;have hl:=Paired.length r;exact⟨xs,xs[i],s,m_ (by omega)⟩
 .obtain⟨xs,s,r⟩:=h G H w gk;obtain⟨p,v,hp,rfl,rfl,hv⟩:=y;rw[yR]at e;cases ed:ds[i]? with
 |none=>rw[ed]at e;cases e
 |some d0=>rw[ed]at e;simp only[Ka,NR,Nb]at e;subst e;obtain⟨v',e1,rv⟩:=Paired.get r ed;have:=hv xs s;rw[e1]at this;cases this;exact⟨_,Grow.newF gk hp (.tup (.inl bJ) (.cons (.scl (.int _)) (.cons rv .nil))),.ref cQ⟩
 .obtain⟨xs,s,r⟩:=h G H w gk;rw[rR];exact⟨xs,s,Paired.length r⟩
def dO(f:FE):FI:=fun r=>(f r).bind fun d=>(cn (cg d)).bind fun ds=>.ok (bH 0 ds)
section
variable{X:Cx}{g:GE}{m:List Md}{e a:Expr}{f:FE}{pos p pos2:Pos}{elts:List Expr}{kk:Nat}
theorem EI{te:TE}(hg:Gl X "enumerate")(hm:X.mg "enumerate" = none)(he:PE X e te)(hs:g_ [e] X.env=(false,eval e X.env)::g_ [] X.env:=by rfl):PI X (.Tuple elts kk pos2) (.Call (.Name "enumerate" p) [e] [] pos) (fun σ H R=>te σ H fun x H1=>(∃a,x=.ref a/\(∃xs,bb X.K H1 a xs)/\R (kJ fun H xs=>bb X.K H a xs) H1)\/∃a,x=.ref a/\(∃xs,cr X.K H1 a xs)/\R (kJ fun H xs=>cr X.K H a xs) H1):=by
 intro pz s σ H R I h;refine Call_ (l9 I hg hm boot_enumerate (KY (aO (d4 he hZ hs pos pz s σ H (fun vs H1=>match vs with
 |[x]=>(∃a,x=.ref a/\(∃xs,bb X.K H1 a xs)/\R (kJ fun H xs=>bb X.K H a xs) H1)\/∃a,x=.ref a/\(∃xs,cr X.K H1 a xs)/\R (kJ fun H xs=>cr X.K H a xs) H1
 |_=>False) I h) fun us s1 ⟨vs,H1,I1,r1,q1⟩=>?_) hs rfl))
 .cases r1 with
 |nil=>exact q1.elim
 |@cons x u xs us rx rt=>cases rt with
 |cons _ _=>exact q1.elim
 |nil=>
  have fin:∀{h':Heap},h'.objs.size=s1.heap.objs.size+2->(∀b o,s1.heap.get? b=some o->h'.get? b=some o)->∀b∈[s1.heap.objs.size+1,s1.heap.objs.size],dm X pz H1 b:=fun hz kp b hb=>by
   have hge:s1.heap.objs.size<=b:=by
    rcases C_.mp hb with rfl|hb
    .exact Ox _
    .rw[E_.mp hb];exact w_ _
   exact I1.fpOk hge (I1.hok.fresh hge)
  rcases q1 with⟨a,rfl,⟨xs,hq⟩,q⟩|⟨a,rfl,⟨xs,hq⟩,q⟩
  .cases rx;obtain⟨its,rv,pl,hz⟩:=I1.list hq;refine call_enumerate_list pl.isList fun h' he hi hsz kp=>LO he ?_;exact⟨_,[s1.heap.objs.size+1,s1.heap.objs.size],_,_,H1,rfl,I1.kept (t':=s1.toks) kp,HR a _ _ (LG (K9 _)),⟨⟨_,he⟩,hi⟩,fin hsz kp,q⟩
  .cases rx;obtain⟨its,rv,pl,hz⟩:=I1.tuple hq;refine IF (show s1.heap.IsTuple a its.toArray from pl) fun h' he hi hsz kp=>LO he ?_;exact⟨_,[s1.heap.objs.size+1,s1.heap.objs.size],_,_,H1,rfl,I1.kept (t':=s1.toks) kp,HS a _ _ (LG (K9 _)),⟨⟨_,he⟩,hi⟩,fin hsz kp,q⟩
theorem om(hg:Gl X "enumerate")(hm:X.mg "enumerate" = none)(he:SE X g m e f)(hs:g_ [e] X.env=(false,eval e X.env)::g_ [] X.env:=by rfl):iV X g m (.Tuple elts kk pos2) (.Call (.Name "enumerate" p) [e] [] pos) (dO f):=by
 refine PI.imp (EI hg hm he hs) fun σ H R ⟨r,G,si,q⟩=>⟨r,G,si,bh (bu q) fun d q v G' H' w rv=>?_⟩
 obtain⟨ds,e,q⟩:=dc (bu q);cases d with
|lst ds'=>cases e;obtain⟨a,xs,rfl,s,rs⟩:=rv.lst w.ok;refine .inl ⟨a,rfl,⟨xs,s⟩,q _ G' H' w (yH fun G H le gk=>?_)⟩;obtain⟨b,ys,e,s',r'⟩:=(rv.mono le).lst gk;cases e;exact⟨ys,s',r'⟩
|tup ds'=>cases e;obtain⟨a,xs,rfl,s,rs⟩:=rv.tup w.ok;refine .inr ⟨a,rfl,⟨xs,s⟩,q _ G' H' w (yH fun G H le gk=>?_)⟩;obtain⟨b,ys,e,s',r'⟩:=(rv.mono le).tup gk;cases e;exact⟨ys,s',r'⟩
|_=>cases e
end
inductive TupI(h:Heap):b_->List Int->Prop where
 |mk {a:Addr} {items:Array b_} {ns:List Int}:OG h a items->M0 items.toList ns->TupI h (.ref a) ns
inductive TupsI(h:Heap):List b_->List (List Int)->Prop where
 |nil:TupsI h [] []
 |cons {p:b_} {k:List Int} {ps:List b_} {ks:List (List Int)}:TupI h p k->TupsI h ps ks->TupsI h (p::ps) (k::ks)
theorem TupsI.length{h:Heap}:∀{ps:List b_}{ks:List (List Int)},TupsI h ps ks->ps.length=ks.length
|_,_,.nil=>rfl
|_,_,.cons _ t=>congrArg (· + 1) t.length
section
variable{prog:u_}{w:H_}{A:Jr}{s:e_}
inductive TupR(h:Heap):b_->List (List Int)->Prop where
 |mk {a:Addr} {items:List b_} {ks:List (List Int)}:OG h a items.toArray->TupsI h items ks->ks≠[]->TupR h (.ref a) ks
end
def jb:List D->Option (List Int)
|[]=>some []
|.int i::ds=>(jb ds).map (i::·)
|_=>none
theorem Gh{K:W.Frag}{G:GH}{H:Hp}(gk:aN K G H){ds:List D}{xs:List V}{ns:List Int}(h:b7 K G xs ds)(e:jb ds=some ns):xs=ns.map V.int:=by induction h generalizing ns with
|nil=>cases e;rfl
|@cons x d xs ds r t ih=>cases d with
 |int i=>have e':(jb ds).map (i::·)=some ns:=e;cases q:jb ds with
  |none=>rw[q]at e';cases e'
  |some ms=>rw[q]at e';cases e';rw[r.int gk,ih q];rfl
 |_=>cases e
theorem cE.isS{P:u_}{w:H_}{H:Hp}{h:Heap}{a:Addr}{o:HO}(x:cE P w H h a o):h.get? a≠none:=by
 have s:∀{u:Obj},h.get? a=some u->h.get? a≠none:=fun e z=>by rw[z]at e;cases e
 cases o with
|lst xs=>obtain⟨_,_,_,_,e⟩:=x;exact s e
|tup xs=>obtain⟨_,_,_,⟨_,e,_⟩,_⟩:=x;exact s e
|dK kvs=>obtain⟨_,_,_,_,o,_,_,e,_⟩:=x;exact s e
|dT kvs=>obtain⟨_,_,_,_,o,_,_,e,_⟩:=x;exact s e
|set S n=>obtain⟨o,_,_,_,e,_⟩:=x;exact s e
|ins C dx fs=>obtain⟨_,_,_,e,_⟩:=x;exact s e
|own y=>obtain⟨_,e⟩:=x;exact s e
|xd fs=>obtain⟨_,⟨_,_,_,e,_⟩,_⟩:=x;exact s e
|rng lo hi=>obtain⟨_,_,_,e⟩:=x;exact s e
|frz ob u=>obtain⟨e,_⟩:=x;exact s e
|tbl ps=>exact s (show h.get? a=some _ from x)
|met f y=>exact s (show h.get? a=some _ from x)
|ext φ=>obtain⟨_,⟨_,e⟩,_⟩:=x;exact s e
section
variable{X:Cx}{pz:List (Addr×Obj)}{σ:L2.St}{H:Hp}{s:e_}
theorem TupI.stay{h h':Heap}{L:Addr}{mm:Str->Option b_}(hL:h.Ns L mm)(k:∀b o,b≠L->h.get? b=some o->h'.get? b=some o){p:b_}{ns:List Int}(x:TupI h p ns):TupI h' p ns:=by cases x with
|mk ht hi=>
  obtain⟨o,h1,h2,n,h3⟩:=ht;refine .mk ⟨o,k _ _ ?_ h1,h2,n,h3⟩ hi
  rintro rfl
  obtain⟨o',es,ep,e,d,_⟩:=hL;rw[h1]at e;cases e;rw[h3]at d;cases d
theorem TupsI.stay{h h':Heap}{L:Addr}{mm:Str->Option b_}(hL:h.Ns L mm)(k:∀b o,b≠L->h.get? b=some o->h'.get? b=some o):∀{ps:List b_}{ks:List (List Int)},TupsI h ps ks->TupsI h' ps ks
|_,_,.nil=>.nil
|_,_,.cons x t=>.cons (x.stay hL k) (t.stay hL k)
theorem TupR.stay{h h':Heap}{L:Addr}{mm:Str->Option b_}(hL:h.Ns L mm)(k:∀b o,b≠L->h.get? b=some o->h'.get? b=some o){p:b_}{ks:List (List Int)}(x:TupR h p ks):TupR h' p ks:=by cases x with
|mk ht hi hn=>
  obtain⟨o,h1,h2,n,h3⟩:=ht;refine .mk ⟨o,k _ _ ?_ h1,h2,n,h3⟩ (hi.stay hL k) hn
  rintro rfl
  obtain⟨o',es,ep,e,d,_⟩:=hL;rw[h1]at e;cases e;rw[h3]at d;cases d
theorem Er{h:Heap}{L:Addr}{m m':Str->Option b_}(a:h.Ns L m)(b:h.Ns L m'):m=m':=by obtain⟨o,es,ep,e,d,_,f⟩:=a;obtain⟨o',es',ep',e',d',_,f'⟩:=b;rw[e]at e';cases e';rw[d]at d';cases d';funext x;rw[<-f,<-f']
end
end DL
namespace DL
open PySem PyProof.Rows PySem.SeqAt PySem.MeetsSeq PySem.MeetsSeq2 PySem.MeetsSeq3 L2
section
open PySem.AutoSeq1 (wpAny_loadPart')
end
end DL
namespace DL
open PySem PyProof.Rows L2
section
variable{prog:u_}{w:H_}{A:Jr}{E:b_->e_->Prop}{s:e_}
def kI(h:Heap)(u:b_)(ns:List Int):Prop:=∃a its,u=.ref a/\h.IsList a its/\M0 its.toList ns
end
end DL
namespace DL
open PySem PySem.Spec PyProof.Rows L2
section
variable{X:Cx}{pz:List (Addr×Obj)}{σ:L2.St}{H:Hp}{s:e_}
theorem kI.stay{h h':Heap}{L:Addr}{mm:Str->Option b_}(hL:h.Ns L mm)(k:∀b o,b≠L->h.get? b=some o->h'.get? b=some o){p:b_}{ns:List Int}(x:kI h p ns):kI h' p ns:=by
 obtain⟨a,its,rfl,⟨o,h1,h2,n,h3⟩,hi⟩:=x;refine⟨a,its,rfl,⟨o,k _ _ ?_ h1,h2,n,h3⟩,hi⟩
 rintro rfl
 obtain⟨o',es,ep,e,d,_⟩:=hL;rw[h1]at e;cases e;rw[h3]at d;cases d
end
section
variable{X:Cx}{pz:List (Addr×Obj)}{σ:L2.St}{H:Hp}{s:e_}
theorem Inv.keptN{h':Heap}(I:Inv X pz σ H s)(k:∀b o,b≠X.env.locals->s.heap.get? b=some o->h'.get? b=some o)(hns:∀m,s.heap.Ns X.env.locals m->h'.Ns X.env.locals m)(t':Nat):Inv X pz σ H { s with heap:=h',toks:=t' }:=by
 have trkL:∀b u,H b=some u->b≠X.env.locals:=fun b u e z=>by rw[z,I.free]at e;cases e
 refine I.step (g':=s.gens) (d':=s.drawn) (ch:=[]) (fun b hb=>absurd hb (by simp)) (fun b ob hL _ _ e _=>k b ob hL e) (fun b ob hL _ _ e _=>⟨ob.slots,k b ob hL e⟩) (fun b ob _ e n=>n)
  (fun b ob _ e=>?_) (fun b xs e=>e) (fun b ob u e=>e) (fun b ps e=>⟨#[],by rw[e];simp⟩) hns (fun b u e=>?_) I.bare
 .by_cases hb:b=X.env.locals
  .subst hb;obtain⟨m,hn,_⟩:=I.loc;obtain⟨o,_,_,ho',_⟩:=hns m hn;exact⟨o,ho'⟩
  .exact⟨ob,k b ob hb e⟩
 .refine(I.hok b u e).stay (fun cc v hc q=>k cc v ?_ q) (fun cc q=>q) fun cc xs q=>q;rcases hc with z|z
  .rw[z];exact trkL b u e
  .exact trkL cc _ z
theorem Inv.keptF{h':Heap}{mF:Str->Option b_}(I:Inv X pz σ H s)(F:Fr X.base X.env.locals s.heap mF)(F':Fr X.base X.env.locals h' mF)(N':News X.base X.env.locals h' (mB X.base s.heap X.env.locals))(t':Nat):Inv X pz σ H { s with heap:=h',toks:=t' }:=by refine Inv.keptN I (fun b o hb e=>?_) (fun m hm=>by rw[Er hm F.ns];exact F'.ns) t';cases z:X.base.get? b with
|some o'=>have:=I.bk b o' z;rw[e]at this;cases this;exact F'.keep b o z
|none=>exact(N' (b,o) (Im hb z e)).1
theorem FN(hc:X.calm=true):dZ X (.builtin "max") (fun xs H Q=>∃i j:Int,xs=[.int i,.int j]/\Q (.int (if j>i then j else i)) H):=by intro pz s σ H xs us Q I r h;obtain⟨i,j,rfl,q⟩:=h;cases r with
|cons r1 r=>cases r with
 |cons r2 r=>cases r;obtain⟨t,rfl⟩:=r1;obtain⟨u,rfl⟩:=r2;obtain⟨mF,F⟩:=I.fr;exact max_two_N (I.ok.hd hc) F (zd (g:=X.base) (h:=s.heap) (L:=X.env.locals)) fun h' tk F' N'=>⟨.int (if j>i then j else i),_,Inv.keptF I F F' N' tk,⟨_,rfl⟩,q⟩
end
def maxD:List D->Option D
|[.int i,.int j]=>some (.int (if j>i then j else i))
|_=>none
theorem CN{K:W.Frag}:jw K (fun xs H Q=>∃i j:Int,xs=[.int i,.int j]/\Q (.int (if j>i then j else i)) H) maxD:=by
 intro G H vs ds d Q gk rs e q;unfold maxD at e;split at e
 .cases e;cases rs with
 |cons r1 t=>cases t with
  |cons r2 t=>cases t;exact⟨_,_,by rw[r1.int gk,r2.int gk],q _ G H (Grow.refl gk) (.scl (.int _))⟩
 .cases e
section
variable{X:Cx}{g:GE}{m:List Md}{e a b:Expr}{es:List Expr}{fl:ah->Res (List D)}{fa fb:FE}{pos p:Pos}
theorem BF(hc:X.calm=true)(hg:Gl X "max")(hm:X.mg "max" = none)(ha:hW X g m (e::es) fl)(he:g_ (e::es) X.env=(false,eval e X.env)::g_ es X.env:=by rfl)(hpl:(backTo pos (g_ es X.env)).any (·.1)=false:=by rfl):SE X g m (.Call (.Name "max" p) (e::es) [] pos) (fC fl maxD):=fN CN (je (FN hc) hg hm PyProof.Rows.boot_max ha (by decide) (by decide) he hpl)
end
end DL
namespace DL
open PySem PyProof.Rows L2
section
open PySem.AutoSeq1 (wpAny_loadPart')
end
end DL
namespace DL
open PySem PyProof.Rows PySem.W
abbrev pZ(p:Array Nat)(i:Nat):Nat:=p.getD i 0
section
variable{n:Nat}{c:Nat->Nat->Bool}(as:∀i j,c i j=true->c j i=false)(tr:∀i j k,c j i=false->c k j=false->c k i=false)
def Le(c:Nat->Nat->Bool)(i j:Nat):Prop:=c j i=false
def Dn(c:Nat->Nat->Bool)(p:Array Nat)(k:Nat):Prop:=∀i,i+1<k->Le c (pZ p (i+1)) (pZ p i)
def jR(c:Nat->Nat->Bool)(i j:Nat):Prop:=Le c i j/\Le c j i
include tr in
theorem jR.trans{i j k:Nat}(h1:jR c i j)(h2:jR c j k):jR c i k:=⟨tr _ _ _ h1.1 h2.1,tr _ _ _ h2.2 h1.2⟩
theorem jR.symm{i j:Nat}(h:jR c i j):jR c j i:=⟨h.2,h.1⟩
include as tr in
include tr in
theorem Dn.eqv{p p':Array Nat}{k:Nat}(h:Dn c p k)(e:∀i,jR c (pZ p' i) (pZ p i)):Dn c p' k:=fun i hi=>tr _ _ _ (e (i+1)).1 (tr _ _ _ (h i hi) (e i).2)
include as tr in
include as tr in
include as tr in
include as tr in
include as tr in
include as tr in
include as tr in
include as tr in
include as tr in
end
end DL
section
namespace DL
end DL
end
namespace DL
open PySem PySem.Spec PyProof.Rows L2
section
variable{X:Cx}{pz:List (Addr×Obj)}{σ:L2.St}{H:Hp}{s:e_}
theorem GV(bs:List Bool):((q_ bs.length).all fun i=>bs.getD i true)=bs.all id:=by
 rw[JY,JJ,JJ];constructor
 .intro h b hb;obtain⟨i,hi,rfl⟩:=ND hb;have:=h i (J7.mpr hi);simpa[z_,hi]using this
 .intro h i hi;have hi:=J7.mp hi;have:=h bs[i] (Lc _);simpa[z_,hi]using this
theorem GW(bs:List Bool):((q_ bs.length).any fun i=>bs.getD i true)=bs.any id:=by
 rw[JY,Oo,Oo];constructor
 .rintro⟨i,hi,h⟩
  have hi:=J7.mp hi;exact⟨bs[i],Lc _,by simpa[z_,hi]using h⟩
 .rintro⟨b,hb,h⟩
  obtain⟨i,hi,rfl⟩:=ND hb;exact⟨i,J7.mpr hi,by simpa[z_,hi]using h⟩
theorem Ab(hc:X.calm=true)(I:Inv X pz σ H s){p:Addr}{bs:List Bool}(hq:bb X.K H p (bs.map V.bl)){A:Jr}(hA:A.handled=none){E:b_->e_->Prop}{Q:b_->e_->Prop}(h:∀I fp wr n P St tr it s₂,it=Value.ref I->Walks X.prog X.w A I fp wr n P St->St 0 s₂.heap->TruthOf X.prog X.w A P tr->n=bs.length->(∀i,tr i=bs.getD i true) ->(∀(h':Heap)(tk:Nat),(∀(b:Addr)(o:Obj),¬b∈wr->s₂.heap.get? b=some o->h'.get? b=some o)->Inv X pz σ H { heap:=h',gens:=s₂.gens,drawn:=s₂.drawn,toks:=tk,os:=s₂.os })->Q it s₂):p_ (y_ X.prog X.w) A (pyIter (.ref p)) Q E s:=by
 obtain⟨its,rv,pl,hz⟩:=I.list hq;have hl:=rv.length;rw[n_]at hl;refine PySem.Flt.iter_list_ pl.isList fun s₂ e2 hi hlt hne=>?_;refine h s.heap.objs.size [s.heap.objs.size,p] [s.heap.objs.size] its.toArray.size _ _ (fun i=>bs.getD i true) _ s₂ rfl (Walks.list hA _ p hne its.toArray) hi ?_ (by rw[o_,hl]) (fun i=>rfl) fun h' tk k=>?_
 .intro i v s' Q' E' hv hq';have hv':its[i]? = some v:=by simpa using hv
  have hi:i<its.length:=(f_.mp hv').1;have hki:i<(bs.map V.bl).length:=by rw[n_];omega
  obtain⟨u,h1,h3⟩:=rv.get (i:=i) (x:=(bs.map V.bl)[i]) (m_ hki);rw[hv']at h1;cases h1;rw[List.getElem_map]at h3;have h3':v=Value.bool bs[i]:=h3;subst h3';have e:bs.getD i true=bs[i]:=by
   have hb:i<bs.length:=by omega
   simp[z_,hb]
  have hq2:Q' (bs.getD i true) s':=hq';rw[e]at hq2;exact i_ hq2
 .subst e2;have ne:∀b o,s.heap.get? b=some o->¬ b∈[s.heap.objs.size]:=fun b o e z=>by have:=E_.mp z;subst this;exact absurd (r_ e) (J5 _)
  exact Inv.keptN I (fun b o _ e=>k b o (ne b o e) (j_ _ e)) (fun m ⟨o,es,ep,e,z⟩=>⟨o,es,ep,k _ _ (ne _ _ e) (j_ _ e),z⟩) tk
theorem Gm(hc:X.calm=true):dZ X (.builtin "all") (fun xs H Q=>∃(p:Addr)(bs:List Bool),xs=[.ref p]/\bb X.K H p (bs.map V.bl)/\Q (.bl (bs.all id)) H):=by intro pz s σ H xs us Q I r h;obtain⟨p,bs,rfl,hq,q⟩:=h;obtain⟨u,rfl,rx⟩:=jB r;cases rx;refine call_all_walk (Ab hc I hq (show X.A.in1.handled=none from I.ok.hd hc) fun J fp wr n P St tr it s₂ e1 e2 e3 e4 e5 e6 e7=>⟨J,fp,wr,n,P,St,tr,e1,e2,e3,e4,fun h' tk k=>?_⟩);have et:tr=fun i=>bs.getD i true:=funext e6;rw[e5,et,GV];exact⟨.bl (bs.all id),H,e7 h' tk k,rfl,q⟩
theorem Gn(hc:X.calm=true):dZ X (.builtin "any") (fun xs H Q=>∃(p:Addr)(bs:List Bool),xs=[.ref p]/\bb X.K H p (bs.map V.bl)/\Q (.bl (bs.any id)) H):=by intro pz s σ H xs us Q I r h;obtain⟨p,bs,rfl,hq,q⟩:=h;obtain⟨u,rfl,rx⟩:=jB r;cases rx;refine call_any_walk (Ab hc I hq (show X.A.in1.handled=none from I.ok.hd hc) fun J fp wr n P St tr it s₂ e1 e2 e3 e4 e5 e6 e7=>⟨J,fp,wr,n,P,St,tr,e1,e2,e3,e4,fun h' tk k=>?_⟩);have et:tr=fun i=>bs.getD i true:=funext e6;rw[e5,et,GW];exact⟨.bl (bs.any id),H,e7 h' tk k,rfl,q⟩
end
def gS:List D->Option (List Bool)
|[]=>some []
|.bl b::ds=>(gS ds).map (b::·)
|_=>none
theorem yu{K:W.Frag}{G:GH}{H:Hp}(gk:aN K G H){ds:List D}{xs:List V}{bs:List Bool}(h:b7 K G xs ds)(e:gS ds=some bs):xs=bs.map V.bl:=by induction h generalizing bs with
|nil=>cases e;rfl
|@cons x d xs ds r t ih=>cases d with
 |bl b=>have e':(gS ds).map (b::·)=some bs:=e;cases e1:gS ds with
  |none=>rw[e1]at e';cases e'
  |some bs'=>rw[e1]at e';cases e';rw[ih e1,A_,(RG.rb (H:=H) r).bl gk]
 |_=>cases e
def allD:List D->Option D
|[.lst ds]=>(gS ds).map fun bs=>.bl (bs.all id)
|_=>none
def anyD:List D->Option D
|[.lst ds]=>(gS ds).map fun bs=>.bl (bs.any id)
|_=>none
theorem Bl{K:W.Frag}:jw K (fun xs H Q=>∃(p:Addr)(bs:List Bool),xs=[.ref p]/\bb K H p (bs.map V.bl)/\Q (.bl (bs.all id)) H) allD:=by
 intro G H vs ds d Q gk rs e q;unfold allD at e;split at e
 .rename_i zs;cases ek:gS zs with
 |none=>rw[ek]at e;cases e
 |some bs=>rw[ek]at e;cases e;cases rs with
  |cons r1 t=>cases t;obtain⟨b,xs,rfl,s,r⟩:=r1.lst gk;have ex:=yu gk r ek;subst ex;exact⟨b,bs,rfl,s,q _ G H (Grow.refl gk) (.scl (.bl _))⟩
 .cases e
theorem Bm{K:W.Frag}:jw K (fun xs H Q=>∃(p:Addr)(bs:List Bool),xs=[.ref p]/\bb K H p (bs.map V.bl)/\Q (.bl (bs.any id)) H) anyD:=by
 intro G H vs ds d Q gk rs e q;unfold anyD at e;split at e
 .rename_i zs;cases ek:gS zs with
 |none=>rw[ek]at e;cases e
 |some bs=>rw[ek]at e;cases e;cases rs with
  |cons r1 t=>cases t;obtain⟨b,xs,rfl,s,r⟩:=r1.lst gk;have ex:=yu gk r ek;subst ex;exact⟨b,bs,rfl,s,q _ G H (Grow.refl gk) (.scl (.bl _))⟩
 .cases e
section
variable{X:Cx}{g:GE}{m:List Md}{e:Expr}{es:List Expr}{fl:ah->Res (List D)}{pos p:Pos}
theorem wT(hc:X.calm=true)(hg:Gl X "all")(hm:X.mg "all" = none)(ha:hW X g m (e::es) fl)(he:g_ (e::es) X.env=(false,eval e X.env)::g_ es X.env:=by rfl)(hpl:(backTo pos (g_ es X.env)).any (·.1)=false:=by rfl):SE X g m (.Call (.Name "all" p) (e::es) [] pos) (fC fl allD):=fN Bl (je (Gm hc) hg hm PyProof.Rows.boot_all ha (by decide) (by decide) he hpl)
theorem Cf(hc:X.calm=true)(hg:Gl X "any")(hm:X.mg "any" = none)(ha:hW X g m (e::es) fl)(he:g_ (e::es) X.env=(false,eval e X.env)::g_ es X.env:=by rfl)(hpl:(backTo pos (g_ es X.env)).any (·.1)=false:=by rfl):SE X g m (.Call (.Name "any" p) (e::es) [] pos) (fC fl anyD):=fN Bm (je (Gn hc) hg hm PyProof.Rows.boot_any ha (by decide) (by decide) he hpl)
end
def jV(h0 H:Hp):Prop:=∀a o,h0 a=some o->H a=some o
structure YieldsB(K:W.Frag)(h0:Hp)(J:It)(ds:List D)(G0:GH):Prop where
 go:∀G H (i:Nat),aG G0 G->aN K G H->jV h0 H->i<ds.length->J.go i H
 yld:∀G H (i:Nat) x H' d,aG G0 G->aN K G H->jV h0 H->J.yld i H x H'->ds[i]? = some d->∃G',Grow K G H G' H'/\RG K G' x d
 stop:∀G H,aG G0 G->aN K G H->jV h0 H->J.stop ds.length H
theorem Yields.toH{K:W.Frag}{h0:Hp}{J:It}{ds:List D}{G0:GH}(y:Yields K J ds G0):YieldsB K h0 J ds G0:=⟨fun G H i w gk _ hi=>y.go G H i w gk hi,fun G H i x H' d w gk _ q e=>y.yld G H i x H' d w gk q e,fun G H w gk _=>y.stop G H w gk⟩
def Ja(X:Cx)(g:GE)(m:List Md)(f:FI):TI:=fun σ H R=>∃r G,SI X g m r G σ H/\fin (f r) (fun ds=>∀J G' H',Grow X.K G H G' H'->YieldsB X.K g.h0 J ds G'->R J H') (XW X σ G H)
def kF(X:Cx)(g:GE)(m:List Md)(tg iter:Expr)(f:FI):Prop:=PI X tg iter (Ja X g m f)
def Jc(X:Cx)(g:GE)(m:List Md)(f:FE):TE:=fun σ H Q=>∃r G,SI X g m r G σ H/\fin (f r) (fun d=>∀v G' H',Grow X.K G H G' H'->Bw X.K g.h0 G' H' v d->Q v H') (XW X σ G H)
def AH(X:Cx)(g:GE)(m:List Md)(e:Expr)(f:FE):Prop:=PE X e (Jc X g m f)
section
variable{X:Cx}{g:GE}{m m' mb:List Md}{tg e a iter:Expr}{f:FE}{pos p pos2:Pos}{ro:Bool}{sts:List Stmt}{s1:FS}{elts:List Expr}{kk:Nat}
theorem iV.toH{fi:FI}(h:iV X g m tg iter fi):kF X g m tg iter fi:=PI.imp h fun σ H R ⟨r,G,si,q⟩=>⟨r,G,si,bh q fun ds k J G' H' w y=>k J G' H' w y.toH⟩
theorem IS(i:Nat){x:Str}(hm:m[i]? = some .bw:=by rfl)(hN:X.N[i]? = some x:=by rfl)(hv:dk X.env.scope x:=by first|exact Or.inl rfl|exact Or.inr (Or.inl rfl)|exact Or.inr (Or.inr rfl))(hd:(x==("__debug__" : Str))=false:=by decide)(hcd:(x==("__classdict__" : Str))=false:=by decide):AH X g m (.Name x pos) fun r=>cz r i:=by refine PE.imp (dJ hN hv hd hcd) fun σ H Q ⟨r,G,si,q⟩=>?_;obtain⟨d,e,k⟩:=oY q;obtain⟨v,e1,e2⟩:=si.bw i d e hm;exact⟨v,e1,k _ G H (Grow.refl si.gok) e2⟩
theorem EC{K:W.Frag}{h0:Hp}{G0 G:GH}{H0 H:Hp}{a:Addr}{ds:List D}(o:Own K G0 H0 a (.lst ds))(h:h0 a≠none)(o0:jV h0 H0)(le:aG G0 G)(o1:jV h0 H):∃xs,bb K H a xs/\b7 K G xs ds:=by cases e:h0 a with
|none=>exact absurd e h
|some u=>have h1:=o0 a u e;have h2:=o1 a u e;cases o.ob with
 |lst r s=>rw[h1]at r;cases r;exact⟨_,bb.of h2,b7.mono s le⟩
theorem DP{K:W.Frag}{h0:Hp}{ds:List D}{G0:GH}{a:Addr}(h:∀G H,aG G0 G->aN K G H->jV h0 H->∃xs,bb K H a xs/\b7 K G xs ds):YieldsB K h0 (nQ K a) ds G0:=by
 refine⟨fun G H i w gk o hi=>?_,fun G H i x H' d w gk o y e=>?_,fun G H w gk o=>?_⟩
 .obtain⟨xs,s,r⟩:=h G H w gk o;have hl:=Paired.length r;exact⟨xs,xs[i],s,m_ (by omega)⟩
 .obtain⟨xs,s,r⟩:=h G H w gk o;obtain⟨rfl,y⟩:=y;obtain⟨v,e1,rv⟩:=Paired.get r e;have:=y xs s;rw[e1]at this;cases this;exact⟨G,Grow.refl gk,rv⟩
 .obtain⟨xs,s,r⟩:=h G H w gk o;exact⟨xs,s,LI (Paired.length r)⟩
theorem SI.oldIn{r:ah}{G:GH}{st:L2.St}{H:Hp}(s:SI X g m r G st H):jV g.h0 H:=s.old
theorem BC(h:AH X g m e f):kF X g m tg e (aV cg f):=by
 refine PI.imp (wZ h) fun σ H R ⟨r,G,si,q⟩=>⟨r,G,si,bh (bu q) fun d q v G' H' w rv=>?_⟩
 obtain⟨ds,e,q⟩:=dc q;cases d with
|lst ds'=>
  cases e;rcases rv with rv|⟨a,rfl,o,ho⟩
  .obtain⟨a,xs,rfl,s,rs⟩:=rv.lst w.ok;exact .inl ⟨a,rfl,⟨xs,s⟩,q _ G' H' w (zj rv).toH⟩
  .cases o.ob with
  |lst r s=>exact .inl ⟨a,rfl,⟨_,bb.of r⟩,q _ G' H' w (DP fun G2 H2 le _ o2=>EC o ho (si.grow w).oldIn le o2)⟩
|tup ds'=>
  cases e;rcases rv with rv|⟨a,rfl,o,ho⟩
  .obtain⟨a,xs,rfl,s,rs⟩:=rv.tup w.ok;exact .inr ⟨a,rfl,⟨xs,s⟩,q _ G' H' w (xN rv).toH⟩
  .cases o.ob
|_=>cases e
theorem DX(hp:Mh (y_ X.prog X.w) X.A X.env X.xe)(hc:X.calm=true){ft:FT}{fi:FI}(hi:kF X g m tg iter fi)(hg:SG X g m tg ft m)(hb:dH X g ro m m sts s1 m)(hs:∀x,Ke iter X.env x=pure x:=by intro _;rfl):SS X g ro mb m (.For tg iter sts [] pos) (dE m fi ft s1) m:=by
 refine⟨rfl,PS.imp (oG hp hc hi hg.2 hb.2 hs) fun D σ H ⟨r,G,si,q⟩=>⟨r,G,si,bh (eO si rfl q) fun ds q J G0 H0 w0 Y=>?_⟩⟩;refine⟨fun i n σ H=>∃r G,SI X g m r G σ H/\aG G0 G/\i<=ds.length/\n=ds.length-i/\br X g ro m mb G D (aF ft s1 (ds.drop i) r),⟨ds.length,r,G0,si.grow w0,aG.refl G0,JK _,rfl,br.gle q w0.ge⟩,?_⟩
 rintro i n σ1 H1 ⟨r1,G1,si1,le1,hi,rfl,q1⟩
 by_cases hlt:i<ds.length
 .have hd:ds.drop i=ds[i]::ds.drop (i+1):=Kb hlt;rw[hd]at q1;unfold aF at q1;refine .inr ⟨Y.go G1 H1 i le1 si1.gok si1.oldIn hlt,fun σ' H'=>∃r G,SI X g m r G σ' H'/\aG G0 G/\br X g ro m mb G D (aF ft s1 (ds.drop (i+1)) r),fun σ' H' ⟨r',G',si',le',q'⟩=>⟨ds.length-(i+1),by omega,r',G',si',le',hlt,rfl,q'⟩,fun x H' y=>?_⟩;obtain⟨G',w',rv⟩:=Y.yld G1 H1 i x H' ds[i] le1 si1.gok si1.oldIn y (m_ hlt);have le':aG G0 G':=le1.trans w'.ge;cases eft:ft ds[i] r1 with
 |none=>simp only[eft]at q1;exact q1.elim
 |some r2=>simp only[eft]at q1;refine⟨r1,G',ds[i],si1.grow w',rv,r2,eft,fun σ2 si2=>⟨r2,G',si2,?_⟩⟩;cases eb:s1 r2 with
  |nx r'=>simp only[eb]at q1;exact fun σ3 G3 H3 le3 si3=>⟨r',G3,si3,le'.trans le3,br.gle q1 (aG.trans w'.ge le3)⟩
  |ct r'=>simp only[eb]at q1;exact fun σ3 G3 H3 le3 si3=>⟨r',G3,si3,le'.trans le3,br.gle q1 (aG.trans w'.ge le3)⟩
  |bk r'=>simp only[eb]at q1;exact fun σ3 G3 H3 le3 si3=>q1 σ3 G3 H3 (aG.trans w'.ge le3) si3
  |rt d=>simp only[eb]at q1;exact q1
  |exc x r'=>simp only[eb]at q1;exact fun pz e s' σ3 G3 H3 le3=>q1 pz e s' σ3 G3 H3 (aG.trans w'.ge le3)
  |stuck=>simp only[eb]at q1;exact q1
 .have e:i=ds.length:=by omega
  subst e;rw[La]at q1;exact .inl ⟨Y.stop G1 H1 le1 si1.gok si1.oldIn,q1 σ1 G1 H1 (aG.refl _) si1⟩
end
section
open HT (sIx)
section
variable{prog:u_}{w:H_}{A:Jr}{E:b_->e_->Prop}{s:e_}
theorem IA{t sl:Addr}{items:Array b_}{vl vu:b_}{lo hi:Option Int}{Q:b_->e_->Prop}(ht:OG s.heap t items)(hs:s.heap.IsSliceOf sl vl vu .none)(pl:MX vl lo)(pu:MX vu hi)(hw:sIx items.size 0 lo=0/\sIx items.size items.size hi=items.size)(h:Q (.ref t) s):p_ (y_ prog w) A (MY (.ref t) (.ref sl)) Q E s:=by
 obtain⟨os,hos,hcs,hds⟩:=id hs;have hTs:s.TypeIs (.ref sl) "slice" := ⟨os,hos,hcs⟩
 unfold MY
 try with_reducible refine J6 ?_
 first|refine c_ (i_ ?_)|skip
 refine c_ (N3 ht.typeIs (by decide) (c_ (KI (name:=F_ "__getitem__") ht.typeIs Jy (LV Jy ht.typeIs Oa ?_ (Og _ _)))));show p_ _ _ (Mo (.ref t) >>= _) _ _ s;refine c_ (OU ht (c_ (MZ hTs ?_)));rw[if_pos (by decide)];refine c_ (HT.bS hs pl pu ?_);rw[hw.1,hw.2];show p_ _ _ (if (((0:Nat):Int)==0&&(1:Int)==1&&(items.size-0)==items.size)=true then _ else _) _ _ s;rw[if_pos (by simp)];show p_ _ _ (Ms (.ref t) >>= _) _ _ s;unfold Ms;refine c_ (c_ (MZ ht.typeIs (i_ ?_)));rw[if_pos (by decide)];refine c_ (NM ?_);show p_ _ _ (ret (.ref t)) _ _ s;exact i_ ⟨_,rfl,i_ h⟩
end
def uJ(K:W.Frag):V->Option Int->Option Int->Hp->VK->Prop:=fun x lo hi H Q=>∃a xs,x=.ref a/\cr K H a xs/\(sIx xs.length 0 lo=0/\sIx xs.length xs.length hi=xs.length)/\Q (.ref a) H
theorem GM{X:Cx}:iU X (uJ X.K):=by
 intro pz s σ H x v vl vu lo hi sl Q I rx hs pl pu h;obtain⟨a,xs,rfl,hx,hw,q⟩:=h;cases rx;obtain⟨its,r,ht,hz⟩:=I.tuple hx;have hlen:its.toArray.size=xs.length:=by rw[o_];exact r.length.symm
 exact⟨"tuple",_,Jy.lookup,ht.typeIs,IA ht hs pl pu (by rw[hlen];exact hw) ⟨.ref a,H,I,rfl,q⟩⟩
def pX(d:D)(lo hi:Option Int):Option D:=match d with
|.tup ds=>some (.tup (bf ds lo hi))
|.lst ds=>some (.lst (bf ds lo hi))
|_=>none
def dz(fa:FE)(fl fh:FP):FE:=fun r=>(fa r).bind fun d=>(fl r).bind fun lo=>(fh r).bind fun hi=>cn (pX d lo hi)
section
variable{X:Cx}{g:GE}{m:List Md}{e:Expr}{f fa:FE}{pos p2:Pos}
theorem Fd{R:V->Option Int->Option Int->Hp->Prop}{fl fh:FP}{r:ah}{G:GH}{σ:L2.St}{H:Hp}{q:D->Prop}(si:SI X g m r G σ H)(h:fin (dz fa fl fh r) q (XW X σ G H))(hk:∀d lo hi v G2 H2 d',Grow X.K G H G2 H2->RB X.K G2 H2 v d->pX d lo hi=some d'->q d'->R v lo hi H2):tB X g m fa σ H fun x H1=>tP X g m fl σ H1 fun l H2=>tP X g m fh σ H2 fun u H3=>R x l u H3:=by refine⟨r,G,si,bh (bu h) fun d h1 v G1 H1 w1 r1=>⟨r,G1,si.grow w1,g6 (bu h1) w1 fun lo h2 G2 H2 w2=>⟨r,G2,(si.grow w1).grow w2,?_⟩⟩⟩;refine g6 (bu h2) (w1.trans w2) fun hi h3 G3 H3 w3=>?_;obtain⟨d',e,h4⟩:=dc h3;exact hk d lo hi v G3 H3 d' ((w1.trans w2).trans w3) ((r1.mono w2).mono w3) e h4
theorem Gx{α:Type}{ds:List α}{lo hi:Option Int}(h:sIx ds.length 0 lo=0/\sIx ds.length ds.length hi=ds.length):bf ds lo hi=ds:=by unfold bf;rw[h.1,h.2];simp
theorem qt{lo hi:Option Expr}{fl fh:FP}(he:SB X g m e f)(hl:lO X g m lo fl)(hu:lO X g m hi fh):SE X g m (.Subscript e (.Slice lo hi none p2) pos) (dz f fl fh):=by refine PE.imp (zg (iU.or GM (iU.or yD DB)) he hl hu) fun σ H Q ⟨r,G,si,q⟩=>?_;refine Fd si q fun d lo hi v G2 H2 d' w r1 e q2=>?_;cases d with
|tup ds=>
  cases e;rcases r1 with r1|⟨a',_,oo⟩
  .obtain⟨a,xs,rfl,s,r⟩:=r1.tup w.ok;by_cases hw:sIx ds.length 0 lo=0/\sIx ds.length ds.length hi=ds.length
   .refine .inl ⟨a,xs,rfl,s,by rw[Paired.length r];exact hw,?_⟩;rw[Gx hw]at q2;exact q2 _ G2 H2 w r1
   .rw[<-Paired.length r]at hw;refine .inr (.inr ⟨a,xs,rfl,s,hw,fun p hp=>?_⟩);exact q2 _ _ _ (w.trans (Grow.newF w.ok hp (.tup (.inl bJ) (qj r lo hi)))) (.ref cQ)
  .cases oo.ob
|lst ds=>cases e;obtain⟨a,xs,rfl,s,r⟩:=r1.lst w.ok;exact .inr (.inl ⟨a,xs,rfl,s,fun p hp=>q2 _ _ _ (w.trans (Grow.newF w.ok hp (.lst (.inl bJ) (qj r lo hi)))) (.ref cQ)⟩)
|_=>cases e
end
end
def kL:Nat:=2^2000
def kT(i j:Int):Prop:=i.natAbs<kL/\j.natAbs<kL
def nT(_i j:Int):Prop:=0<j/\j.natAbs<kL
instance decMulW(i j:Int):Decidable (kT i j):=by unfold kT;infer_instance
instance decDivW(i j:Int):Decidable (nT i j):=by unfold nT;infer_instance
theorem yx{i:Int}(h:i.natAbs<kL):Li i<=2000:=by
 unfold Li;split
 .exact JK _
 .rename_i z;have h0:i.natAbs≠0:=fun e=>z (by rw[Int.natAbs_eq_zero.mp e];rfl);have:=(PV h0).mpr h;omega
theorem kT.ok{i j:Int}(h:kT i j):IntMulOk i j:=by
 have h1:=yx h.1;have h2:=yx h.2;unfold IntMulOk;have e:Nj ((Li i:Int)+(Li j:Int))=false:=by
  unfold Nj;have:((bitsLine:Nat):Int)=134217728:=by decide+kernel
  exact decide_eq_false (by omega)
 rw[e];simp
theorem EA:bZ X (Kr .Mult) (rI kT fun i j=>.int (i*j)):=lK fun _ _ _ _ _ _ _ hc q=>mul_int q hc.ok
theorem Ft:bZ X (Kr .FloorDiv) (rI nT fun i j=>.int (i/j)):=lK fun i j _ _ _ _ _ hc q=>by
 have h1:(0:Int)<j:=hc.1;have h2:j.natAbs<kL:=hc.2;have h0:j.natAbs≠0:=by omega
 have:=(PV h0).mpr h2;exact floordiv_int (by omega) (by rw[Ml i (by omega)];exact q) (.inl (PyProof.noPylong_of_log2 (by omega)))
abbrev dy:D->D->Option D:=iF kT fun a b=>.int (a*b)
abbrev jW:D->D->Option D:=iF nT fun a b=>.int (a/b)
section
variable{X:Cx}{g:GE}{m:List Md}{e a b c o:Expr}{es:List Expr}{f fa fb fc fo:FE}{fl:ah->Res (List D)}{pos p apos cpos:Pos}
theorem jG(ha:SB X g m a fa)(hb:SB X g m b fb):SE X g m (.BinOp a .Mult b pos) (f2 fa fb dy):=jz EA (lh fun _ _=>.int _) ha hb
theorem oR(ha:SB X g m a fa)(hb:SB X g m b fb):SE X g m (.BinOp a .FloorDiv b pos) (f2 fa fb jW):=jz Ft (lh fun _ _=>.int _) ha hb
def absD:List D->Option D
|[.int i]=>some (.int (if i<0 then-i else i))
|_=>none
theorem B4{K:W.Frag}:jw K (fun xs H Q=>∃i:Int,xs=[.int i]/\Q (.int (if i<0 then-i else i)) H) absD:=by
 intro G H vs ds d Q gk rs e q;unfold absD at e;split at e
 .cases e;cases rs with
 |cons r1 t=>cases t;exact⟨_,by rw[r1.int gk],q _ G H (Grow.refl gk) (.scl (.int _))⟩
 .cases e
theorem wS(hg:Gl X "abs")(hm:X.mg "abs" = none)(ha:hW X g m (e::es) fl)(he:g_ (e::es) X.env=(false,eval e X.env)::g_ es X.env:=by rfl)(hpl:(backTo pos (g_ es X.env)).any (·.1)=false:=by rfl):SE X g m (.Call (.Name "abs" p) (e::es) [] pos) (fC fl absD):=fN B4 (je Gk hg hm PyProof.Rows.boot_abs ha (by decide) (by decide) he hpl)
theorem oS{x:Str}{d:D}(hg:Gl X x)(hk:∃a,X.mg x=some (.ref a)/\KC X.K a d)(hd:(x==("__debug__" : Str))=false:=by decide):SE X g m (.Name x pos) fun _=>.ok d:=by obtain⟨a,hm,k⟩:=hk;exact PE.imp (rJ (v:=.ref a) hg hm rfl hd) fun σ H Q ⟨r,G,si,q⟩=>q (.ref a) G H (Grow.refl si.gok) (.kc k)
theorem Eh{x:Str}{i:Int}(hg:Gl X x)(hk:∃t,X.mg x=some (.int i t))(hd:(x==("__debug__" : Str))=false:=by decide):SE X g m (.Name x pos) fun _=>.ok (.int i):=by obtain⟨t,hm⟩:=hk;exact DY (v:=.int i) hg hm ⟨t,rfl⟩ (.int i) hd
theorem Be{K:W.Frag}{h:Heap}{mg:Str->Option b_}{x:Str}(KX:K.In h)(G:h.Ns Jt mg){i:Int}{t:Tok}(z:W.nsIn K Jt x=some (some (.int i t))):∃t,mg x=some (.int i t):=⟨t,W.mg_of KX G z⟩
theorem vM{K:W.Frag}{h:Heap}{mg:Str->Option b_}{x:Str}(KX:K.In h)(G:h.Ns Jt mg){a:Addr}{i j:Int}{t u:Tok}{n:Nat}{sl:Array (Option b_)}(z:W.nsIn K Jt x=some (some (.ref a)))(l:K.lookup a=some ⟨.type "tuple",none,.seq #[.int i t,.int j u] n,sl⟩):∃a,mg x=some (.ref a)/\KC K a (.tup [.int i,.int j]):=by refine⟨a,W.mg_of KX G z,.tup (xs:=[.int i,.int j]) (.inr ⟨_,_,_,l,rfl,rfl,?_,.cons ⟨_,rfl⟩ (.cons ⟨_,rfl⟩ .nil)⟩) (.cons (.int _) (.cons (.int _) .nil)) ⟨_,l,rfl,rfl⟩⟩;show 2<=sizeLine;rw[Jz];decide
end
section
variable{X:Cx}{g:GE}{m m' m1 mb:List Md}{tg e a b c iter:Expr}{f fa fb:FE}{p:FQ}{pos pos':Pos}{ro:Bool}{fl:ah->Res (List D)}{sts:List Stmt}{s1:FS}
def jq(g:GE)(a:Addr)(d:D)(u:HO):GE:=⟨gset g.gh a d,upd g.h0 a u,g.hd⟩
theorem SI.up{r:ah}{G:GH}{st:L2.St}{H:Hp}{a:Addr}{d:D}{u:HO}(s:SI X g m r G st H)(hG:G a=some d)(hH:H a=some u):SI X (jq g a d u) m r G st H where
 gok:=s.gok
 old:=fun b o e=>by
  by_cases hb:b=a
  .subst hb;have e':upd g.h0 b u b=some o:=e;rw[bJ]at e';cases e';exact hH
  .have e':upd g.h0 a u b=some o:=e;rw[aK hb]at e';exact s.old b o e'
 ge:=fun b x e=>by
  by_cases hb:b=a
  .subst hb;have e':gset g.gh b d b=some x:=e;rw[cQ]at e';cases e';exact hG
  .have e':gset g.gh a d b=some x:=e;rw[cR hb]at e';exact s.ge b x e'
 gf:=fun b h=>by
  show G b=gset g.gh a d b;by_cases hb:b=a
  .subst hb;rw[cQ];exact hG
  .rw[cR hb];exact s.gf b fun z=>h (show upd g.h0 a u b=none by rw[aK hb];exact z)
 lm:=s.lm
 lr:=s.lr
 sh:=s.sh
 ow:=fun i x h1 h2=>by
  obtain⟨c,q1,q2,q3⟩:=s.ow i x h1 h2;refine⟨c,q1,q2,?_⟩;have hc:c≠a:=by rintro rfl;rw[q2.un]at hG;cases hG
  show upd g.h0 a u c=none;rw[aK hc];exact q3
 bw:=fun i x h1 h2=>by
  obtain⟨v,q1,q2⟩:=s.bw i x h1 h2;refine⟨v,q1,?_⟩;rcases q2 with q2|⟨c,e,q2,q3⟩
  .exact .inl q2
  .refine .inr ⟨c,e,q2,?_⟩;have hc:c≠a:=by rintro rfl;rw[q2.un]at hG;cases hG
   show upd g.h0 a u c≠none;rw[aK hc];exact q3
 dis:=s.dis
 lk:=s.lk
structure Had(g:GE)(a:Addr)(d:D)(u:HO):Prop where
 h0:∀o,g.h0 a=some o->o=u
 gh:∀x,g.gh a=some x->x=d
 gf:g.h0 a≠none->g.gh a=some d
theorem SI.had{r:ah}{G:GH}{st:L2.St}{H:Hp}{a:Addr}{d:D}{u:HO}(s:SI X g m r G st H)(hG:G a=some d)(hH:H a=some u):Had g a d u:=⟨fun o e=>by have:=s.old a o e;rw[hH]at this;cases this;rfl,fun x e=>by have:=s.ge a x e;rw[hG]at this;cases this;rfl,fun h=>by rw[<-s.gf a h];exact hG⟩
theorem SI.down{r:ah}{G:GH}{st:L2.St}{H:Hp}{a:Addr}{d:D}{u:HO}(hd:Had g a d u)(s:SI X (jq g a d u) m r G st H):SI X g m r G st H:=by
 have hH:H a=some u:=s.old a u bJ;have hG:G a=some d:=s.ge a d cQ;exact{
  gok:=s.gok
  old:=fun b o e=>by
   by_cases hb:b=a
   .subst hb;rw[hd.h0 o e];exact hH
   .exact s.old b o (show upd g.h0 a u b=some o by rw[aK hb];exact e)
  ge:=fun b x e=>by
   by_cases hb:b=a
   .subst hb;rw[hd.gh x e];exact hG
   .exact s.ge b x (show gset g.gh a d b=some x by rw[cR hb];exact e)
  gf:=fun b h=>by
   by_cases hb:b=a
   .subst hb;rw[hG,hd.gf h]
   .have:=s.gf b (show upd g.h0 a u b≠none by rw[aK hb];exact h);rw[this];exact cR hb
  lm:=s.lm
  lr:=s.lr
  sh:=s.sh
  ow:=fun i x h1 h2=>by
   obtain⟨c,q1,q2,q3⟩:=s.ow i x h1 h2;have hc:c≠a:=by rintro rfl;rw[q2.un]at hG;cases hG
   refine⟨c,q1,q2,?_⟩;have q3':upd g.h0 a u c=none:=q3;rw[aK hc]at q3';exact q3'
  bw:=fun i x h1 h2=>by
   obtain⟨v,q1,q2⟩:=s.bw i x h1 h2;refine⟨v,q1,?_⟩;rcases q2 with q2|⟨c,e,q2,q3⟩
   .exact .inl q2
   .have hc:c≠a:=by rintro rfl;rw[q2.un]at hG;cases hG
    refine .inr ⟨c,e,q2,?_⟩;have q3':upd g.h0 a u c≠none:=q3;rw[aK hc]at q3';exact q3'
  dis:=s.dis
  lk:=s.lk }
theorem Grow.down{K:W.Frag}{G':GH}{H':Hp}{a:Addr}{d:D}{u:HO}(hd:Had g a d u)(w:Grow K (jq g a d u).gh (jq g a d u).h0 G' H'):Grow K g.gh g.h0 G' H':=
 ⟨w.ok,fun b o e=>by
  by_cases hb:b=a
  .subst hb;rw[hd.h0 o e];exact w.he b u bJ
  .exact w.he b o (show upd g.h0 a u b=some o by rw[aK hb];exact e),fun b x e=>by
  by_cases hb:b=a
  .subst hb;rw[hd.gh x e];exact w.ge b d cQ
  .exact w.ge b x (show gset g.gh a d b=some x by rw[cR hb];exact e),fun b h=>by
  by_cases hb:b=a
  .subst hb;rw[hd.gf h];exact w.ge b d cQ
  .have:=w.gf b (show upd g.h0 a u b≠none by rw[aK hb];exact h);rw[this];exact cR hb⟩
def ij:D->D->Option D
|.lst ds,.int k=>if-(2^62)<=k/\k<2^62/\ds.length*k.toNat<=sizeLine then some (.lst ((t_ k.toNat ds).flatten))else none
|_,_=>none
theorem wG{K:W.Frag}{G:GH}{xs:List V}{ds:List D}(r:b7 K G xs ds):∀n:Nat,b7 K G (t_ n xs).flatten (t_ n ds).flatten
|0=>.nil
|n+1=>by rw[JN,JN,Kf,Kf];exact DL.Paired.app r (wG r n)
theorem A6(ha:SO X g m a fa)(hb:SB X g m b fb):SO X g m (.BinOp a .Mult b pos) (f2 fa fb ij):=by
 refine PE.imp (qw Cj ha hb) fun σ H Q ⟨r,G,si,q⟩=>⟨r,G,si,bh (bu q) fun d1 q1 p1 G1 H1 w1 hn1 o1=>⟨r,G1,si.grow w1,g6 (bu q1) w1 fun d2 q2 v2 G2 H2 w2 r2=>?_⟩⟩
 obtain⟨d,e,q3⟩:=dc q2;have o2:=o1.mono w2;unfold ij at e;split at e
 .split at e
  .rename_i ds k hk;cases e;cases o2.ob with
  |@lst xs _ hx rs=>have hl:=Paired.length rs;refine⟨p1,k,xs,rfl,r2.int w2.ok,hx,by omega,by omega,by rw[hl];exact hk.2.2,fun p hp=>?_⟩;have w3:=Grow.new w2.ok hp (.lst (t_ k.toNat xs).flatten);refine q3 p G2 _ ((w1.trans w2).trans w3) ?_ ⟨w2.ok.isN hp,.lst bJ (wG rs _)⟩;cases e:H p with
   |none=>rfl
   |some o=>rw[(w1.trans w2).he _ _ e]at hp;cases hp
  .cases e
 .cases e
end
section
variable{X:Cx}{g:GE}{m:List Md}{e o:Expr}{es:List Expr}{fo:FE}{fl:ah->Res (List D)}{pos p pos':Pos}
theorem Gu(hc:X.calm=true):dZ X (.builtin "sum") (fun xs H Q=>∃(p:Addr)(ks:List Int),xs=[.ref p]/\bb X.K H p (ks.map V.int)/\Q (.int ks.sum) H):=by intro pz s σ H xs us Q I r h;obtain⟨p,ks,rfl,hq,q⟩:=h;obtain⟨u,rfl,rx⟩:=jB r;cases rx;obtain⟨its,rv,pl,hz⟩:=I.list hq;obtain⟨mF,F⟩:=I.fr;exact Pa F (zd (g:=X.base) (h:=s.heap) (L:=X.env.locals)) (I.ok.hd hc) pl.isList (HE rv) fun h' tk t' F' N'=>⟨.int ks.sum,_,Inv.keptF I F F' N' tk,⟨_,rfl⟩,q⟩
def sumD:List D->Option D
|[.lst ds]=>(jb ds).map fun ks=>.int ks.sum
|_=>none
theorem DF{K:W.Frag}:jw K (fun xs H Q=>∃(p:Addr)(ks:List Int),xs=[.ref p]/\bb K H p (ks.map V.int)/\Q (.int ks.sum) H) sumD:=by
 intro G H vs ds d Q gk rs e q;unfold sumD at e;split at e
 .rename_i zs;cases ek:jb zs with
 |none=>rw[ek]at e;cases e
 |some ks=>rw[ek]at e;cases e;cases rs with
  |cons r1 t=>cases t;obtain⟨b,xs,rfl,s,r⟩:=r1.lst gk;have ex:=Gh gk r ek;subst ex;exact⟨b,ks,rfl,s,q _ G H (Grow.refl gk) (.scl (.int _))⟩
 .cases e
theorem BI(hc:X.calm=true)(hg:Gl X "sum")(hm:X.mg "sum" = none)(ha:hW X g m (e::es) fl)(he:g_ (e::es) X.env=(false,eval e X.env)::g_ es X.env:=by rfl)(hpl:(backTo pos (g_ es X.env)).any (·.1)=false:=by rfl):SE X g m (.Call (.Name "sum" p) (e::es) [] pos) (fC fl sumD):=fN DF (je (Gu hc) hg hm PyProof.Rows.boot_sum ha (by decide) (by decide) he hpl)
end
def b6(g:GE)(H:Hp)(fp:List Addr)(i:Nat)(p:Addr):GE:=⟨g.gh,fun b=>if b∈fp then H b else g.h0 b,fun j=>if j=i then some (some (V.ref p),none)else g.hd j⟩
theorem rW{g:GE}{H H':Hp}{fp:List Addr}{i:Nat}{p:Addr}(h:∀b∈fp,H' b=H b):b6 g H' fp i p=b6 g H fp i p:=by
 unfold b6;congr 1;funext b;by_cases hb:b∈fp
 .rw[if_pos hb,if_pos hb,h b hb]
 .rw[if_neg hb,if_neg hb]
def gM(K:W.Frag)(G:GH)(H:Hp)(b:Addr)(ds:List D):Prop:=∃xs,H b=some (.lst xs)/\b7 K G xs ds
structure LRw(K:W.Frag)(G:GH)(H:Hp)(p:Addr)(as:List Addr)(w:List (List D)):Prop where
 out:H p=some (.lst (as.map V.ref))
 nd:(p::as).Nodup
 un:∀b∈p::as,G b=none
 rw:Paired (gM K G H) as w
theorem gM.mono{K:W.Frag}{G G':GH}{H H':Hp}{b:Addr}{ds:List D}(h:gM K G H b ds)(ge:aG G G')(he:H' b=H b):gM K G' H' b ds:=by obtain⟨xs,h1,h2⟩:=h;exact⟨xs,by rw[he];exact h1,h2.mono ge⟩
theorem o7{α β:Type}{F F':α->β->Prop}{l:List α}{r:List β}(h:Paired F l r)(f:∀a∈l,∀b,F a b->F' a b):Paired F' l r:=by induction h with
|nil=>exact .nil
|cons h _ ih=>exact .cons (f _ k_ _ h) (ih fun a ha=>f a (h_ _ ha))
theorem LRw.isS{K:W.Frag}{G:GH}{H:Hp}{p:Addr}{as:List Addr}{w:List (List D)}(h:LRw K G H p as w){b:Addr}(hb:b∈p::as):H b≠none:=by
 rcases C_.mp hb with rfl|hb
 .rw[h.out];simp
 .have:∀{as:List Addr}{w:List (List D)},Paired (gM K G H) as w->b∈as->H b≠none:=fun{as w} q hb=>by induction q with
  |nil=>cases hb
  |cons r _ ih=>
    rcases C_.mp hb with rfl|hb
    .obtain⟨xs,e,_⟩:=r;rw[e];simp
    .exact ih hb
  exact this h.rw hb
theorem LRw.mono{K:W.Frag}{G G':GH}{H H':Hp}{p:Addr}{as:List Addr}{w:List (List D)}(h:LRw K G H p as w)(ge:aG G G')(he:∀b∈p::as,H' b=H b)(un:∀b∈p::as,G' b=none):LRw K G' H' p as w:=⟨by rw[he p k_];exact h.out,h.nd,un,o7 h.rw fun b hb ds r=>r.mono ge (he b (h_ _ hb))⟩
def dI(X:Cx)(g:GE)(i:Nat)(m:List Md)(r:ah)(w:List (List D))(G:GH)(st:L2.St)(H:Hp):Prop:=∃p as,LRw X.K G H p as w/\(∀b∈p::as,g.h0 b=none)/\SI X (b6 g H (p::as) i p) m r G st H/\m[i]? = some .bw
section
variable{X:Cx}{g:GE}{i:Nat}{m m' m1:List Md}{r r':ah}{w:List (List D)}{G G':GH}{σ σ':L2.St}{H H':Hp}
theorem ka{p:Addr}{as:List Addr}(R:LRw X.K G H p as w)(h0:∀b∈p::as,g.h0 b=none)(si:SI X (b6 g H (p::as) i p) m r G σ H)(le:aG G G')(si':SI X (b6 g H (p::as) i p) m' r' G' σ' H')(hm:m'[i]? = some .bw):dI X g i m' r' w G' σ' H':=by
 have he:∀b∈p::as,H' b=H b:=fun b hb=>by have hs:=R.isS hb;cases e:H b with
 |none=>exact absurd e hs
 |some o=>
   have:(b6 g H (p::as) i p).h0 b=some o:=by show(if b∈p::as then H b else g.h0 b)=_;rw[if_pos hb];exact e
   rw[si'.old b o this]
 have un:∀b∈p::as,G' b=none:=fun b hb=>by
  have h:(b6 g H (p::as) i p).h0 b≠none:=by show(if b∈p::as then H b else g.h0 b)≠_;rw[if_pos hb];exact R.isS hb
  have e1:=si'.gf b h;have e2:=si.gf b h;rw[e1,<-e2];exact R.un b hb
 exact⟨p,as,R.mono le he un,h0,by rw[rW he];exact si',hm⟩
abbrev cZ:=ah->List (List D)->Option (ah×List (List D))
def Ay(X:Cx)(g:GE)(i:Nat)(m m':List Md)(f:cZ):TS:=fun D σ H=>∃r w G,dI X g i m r w G σ H/\∃r' w',f r w=some (r',w')/\∀σ' G' H',aG G G'->dI X g i m' r' w' G' σ' H'->D.nx σ' H'
def hV(X:Cx)(g:GE)(i:Nat)(m:List Md)(st:Stmt)(f:cZ)(m':List Md):Prop:=PS X st (Ay X g i m m' f)
def fV(X:Cx)(g:GE)(i:Nat)(m:List Md)(st:List Stmt)(f:cZ)(m':List Md):Prop:=bx X st (Ay X g i m m' f)
variable{st:Stmt}{sts:List Stmt}{ro:Bool}{mb:List Md}{s1:FS}{f1 f2:cZ}{tg iter:Expr}{pos:Pos}
def cY(f:FS):cZ:=fun r w=>match f r with
|.nx r'=>some (r',w)
|_=>none
theorem j2(h:∀g',SS X g' ro mb m st s1 m')(hm:m'[i]? = some .bw):hV X g i m st (cY s1) m':=by
 have hA:PS X st (fun D σ H=>∃g',tS X g' ro m m' mb s1 D σ H):=fun pz s σ H D I ⟨g',q⟩=>(h g').2 pz s σ H D I q;refine PS.imp hA fun D σ H ⟨r,w,G,⟨p,as,R,h0,si,_⟩,r',w',e,k⟩=>⟨_,r,G,si,?_⟩
 unfold cY at e;cases q:s1 r with
|nx r1=>rw[q]at e;cases e;exact fun σ' G' H' le si'=>k σ' G' H' le (ka R h0 si le si' hm)
|_=>rw[q]at e;cases e
def iI(f1 f2:cZ):cZ:=fun r w=>(f1 r w).bind fun p=>f2 p.1 p.2
theorem yE:fV X g i m [] (fun r w=>some (r,w)) m:=bx.imp oO fun D σ H ⟨r,w,G,si,r',w',e,k⟩=>by cases e;exact k σ G H (aG.refl G) si
theorem rP(h1:hV X g i m st f1 m1)(h2:fV X g i m1 sts f2 m'):fV X g i m (st::sts) (iI f1 f2) m':=by
 refine bx.imp (ib h1 h2) fun D σ H ⟨r,w,G,si,r',w',e,k⟩=>⟨r,w,G,si,?_⟩
 unfold iI at e;cases q:f1 r w with
|none=>rw[q]at e;cases e
|some z=>rw[q]at e;exact⟨z.1,z.2,rfl,fun σ' G' H' le si'=>⟨z.1,z.2,G',si',r',w',e,fun σ2 G2 H2 le2 si2=>k σ2 G2 H2 (le.trans le2) si2⟩⟩
def hX(ft:FT)(body:cZ):List D->cZ
|[],r,w=>some (r,w)
|d::ds,r,w=>(ft d r).bind fun r1=>(body r1 w).bind fun p=>hX ft body ds p.1 p.2
def ma(fi:FI)(ft:FT)(body:cZ):cZ:=fun r w=>match fi r with
|.ok ds=>hX ft body ds r w
|_=>none
theorem DS(hp:Mh (y_ X.prog X.w) X.A X.env X.xe)(hc:X.calm=true){ft:FT}{fi:FI}(hi:∀g',iV X g' m tg iter fi)(hg:∀g',SG X g' m tg ft m)(hb:fV X g i m sts f1 m)(hm:m[i]? = some .bw)(hs:∀x,Ke iter X.env x=pure x:=by intro _;rfl):hV X g i m (.For tg iter sts [] pos) (ma fi ft f1) m:=by
 have hiA:PI X tg iter (fun σ H R=>∃g',tI X g' m fi σ H R):=fun pz s σ H R I ⟨g',q⟩=>hi g' pz s σ H R I q;have hgA:PG X tg (fun v σ H Q=>∃g',tG X g' m m ft v σ H Q):=fun pz s σ H v u Q I r ⟨g',q⟩=>(hg g').2 pz s σ H v u Q I r q;refine PS.imp (oG hp hc hiA hgA hb hs) fun D σ H ⟨r,w,G,⟨p,as,R,h0,si,_⟩,r',w',e,k⟩=>⟨_,r,G,si,?_⟩
 unfold ma at e;cases q:fi r with
|exc x=>rw[q]at e;cases e
|stuck=>rw[q]at e;cases e
|ok ds=>
  rw[q]at e;intro J G0 H0 w0 Y;refine⟨fun j n σ1 H1=>∃r1 w1 G1,dI X g i m r1 w1 G1 σ1 H1/\aG G0 G1/\j<=ds.length/\n=ds.length-j/\hX ft f1 (ds.drop j) r1 w1=some (r',w'),⟨ds.length,r,w,G0,ka R h0 si w0.ge (si.grow w0) hm,aG.refl _,JK _,rfl,e⟩,?_⟩
  rintro j n σ1 H1 ⟨r1,w1,G1,S1,le1,hj,rfl,e1⟩
  have S1':=S1;obtain⟨p1,as1,R1,h01,si1,_⟩:=S1';by_cases hlt:j<ds.length
  .have hd:ds.drop j=ds[j]::ds.drop (j+1):=Kb hlt;rw[hd]at e1;unfold hX at e1;refine .inr ⟨Y.go G1 H1 j le1 si1.gok hlt,fun σ' H'=>∃r2 w2 G2,dI X g i m r2 w2 G2 σ' H'/\aG G0 G2/\hX ft f1 (ds.drop (j+1)) r2 w2=some (r',w'),fun σ' H' ⟨r2,w2,G2,S2,le2,q2⟩=>⟨ds.length-(j+1),by omega,r2,w2,G2,S2,le2,hlt,rfl,q2⟩,fun x H' y=>?_⟩;obtain⟨G',wg,rv⟩:=Y.yld G1 H1 j x H' ds[j] le1 si1.gok y (m_ hlt);cases eft:ft ds[j] r1 with
  |none=>rw[eft]at e1;cases e1
  |some r2=>rw[eft]at e1;simp only[Kq]at e1;cases eb:f1 r2 w1 with
   |none=>rw[eb]at e1;cases e1
   |some z=>rw[eb]at e1;refine⟨_,r1,G',ds[j],si1.grow wg,rv,r2,eft,fun σ2 si2=>⟨r2,w1,G',ka R1 h01 si1 wg.ge si2 hm,z.1,z.2,eb,fun σ3 G3 H3 le3 S3=>⟨z.1,z.2,G3,S3,(le1.trans wg.ge).trans le3,e1⟩⟩⟩
  .have ej:j=ds.length:=by omega
   subst ej;rw[La]at e1;cases e1;exact .inl ⟨Y.stop G1 H1 le1 si1.gok,k σ1 G1 H1 (aG.trans w0.ge le1) S1⟩
theorem rD{K:W.Frag}{H:Hp}:∀{as:List Addr}{w:List (List D)}{G:GH},aN K G H->Paired (gM K G H) as w->as.Nodup->(∀b∈as,G b=none)->∃G',aG G G'/\(∀b,b∉as->G' b=G b)/\aN K G' H/\Paired (fun b ds=>G' b=some (.lst ds)) as w:=by
 intro as
 induction as with
|nil=>intro w G gk h _ _;cases h;exact⟨G,aG.refl G,fun _ _=>rfl,gk,.nil⟩
|cons b as ih=>intro w G gk h nd un;cases h with
 |@cons _ ds _ w r t=>
   rw[JC]at nd;have hb:=un b k_;obtain⟨xs,e,rs⟩:=r;have g1:aN K (gset G b (.lst ds)) H:=gk.gset hb (.lst (.inl e) rs);obtain⟨G',l,o,g,q⟩:=ih g1 (o7 t fun c hc ds r=>r.mono (dW hb) rfl) nd.2 fun c hc=>by rw[cR (by rintro rfl;exact nd.1 hc)];exact un c (h_ _ hc)
   refine⟨G',aG.trans (dW hb) l,fun c hc=>?_,g,.cons (l _ _ cQ) q⟩;rw[o c fun z=>hc (h_ _ z),cR (by rintro rfl;exact hc k_)]
theorem zR{G:GH}{as:List Addr}{w:List (List D)}{b:Addr}(hb:b∈as)(q:Paired (fun b ds=>G b=some (.lst ds)) as w):∃ds,G b=some (.lst ds):=by induction q with
|nil=>cases hb
|cons h _ ih=>
  rcases C_.mp hb with rfl|hb
  .exact⟨_,h⟩
  .exact ih hb
theorem rX{fp:List Addr}{p:Addr}{d0:D}(si:SI X (b6 g H fp i p) m r G σ H)(hm:m[i]? = some .bw)(h0:∀b∈fp,g.h0 b=none)(hS:∀b∈fp,H b≠none)(hb:∀j,j≠i->m[j]?≠some .bw)(le:aG G G')(g2:aN X.K G' H)(out:∀b,b∉fp->G' b=G b)(hd:G' p=some d0):SI X g (m.set i .sh) (r.set i (some d0)) G' σ H:=by
 have hlt:i<m.length:=(f_.mp hm).1;have hst:σ[i]? = some (some (V.ref p)):=(si.lk i (some (V.ref p),none) (by show(if i=i then _ else _)=_;rw[if_pos rfl]) hm).1;have h0':∀b,b∉fp->(b6 g H (fp) i p).h0 b=g.h0 b:=fun b hb=>by show(if b∈fp then H b else g.h0 b)=_;rw[if_neg hb]
 have h0i:∀b,b∈fp->(b6 g H (fp) i p).h0 b≠none:=fun b hb=>by show(if b∈fp then H b else g.h0 b)≠_;rw[if_pos hb];exact hS b hb
 have nin:∀b,g.h0 b≠none->b∉fp:=fun b h z=>h (h0 b z);have mne:∀{j x},i≠j->(m.set i .sh)[j]? = some x->m[j]? = some x:=fun hij h=>by rw[a_ hij]at h;exact h
 refine⟨g2,fun a o e=>?_,fun a d e=>le a d (si.ge a d e),fun a h=>?_,by simpa using si.lm,by simpa using si.lr,fun j d h1 h2=>?_,fun j d h1 h2=>?_,fun j d h1 h2=>?_,fun j k a d e hjk h1 h2 m1 m2 z1 z2=>?_,fun j o hj hm'=>?_⟩
 .exact si.old a o (by rw[h0' a (nin a (by rw[e];simp))];exact e)
 .have hn:=nin a h;rw[out a hn];exact si.gf a (by rw[h0' a hn];exact h)
 .by_cases hij:i=j
  .subst hij;rw[d_ (by rw[si.lr,<-si.lm];exact hlt)]at h1;cases h1;exact⟨_,hst,.ref hd⟩
  .rw[a_ hij]at h1;obtain⟨v,y1,y2⟩:=si.sh j d h1 (mne hij h2);exact⟨v,y1,y2.mono le⟩
 .by_cases hij:i=j
  .subst hij;rw[d_ hlt]at h2;cases h2
  .rw[a_ hij]at h1;obtain⟨a,y1,y2,y3⟩:=si.ow j d h1 (mne hij h2);have hn:a∉fp:=fun z=>h0i a z y3;exact⟨a,y1,⟨by rw[out a hn];exact y2.un,y2.ob.mono le fun _ z=>z⟩,by rw[<-h0' a hn];exact y3⟩
 .by_cases hij:i=j
  .subst hij;rw[d_ hlt]at h2;cases h2
  .exact absurd (mne hij h2) (hb j (JX hij))
 .have hij:i≠j:=by rintro rfl;rw[d_ hlt]at m1;cases m1
  have hik:i≠k:=by rintro rfl;rw[d_ hlt]at m2;cases m2
  rw[a_ hij]at h1;rw[a_ hik]at h2;exact si.dis j k a d e hjk h1 h2 (mne hij m1) (mne hik m2) z1 z2
 .by_cases hij:i=j
  .subst hij;rw[d_ hlt]at hm';cases hm'
  .exact absurd (mne hij hm') (hb j (JX hij))
theorem dI.frz(s:dI X g i m r w G σ H)(hb:∀j,j≠i->m[j]?≠some .bw):∃G',aG G G'/\(∀b d,G b=none->G' b=some d->∃ds,d=.lst ds)/\SI X g (m.set i .sh) (r.set i (some (.lst (w.map D.lst)))) G' σ H:=by
 obtain⟨p,as,R,h0,si,hm⟩:=s;have nd:=JC.mp R.nd;obtain⟨G1,l1,o1,g1,q1⟩:=rD si.gok R.rw nd.2 fun b hb=>R.un b (h_ _ hb);have hp1:G1 p=none:=by rw[o1 p nd.1];exact R.un p k_
 have rs:b7 X.K G1 (as.map V.ref) (w.map D.lst):=by
  have:∀{as:List Addr}{w:List (List D)},Paired (fun b ds=>G1 b=some (.lst ds)) as w->b7 X.K G1 (as.map V.ref) (w.map D.lst):=fun{as w} q=>by induction q with
  |nil=>exact .nil
  |cons h _ ih=>exact .cons (.ref h) ih
  exact this q1
 have g2:aN X.K (gset G1 p (.lst (w.map D.lst))) H:=g1.gset hp1 (.lst (.inl R.out) rs);have le:aG G (gset G1 p (.lst (w.map D.lst))):=aG.trans l1 (dW hp1);have out:∀b,b∉p::as->gset G1 p (.lst (w.map D.lst)) b=G b:=fun b hb=>by rw[cR (by rintro rfl;exact hb k_),o1 b fun z=>hb (h_ _ z)]
 refine⟨_,le,fun b d hn e=>?_,rX si hm h0 (fun b hb=>R.isS hb) hb le g2 out cQ⟩;by_cases hbp:b=p
 .subst hbp;rw[cQ]at e;cases e;exact⟨_,rfl⟩
 .rw[cR hbp]at e;by_cases hba:b∈as
  .obtain⟨ds,e1⟩:=zR hba q1;rw[e1]at e;cases e;exact⟨_,rfl⟩
  .rw[o1 b hba,hn]at e;cases e
theorem SI.hold(s:SI X g m r G σ H)(wg:Grow X.K G H G' H')(hlt:i<m.length){p:Addr}{fp:List Addr}(un:∀b∈fp,G' b=none)(hS:∀b∈fp,H' b≠none)(hn:∀b∈fp,H b=none):SI X (b6 g H' fp i p) (m.set i .bw) (r.set i none) G' (σ.set i (some (V.ref p))) H':=by
 have s':=s.grow wg;have h0':∀b,b∉fp->(b6 g H' (fp) i p).h0 b=g.h0 b:=fun b hb=>by show(if b∈fp then H' b else g.h0 b)=_;rw[if_neg hb]
 have h0i:∀b,b∈fp->(b6 g H' (fp) i p).h0 b=H' b:=fun b hb=>by show(if b∈fp then H' b else g.h0 b)=_;rw[if_pos hb]
 have mne:∀{j x},i≠j->(m.set i .bw)[j]? = some x->m[j]? = some x:=fun hij h=>by rw[a_ hij]at h;exact h
 have rne:∀{j d},(r.set i none)[j]? = some (some d)->i≠j/\r[j]? = some (some d):=fun{j d} h=>by
  by_cases hij:i=j
  .subst hij;rw[d_ (by rw[s.lr,<-s.lm];exact hlt)]at h;cases h
  .rw[a_ hij]at h;exact⟨hij,h⟩
 refine⟨wg.ok,fun a o e=>?_,s'.ge,fun a h=>?_,by simpa using s.lm,by simpa using s.lr,fun j d h1 h2=>?_,fun j d h1 h2=>?_,fun j d h1 h2=>?_,fun j k a d e hjk h1 h2 m1 m2 z1 z2=>?_,fun j o hj hm'=>?_⟩
 .by_cases ha:a∈fp
  .rw[h0i a ha]at e;exact e
  .rw[h0' a ha]at e;exact s'.old a o e
 .by_cases ha:a∈fp
  .rw[un a ha];show none=g.gh a;cases e:g.gh a with
  |none=>rfl
  |some d=>exact absurd (hn a ha) (s.gok a d (s.ge a d e)).isS
  .rw[h0' a ha]at h;exact s'.gf a h
 .obtain⟨hij,h1⟩:=rne h1;rw[a_ hij];exact s'.sh j d h1 (mne hij h2)
 .obtain⟨hij,h1⟩:=rne h1;rw[a_ hij];obtain⟨a,y1,y2,y3⟩:=s.ow j d h1 (mne hij h2);have ha:a∉fp:=fun z=>y2.ob.isS (hn a z);exact⟨a,y1,y2.mono wg,by rw[h0' a ha];exact y3⟩
 .obtain⟨hij,h1⟩:=rne h1;rw[a_ hij];obtain⟨v,y1,y2⟩:=s'.bw j d h1 (mne hij h2);refine⟨v,y1,?_⟩;rcases y2 with y2|⟨a,ea,y2,y3⟩
  .exact .inl y2
  .refine .inr ⟨a,ea,y2,?_⟩;by_cases ha:a∈fp
   .rw[h0i a ha];exact hS a ha
   .rw[h0' a ha];exact y3
 .obtain⟨hij,h1⟩:=rne h1;obtain⟨hik,h2⟩:=rne h2;rw[a_ hij]at z1;rw[a_ hik]at z2;exact s.dis j k a d e hjk h1 h2 (mne hij m1) (mne hik m2) z1 z2
 .by_cases hij:i=j
  .subst hij;have hj':(if i=i then some (some (V.ref p),none)else g.hd i)=some o:=hj;rw[if_pos rfl]at hj';cases hj';exact⟨by rw[d_ (by rw[<-s.lm];exact hlt)],fun d h=>absurd rfl (rne h).1⟩
  .have hj':(if j=i then some (some (V.ref p),none)else g.hd j)=some o:=hj;rw[if_neg (JX hij)]at hj';have:=s.lk j o hj' (mne hij hm');exact⟨by rw[a_ hij];exact this.1,fun d h=>this.2 d (by rw[a_ hij]at h;exact h)⟩
theorem SI.new2(s:SI X g m r G σ H)(wg:Grow X.K G H G' H')(hlt:i<m.length){p:Addr}{as:List Addr}(R:LRw X.K G' H' p as w)(hn:∀b∈p::as,H b=none):dI X g i (m.set i .bw) (r.set i none) w G' (σ.set i (some (V.ref p))) H':=⟨p,as,R,fun b hb=>s.new (hn b hb),s.hold wg hlt R.un (fun b hb=>R.isS hb) hn,by rw[d_ hlt]⟩
def hU(X:Cx)(g:GE)(ro:Bool)(mb:List Md)(i:Nat)(m:List Md)(sts:List Stmt)(F:ah->List (List D)->Out)(m':List Md):Prop:=m'.length=m.length/\bx X sts (fun D σ H=>∃r w G,dI X g i m r w G σ H/\br X g ro m' mb G D (F r w))
def fZ(i:Nat)(s:FS):ah->List (List D)->Out:=fun r w=>s (r.set i (some (.lst (w.map D.lst))))
def c6(f1:cZ)(F:ah->List (List D)->Out):ah->List (List D)->Out:=fun r w=>match f1 r w with
|some p=>F p.1 p.2
|none=>.stuck
theorem fH{F:ah->List (List D)->Out}(hl:m1.length=m.length)(h1:hV X g i m st f1 m1)(h2:hU X g ro mb i m1 sts F m'):hU X g ro mb i m (st::sts) (c6 f1 F) m':=by refine⟨h2.1.trans hl,bx.imp (ib h1 h2.2) fun D σ H ⟨r,w,G,si,q⟩=>⟨r,w,G,si,?_⟩⟩;unfold c6 at q;cases e:f1 r w with
|none=>rw[e]at q;exact q.elim
|some z=>rw[e]at q;exact⟨z.1,z.2,rfl,fun σ' G' H' le si'=>⟨z.1,z.2,G',si',br.gle q le⟩⟩
def ii(X:Cx)(g:GE)(i:Nat)(m m1:List Md)(f:ah->Option (ah×List (List D))):TS:=fun D σ H=>∃r G,SI X g m r G σ H/\∃r' w',f r=some (r',w')/\∀σ' G' H',aG G G'->dI X g i m1 r' w' G' σ' H'->D.nx σ' H'
def lV(f:ah->Option (ah×List (List D)))(F:ah->List (List D)->Out):FS:=fun r=>match f r with
|some p=>F p.1 p.2
|none=>.stuck
theorem DC{F:ah->List (List D)->Out}{f:ah->Option (ah×List (List D))}(hl:m1.length=m.length)(h1:PS X st (ii X g i m m1 f))(h2:hU X g ro mb i m1 sts F m'):dH X g ro mb m (st::sts) (lV f F) m':=by refine⟨h2.1.trans hl,bx.imp (ib h1 h2.2) fun D σ H ⟨r,G,si,q⟩=>⟨r,G,si,?_⟩⟩;unfold lV at q;cases e:f r with
|none=>rw[e]at q;exact q.elim
|some z=>rw[e]at q;exact⟨z.1,z.2,rfl,fun σ' G' H' le si'=>⟨z.1,z.2,G',si',br.gle q le⟩⟩
end
def RO(K:W.Frag)(H2:Hp)(p:Addr)(G:GH)(H:Hp)(ws:List V)(ds:List D):Prop:=Paired (fun v d=>∃b,v=V.ref b/\H2 b=none/\b≠p/\Own K G H b d) ws ds/\ws.Nodup
section
variable{K:W.Frag}{H2:Hp}{p:Addr}{G G':GH}{H H':Hp}{ws:List V}{ds:List D}
theorem RO.grow(h:RO K H2 p G H ws ds)(w:Grow K G H G' H'):RO K H2 p G' H' ws ds:=⟨Paired.mono (fun v d ⟨b,e,h1,h2,h3⟩=>⟨b,e,h1,h2,h3.mono w⟩) h.1,h.2⟩
theorem RO.upd{o:HO}(h:RO K H2 p G H ws ds):RO K H2 p G (L2.upd H p o) ws ds:=⟨Paired.mono (fun v d ⟨b,e,h1,h2,h3⟩=>⟨b,e,h1,h2,h3.un,h3.ob.mono (fun _ _ z=>z) fun _ z=>by rw[aK h2];exact z⟩) h.1,h.2⟩
end
theorem zf{α β:Type}{F F':α->β->Prop}{l:List α}{w:List β}(h:Paired F l w){j:Nat}{a:α}{y:β}(nd:l.Nodup)(ha:l[j]? = some a)(hy:F' a y)(ho:∀b x,b≠a->F b x->F' b x):Paired F' l (w.set j y):=by induction h generalizing j with
|nil=>cases ha
|@cons b x l w r t ih=>rw[JC]at nd;cases j with
 |zero=>cases ha;exact .cons hy (o7 t fun c hc x q=>ho c x (by rintro rfl;exact nd.1 hc) q)
 |succ j=>
   have ha':l[j]? = some a:=by simpa using ha
   refine .cons (ho b x ?_ r) (ih nd.2 ha')
   rintro rfl
   exact nd.1 (Kd ha')
theorem dP{m:List Md}{i:Nat}(h:((q_ m.length).all fun j=>j==i || decide (m[j]?≠some Md.bw))=true):∀j,j≠i->m[j]?≠some .bw:=fun j hj e=>by have hlt:j<m.length:=(f_.mp e).1;have:=JJ.mp h j (J7.mpr hlt);rw[OD,beq_iff_eq,decide_eq_true_iff]at this;exact this.elim hj fun z=>z e
def xA(sc osc:KG):KG:={ sc with names:=sc.names.map fun(n,k)=>if (k==.free&&osc.kind==.function&&osc.names.lookup n==some .cell)then(n,.cell)else(n,k) }
theorem Ic{X0:Cx}{s0:e_}{H0:Hp}{N0:List Str}{sc0:KG}{cl:List (Str×Addr)}{C:Addr}{fp:List Addr}{osc:KG}{ON:List Str}{sc:KG}{N':List Str}{nl:Nat}{cap:List Nat}(h1:X0.env.scope=osc)(h2:N0=ON)(h:rn (xA sc0 osc) ON sc N' nl cap=true):CompSc (eJ X0 s0 H0 N0 sc0 cl C fp) sc N' nl cap:=g5 (osc:=xA sc0 osc) (ON:=ON) (by subst h1;rfl) h2 h
section
variable{X:Cx}{g:GE}{i:Nat}{m m' m1:List Md}{r r':ah}{w:List (List D)}{G G':GH}{σ σ':L2.St}{H H':Hp}
theorem SI.row{p:Addr}{as:List Addr}(R:LRw X.K G H p as w)(si:SI X (b6 g H (p::as) i p) m r G σ H)(hm:m[i]? = some .bw)(hb:∀j,j≠i->m[j]?≠some .bw){b:Addr}(hbm:b∈p::as)(o:HO):SI X (b6 g (upd H b o) (p::as) i p) m r G σ (upd H b o):=by
 have un:=R.un b hbm;have h0':∀c,c∉p::as->(b6 g H (p::as) i p).h0 c=g.h0 c:=fun c hc=>by show(if c∈p::as then H c else g.h0 c)=_;rw[if_neg hc]
 have h0i:∀c,c∈p::as->(b6 g H (p::as) i p).h0 c=H c:=fun c hc=>by show(if c∈p::as then H c else g.h0 c)=_;rw[if_pos hc]
 have k0':∀c,c∉p::as->(b6 g (upd H b o) (p::as) i p).h0 c=g.h0 c:=fun c hc=>by show(if c∈p::as then _ else g.h0 c)=_;rw[if_neg hc]
 have k0i:∀c,c∈p::as->(b6 g (upd H b o) (p::as) i p).h0 c=upd H b o c:=fun c hc=>by show(if c∈p::as then upd H b o c else g.h0 c)=_;rw[if_pos hc]
 refine⟨fun c d e=>?_,fun c u e=>?_,si.ge,fun c h=>?_,si.lm,si.lr,si.sh,fun j d h1 h2=>?_,fun j d h1 h2=>?_,si.dis,si.lk⟩
 .have hc:c≠b:=by rintro rfl;rw[un]at e;cases e
  exact(si.gok c d e).mono (fun _ _ z=>z) fun u z=>by rw[aK hc];exact z
 .by_cases hc:c∈p::as
  .rw[k0i c hc]at e;exact e
  .rw[k0' c hc]at e;have hcb:c≠b:=by rintro rfl;exact hc hbm
   rw[aK hcb];exact si.old c u (by rw[h0' c hc];exact e)
 .by_cases hc:c∈p::as
  .exact si.gf c (by rw[h0i c hc];exact R.isS hc)
  .rw[k0' c hc]at h;exact si.gf c (by rw[h0' c hc];exact h)
 .obtain⟨a,q1,q2,q3⟩:=si.ow j d h1 h2;have ha:a∉p::as:=fun z=>by rw[h0i a z]at q3;exact R.isS z q3
  have hab:a≠b:=by rintro rfl;exact ha hbm
  rw[h0' a ha]at q3;exact⟨a,q1,⟨q2.un,q2.ob.mono (fun _ _ z=>z) fun u z=>by rw[aK hab];exact z⟩,by rw[k0' a ha];exact q3⟩
 .by_cases hj:j=i
  .subst hj;have:=(si.lk j (some (V.ref p),none) (by show(if j=j then _ else _)=_;rw[if_pos rfl]) hm).2 d h1;cases this
  .exact absurd h2 (hb j hj)
variable{ro:Bool}{mb:List Md}{pos p1 p2 p3 p4 p5 p6 p7 p8 p9 p10 p11:Pos}{x xa xb:Str}{jc:Nat}
end
def lessA(H:Hp)(a:Addr):Hp:=fun b=>if b=a then none else H b
theorem z7{H:Hp}{a:Addr}:lessA H a a=none:=if_pos rfl
theorem j8{H:Hp}{a b:Addr}(h:b≠a):lessA H a b=H b:=if_neg h
theorem Grow.lessA{K:W.Frag}{G G' G2:GH}{H H' H2:Hp}{a:Addr}(w:Grow K G H G' H')(ha:H a=none)(w2:Grow K G' (lessA H' a) G2 H2):Grow K G H G2 H2:=by
 have ne:∀b,H b≠none->b≠a:=fun b h=>by rintro rfl;exact h ha
 have he:∀b o,H b=some o->DL.lessA H' a b=some o:=fun b o e=>by rw[j8 (ne b (by rw[e];simp))];exact w.he b o e
 refine⟨w2.ok,fun b o e=>w2.he b o (he b o e),fun b d e=>w2.ge b d (w.ge b d e),fun b h=>?_⟩;rw[w2.gf b ?_,w.gf b h];cases e:H b with
|none=>exact absurd e h
|some o=>rw[he b o e];simp
def Jg(K:W.Frag)(ro:Bool)(ms:List Md)(F:List D->Res D):Sp:=fun vs H Q _=>∃G us a ds d,aN K G H/\vs=us++[V.ref a]/\ArgsOk K G H ms us ds/\Own K G H a d /\fin (F (ds++[d])) (fun d'=>∀v G' H',Grow K G (lessA H a) G' H'->RV ro K (lessA H a) G' H' v d'->Q v H') fun _=>False
section
variable{K:W.Frag}{G:GH}{H:Hp}
theorem ArgsOk.snoc{ms:List Md}{us:List V}{ds:List D}{v:V}{d:D}(h:ArgsOk K G H ms us ds)(r:RB K G H v d):ArgsOk K G H (ms++[.bw]) (us++[v]) (ds++[d]):=by induction h with
|nil=>exact .bw r .nil
|sh h _ ih=>exact .sh h ih
|bw h _ ih=>exact .bw h ih
end
section
variable{P:u_}{w:H_}{K:W.Frag}{mg:Str->Option b_}{base:Heap}
structure CalleeV(P:u_)(w:H_)(K:W.Frag)(mg:Str->Option b_)(base:Heap)(x:Str)(ps:List Str)(k:Nat)(ro:Bool)(ms:List Md)(F:List D->Res D):Prop where
 ex:∃f fd,mg x=some (.ref f)/\W.keepIn K (.ref f)=true/\eD K fd ps []/\FnOk P w K mg base bP k f fd ps (Jg K ro ms F)
end
theorem LRw.grow{K:W.Frag}{G G':GH}{H H':Hp}{p:Addr}{as:List Addr}{w:List (List D)}(R:LRw K G H p as w)(wg:Grow K G H G' H'):LRw K G' H' p as w:=by
 refine R.mono wg.ge (fun b hb=>?_) fun b hb=>by rw[wg.gf b (R.isS hb)];exact R.un b hb
 cases e:H b with
|none=>exact absurd e (R.isS hb)
|some o=>rw[wg.he b o e]
section
variable{X:Cx}{g:GE}{i:Nat}{m m' m1:List Md}{r r':ah}{w:List (List D)}{G G':GH}{σ σ':L2.St}{H H':Hp}{st:Stmt}{sts sts':List Stmt}{f1 f2:cZ}{c e ie:Expr}{es:List Expr}{q:FQ}{f fi:FE}{fl:ah->Res (List D)}{pos p1 p2 p3 apos cpos spos:Pos}{x y:Str}
def jP(q:FQ)(f1 f2:cZ):cZ:=fun r w=>match q r with
|.ok true=>f1 r w
|.ok false=>f2 r w
|_=>none
theorem Cd(hc:∀g',SQ X g' m c q)(h1:fV X g i m sts f1 m')(h2:fV X g i m sts' f2 m'):hV X g i m (.If c sts sts' pos) (jP q f1 f2) m':=by
 have hcA:PT X c (fun σ H Q=>∃g',tQ X g' m q σ H Q):=fun pz s σ H Q I ⟨g',k⟩=>hc g' pz s σ H Q I k;refine PS.imp (nX hcA h1 h2) fun D σ H ⟨r,w,G,⟨p,as,R,h0,si,hm⟩,r',w',e,k⟩=>⟨_,r,G,si,?_⟩
 unfold jP at e;cases z:q r with
|exc x=>rw[z]at e;cases e
|stuck=>rw[z]at e;cases e
|ok b=>rw[z]at e;intro G1 H1 w1;have S1:=ka R h0 si w1.ge (si.grow w1) hm;cases b with
 |true=>rw[if_pos rfl];exact⟨r,w,G1,S1,r',w',e,fun σ' G' H' le s=>k σ' G' H' (aG.trans w1.ge le) s⟩
 |false=>rw[if_neg l_];exact⟨r,w,G1,S1,r',w',e,fun σ' G' H' le s=>k σ' G' H' (aG.trans w1.ge le) s⟩
end
inductive Cln:D->Prop where
 |non:Cln .non
 |bl (b:Bool):Cln (.bl b)
 |int (i:Int):Cln (.int i)
 |str (x:Str):Cln (.str x)
 |tup {ds:List D}:(∀d∈ds,Cln d)->Cln (.tup ds)
theorem Cln.lst{ds:List D}(h:Cln (.lst ds)):False:=nomatch h
theorem Cln.dic{ds:List (aH×D)}(h:Cln (.dic ds)):False:=nomatch h
theorem Cln.get{ds:List D}(h:Cln (.tup ds)):∀d∈ds,Cln d:=by cases h with
|tup h=>exact h
theorem vA(a b:Int):Cln (.tup [.int a,.int b]):=.tup fun d hd=>by
 rcases C_.mp hd with rfl|hd
 .exact .int a
 .rw[E_.mp hd];exact .int b
open Classical in
theorem wR{K:W.Frag}{G G1 G':GH}{H H':Hp}(gk:aN K G H)(le:aG G G1)(hx:∀b d,G b=none->G1 b=some d->¬ Cln d)(w:Grow K G1 H G' H'):∃G2,Grow K G H G2 H'/\∀v d,Cln d->RG K G' v d->RG K G2 v d:=by
 have key:∀v d,Cln d->RG K G' v d->RG K (fun b=>if G b≠none then G b else if H b≠none then none else if ∃d,G' b=some d/\Cln d then G' b else none) v d:=fun v d hc h=>by cases h with
 |scl s=>exact .scl s
 |kc k=>exact .kc k
 |@ref a _ e=>
   refine .ref ?_;show(if G a≠none then G a else _)=some d;by_cases h1:G a=none
   .rw[if_neg (fun z=>z h1)];by_cases h2:H a=none
    .rw[if_neg (fun z=>z h2),if_pos ⟨d,e,hc⟩];exact e
    .rw[w.gf a h2]at e;exact absurd hc (hx a d h1 e)
   .rw[if_pos h1];cases q:G a with
   |none=>exact absurd q h1
   |some d'=>rw[w.ge a d' (le a d' q)]at e;exact e
 have keys:∀vs ds,(∀d∈ds,Cln d)->b7 K G' vs ds->b7 K (fun b=>if G b≠none then G b else if H b≠none then none else if ∃d,G' b=some d/\Cln d then G' b else none) vs ds:=fun vs ds hc h=>by induction h with
 |nil=>exact .nil
 |cons r _ ih=>exact .cons (key _ _ (hc _ k_) r) (ih fun d hd=>hc d (h_ _ hd))
 have ge:aG G fun b=>if G b≠none then G b else if H b≠none then none else if ∃d,G' b=some d/\Cln d then G' b else none:=fun a d e=>by show(if G a≠none then G a else _)=some d;rw[if_pos (by rw[e];simp)];exact e
 refine⟨_,⟨fun a d e=>?_,w.he,ge,fun a h=>?_⟩,key⟩
 .have e':(if G a≠none then G a else if H a≠none then none else if ∃d,G' a=some d/\Cln d then G' a else none)=some d:=e;by_cases h1:G a=none
  .rw[if_neg (fun z=>z h1)]at e';by_cases h2:H a=none
   .rw[if_neg (fun z=>z h2)]at e';by_cases h3:∃d,G' a=some d/\Cln d
    .rw[if_pos h3]at e';obtain⟨d',q1,q2⟩:=h3;rw[q1]at e';cases e';have ob:=w.ok a d q1;cases ob with
    |lst _ _=>exact q2.lst.elim
    |dic _ _=>exact q2.dic.elim
    |exc _ _ _=>exact absurd q2 (by intro z;cases z)
    |fld _ _=>exact absurd q2 (by intro z;cases z)
    |tup r s=>exact .tup r (keys _ _ q2.get s)
    .rw[if_neg h3]at e';cases e'
   .rw[if_pos h2]at e';cases e'
  .rw[if_pos h1]at e';exact(gk a d e').mono ge fun o z=>w.he a o z
 .show(if G a≠none then G a else _)=G a;by_cases h1:G a=none
  .rw[if_neg (fun z=>z h1),if_pos h,h1]
  .rw[if_pos h1]
section
variable{X:Cx}{g:GE}{i:Nat}{m m' m1:List Md}{r r':ah}{w:List (List D)}{G G':GH}{σ σ':L2.St}{H H':Hp}{e:Expr}{f:FE}{st:Stmt}{pos p1 p2 p3 p4 p5 p6 p7 p8 p9 p10:Pos}{x xa xb y:Str}
theorem dI.after(s:dI X g i m r w G σ H)(wg:Grow X.K G H G' H'):dI X g i m r w G' σ H':=by obtain⟨p,as,R,h0,si,hm⟩:=s;exact ka R h0 si wg.ge (si.grow wg) hm
abbrev cy(i:Nat)(r:ah)(w:List (List D)):ah:=r.set i (some (.lst (w.map D.lst)))
def IX(X:Cx)(g:GE)(i:Nat)(m:List Md)(f:FE):TE:=fun σ H Q=>∃r w G,dI X g i m r w G σ H/\∃d,f (cy i r w)=.ok d/\Cln d/\∀v G' H',Grow X.K G H G' H'->RG X.K G' v d->dI X g i m r w G' σ H'->Q v H'
theorem oM(hb:∀j,j≠i->m[j]?≠some .bw)(h:∀g',SE X g' (m.set i .sh) e f):PE X e (IX X g i m f):=by
 refine PE.imp (h g) fun σ H Q ⟨r,w,G,s,d,e,hc,k⟩=>?_;have gk:aN X.K G H:=by obtain⟨p,as,R,h0,si,hm⟩:=s;exact si.gok
 obtain⟨G1,le,hx,si⟩:=s.frz hb;refine⟨_,G1,si,?_⟩;rw[e];intro v G' H' wg rv;obtain⟨G2,w2,q⟩:=wR gk le (fun b d h1 h2 hc=>by obtain⟨ds,rfl⟩:=hx b d h1 h2;exact hc.lst) wg;exact k v G2 H' w2 (q v d hc rv) (s.after w2)
open Classical in
def kR(i j:Nat)(f:FE):cZ:=fun r w=>match f (cy i r w)with
|.ok d=>if Cln d then some (r.set j (some d),w)else none
|_=>none
theorem GL{j:Nat}{w':List (List D)}(h:kR i j f r w=some (r',w')):∃d,f (cy i r w)=.ok d/\Cln d/\r'=r.set j (some d)/\w'=w:=by unfold kR at h;cases e:f (cy i r w)with
|ok d=>
  rw[e]at h;simp only[]at h;by_cases hc:Cln d
  .rw[if_pos hc]at h;cases h;exact⟨d,rfl,hc,rfl,rfl⟩
  .rw[if_neg hc]at h;cases h
|exc x=>rw[e]at h;cases h
|stuck=>rw[e]at h;cases h
theorem Ef(j:Nat)(hji:i≠j)(hb:∀j,j≠i->m[j]?≠some .bw)(hN:X.N.Nodup)(hi:X.N[j]? = some y)(hx:fj X.env.scope y)(h:∀g',SE X g' (m.set i .sh) e f)(hs:Kp e (some (.Name y p1)) pos.line X.env=pure false:=by rfl)(hf:X.fn y=true\/X.env.scope.names.lookup y=some .local:=by first|exact .inl rfl|exact .inr rfl|assumption):hV X g i m (.Assign [.Name y p1] e pos) (kR i j f) (m.set j .sh):=by refine PS.imp (jF hN hi hx (oM (g:=g) hb h) hs hf) fun D0 σ H ⟨r,w,G,s,r',w',e,k⟩=>?_;obtain⟨d,e1,hc,rfl,rfl⟩:=GL e;refine⟨r,w',G,s,d,e1,hc,fun v G' H' wg rv s'=>k _ G' H' wg.ge ?_⟩;obtain⟨p,as,R,h0,si,hm⟩:=s';exact⟨p,as,R,h0,si.set j rv,by rw[a_ (JX hji)];exact hm⟩
def jZ(w:List (List D))(x y:Int)(d:D):Option (List (List D)):=(c8 w.length x).bind fun j=>(w[j]?).bind fun row=>(c8 row.length y).map fun k=>w.set j (row.set k d)
theorem Hu{w':List (List D)}{x y:Int}{d:D}(h:jZ w x y d=some w'):∃j row k,c8 w.length x=some j/\w[j]? = some row/\c8 row.length y=some k/\w'=w.set j (row.set k d):=by unfold jZ at h;cases e1:c8 w.length x with
|none=>rw[e1]at h;cases h
|some j=>rw[e1]at h;simp only[Kq]at h;cases e2:w[j]? with
 |none=>rw[e2]at h;cases h
 |some row=>rw[e2]at h;simp only[Kq]at h;cases e3:c8 row.length y with
  |none=>rw[e3]at h;cases h
  |some k=>rw[e3]at h;cases h;exact⟨j,row,k,rfl,e2,e3,rfl⟩
open Classical in
def eL(i a b:Nat)(f:FE):cZ:=fun r w=>match r[a]?,r[b]?,f (cy i r w)with
|some (some (.int x)),some (some (.int y)),.ok d=>if Cln d then(jZ w x y d).map fun w'=>(r,w')else none
|_,_,_=>none
theorem FH{a b:Nat}{w':List (List D)}(h:eL i a b f r w=some (r',w')):∃x y d,r[a]? = some (some (.int x))/\r[b]? = some (some (.int y))/\f (cy i r w)=.ok d/\Cln d/\jZ w x y d=some w'/\r'=r:=by
 unfold eL at h;split at h
 .rename_i x y d e1 e2 e3;by_cases hc:Cln d
  .rw[if_pos hc]at h;cases e4:jZ w x y d with
  |none=>rw[e4]at h;cases h
  |some w1=>rw[e4]at h;cases h;exact⟨x,y,d,e1,e2,e3,hc,e4,rfl⟩
  .rw[if_neg hc]at h;cases h
 .cases h
theorem la(a b:Nat)(hm:m[i]? = some .bw)(hb:∀j,j≠i->m[j]?≠some .bw)(hma:m[a]? = some .sh)(hmb:m[b]? = some .sh)(hN:X.N[i]? = some x)(hv:dk X.env.scope x)(hNa:X.N[a]? = some xa)(hva:dk X.env.scope xa)(hNb:X.N[b]? = some xb)(hvb:dk X.env.scope xb)(h:∀g',SE X g' (m.set i .sh) e f)(hd:(x==("__debug__" : Str))=false:=by decide)(hcd:(x==("__classdict__" : Str))=false:=by decide)(hda:(xa==("__debug__" : Str))=false:=by decide)(hcda:(xa==("__classdict__" : Str))=false:=by decide)(hdb:(xb==("__debug__" : Str))=false:=by decide)(hcdb:(xb==("__classdict__" : Str))=false:=by decide)(hpa':mz (.Name xa p7):=by intro _ _;rfl)(ha:∀v,Lg (.Subscript (.Subscript (.Name x p6) (.Name xa p7) p8) (.Name xb p9) p10) X.env v=(do
   let ov <-KO [v] (eval (.Subscript (.Name x p6) (.Name xa p7) p8) X.env);let iv <-KO [v,ov] (eval (.Name xb p9) X.env)
   Nu p10
   KO [v,ov,iv] (NV ov iv v)
   Px [v,ov,iv] []):=by intro _;rfl)(hs:L1 [.Subscript (.Subscript (.Name x p6) (.Name xa p7) p8) (.Name xb p9) p10] e pos.line X.env=pure false:=by rfl)(hw:L3 [.Subscript (.Subscript (.Name x p6) (.Name xa p7) p8) (.Name xb p9) p10] e X.env=pure none:=by rfl)(h1:(JV [.Subscript (.Subscript (.Name x p6) (.Name xa p7) p8) (.Name xb p9) p10] X.env).map (·.2)=[Lg (.Subscript (.Subscript (.Name x p6) (.Name xa p7) p8) (.Name xb p9) p10) X.env]:=by rfl):hV X g i m (.Assign [.Subscript (.Subscript (.Name x p6) (.Name xa p7) p8) (.Name xb p9) p10] e pos) (eL i a b f) m:=by
 refine PS.imp (oy (oM (g:=g) hb h) (qY (qv rF (dJ hN hv hd hcd) (dJ hNa hva hda hcda) hpa') (dJ hNb hvb hdb hcdb) rN ha) hs hw h1) fun D0 σ H ⟨r,w,G,s,r',w',e,k⟩=>?_;obtain⟨va,vb,d,ea,eb,ef,hc,ep,rfl⟩:=FH e;refine⟨r',w,G,s,d,ef,hc,fun v G' H' wg rv s'=>?_⟩;obtain⟨p,as,R,h0,si,_⟩:=s';have hst:σ[i]? = some (some (V.ref p)):=(si.lk i (some (V.ref p),none) (by show(if i=i then _ else _)=_;rw[if_pos rfl]) hm).1;obtain⟨j,row,k1,z1,z2,z3,rfl⟩:=Hu ep;obtain⟨ua,sa,ra⟩:=si.sh a _ ea hma;obtain⟨ub,sb,rb⟩:=si.sh b _ eb hmb;have ra:=ra.int si.gok;have rb:=rb.int si.gok;subst ra;subst rb;obtain⟨q,hq,xs,hx,rs⟩:=Paired.get R.rw z2;have hl:(as.map V.ref).length=w.length:=by rw[n_];exact Paired.length R.rw
 have at1:dY (as.map V.ref) va=some (V.ref q):=by unfold dY;rw[hl,z1];show(as.map V.ref)[j]? = _;rw[s_,hq];rfl
 have hlx:=Paired.length rs;have hqm:q∈as:=Kd hq;have nd:=JC.mp R.nd;have hqp:q≠p:=by rintro rfl;exact nd.1 hqm
 refine⟨_,hst,_,sa,p,_,va,_,rfl,rfl,bb.of R.out,at1,_,sb,q,xs,vb,k1,rfl,rfl,hx,by rw[hlx];exact z3,?_⟩;refine k σ G' _ wg.ge ⟨p,as,⟨by rw[aK (JX hqp)];exact R.out,R.nd,R.un,?_⟩,h0,SI.row R si hm hb (h_ _ hqm) _,hm⟩;refine zf R.rw nd.2 hq ⟨_,bJ,Paired.st rv _ rs⟩ fun b' x' hne ⟨xs',e1,e2⟩=>⟨xs',by rw[aK hne];exact e1,e2⟩
end
structure TL(K:W.Frag)(G:GH)(H:Hp)(p a:Addr)(d1:D)(ds:List D):Prop where
 tp:∃x xs,H p=some (.tup [x,.ref a])/\RG K G x d1/\H a=some (.lst xs)/\b7 K G xs ds
 un:∀b∈[p,a],G b=none
 ne:p≠a
theorem TL.isS{K:W.Frag}{G:GH}{H:Hp}{p a:Addr}{d1:D}{ds:List D}(t:TL K G H p a d1 ds):∀b∈[p,a],H b≠none:=fun b hb=>by
 obtain⟨x,xs,h1,_,h2,_⟩:=t.tp;rcases C_.mp hb with rfl|hb
 .rw[h1];simp
 .rw[E_.mp hb,h2];simp
theorem TL.grow{K:W.Frag}{G G':GH}{H H':Hp}{p a:Addr}{d1:D}{ds:List D}(t:TL K G H p a d1 ds)(w:Grow K G H G' H'):TL K G' H' p a d1 ds:=by obtain⟨x,xs,h1,h2,h3,h4⟩:=t.tp;exact⟨⟨x,xs,w.he _ _ h1,h2.mono w.ge,w.he _ _ h3,h4.mono w.ge⟩,fun b hb=>by rw[w.gf b (t.isS b hb)];exact t.un b hb,t.ne⟩
def RW(K:W.Frag)(H0:Hp)(G:GH)(H:Hp)(v:V)(d:D):Prop:=∃p a d1 ds,v=.ref p/\d=.tup [d1,.lst ds]/\(∀b∈[p,a],H0 b=none)/\TL K G H p a d1 ds
def Jf(K:W.Frag)(ms:List Md)(F:List D->Res D):Sp:=fun vs H Q _=>∃G ds,aN K G H/\ArgsOk K G H ms vs ds/\fin (F ds) (fun d=>∀v G' H',Grow K G H G' H'->RW K H G' H' v d->Q v H') fun _=>False
abbrev FW:=ah->Res D
section
variable{P:u_}{w:H_}{K:W.Frag}{mg:Str->Option b_}{base:Heap}
structure CalleeW(P:u_)(w:H_)(K:W.Frag)(mg:Str->Option b_)(base:Heap)(x:Str)(ps:List Str)(k:Nat)(ms:List Md)(F:List D->Res D):Prop where
 ex:∃f fd,mg x=some (.ref f)/\W.keepIn K (.ref f)=true/\eD K fd ps []/\FnOk P w K mg base bP k f fd ps (Jf K ms F)
end
section
variable{X:Cx}{g:GE}{ro:Bool}{i:Nat}{m m' m1 mb ms:List Md}{r r':ah}{G G':GH}{σ σ':L2.St}{H H':Hp}{e c:Expr}{es:List Expr}{q:FQ}{st:Stmt}{sts sts1:List Stmt}{fl:ah->Res (List D)}{F:List D->Res D}{k:Nat}{ps:List Str}{pos p1 p2 p3 p4 apos cpos:Pos}{x y:Str}{d1:D}{ds:List D}
def nN(X:Cx)(g:GE)(i:Nat)(m:List Md)(r:ah)(d1:D)(ds:List D)(G:GH)(st:L2.St)(H:Hp):Prop:=∃p a,TL X.K G H p a d1 ds/\(∀b∈[p,a],g.h0 b=none)/\SI X (b6 g H [p,a] i p) m r G st H/\m[i]? = some .bw
theorem nN.after(s:nN X g i m r d1 ds G σ H)(wg:Grow X.K G H G' H'):nN X g i m r d1 ds G' σ H':=by
 obtain⟨p,a,t,h0,si,hm⟩:=s;refine⟨p,a,t.grow wg,h0,?_,hm⟩;rw[rW (H:=H) fun b hb=>?_]
 .exact si.grow wg
 .cases e:H b with
 |none=>exact absurd e (t.isS b hb)
 |some o=>rw[wg.he b o e]
theorem nN.frz(s:nN X g i m r d1 ds G σ H)(hb:∀j,j≠i->m[j]?≠some .bw):∃G',aG G G'/\(∀b d,G b=none->G' b=some d->¬ Cln d)/\SI X g (m.set i .sh) (r.set i (some (.tup [d1,.lst ds]))) G' σ H:=by
 obtain⟨p,a,t,h0,si,hm⟩:=s;obtain⟨x,xs,h1,h2,h3,h4⟩:=t.tp;have ua:=t.un a (h_ _ k_);have up:=t.un p k_;have g1:aN X.K (gset G a (.lst ds)) H:=si.gok.gset ua (.lst (.inl h3) h4);have up1:gset G a (.lst ds) p=none:=by rw[cR t.ne];exact up
 have g2:aN X.K (gset (gset G a (.lst ds)) p (.tup [d1,.lst ds])) H:=g1.gset up1 (.tup (.inl h1) (.cons (h2.mono (dW ua)) (.cons (.ref cQ) .nil)));refine⟨_,aG.trans (dW ua) (dW up1),fun b d hn e hc=>?_,rX si hm h0 t.isS hb (aG.trans (dW ua) (dW up1)) g2 (fun b hb=>?_) cQ⟩
 .by_cases hbp:b=p
  .subst hbp;rw[cQ]at e;cases e;exact(hc.get _ (h_ _ k_)).lst
  .rw[cR hbp]at e;by_cases hba:b=a
   .subst hba;rw[cQ]at e;cases e;exact hc.lst
   .rw[cR hba,hn]at e;cases e
 .rw[cR (by rintro rfl;exact hb k_),cR (by rintro rfl;exact hb (h_ _ k_))]
end
end DL
section
namespace DL
section
open PySem PyProof.Rows PySem.W PySem.Calls
variable{prog:u_}{w:H_}{A:Jr}{E:b_->e_->Prop}{s:e_}{l:Addr}{vs:List b_}{ns:List Int}
end
open PySem PySem.Spec PyProof.Rows L2
end DL
end
section
namespace DL
section
open PySem PyProof.Rows
variable{prog:u_}{w:H_}{A:Jr}{R:Pz->e_->Prop}{I S:Addr}{fp wr:List Addr}{n:Nat}{P:Nat->b_->Prop}{St:Nat->Heap->Prop}{TP:Heap->Prop}{bt:Nat->Nat->Bool}
def oF(wr:List Addr)(S:Addr)(h h':Heap):Prop:=∀b o,b∉wr->b≠S->h.get? b=some o->h'.get? b=some o
theorem oF.trans{h h1 h2:Heap}(a:oF wr S h h1)(b:oF wr S h1 h2):oF wr S h h2:=fun c o hc hs e=>b c o hc hs (a c o hc hs e)
end
end DL
end
namespace DL
open PySem PySem.Spec PyProof.Rows L2
theorem xI{α:Type}{l:List α}{j:Nat}{a:α}(h:l[j]? = some a):l.set j a=l:=by
 refine MB fun n=>?_;by_cases hn:j=n
 .subst hn;rw[d_ (f_.mp h).1,h]
 .rw[a_ hn]
def eu(X:Cx)(g:GE)(i jr:Nat)(m:List Md)(r:ah)(w:List (List D))(k:Nat)(G:GH)(st:L2.St)(H:Hp):Prop:=∃p as q,LRw X.K G H p as w/\(∀b∈p::as,g.h0 b=none)/\SI X (b6 g H (p::as) i p) m r G st H/\as[k]? = some q/\st[jr]? = some (some (V.ref q))/\m[i]? = some .bw/\m[jr]? = some .sh/\r[jr]? = some none
abbrev lY(i jr:Nat)(r:ah)(w:List (List D))(k:Nat):ah:=(cy i r w).set jr (some (.lst (w.getD k [])))
section
variable{X:Cx}{g:GE}{i jr k:Nat}{m m' m1:List Md}{r r':ah}{w:List (List D)}{G G':GH}{σ σ':L2.St}{H H':Hp}{e ie:Expr}{f fi:FE}{st:Stmt}{sts:List Stmt}{pos p1 p2 p3 p4 p5 p6 p7 p8 p9 p10:Pos}{x y:Str}
theorem SI.slot{v:V}(s:SI X g m r G σ H)(hm:m[i]? = some .sh):SI X g m (r.set i none) G (σ.set i (some v)) H:=by
 have key:∀{j:Nat}{d:D},(r.set i none)[j]? = some (some d)->i≠j/\r[j]? = some (some d):=fun{j d} h=>by
  have hij:i≠j:=by
   rintro rfl
   rw[Ky,if_pos rfl]at h;split at h <;> cases h
  rw[a_ hij]at h;exact⟨hij,h⟩
 refine⟨s.gok,s.old,s.ge,s.gf,by rw[JD];exact s.lm,by rw[JD,JD];exact s.lr,fun j d h hj=>?_,fun j d h hj=>?_,fun j d h hj=>?_,fun j k a d e hjk h1 h2 m1 m2 q1 q2=>?_,fun j o h hj=>?_⟩
 .obtain⟨hij,h⟩:=key h;rw[a_ hij];exact s.sh j d h hj
 .obtain⟨hij,h⟩:=key h;rw[a_ hij];exact s.ow j d h hj
 .obtain⟨hij,h⟩:=key h;rw[a_ hij];exact s.bw j d h hj
 .obtain⟨z1,h1⟩:=key h1;obtain⟨z2,h2⟩:=key h2;rw[a_ z1]at q1;rw[a_ z2]at q2;exact s.dis j k a d e hjk h1 h2 m1 m2 q1 q2
 .have hij:i≠j:=by rintro rfl;rw[hm]at hj;cases hj
  obtain⟨q1,q2⟩:=s.lk j o h hj;exact⟨by rw[a_ hij];exact q1,fun d hd=>q2 d (by rw[a_ hij]at hd;exact hd)⟩
theorem eu.after(s:eu X g i jr m r w k G σ H)(wg:Grow X.K G H G' H'):eu X g i jr m r w k G' σ H':=by
 obtain⟨p,as,q,R,h0,si,h1,h2,h3,h4,h5⟩:=s;have he:∀b∈p::as,H' b=H b:=fun b hb=>by cases e:H b with
 |none=>exact absurd e (R.isS hb)
 |some o=>rw[wg.he b o e]
 exact⟨p,as,q,R.grow wg,h0,by rw[rW he];exact si.grow wg,h1,h2,h3,h4,h5⟩
theorem eu.frz(s:eu X g i jr m r w k G σ H)(hb:∀j,j≠i->m[j]?≠some .bw):∃G',aG G G'/\(∀b d,G b=none->G' b=some d->∃ds,d=.lst ds)/\SI X g (m.set i .sh) (lY i jr r w k) G' σ H:=by
 obtain⟨p,as,q,R,h0,si,ha,hs,hm,hmj,hr⟩:=s;have nd:=JC.mp R.nd;obtain⟨G1,l1,o1,g1,q1⟩:=rD si.gok R.rw nd.2 fun b hb=>R.un b (h_ _ hb);have hp1:G1 p=none:=by rw[o1 p nd.1];exact R.un p k_
 have rs:b7 X.K G1 (as.map V.ref) (w.map D.lst):=by
  have:∀{as:List Addr}{w:List (List D)},Paired (fun b ds=>G1 b=some (.lst ds)) as w->b7 X.K G1 (as.map V.ref) (w.map D.lst):=fun{as w} q=>by induction q with
  |nil=>exact .nil
  |cons h _ ih=>exact .cons (.ref h) ih
  exact this q1
 have g2:aN X.K (gset G1 p (.lst (w.map D.lst))) H:=g1.gset hp1 (.lst (.inl R.out) rs);have le:aG G (gset G1 p (.lst (w.map D.lst))):=aG.trans l1 (dW hp1);have out:∀b,b∉p::as->gset G1 p (.lst (w.map D.lst)) b=G b:=fun b hb=>by rw[cR (by rintro rfl;exact hb k_),o1 b fun z=>hb (h_ _ z)]
 have hk:k<w.length:=by rw[<-Paired.length q1];exact(f_.mp ha).1
 have hw:w[k]? = some (w.getD k []):=by rw[z_,m_ hk];rfl
 obtain⟨q',hq',hg'⟩:=Paired.get q1 hw;rw[ha]at hq';cases hq';have S:=rX si hm h0 (fun b hb=>R.isS hb) hb le g2 out cQ;have S2:=S.set jr (v:=.ref q) (.ref (dW hp1 _ _ hg'));have hji:i≠jr:=by rintro rfl;rw[hm]at hmj;cases hmj
 rw[xI (by rw[a_ hji];exact hmj),xI hs]at S2;refine⟨_,le,fun b d hn e=>?_,S2⟩;by_cases hbp:b=p
 .subst hbp;rw[cQ]at e;cases e;exact⟨_,rfl⟩
 .rw[cR hbp]at e;by_cases hba:b∈as
  .obtain⟨ds,e1⟩:=zR hba q1;rw[e1]at e;cases e;exact⟨_,rfl⟩
  .rw[o1 b hba,hn]at e;cases e
def tX(X:Cx)(g:GE)(i jr:Nat)(m:List Md)(f:FE):TE:=fun σ H Q=>∃r w k G,eu X g i jr m r w k G σ H/\∃d,f (lY i jr r w k)=.ok d/\Cln d/\∀v G' H',Grow X.K G H G' H'->RG X.K G' v d->Q v H'
theorem Fv(hb:∀j,j≠i->m[j]?≠some .bw)(h:∀g',SE X g' (m.set i .sh) e f):PE X e (tX X g i jr m f):=by
 refine PE.imp (h g) fun σ H Q ⟨r,w,k,G,s,d,e,hc,kk⟩=>?_;have gk:aN X.K G H:=by obtain⟨p,as,q,R,h0,si,hm⟩:=s;exact si.gok
 obtain⟨G1,le,hx,si⟩:=s.frz hb;refine⟨_,G1,si,?_⟩;rw[e];intro v G' H' wg rv;obtain⟨G2,w2,q⟩:=wR gk le (fun b d h1 h2 hc=>by obtain⟨ds,rfl⟩:=hx b d h1 h2;exact hc.lst) wg;exact kk v G2 H' w2 (q v d hc rv)
abbrev FA:=ah->List (List D)->Nat->Option (List (List D))
def Az(X:Cx)(g:GE)(i jr:Nat)(m:List Md)(f:FA):TS:=fun D σ H=>∃r w k G,eu X g i jr m r w k G σ H/\∃w',f r w k=some w'/\∀σ' G' H',aG G G'->eu X g i jr m r w' k G' σ' H'->D.nx σ' H'
def Je(X:Cx)(g:GE)(i jr:Nat)(m:List Md)(f:FA):TS:=fun D σ H=>∃r w k G,eu X g i jr m r w k G σ H/\∃w',f r w k=some w'/\∀σ' G' H',aG G G'->dI X g i m r w' G' σ' H'->D.nx σ' H'
def jt(X:Cx)(g:GE)(i jr:Nat)(m:List Md)(sts:List Stmt)(f:FA):Prop:=bx X sts (Je X g i jr m f)
def jn:FA:=fun _ w _=>some w
def iA(f1 f2:FA):FA:=fun r w k=>(f1 r w k).bind fun w1=>f2 r w1 k
open Classical in
def dw(i jr:Nat)(f fi:FE):FA:=fun r w k=>match f (lY i jr r w k),fi r with
|.ok d,.ok (.int y)=>if Cln d then(c8 (w.getD k []).length y).map fun k1=>w.set k ((w.getD k []).set k1 d)else none
|_,_=>none
theorem putA_ok{w':List (List D)}(h:dw i jr f fi r w k=some w'):∃d y k1,f (lY i jr r w k)=.ok d/\fi r=.ok (.int y)/\Cln d/\c8 (w.getD k []).length y=some k1/\w'=w.set k ((w.getD k []).set k1 d):=by
 unfold dw at h;split at h
 .rename_i d y e1 e2;by_cases hc:Cln d
  .rw[if_pos hc]at h;cases e4:c8 (w.getD k []).length y with
  |none=>rw[e4]at h;cases h
  |some k1=>rw[e4]at h;cases h;exact⟨d,y,k1,e1,e2,hc,e4,rfl⟩
  .rw[if_neg hc]at h;cases h
 .cases h
theorem Dy:jt X g i jr m [] jn:=bx.imp oO fun D σ H ⟨r,w,k,G,⟨p,as,q,R,h0,si,h1,h2,h3,h4,h5⟩,w',e,kk⟩=>by cases e;exact kk σ G H (aG.refl G) ⟨p,as,R,h0,si,h3⟩
theorem yB{f1 f2:FA}(h1:PS X st (Az X g i jr m f1))(h2:jt X g i jr m sts f2):jt X g i jr m (st::sts) (iA f1 f2):=by
 refine bx.imp (ib h1 h2) fun D σ H ⟨r,w,k,G,si,w',e,kk⟩=>⟨r,w,k,G,si,?_⟩
 unfold iA at e;cases q:f1 r w k with
|none=>rw[q]at e;cases e
|some z=>rw[q]at e;exact⟨z,rfl,fun σ' G' H' le si'=>⟨r,z,k,G',si',w',e,fun σ2 G2 H2 le2 si2=>kk σ2 G2 H2 (le.trans le2) si2⟩⟩
theorem xG(hb:∀j,j≠i->m[j]?≠some .bw)(hN:X.N[jr]? = some y)(hv:dk X.env.scope y)(h:∀g',SE X g' (m.set i .sh) e f)(hi:∀g',SE X g' m ie fi)(hd:(y==("__debug__" : Str))=false:=by decide)(hcd:(y==("__classdict__" : Str))=false:=by decide)(ha:∀v,Lg (.Subscript (.Name y p6) ie p10) X.env v=(do
   let ov <-KO [v] (eval (.Name y p6) X.env);let iv <-KO [v,ov] (eval ie X.env)
   Nu p10
   KO [v,ov,iv] (NV ov iv v)
   Px [v,ov,iv] []):=by intro _;rfl)(hs:L1 [.Subscript (.Name y p6) ie p10] e pos.line X.env=pure false:=by rfl)(hw:L3 [.Subscript (.Name y p6) ie p10] e X.env=pure none:=by rfl)(h1:(JV [.Subscript (.Name y p6) ie p10] X.env).map (·.2)=[Lg (.Subscript (.Name y p6) ie p10) X.env]:=by rfl):PS X (.Assign [.Subscript (.Name y p6) ie p10] e pos) (Az X g i jr m (dw i jr f fi)):=by
 have hiA:PE X ie (fun σ H Q=>∃g',tE X g' m fi σ H Q):=fun pz s σ H Q I ⟨g',k⟩=>hi g' pz s σ H Q I k;refine PS.imp (oy (Fv (g:=g) (jr:=jr) hb h) (qY (dJ hN hv hd hcd) hiA rN ha) hs hw h1) fun D0 σ H ⟨r,w,k,G,s,w',e,kk⟩=>?_;obtain⟨d,vb,k1,ef,ei,hc,ek,rfl⟩:=putA_ok e;refine⟨r,w,k,G,s,d,ef,hc,fun v G1 H1 wg1 rv=>?_⟩;have s1:=s.after wg1;have s1':=s1;obtain⟨p,as,q,R,h0,si,hq,hst,hm,hmj,hr⟩:=s1';refine⟨_,hst,_,r,G1,si,?_⟩;rw[ei];intro vi G2 H2 wg2 ri;have gk2:aN X.K G2 H2:=wg2.ok;have ri:=ri.int gk2;subst ri;obtain⟨p,as,q,R,h0,si,hq,hst',hm,hmj,hr⟩:=s1.after wg2;rw[hst']at hst;cases hst;have hk:k<w.length:=by rw[<-Paired.length R.rw];exact(f_.mp hq).1
 have hw:w[k]? = some (w.getD k []):=by rw[z_,m_ hk];rfl
 obtain⟨q',hq',xs,hx,rs⟩:=Paired.get R.rw hw;rw[hq]at hq';cases hq';have hlx:=Paired.length rs;have hqm:q∈as:=Kd hq;have nd:=JC.mp R.nd;have hqp:q≠p:=by rintro rfl;exact nd.1 hqm
 refine⟨q,xs,vb,k1,rfl,rfl,hx,by rw[hlx];exact ek,?_⟩;refine kk σ G2 _ (wg1.trans wg2).ge ⟨p,as,q,⟨by rw[aK (JX hqp)];exact R.out,R.nd,R.un,?_⟩,h0,SI.row R si hm hb (h_ _ hqm) _,hq,hst',hm,hmj,hr⟩;exact zf R.rw nd.2 hq ⟨_,bJ,Paired.st (rv.mono wg2.ge) _ rs⟩ fun b' x' hne ⟨xs',e1,e2⟩=>⟨xs',by rw[aK hne];exact e1,e2⟩
end
end DL
namespace DL
open PySem PySem.Spec PyProof.Rows L2 PySem.W PySem.Calls
def AA(K:W.Frag)(ro:Bool)(ms:List Md)(F:List D->Res D):Sp:=fun vs H Q E=>∃G ds,aN K G H/\ArgsOk K G H ms vs ds /\fin (F ds) (fun d=>∀v G' H',Grow K G H G' H'->RV ro K H G' H' v d->Q v H') fun x=>∀C od nm fs G' H',x=xD nm fs->XN K nm C->XF G' od fs->Grow K G H G' H'->E (.ref C) od H'
section
variable{X:Cx}{k:Nat}{f:Addr}{fd:JP}{ps:List Str}{sp:Sp}{dvs:List V}{ds:List b_}{x:Str}{p pos:Pos}{e:Expr}{es:List Expr}{t:TA}
def vY(X:Cx)(σ:L2.St)(H:Hp)(E:XK):Prop:=∀pz s a cls od H' s',Inv X pz σ H s->Fly X.prog X.w X.stack H s H' a cls od s'->E cls od H'->X.xe (.ref a) s'
theorem Eb{pz:List (Addr×Obj)}{σ:L2.St}{H:Hp}{s:e_}{Q:VK}{E:XK}{us:List b_}{vs:List V}(F:FnOk X.prog X.w X.K X.mg X.base (kK X.prog X.w) k f fd ps sp)(hr:Room k X.A)(hb:eD X.K fd ps ds)(hd:al dvs ds)(I:Inv X pz σ H s)(hx:vY X σ H E)(r:al vs us)(h:sp (vs++dvs) H Q E):p_ (y_ X.prog X.w) X.A (call (.ref f) us) (EP X pz σ Q) X.xe s:=by
 have r2:al (vs++dvs) (us++ds):=r.append hd;have hl:(us++ds).length=ps.length:=by rw[<-r2.length];exact F.len _ _ _ _ h
 refine Lv (Mf (F.run X.A X.stack s H ⟨us,[]⟩ (us++ds) (vs++dvs) Q E hr I.env0 (hb s us I.kIn hl) r2 h) fun r s' hq=>?_);cases r with
|error e=>obtain⟨a,cls,H',od,rfl,fl,q⟩:=hq;exact hx pz s a cls od H' s' I fl q
|ok fl=>cases fl with
 |ret u=>exact I.after hq
 |next=>exact JG hq
 |brk=>exact JG hq
 |cont=>exact JG hq
theorem Fu(F:FnOk X.prog X.w X.K X.mg X.base (kK X.prog X.w) k f fd ps sp)(hr:Room k X.A)(hg:Gl X x)(hm:X.mg x=some (.ref f))(hk:W.keepIn X.K (.ref f)=true)(hb:eD X.K fd ps ds)(hd:al dvs ds)(ha:PA X (e::es) t)(hdb:(x==("__debug__" : Str))=false:=by decide)(he:g_ (e::es) X.env=(false,eval e X.env)::g_ es X.env:=by rfl)(hpl:(backTo pos (g_ es X.env)).any (·.1)=false:=by rfl):PE X (.Call (.Name x p) (e::es) [] pos) (fun σ H Q=>t σ H fun vs H1=>∃E,sp (vs++dvs) H1 Q E/\vY X σ H1 E):=by intro pz s σ H Q I h;refine KP (j4 I hg hm ?_ hdb);refine W.callWith_K (h₀:=X.base) I.ok.mod.kin hk (aO (ha pos pz s σ H _ I h) fun us s1 ⟨vs,H1,I1,r,E,q,px⟩=>⟨I1.kIn,?_⟩) he hpl;exact Eb F hr hb hd I1 px r q
end
section
variable{P:u_}{w:H_}{K:W.Frag}{mg:Str->Option b_}{base:Heap}
theorem Dt{x qual:Str}{st:Stmt}{f:Addr}{fd:JP}{N ps:List Str}{k:Nat}{ro:Bool}{ms:List Md}{fs:FS}{m':List Md}(F:Fun K x qual st f fd)(S:FnScope N ps (aa st))(hms:ms.length=ps.length)(hbody:∀(cdv:b_)(A:Jr)(outer:List Env)(s:e_)(H:Hp)(g:GE)(E:XK),Room k (A.deeper (KW qual (aa st) s.heap.objs.size f cdv)) ->dH (a9 (kK P w) P w K mg base N qual (aa st) f cdv A outer s H E) g ro [] (fE N.length ms) (ap st) fs m'):FnOk P w K mg base (kK P w) (k+1) f fd ps (AA K ro ms fun ds=>outR ro (fs (a7 N.length ds))):=by
 obtain⟨oc,od,kV,doc,pm,an,cdv,ct,osl,rfl,lk,hcd⟩:=F.ex;refine vT lk hcd S (fun vs H Q E ⟨G,ds,gk,rs,q⟩=>rs.len.1.trans hms) fun A outer s H vs Q E hr h=>?_;obtain⟨G,ds,gk,rs,q⟩:=h;have hpl:ps.length<=N.length:=by have:=congrArg K4 S.pre;rw[JM]at this;omega
 refine⟨_,(hbody cdv A outer s H ⟨G,H,fun _=>none⟩ E hr).2,a7 N.length ds,G,mL gk rs (by omega),?_⟩;replace q:fin (outR ro (fs (a7 N.length ds))) _ _:=q;cases e:fs (a7 N.length ds)with
|nx r'=>rw[e]at q;cases ro with
 |false=>exact fun σ' G' H' _ si=>q .non G' H' si.grown (.scl .non)
 |true=>exact q.elim
|rt d=>rw[e]at q;exact fun v G' H' wg rv=>q v G' H' wg rv
|bk r'=>rw[e]at q;exact q.elim
|ct r'=>rw[e]at q;exact q.elim
|exc x r'=>rw[e]at q;intro pz ev s' σ' G' H' le si I ex;obtain⟨pins1,s1,H1,a,C,od1,nm,fs1,rfl,rfl,xn,xf,I1,fl⟩:=ex;exact fl.leaves I1 rfl rfl rfl fun s'' fl2=>⟨a,_,H',od1,rfl,fl2,q C od1 nm fs1 G' H' rfl xn xf si.grown⟩
|stuck=>rw[e]at q;exact q
structure CalleeX(P:u_)(w:H_)(K:W.Frag)(mg:Str->Option b_)(base:Heap)(x:Str)(ps:List Str)(ds:List b_)(k:Nat)(ro:Bool)(ms:List Md)(F:List D->Res D):Prop where
 ex:∃f fd,mg x=some (.ref f)/\W.keepIn K (.ref f)=true/\eD K fd ps ds/\FnOk P w K mg base (kK P w) k f fd ps (AA K ro ms F)
theorem yQ{x:Str}{st:Stmt}{N ps:List Str}{k:Nat}{ro:Bool}{ms:List Md}{fs:FS}{m':List Md}(A:DefAt K mg x st)(S:FnScope N ps (aa st))(hms:ms.length=ps.length)(hb:∀(kV doc pm:b_)(an:Option Addr)(cdv ct:b_)(us:List b_),us.length=ps.length->Lm (W.fnOf x x (aI st) (ap st) (aa st) .none kV doc pm an cdv ct) ⟨us,[]⟩=pure (ps.zip us))(hbody:∀(f:Addr)(cdv:b_)(A:Jr)(outer:List Env)(s:e_)(H:Hp)(g:GE)(E:XK),Room k (A.deeper (KW x (aa st) s.heap.objs.size f cdv)) ->dH (a9 (kK P w) P w K mg base N x (aa st) f cdv A outer s H E) g ro [] (fE N.length ms) (ap st) fs m'):CalleeX P w K mg base x ps [] (k+1) ro ms fun ds=>outR ro (fs (a7 N.length ds)):=by obtain⟨f,fd,h1,F⟩:=A.ex;exact⟨f,fd,h1,F.kp,F.binds hb,Dt F S hms (hbody f)⟩
end
section
variable{X:Cx}{g:GE}{ro:Bool}{m mb:List Md}{e:Expr}{es:List Expr}{fl:ah->Res (List D)}{k:Nat}{ps:List Str}{F:List D->Res D}{dvs:List V}{ds:List b_}{dds:List D}{x:Str}{p np pos:Pos}{ms:List Md}{C:Addr}
def i4(fl:ah->Res (List D))(dds:List D)(F:List D->Res D):FE:=fun r=>(fl r).bind fun ds=>F (ds++dds)
theorem Eg(c:CalleeX X.prog X.w X.K X.mg X.base x ps ds k false (ms++t_ dds.length .sh) F)(hr:Room k X.A)(hd:al dvs ds)(hsc:Paired Scl dvs dds)(ha:gu X g m (e::es) ms fl)(hg:Gl X x:=by rfl)(hdb:(x==("__debug__" : Str))=false:=by decide)(he:g_ (e::es) X.env=(false,eval e X.env)::g_ es X.env:=by rfl)(hpl:(backTo pos (g_ es X.env)).any (·.1)=false:=by rfl):SE X g m (.Call (.Name x p) (e::es) [] pos) (i4 fl dds F):=by
 obtain⟨fa,fd,h1,h2,h3,G1⟩:=c.ex;refine PE.imp (Fu G1 hr hg h1 h2 h3 hd ha hdb he hpl) fun σ H Q ⟨r,G,si,q⟩=>⟨r,G,si,?_⟩
 cases ez:fl r with
|ok zs=>
  unfold i4 at q;rw[ez]at q;intro vs G' H' w' rs;refine⟨fun cls od H2=>∃C nm fs G2,cls=.ref C/\F (zs++dds)=.exc (xD nm fs)/\XN X.K nm C/\XF G2 od fs/\Grow X.K G' H' G2 H2,⟨G',zs++dds,w'.ok,rs.app hsc,?_⟩,?_⟩
  .cases ef:F (zs++dds)with
  |ok d=>replace q:fin (F (zs++dds)) _ _:=q;rw[ef]at q;exact fun v G2 H2 w2 rv=>q v G2 H2 (w'.trans w2) rv
  |exc y=>exact fun C od nm fs G2 H2 hy xn xf w2=>⟨C,nm,fs,G2,rfl,by rw[hy],xn,xf,w2⟩
  |stuck=>replace q:fin (F (zs++dds)) _ _:=q;rw[ef]at q;exact q
  .intro pz s a cls od H2 s' I fl ⟨C,nm,fs,G2,hc,ef,xn,xf,w2⟩;subst hc;replace q:fin (F (zs++dds)) _ _:=q;rw[ef]at q;exact q pz (.ref a) s' G2 H2 (w'.trans w2) (fl.inv I) ⟨pz,s,H',a,C,od,nm,fs,rfl,rfl,xn,xf,I,fl⟩
|exc x=>unfold i4 at q;rw[ez]at q;exact q
|stuck=>unfold i4 at q;rw[ez]at q;exact q
def ji(m:List Md)(nm:Str)(fl:ah->Res (List D)):FS:=fun r=>eY m r (fl r) fun ds=>if ds.length<=100 then .exc (xD nm []) (forget m r)else .stuck
theorem Ek{nm:Str}(hc:X.calm=true)(c:XC X.K X.mg x C)(xn:XN X.K nm C)(hg:Gl X x)(ha:SA X g m (e::es) fl)(hdb:(x==("__debug__" : Str))=false:=by decide)(he:g_ (e::es) X.env=(false,eval e X.env)::g_ es X.env:=by rfl)(hpl:(backTo p (g_ es X.env)).any (·.1)=false:=by rfl):SS X g ro mb m (.Raise (some (.Call (.Name x np) (e::es) [] p)) none pos) (ji m nm fl) m:=by
 refine⟨rfl,fun pz s σ H D I ⟨r,G,si,q⟩=>?_⟩;refine GY I hc c hg ha ⟨r,G,si,?_⟩ hdb he hpl;refine bh (eO si rfl q) fun ds q vs G' H' w' rs=>?_;have hl:vs.length=ds.length:=Paired.length rs;split at q
 .rename_i h100;refine⟨by rw[hl];exact JE h100 (by decide),fun s1 a s' I1 fl=>?_⟩;exact q pz (.ref a) s' σ G' H' w'.ge (by have:=(si.grow w').forget;exact this) (fl.inv I1) ⟨pz,s1,H',a,C,none,nm,[],rfl,rfl,xn,rfl,I1,fl⟩
 .exact q.elim
end
section
variable{M:NU}{A:Jr}{E:b_->e_->Prop}{s:e_}{nm q nmT qT:Str}{C N T NT:Addr}{bs bm bsT bmT:List b_}{hdct hdctT:Bool}{sn snT:List Str}{sub subT':List b_}{ab abT:Bool}{col colT:Option Bool}{dd ddT:Option Addr}{k0 k1 k2 k3 k5 t0 t1 t2 t3 t5:Option b_}{newId newIdT:String}
theorem IB{e:Addr}{oe:Obj}{Q:Bool->e_->Prop}(hC:s.heap.get? C=some (JA nm q C N bs bm hdct sn sub ab col dd k0 k1 k2 k3 k5 newId))(hT:s.heap.get? T=some (JA nmT qT T NT bsT bmT hdctT snT subT' abT colT ddT t0 t1 t2 t3 t5 newIdT))(he:s.heap.get? e=some oe)(hc:oe.cls=.ref C)(hb:bmT.contains (Value.type "BaseException")=true)(hq:Q ((Value.ref C::bm).contains (.ref T)) s):p_ M A (excMatches (.ref e) (.ref T)) Q E s:=by unfold excMatches;refine c_ (wpAny_isInstance (T := "type") (b:=false) ⟨_,hT,rfl⟩ (by rw[isSubtype_type];kernel_rfl) ?_);rw[if_neg l_];refine c_ (i_ ?_);simp only[Nf,List.forIn_nil];refine c_ (c_ ?_);unfold isExcClass isType;refine c_ (c_ (c_ (LQ hT (i_ ?_))));rw[if_pos rfl];obtain⟨hh,hg,hdr,ht,ho⟩:=s;refine Kl hT ?_;rw[Ks,hb,LL];rw[if_neg (by simp)];refine i_ (i_ ?_);refine c_ ?_;unfold PB;refine c_ (LQ he (i_ ?_));rw[hc];refine c_ (c_ (c_ (Kl hC ?_)));cases hm:(Value.ref C::bm).contains (Value.ref T)with
|true=>rw[hm]at hq;rw[if_pos rfl];exact i_ (i_ (i_ hq))
|false=>rw[hm]at hq;rw[if_neg l_];exact i_ (i_ (i_ hq))
end
section
variable{X:Cx}{pz:List (Addr×Obj)}{σ:L2.St}{H H':Hp}{s s':e_}{M:NU}{A:Jr}{E:b_->e_->Prop}
theorem Inv.unbind{i:Nat}{n:Str}{h':Heap}{u:Option b_}{m:Str->Option b_}(I:Inv X pz σ H s)(hN:X.N.Nodup)(hi:X.N[i]? = some n)(hm:s.heap.Ns X.env.locals m)(hn:h'.Ns X.env.locals fun x=>if x=n then u else m x)(sb:Me X.env.locals s.heap h')(hl:∀x v,m x=some v->True):Inv X pz (σ.set i none) H { heap:=h',gens:=s.gens,drawn:=s.drawn,toks:=s.toks,os:=s.os }:=by
 have nl:∀b o,X.s₀.heap.get? b=some o->b≠X.env.locals:=fun b o e z=>by have h1:=r_ e;have h2:=I.ok.above;rw[z]at h1;exact absurd h1 (Nat.not_lt.mpr h2)
 have cl:∀{c v},s.heap.IsCell c v->h'.IsCell c v:=fun{c v} hc=>by
  have hne:c≠X.env.locals:=by intro z;obtain⟨o,e1,e2⟩:=hc;obtain⟨o',es,ep,ho,r⟩:=hm;rw[z,ho]at e1;cases e1;rw[r.1]at e2;cases e2
  obtain⟨o,e1,e2⟩:=hc;exact⟨o,(sb.2 c hne).trans e1,e2⟩
 refine⟨I.ok,I.os,I.bare,⟨fun b o e n f z=>(sb.2 b (nl b o e)).trans (I.base.keep b o e n f z),fun b o e n f z=>?_,I.base.free,fun b o e z=>?_,I.base.tups,I.base.frzs,I.base.tbls⟩,?_,fun x c hc=>?_,I.free,I.freeC,fun p hp=>?_,fun b o e=>?_,by rw[JD];exact I.len⟩
 .obtain⟨sl,e1⟩:=I.base.slot b o e n f z;exact⟨sl,(sb.2 b (nl b o e)).trans e1⟩
 .obtain⟨o',e1⟩:=I.base.there b o e z;exact⟨o',(sb.2 b (nl b o e)).trans e1⟩
 .obtain⟨m0,hm0,lk⟩:=I.loc;refine⟨_,hn,fun j x v hj hv vis=>?_⟩;have hij:i≠j:=by
   rintro rfl
   rw[Ky,if_pos rfl]at hv;split at hv <;> cases hv
  rw[a_ hij]at hv;obtain⟨w,rw',lo⟩:=lk j x v hj hv vis;have hxn:x≠n:=by
   rintro rfl
   exact hij ((List.getElem?_inj (f_.mp hi).1 hN).mp (hi.trans hj.symm))
  refine⟨w,rw',?_⟩;rcases lo with⟨k,e⟩|⟨k,c,hc,ic⟩
  .refine .inl ⟨k,?_⟩;show(if x=n then u else m x)=some w;rw[if_neg hxn,hm.agree hm0];exact e
  .exact .inr ⟨k,c,hc,cl ic⟩
 .obtain⟨v,hv⟩:=I.cell x c hc;exact⟨v,cl hv⟩
 .obtain⟨p1,p2,p3,p4,p5⟩:=I.pin p hp;exact⟨(sb.2 _ p3).trans p1,p2,p3,p4,p5⟩
 .have hb:∀c u,H c=some u->c≠X.env.locals:=fun c u e z=>by rw[z,I.free]at e;cases e
  refine(I.hok b o e).stay (fun c v hc e1=>(sb.2 c ?_).trans e1) (fun _ z=>z) fun _ _ z=>z;rcases hc with z|z
  .rw[z];exact hb b o e
  .exact hb c _ z
theorem Hk{i:Nat}{n:Str}{pos:Pos}{v:V}{Q:Unit->e_->Prop}(I:Inv X pz σ H s)(hN:X.N.Nodup)(hi:X.N[i]? = some n)(hv:σ[i]? = some (some v))(hl:X.env.kindOf n=some NameKind.local)(hsc:X.env.scope.names.lookup n=some .local)(q:∀s',Inv X pz (σ.set i none) H s'->Q () s'):p_ M A (L6 X.env n pos) Q E s:=by
 unfold L6;refine wpAny_onRaise ?_;obtain⟨m,hm,lk⟩:=id I.loc;obtain⟨w,rw',lo⟩:=lk i n v hi hv (.inl hsc);have hmn:m n=some w:=by
  rcases lo with⟨_,e⟩|⟨k,_⟩
  .exact e
  .rw[hl]at k;rcases k with k|k <;> cases k
 refine wpAny_unbindName_local hl hm hmn ?_ fun h' u hn sb=>q _ (Inv.unbind I hN hi hm hn sb fun _ _ _=>trivial);rw[I.ok.kind];rfl
end
def XO(K:W.Frag)(C:Addr)(bm:List b_):Prop:=∃N nm q bs hdct sn sub ab col dd k0 k1 k2 k3 k5 newId,K.lookup C=some (JA nm q C N bs bm hdct sn sub ab col dd k0 k1 k2 k3 k5 newId)
abbrev _root_.L2.Cx.held(X:Cx)(v:b_):Cx:={ X with A:=X.A.mark (some v),calm:=false,xe:=fun _ _=>False }
section
variable{X:Cx}{pz:List (Addr×Obj)}{σ:L2.St}{H H':Hp}{s s':e_}{a C:Addr}{od:Option Addr}
theorem Inv.held(I:Inv X pz σ H s)(v:b_):Inv (X.held v) pz σ H s:=⟨⟨I.ok.mod,I.ok.kind,I.ok.glob,I.ok.blt,I.ok.above,I.ok.inj,I.ok.has,I.ok.cab,(fun h=>nomatch h),I.ok.frames,I.ok.stk,I.ok.exf,I.ok.bs,I.ok.bsz,I.ok.noex,I.ok.exfs,I.ok.funs,I.ok.frf⟩,I.os,I.bare,I.base,I.loc,I.cell,I.free,I.freeC,I.pin,I.hok,I.len⟩
theorem Inv.unheld{v:b_}(hh:X.calm=true->X.A.handled=none)(I:Inv (X.held v) pz σ H s):Inv X pz σ H s:=⟨⟨I.ok.mod,I.ok.kind,I.ok.glob,I.ok.blt,I.ok.above,I.ok.inj,I.ok.has,I.ok.cab,hh,I.ok.frames,I.ok.stk,I.ok.exf,I.ok.bs,I.ok.bsz,I.ok.noex,I.ok.exfs,I.ok.funs,I.ok.frf⟩,I.os,I.bare,I.base,I.loc,I.cell,I.free,I.freeC,I.pin,I.hok,I.len⟩
theorem Fly.noted{E:b_->e_->Prop}{M:NU}{Q:Unit->e_->Prop}(F:Fly X.prog X.w X.stack H s H' a (.ref C) od s')(I:Inv X pz σ H s)(hst:X.stack=X.env::X.outer)(hfr:X.env.frame=some X.env.locals)(q:∀h' oe vs tb ot ts,Inv X pz σ (upd H' a (.ext (hR a C od))) { heap:=h',gens:=s'.gens,drawn:=s'.drawn,toks:=s'.toks,os:=s'.os }->H' a=none->h'.get? a=some oe->oe.cls=.ref C->oe.data=.fields vs->vs[1]? = some (.ref tb)->h'.get? tb=some ot->ot.data=.fields ts->ts[3]? = some Value.none ->Q () { heap:=h',gens:=s'.gens,drawn:=s'.drawn,toks:=s'.toks,os:=s'.os }):p_ M X.A (LW (.ref a) X.env) (fun _ s2=>p_ M X.A (KU (.ref a) none) Q E s2) E s':=by
 obtain⟨B,hB,hBa,hff,⟨oe,vs,r1,r2,r3,r4,r5⟩,hd,hH⟩:=F.ex;have hHa:H' a=none:=by cases e:H' a with
 |none=>rfl
 |some u=>obtain⟨o',z⟩:=hH a u e;rw[hBa]at z;cases z
 have haf:a∉bK X.stack:=fun z=>by obtain⟨_,o,e1,nf⟩:=hff.mem z;rw[r1]at e1;cases e1;exact nf vs r4
 have hs1:1<vs.size:=by rcases r5 with z|⟨_,_,_,z,_⟩|⟨_,_,_,_,_,z,_⟩ <;> exact(JQ.mp z).1
 have sna:∀b o,s.heap.get? b=some o->b≠a:=fun b o e z=>by rw[z]at e;obtain⟨o',z2⟩:=hd a o e haf;rw[hBa]at z2;cases z2
 have fin:∀(T:Option Addr) h',(∀b,T=some b->B.get? b=none)->Lft (bK (X.env::X.outer)) a oe vs T Value.none s'.heap h'->Q () { heap:=h',gens:=s'.gens,drawn:=s'.drawn,toks:=s'.toks,os:=s'.os }:=fun T h' hT l=>by
  rw[<-hst]at l;have same:∀b o,(∃o',B.get? b=some o')->s'.heap.get? b=some o->h'.get? b=some o:=fun b o ⟨o',e⟩ h=>by refine l.keep b o (fun z=>?_) (fun z=>by rw[z,hBa]at e;cases e) (fun z=>by rw[hT b z]at e;cases e) h;rw[(hff.mem z).1]at e;cases e
  obtain⟨tb,ot,ts,t1,t2,t3,t4,t5,t6⟩:=l.obj;have hok1:ce X.prog X.w H' h':=fun b u e=>by
   refine(F.hok b u e).stay (fun c v hc e1=>same c v ?_ e1) (fun _ z=>z) fun _ _ z=>z;rcases hc with hc|hc
   .rw[hc];exact hH b u e
   .exact hH c _ hc
  have hne:∀b u,H' b=some u->b≠a:=fun b u e z=>by rw[z,hHa]at e;cases e
  have hok2:ce X.prog X.w (upd H' a (.ext (hR a C od))) h':=fun b u e=>by
   by_cases hb:b=a
   .subst hb;rw[bJ]at e;cases e;exact⟨⟨_,_,t3,r2,r3,rfl⟩,⟨_,t3⟩,fun h1 h2 ⟨oe',vs',z1,z2,z3,z4⟩ k=>⟨oe',vs',k _ z1,z2,z3,z4⟩⟩
   .rw[aK hb]at e;refine(hok1 b u e).stay (fun _ _ _ z=>z) (fun c z=>?_) fun c xs z=>?_
    .rw[aK (hne c _ z)];exact z
    .rw[aK (hne c _ z)];exact z
  have I2:Inv X pz σ (upd H' a (.ext (hR a C od))) { heap:=h',gens:=s'.gens,drawn:=s'.drawn,toks:=s'.toks,os:=s'.os }:=by
   refine I.call' (ch:=[]) F.os ⟨fun b o e n f z=>?_,fun b o e n f z=>?_,fun b o e n z=>?_,fun b o e z=>?_,fun b xs e=>?_,fun b o u e=>?_,fun b ps e=>?_⟩ hok2 F.bare fun b z=>absurd z (by simp)
   .exact same b o (hd b o e f) (F.un.keep b o e n f z)
   .obtain⟨sl,e1⟩:=F.un.slot b o e n f z;obtain⟨_,o2,e2,nf⟩:=hff.mem f;rw[e1]at e2;cases e2;obtain⟨sl2,e3⟩:=l.slot b _ e1 nf;exact⟨sl2,e3⟩
   .rw[aK (sna b o e)];exact F.un.free b o e n z
   .obtain⟨o1,e1⟩:=F.un.there b o e z;by_cases f:b∈bK X.stack
    .obtain⟨_,o2,e2,nf⟩:=hff.mem f;obtain⟨sl,e3⟩:=l.slot b _ e2 nf;exact⟨_,e3⟩
    .exact⟨o1,same b o1 (hd b o e f) e1⟩
   .have:=F.un.tups b xs e;rw[aK (hne b _ this)];exact this
   .have:=F.un.frzs b o u e;rw[aK (hne b _ this)];exact this
   .obtain⟨mo,this⟩:=F.un.tbls b ps e;exact⟨mo,by rw[aK (hne b _ this)];exact this⟩
  exact q h' _ _ tb ot ts I2 hHa t3 r2 rfl (Jq hs1) t4 t5 t6
 have nt2:p_ M X.A (LW (.ref a) X.env) (fun _ s2=>nV a s2.heap/\p_ M X.A (KU (.ref a) none) Q E s2) E s'->p_ M X.A (LW (.ref a) X.env) (fun _ s2=>p_ M X.A (KU (.ref a) none) Q E s2) E s':=fun z=>JF z (fun _ _ z=>z.2) fun _ _ z=>z;have hff2:=hff;rw[hst]at hff2;rcases r5 with z|⟨T,oT,ts,z1,z2,z3,z4,z5,z6⟩|⟨l,T,oT,ts,zl,z1,z2,z3,z4,z5,z6⟩
 .exact nt2 (o6 (T:=none) (by rw[I.ok.frames,hst]) hff2 hfr r1 r4 (fl:=none) (.inl ⟨z,rfl⟩) fun h' l=>fin none h' (fun b e=>nomatch e) l)
 .exact nt2 (o6 (T:=some T) (by rw[I.ok.frames,hst]) hff2 hfr r1 r4 (fl:=none) (.inr (.inl ⟨T,oT,ts,rfl,z1,z3,z4,z5,z6⟩)) fun h' l=>fin (some T) h' (fun b e=>by cases e;exact z2) l)
 .have hl:l=X.env.locals:=by unfold km at zl;rw[hst]at zl;exact(B_ (hfr.symm.trans (show X.env.frame=some l from zl))).symm
  subst hl;exact nt2 (o6 (T:=some T) (by rw[I.ok.frames,hst]) hff2 hfr r1 r4 (fl:=none) (.inr (.inr ⟨T,oT,ts,rfl,z1,z3,z4,z5,z6⟩)) fun h' l=>fin (some T) h' (fun b e=>by cases e;exact z2) l)
end
section
variable{X:Cx}{pz:List (Addr×Obj)}{σ:L2.St}{H H':Hp}{s s':e_}{a C T:Addr}{od:Option Addr}
theorem FO{i:Nat}{n xT:Str}{bm bmT:List b_}{np hpos:Pos}{b₀:Stmt}{suite:List Stmt}{t:TS}{D:Ends}{rest:List ExceptHandler}(F:Fly X.prog X.w X.stack H s H' a (.ref C) od s')(I:Inv X pz σ H s)(hst:X.stack=X.env::X.outer)(hfr:X.env.frame=some X.env.locals)(hcalm:X.calm=true)(cT:X.mg xT=some (.ref T))(oT:XO X.K T bmT)(hbT:bmT.contains (Value.type "BaseException")=true)(oC:XO X.K C bm)(hit:(Value.ref C::bm).contains (.ref T)=true)(hg:Gl X xT)(hN:X.N.Nodup)(hi:X.N[i]? = some n)(hl:X.env.kindOf n=some NameKind.local)(hsc:X.env.scope.names.lookup n=some .local)(hs:bx (X.held (.ref a)) (b₀::suite) t)(q:H' a=none->t { nx:=fun σ' H2=>D.nx (σ'.set i none) H2,rt:=fun _ _=>False } (σ.set i (some (.ref a))) (upd H' a (.ext (hR a C od))))(hdb:(xT==("__debug__" : Str))=false:=by decide):p_ (y_ X.prog X.w) X.A (LW (.ref a) X.env) (fun _ s₂=>p_ (y_ X.prog X.w) X.A (KU (.ref a) none) (fun _ s₃=>p_ (y_ X.prog X.w) X.A (handleBy (.ref a) X.env (.ExceptHandler (some (.Name xT np)) (some n) (b₀::suite) hpos::rest)) (SP X pz D) X.xe s₃) X.xe s₂) X.xe s':=by
 refine F.noted I hst hfr fun h' oe vs tb ot ts I1 hHa e1 e2 e3 e4 e5 e6 e7=>?_;refine wpAny_handleBy_cons ?_ (by intro z;cases z);have Ih:=Inv.held I1 (.ref a);refine codeAny_handlers_test (j4 (X:=X.held (.ref a)) Ih hg cT ?_ hdb);obtain⟨N1,nm1,q1,bs1,hd1,sn1,sub1,ab1,col1,dd1,a0,a1,a2,a3,a5,nw1,z1⟩:=oC;obtain⟨N2,nm2,q2,bs2,hd2,sn2,sub2,ab2,col2,dd2,c0,c1,c2,c3,c5,nw2,z2⟩:=oT;refine IB (I1.kIn _ _ z1) (I1.kIn _ _ z2) e1 e2 hbT ?_;rw[hit,if_pos rfl];refine codeAny_handlers_suite_as ?_;unfold KU;refine c_ (JW e1 e3 e4 ?_);rw[if_pos (by rfl)];have h3s:3<ts.size:=(JQ.mp e7).1;refine KL e5 e6 h3s ?_;have I2:Inv X pz σ (upd H' a (.ext (hR a C od))) { heap:=h'.update tb (Jv fun v=>v.setIfInBounds 3 Value.none),gens:=s'.gens,drawn:=s'.drawn,toks:=s'.toks,os:=s'.os }:=by
  refine I1.kept fun b u e=>?_;show(h'.update tb _).get? b=some u;by_cases hb:b=tb
  .subst hb;have e5':h'.get? b=some ot:=e5;have:u=ot:=by rw[show h'.get? b=some u from e]at e5';cases e5';rfl
   subst this;have mf:Jv (fun v=>v.setIfInBounds 3 Value.none) u=u:=by
    obtain⟨c,d,da,sl⟩:=u;have:da=.fields ts:=e6;subst this;show({ cls:=c,dict:=d,data:=.fields (ts.setIfInBounds 3 Value.none),slots:=sl }:Obj)=_;have:ts.setIfInBounds 3 Value.none=ts:=by
     refine NK fun j=>?_;by_cases hj:3=j
     .subst hj;rw[Jq h3s,e7]
     .rw[Array.getElem?_setIfInBounds_ne hj]
    rw[this]
   have nf:(Jv (fun v=>v.setIfInBounds 3 Value.none) u).isFreed=false:=by obtain⟨c,d,da,sl⟩:=u;have:da=.fields ts:=e6;subst this;rfl
   have:=JI (Jv fun v=>v.setIfInBounds 3 Value.none) e5' nf;rw[mf]at this;exact this
  .rw[JO _ _ _ _ hb];exact e
 refine pb (X:=X.held (.ref a)) (i:=i) (v:=.ref a) (Inv.held I2 (.ref a)) hN hi (.inl hsc) rfl (fun s3 I3=>?_) (.inr hsc);refine JF (hs pz s3 _ _ _ I3 (q hHa)) (fun f s4 h4=>?_) fun _ _ z=>JG z;have fin:∀{σ':L2.St}{H2:Hp} ,Inv (X.held (.ref a)) pz σ' H2 s4->D.nx (σ'.set i none) H2->f=Flow.next->p_ (y_ X.prog X.w) X.A (do
   bindName X.env n Value.none
   L6 X.env n hpos) (fun _ s₅=>SP X pz D f s₅) X.xe s4:=fun{σ' H2} I4 k hf=>by
  subst hf;have I4':Inv X pz σ' H2 s4:=Inv.unheld I.ok.hd I4;refine c_ (wpAny_bindName (pb (i:=i) (v:=.non) I4' hN hi (.inl hsc) rfl (fun s5 I5=>?_) (.inr hsc)));have hlen:i<σ'.length:=by rw[I4'.len];exact(f_.mp hi).1
  refine Hk (v:=.non) I5 hN hi (by rw[d_ hlen]) hl hsc fun s6 I6=>?_;rw[List.set_set]at I6;exact⟨_,H2,I6,k⟩
 cases f with
|next=>obtain⟨σ',H2,I4,k⟩:=h4;exact fin I4 k rfl
|brk=>obtain⟨σ',H2,I4,k⟩:=h4;exact k.elim
|cont=>obtain⟨σ',H2,I4,k⟩:=h4;exact k.elim
|ret u=>obtain⟨v,σ',H2,I4,_,k⟩:=h4;exact k.elim
end
theorem SI.cx{X X':Cx}{g:GE}{m:List Md}{r:ah}{G:GH}{st:L2.St}{H:Hp}(s:SI X g m r G st H)(h:X'.K=X.K):SI X' g m r G st H:=by
 constructor
 .rw[h];exact s.gok
 .exact s.old
 .exact s.ge
 .exact s.gf
 .exact s.lm
 .exact s.lr
 .rw[h];exact s.sh
 .rw[h];exact s.ow
 .rw[h];exact s.bw
 .exact s.dis
 .exact s.lk
theorem SI.unset{X:Cx}{g:GE}{m:List Md}{r:ah}{G:GH}{st:L2.St}{H:Hp}{i:Nat}(s:SI X g m r G st H)(hm:m[i]? = some .sh):SI X g m (r.set i none) G (st.set i none) H:=by
 have key:∀{j:Nat}{d:D},(r.set i none)[j]? = some (some d)->i≠j/\r[j]? = some (some d):=fun{j d} h=>by
  have hij:i≠j:=by
   rintro rfl
   rw[Ky,if_pos rfl]at h;split at h <;> cases h
  rw[a_ hij]at h;exact⟨hij,h⟩
 refine⟨s.gok,s.old,s.ge,s.gf,by rw[JD];exact s.lm,by rw[JD,JD];exact s.lr,fun j d h hj=>?_,fun j d h hj=>?_,fun j d h hj=>?_,fun j k a d e hjk h1 h2 m1 m2 q1 q2=>?_,fun j o h hj=>?_⟩
 .obtain⟨hij,h⟩:=key h;rw[a_ hij];exact s.sh j d h hj
 .obtain⟨hij,h⟩:=key h;rw[a_ hij];exact s.ow j d h hj
 .obtain⟨hij,h⟩:=key h;rw[a_ hij];exact s.bw j d h hj
 .obtain⟨z1,h1⟩:=key h1;obtain⟨z2,h2⟩:=key h2;rw[a_ z1]at q1;rw[a_ z2]at q2;exact s.dis j k a d e hjk h1 h2 m1 m2 q1 q2
 .have hij:i≠j:=by rintro rfl;rw[hm]at hj;cases hj
  obtain⟨l1,l2⟩:=s.lk j o h hj;exact⟨by rw[a_ hij];exact l1,fun d hd=>l2 d (by rw[a_ hij]at hd;exact hd)⟩
abbrev _root_.L2.Cx.tr(X:Cx)(ps:List (Addr×Obj))(E:b_->e_->Prop):Cx:={ X with pn:=ps,xe:=E }
section
variable{X:Cx}{pz pins':List (Addr×Obj)}{σ:L2.St}{H:Hp}{s:e_}{E:b_->e_->Prop}
theorem Inv.tr(I:Inv X pz σ H s)(E:b_->e_->Prop):Inv (X.tr (X.pn++pz) E) [] σ H s:=⟨⟨I.ok.mod,I.ok.kind,I.ok.glob,I.ok.blt,I.ok.above,I.ok.inj,I.ok.has,I.ok.cab,I.ok.hd,I.ok.frames,I.ok.stk,I.ok.exf,I.ok.bs,I.ok.bsz,I.ok.noex,I.ok.exfs,I.ok.funs,I.ok.frf⟩,I.os,I.bare,I.base,I.loc,I.cell,I.free,I.freeC,fun p hp=>I.pin p (by rw[JZ]at hp;exact hp),I.hok,I.len⟩
theorem Inv.untr(I:Inv (X.tr (X.pn++pz) E) pins' σ H s):Inv X pz σ H s:=⟨⟨I.ok.mod,I.ok.kind,I.ok.glob,I.ok.blt,I.ok.above,I.ok.inj,I.ok.has,I.ok.cab,I.ok.hd,I.ok.frames,I.ok.stk,I.ok.exf,I.ok.bs,I.ok.bsz,I.ok.noex,I.ok.exfs,I.ok.funs,I.ok.frf⟩,I.os,I.bare,I.base,I.loc,I.cell,I.free,I.freeC,fun p hp=>I.pin p (K2 _ hp),I.hok,I.len⟩
theorem SP.untr{D:Ends}{f:Flow}(h:SP (X.tr (X.pn++pz) E) [] D f s):SP X pz D f s:=by cases f with
|next=>obtain⟨σ',H',I,q⟩:=h;exact⟨σ',H',Inv.untr I,q⟩
|brk=>obtain⟨σ',H',I,q⟩:=h;exact⟨σ',H',Inv.untr I,q⟩
|cont=>obtain⟨σ',H',I,q⟩:=h;exact⟨σ',H',Inv.untr I,q⟩
|ret u=>obtain⟨v,σ',H',I,r,q⟩:=h;exact⟨v,σ',H',Inv.untr I,r,q⟩
end
def lQ(K:W.Frag)(T:Addr)(hit:Str->Bool):Prop:=∀nm C,hit nm=true->XN K nm C->∃bm,XO K C bm/\(Value.ref C::bm).contains (.ref T)=true
def IR:D->Option Str
|.obj 0 ((_,.str nm)::_)=>some nm
|_=>none
def fJ(m1:List Md)(i:Nat)(hit:Str->Bool)(fb fh:FS):FS:=fun r=>match fb r with
|.nx r'=>.nx (forget m1 r')
|.rt d=>.rt d
|.exc x r'=>(match IR x with
 |some nm=>if hit nm=true then(match fh (r'.set i (some x))with
  |.nx r2=>.nx (r2.set i none)
  |_=>.stuck)else .stuck
 |none=>.stuck)
|_=>.stuck
section
variable{X:Cx}{g:GE}{ro:Bool}{m m1 mb:List Md}{T:Addr}{fb fh:FS}
theorem BJ{n xT:Str}{bmT:List b_}{np hpos pos:Pos}{body suite:List Stmt}{b₀:Stmt}{hit:Str->Bool}(i:Nat)(hst:X.stack=X.env::X.outer)(hfr:X.env.frame=some X.env.locals)(hcalm:X.calm=true)(cT:X.mg xT=some (.ref T))(oT:XO X.K T bmT)(hbT:bmT.contains (Value.type "BaseException")=true)(hk:lQ X.K T hit)(hg:Gl X xT)(hN:X.N.Nodup)(hi:X.N[i]? = some n)(hl:X.env.kindOf n=some NameKind.local)(hsc:X.env.scope.names.lookup n=some .local)(hb:∀ps E,dH (X.tr ps E) g ro [] m body fb m1)(hs:∀a,dH (X.held (.ref a)) g ro [] (cP m1) (b₀::suite) fh (cP m1))(hdb:(xT==("__debug__" : Str))=false:=by decide):SS X g ro mb m (.Try body [.ExceptHandler (some (.Name xT np)) (some n) (b₀::suite) hpos] [] [] pos) (fJ m1 i hit fb fh) (cP m1):=by
 have hml:(cP m1).length=m.length:=by rw[cP,n_];exact(hb [] fun _ _=>False).1
 refine⟨hml,fun pz s σ H D I ⟨r,G,si,q⟩=>?_⟩;refine wpAny_Try_except ?_;generalize hE:(fun(e:b_)(s₁:e_)=>p_ (y_ X.prog X.w) X.A (LW e X.env) (fun _ s₂=>p_ (y_ X.prog X.w) X.A (KU e none) (fun _ s₃=>p_ (y_ X.prog X.w) X.A (handleBy e X.env [.ExceptHandler (some (.Name xT np)) (some n) (b₀::suite) hpos]) (SP X pz D) X.xe s₃) X.xe s₂) X.xe s₁)=E';have key:br (X.tr (X.pn++pz) E') g ro m1 [] G { nx:=D.nx,rt:=D.rt } (fb r):=by unfold fJ at q;cases e:fb r with
 |nx r'=>rw[e]at q;exact fun σ' G' H' le si'=>q σ' G' H' le (SI.cx (X':=X) si' rfl).forget
 |rt d=>rw[e]at q;exact q
 |bk r'=>rw[e]at q;exact q.elim
 |ct r'=>rw[e]at q;exact q.elim
 |stuck=>rw[e]at q;exact q
 |exc x r'=>
   rw[e]at q;intro pins' ev s' σ' G' H' le si' I' ex;obtain⟨pins1,s1,H1,a,C,od,nm,ds,rfl,rfl,xn,xf,I1,fl⟩:=ex;show E' (.ref a) s';rw[<-hE];replace q:br X g ro (cP m1) mb G D (if hit nm=true then(match fh (r'.set i (some (xD nm ds)))with
   |.nx r2=>.nx (r2.set i none)
   |_=>.stuck)else .stuck):=q
   split at q
   .rename_i hh;obtain⟨bm,oC,hc⟩:=hk nm C hh xn;refine FO (i:=i) (D:=D) fl (Inv.untr I1) hst hfr hcalm cT oT hbT oC hc hg hN hi hl hsc (hs a).2 (fun hHa=>?_) hdb;have hGa:G' a=none:=si'.gok.isN hHa;have w:Grow X.K G' H' (gset G' a (xD nm ds)) (upd H' a (.ext (hR a C od))):=by
     have ge:∀b d,G' b=some d->gset G' a (xD nm ds) b=some d:=fun b d e=>by
      have:b≠a:=by rintro rfl;rw[hGa]at e;cases e
      rw[cR this];exact e
     refine⟨fun b d e=>?_,fun b o e=>?_,ge,fun b h=>?_⟩
     .by_cases hb:b=a
      .subst hb;rw[cQ]at e;cases e;exact .exc bJ xn (xf.mono ge)
      .rw[cR hb]at e;exact(si'.gok b d e).mono ge fun o z=>by rw[aK hb];exact z
     .have:b≠a:=by rintro rfl;rw[hHa]at e;cases e
      rw[aK this];exact e
     .have:b≠a:=by rintro rfl;exact h hHa
      exact cR this
    have si2:=((SI.cx (X':=X) si' rfl).grow w).set i (.ref cQ);have hms:(cP m1)[i]? = some .sh:=by
     have hlen:i<(cP m1).length:=by rw[si'.lm,I'.len];exact(f_.mp hi).1
     have hlen':i<m1.length:=by rw[cP,n_]at hlen;exact hlen
     unfold cP;rw[s_,m_ hlen'];rfl
    have hset:(cP m1).set i .sh=cP m1:=by
     refine MB fun j=>?_;by_cases hj:i=j
     .subst hj;rw[d_ (f_.mp hms).1,hms]
     .rw[a_ hj]
    rw[hset]at si2;refine⟨_,_,SI.cx si2 rfl,?_⟩;cases e2:fh (r'.set i (some (xD nm ds)))with
   |nx r2=>rw[e2]at q;exact fun σ2 G2 H2 le2 si3=>q (σ2.set i none) G2 H2 (le.trans (aG.trans w.ge le2)) (SI.unset (SI.cx si3 rfl) hms)
   |rt d=>rw[e2]at q;exact q.elim
   |bk _=>rw[e2]at q;exact q.elim
   |ct _=>rw[e2]at q;exact q.elim
   |exc _ _=>rw[e2]at q;exact q.elim
   |stuck=>rw[e2]at q;exact q.elim
   .exact q.elim
 refine JF ((hb (X.pn++pz) E').2 [] s σ H _ (Inv.tr I E') ⟨r,G,SI.cx si rfl,key⟩) (fun f s1 h1=>?_) fun e s1 h1=>?_
 .have h2:=SP.untr h1;cases f with
 |next=>obtain⟨σ',H',I',k⟩:=h2;exact Lq ⟨σ',H',I',k⟩
 |brk=>obtain⟨σ',H',I',k⟩:=h2;exact k.elim
 |cont=>obtain⟨σ',H',I',k⟩:=h2;exact k.elim
 |ret u=>exact h2
 .exact h1
end
theorem EN:builtinKind "BaseException.__getattribute__" = some .slot:=by kernel_rfl
theorem GN:splitId "BaseException.__getattribute__" = some ("BaseException","__getattribute__"):=by decide+kernel
theorem Fy:plainId "BaseException.__getattribute__" = true:=by kernel_rfl
theorem E3:PB (.builtin "BaseException.__getattribute__")=pure (.type "wrapper_descriptor"):=by kernel_rfl
section
variable{prog:u_}{w:H_}{A:Jr}{E:b_->e_->Prop}{s:e_}{nm q:Str}{C N a:Addr}{bs bm:List b_}{hdct:Bool}{sn:List Str}{sub:List b_}{ab:Bool}{col:Option Bool}{dd:Option Addr}{k0 k1 k2 k3 k5:Option b_}{newId:String}{oe:Obj}
theorem yS{T:String}{Q:Bool->e_->Prop}(hC:s.heap.get? C=some (JA nm q C N bs bm hdct sn sub ab col dd k0 k1 k2 k3 k5 newId))(he:s.heap.get? a=some oe)(hc:oe.cls=.ref C)(hq:Q ((Value.ref C::bm).contains (.type T)) s):p_ (y_ prog w) A (Mt (.ref a) (.type T)) Q E s:=by unfold Mt;refine c_ (JT he ?_);rw[hc];obtain⟨hh,hg,hdr,ht,ho⟩:=s;exact Kl hC hq
theorem FU{v:b_}{Q:Unit->e_->Prop}(hC:s.heap.get? C=some (JA nm q C N bs bm hdct sn sub ab col dd k0 k1 k2 k3 k5 newId))(he:s.heap.get? a=some oe)(hc:oe.cls=.ref C)(hb:bm.contains (Value.type "BaseException")=true)(hq:Q () s):p_ (y_ prog w) A (ML "BaseException.__getattribute__" ⟨[.ref a,v],[]⟩) Q E s:=by unfold ML;simp only[EN,GN];refine c_ (yS hC he hc ?_);rw[Ks,hb,LL,if_neg (by simp)];have:=F.args_bexc_ga (.ref a) v;unfold argsOk at this;revert this;generalize Manifest.signature? "BaseException.__getattribute__" = sg;intro this;cases sg with
|none=>exact i_ hq
|some sig=>have e:Mu "BaseException.__getattribute__" sig ⟨[.ref a,v],[]⟩=pure ():=this;show p_ _ _ (Mu "BaseException.__getattribute__" sig ⟨[.ref a,v],[]⟩) _ _ _;rw[e];exact i_ hq
theorem Dj{v:b_}{Q:b_->e_->Prop}(hC:s.heap.get? C=some (JA nm q C N bs bm hdct sn sub ab col dd k0 k1 k2 k3 k5 newId))(he:s.heap.get? a=some oe)(hc:oe.cls=.ref C)(hb:bm.contains (Value.type "BaseException")=true)(h:p_ (y_ prog w) A.in1 (Lb.«object.__getattribute__» ⟨[.ref a,v],[]⟩) (fun fin s'=>∃u,fin=.done (.ret u)/\Q u s') E s):p_ (y_ prog w) A (call (.builtin "BaseException.__getattribute__") [.ref a,v]) Q E s:=by refine Lv (K7 Fy F.entry_bexc_ga (FU hC he hc hb ?_));refine JF h (fun fin s' ⟨u,e,hq⟩=>?_) fun e s' z=>z;subst e;exact hq
theorem yw{K:W.Frag}{v:b_}{fill expr:Bool}{Q:b_->e_->Prop}(kin:K.In s.heap)(hC:s.heap.get? C=some (JA nm q C N bs bm hdct sn sub ab col dd k0 k1 k2 k3 k5 newId))(he:s.heap.get? a=some oe)(hc:oe.cls=.ref C)(hb:bm.contains (Value.type "BaseException")=true)(g1:Lx K (.ref C) "__getattribute__" = some (some (.builtin "BaseException.__getattribute__")))(g2:Lx K (.ref C) "__getattr__" = some none)(h:p_ (y_ prog w) A.in1 (Lb.«object.__getattribute__» ⟨[.ref a,v],[]⟩) (fun fin s'=>∃u,fin=.done (.ret u)/\Ny u=pure u/\Q u s') (fun _ _=>False) s):p_ (y_ prog w) A (getAttrBy (.ref a) v fill expr) Q E s:=by
 unfold getAttrBy;refine J6 (c_ (JT he ?_));rw[hc];refine c_ (LR kin g1 _ _ _ _ (fun b o e=>e) ?_);show p_ _ _ (if (onTheHeap (Value.ref C)&&(Value.builtin "BaseException.__getattribute__" == Value.builtin "object.__getattribute__"))=true then _ else _) _ _ _;rw[if_neg (by intro z;rw[show(Value.builtin "BaseException.__getattribute__" == Value.builtin "object.__getattribute__")=false from by decide+kernel,OV]at z;cases z)];unfold getAttrByItsOwn hookBefore;rw[if_pos (by rfl)];refine c_ (LR kin g2 _ _ _ _ (fun b o e=>e) ?_);refine c_ (wpAny_attempt (J6 ?_));unfold callGetattribute;have hx:(expr&&onTheHeap (Value.builtin "BaseException.__getattribute__"))=false:=by cases expr <;> rfl
 rw[hx,if_neg l_];unfold boundAndCalled bindSpecial;rw[E3];refine c_ (c_ (i_ ?_));rw[if_pos (by decide)];refine i_ ?_;refine Dj hC he hc hb (JF h (fun fin s' ⟨u,e,ho,hq⟩=>⟨u,e,?_⟩) fun _ _ z=>JG z);show p_ _ _ (Ny u) _ _ _;rw[ho];exact i_ hq
end
theorem EO:builtinKind "getset_descriptor.__get__" = some .slot:=by kernel_rfl
theorem GO:splitId "getset_descriptor.__get__" = some ("getset_descriptor","__get__"):=by decide+kernel
theorem Fz:plainId "getset_descriptor.__get__" = true:=by kernel_rfl
theorem FY:entryFor table "getset_descriptor.__get__" = some Lb.«getset_descriptor.__get__»:=by kernel_rfl
theorem FZ:entryFor table "object.__class__" = some Lb.«object.__class__»:=by kernel_rfl
theorem E4:PB (.builtin "object.__class__")=pure (.type "getset_descriptor"):=by kernel_rfl
theorem Df(a b c:b_):argsOk "getset_descriptor.__get__" ⟨[a,b,c],[]⟩:=by kernel_rfl
theorem FB:plainId "object.__class__" = true:=by kernel_rfl
theorem CQ:MT (.builtin "object.__class__")=pure (F_ "__class__",Value.type "object"):=by kernel_rfl
theorem DE:isSubtype (.type "getset_descriptor") (.type "getset_descriptor")=pure true:=by rw[isSubtype_type];kernel_rfl
section
variable{prog:u_}{w:H_}{A:Jr}{E:b_->e_->Prop}{s:e_}{nm q:Str}{C N a:Addr}{bs bm:List b_}{hdct:Bool}{sn:List Str}{sub:List b_}{ab:Bool}{col:Option Bool}{dd:Option Addr}{k0 k1 k2 k3 k5:Option b_}{newId:String}{oe:Obj}
theorem F7{Q:b_->e_->Prop}(hC:s.heap.get? C=some (JA nm q C N bs bm hdct sn sub ab col dd k0 k1 k2 k3 k5 newId))(he:s.heap.get? a=some oe)(hc:oe.cls=.ref C)(hb:bm.contains (Value.type "object")=true)(hq:Q (.ref C) s):p_ (y_ prog w) A (call (.builtin "getset_descriptor.__get__") [.builtin "object.__class__",.ref a,.ref C]) Q E s:=by
 refine Lv (K7 Fz FY ?_);unfold ML;simp only[EO,GO];unfold Mt;rw[E4];refine c_ (c_ (i_ ?_));rw[DE];refine i_ ?_;rw[if_neg (by decide)];have this:=Df (.builtin "object.__class__") (.ref a) (.ref C);unfold argsOk at this;revert this;generalize Manifest.signature? "getset_descriptor.__get__" = sg;intro this;have body:p_ (y_ prog w) A.in1 (Lb.«getset_descriptor.__get__» ⟨[.builtin "object.__class__",.ref a,.ref C],[]⟩) (fun fin s'=>match fin with
  |Fin.done f=>(match (Except.ok f:Pz)with|.ok (.ret v)=>Q v s'|.ok _=>False|.error e=>E e s')
  |Fin.again c'=>c'.quiet=true/\MV (y_ prog w) A c' (fun r s'=>match r with|.ok (.ret v)=>Q v s'|.ok _=>False|.error e=>E e s') s') (fun e s'=>E e s') s:=by
  unfold Lb.«getset_descriptor.__get__» NN Np;refine c_ ?_;show p_ _ _ (pure ((Value.builtin "object.__class__",some (Value.ref a),some (Value.ref C)):b_×Option b_×Option b_)) _ _ _;refine i_ ?_;unfold Nz MM
  dsimp only
  rw[CQ];refine c_ (c_ (i_ (c_ (yS hC he hc ?_))));rw[Ks,hb,LL,if_neg (by simp)];refine i_ (i_ ⟨plainId_quiet FB _,?_⟩);refine codeAny_builtin FZ ?_;unfold Lb.«object.__class__» shownTypeOf;refine c_ (c_ (JT he ?_));rw[hc,if_neg (by intro z;cases z)];exact i_ (i_ hq)
 cases sg with
|none=>exact i_ body
|some sig=>have e:Mu "getset_descriptor.__get__" sig ⟨[.builtin "object.__class__",.ref a,.ref C],[]⟩=pure ():=this;show p_ _ _ (Mu "getset_descriptor.__get__" sig ⟨[.builtin "object.__class__",.ref a,.ref C],[]⟩) _ _ _;rw[e];exact i_ body
theorem F5{K:W.Frag}{tk:Tok}{Q:b_->e_->Prop}(kin:K.In s.heap)(hC:s.heap.get? C=some (JA nm q C N bs bm hdct sn sub ab col dd k0 k1 k2 k3 k5 newId))(he:s.heap.get? a=some oe)(hc:oe.cls=.ref C)(hb:bm.contains (Value.type "object")=true)(g1:Lx K (.ref C) "__class__" = some (some (.builtin "object.__class__")))(g2:Op K (.builtin "object.__class__") "__get__" = some (some (.builtin "getset_descriptor.__get__")))(g3:takesIn K (.builtin "object.__class__")=some true)(hq:Q (.ref C) s):p_ (y_ prog w) A (Lb.«object.__getattribute__» ⟨[.ref a,.str "__class__" tk],[]⟩) (fun fin s'=>∃u,fin=.done (.ret u)/\Ny u=pure u/\Q u s') E s:=by unfold Lb.«object.__getattribute__»;refine c_ ?_;show p_ _ _ (pure ((Value.ref a,[Value.str "__class__" tk]):b_×List b_)) _ _ _;refine i_ ?_;show p_ _ _ (Mg (Value.str "__class__" tk) >>= _) _ _ _;refine c_ ?_;show p_ _ _ (pure (F_ "__class__")) _ _ _;refine i_ (c_ (JT he ?_));rw[hc];refine c_ ?_;unfold MN;refine c_ (LR kin g1 _ _ _ _ (fun b o e=>e) ?_);refine c_ ?_;show p_ _ _ (specialOf (Value.builtin "object.__class__") (F_ "__get__")) _ _ _;refine looks_specialIn kin g2 _ _ _ _ (fun b o e=>e) ?_;refine c_ ?_;show p_ _ _ (Oq (Value.builtin "object.__class__") >>= _) _ _ _;refine c_ (looks_takesIn kin g3 _ _ _ _ (fun b o e=>e) ?_);rw[if_pos rfl];refine i_ (c_ (NM (i_ ?_)));unfold Pb;show p_ _ _ (KO [Value.builtin "object.__class__"] (call (Value.builtin "getset_descriptor.__get__") [Value.builtin "object.__class__",Value.ref a,Value.ref C]) >>= fun v=>ret v) _ _ _;refine c_ (J6 (F7 hC he hc hb ?_));exact i_ ⟨_,rfl,rfl,hq⟩
end
structure XA(K:W.Frag)(C:Addr)(bm:List b_):Prop where
 ob:XO K C bm
 be:bm.contains (Value.type "BaseException")=true
 bo:bm.contains (Value.type "object")=true
 ga:Lx K (.ref C) "__getattribute__" = some (some (.builtin "BaseException.__getattribute__"))
 gn:Lx K (.ref C) "__getattr__" = some none
 gc:Lx K (.ref C) "__class__" = some (some (.builtin "object.__class__"))
 gg:Op K (.builtin "object.__class__") "__get__" = some (some (.builtin "getset_descriptor.__get__"))
 gt:takesIn K (.builtin "object.__class__")=some true
theorem Ge{K:W.Frag}{a C:Addr}{od:Option Addr}{bm:List b_}(x:XA K C bm):KitX K (.ref a) (.ref C) (hR a C od):=by
 obtain⟨N1,nm1,q1,bs1,hd1,sn1,sub1,ab1,col1,dd1,a0,a1,a2,a3,a5,nw1,z1⟩:=x.ob;refine⟨fun M h kin hx A Q E s hk hq=>?_,fun M h kin hx A Q E s hk hq=>?_,fun h tp dd its n sl kin ht=>?_,fun{prog w A E Q s} kin hx hq=>?_⟩
 .obtain⟨oe,vs,e1,e2,_⟩:=hx;exact JT (hk _ _ e1) (by rw[e2];exact hq)
 .obtain⟨hh,hg,hdr,ht,ho⟩:=s;exact ks_wpAny_isType_cls (hk _ _ (kin _ _ z1)) rfl hq
 .cases hb:(Value.ref C==Value.ref tp)with
 |false=>rfl
 |true=>have e:Value.ref C=Value.ref tp:=Ly hb;cases e;have:=kin _ _ z1;rw[ht]at this;have h2:=congrArg Obj.data (B_ this);cases h2
 .obtain⟨oe,vs,e1,e2,_⟩:=hx;unfold getAttr?;refine c_ (Ob ?_);unfold getAttrBy?;refine c_ (wpAny_attempt (yw kin (kin _ _ z1) e1 e2 x.be x.ga x.gn ?_));exact F5 (s:={ heap:=s.heap,gens:=s.gens,drawn:=s.drawn,toks:=s.toks+1,os:=s.os }) kin (kin _ _ z1) e1 e2 x.bo x.gc x.gg x.gt (i_ hq)
def bF(tab:Str->Option Bool):D->Option D
|.non=>some (.bl false)
|.obj 0 ((_,.str nm)::_)=>(tab nm).map .bl
|_=>none
structure IsxOk(K:W.Frag)(c:b_)(tab:Str->Option Bool):Prop where
 no:NO K (.type "NoneType") c=some false
 ex:∀nm b C,tab nm=some b->XN K nm C->∃bm,XA K C bm/\NO K (.ref C) c=some b
section
variable{X:Cx}{g:GE}{m:List Md}{e:Expr}{f:FE}{pos p p2:Pos}
theorem FK{c:b_}{cv:V}(hcv:∀u,ar cv u->u=c):dZ X (.builtin "isinstance") (fun xs H Q=>∃x b,xs=[x,cv]/\((x=.non/\NO X.K (.type "NoneType") c=some b)\/∃a C od bm,x=.ref a/\H a=some (.ext (hR a C od))/\XA X.K C bm/\NO X.K (.ref C) c=some b)/\Q (.bl b) H):=by
 intro pz s σ H xs us Q I r h;obtain⟨x,b,rfl,h,q⟩:=h;obtain⟨u,w',rfl,rx,ry⟩:=kS r;have:=hcv _ ry;subst this;have fin:∀tk,EP X pz σ Q (.bool b) { s with toks:=tk }:=fun tk=>⟨.bl b,H,I.tok tk,rfl,q⟩
 rcases h with⟨rfl,e⟩|⟨a,C,od,bm,rfl,ea,xa,e⟩
 .cases rx;exact W.kia_one W.kitx_none I.kIn True.intro e (fun z=>nomatch z) fin
 .cases(show u=Value.ref a from rx);exact W.kia_one (Ge xa) I.kIn (I.hok a _ ea).1 e (fun z=>nomatch z) fin
theorem RB.exc{K:W.Frag}{G:GH}{H:Hp}{v:V}{k:Str}{nm:Str}{ds:List (Str×D)}(gk:aN K G H)(h:RB K G H v (.obj 0 ((k,.str nm)::ds))):∃a C od,v=.ref a/\H a=some (.ext (hR a C od))/\XN K nm C:=by
 rcases h with h|⟨a,rfl,h⟩
 .cases h with
 |scl s=>cases s
 |ref e=>cases gk _ _ e with
  |exc r n f=>exact⟨_,_,_,rfl,r,n⟩
 |kc k=>cases k
 .cases h.ob
theorem xE{c:b_}{cv:V}{tab:Str->Option Bool}{a2:Expr}(hcv:∀u,ar cv u->u=c)(hx:IsxOk X.K c tab)(h2:PE X a2 (tC cv))(hg:Gl X "isinstance")(hm:X.mg "isinstance" = none)(he:SB X g m e f)(hs1:g_ [e,a2] X.env=(false,eval e X.env)::g_ [a2] X.env:=by rfl)(hs2:g_ [a2] X.env=(false,eval a2 X.env)::g_ [] X.env:=by rfl)(hpl:(backTo pos (g_ [a2] X.env)).any (·.1)=false:=by rfl):SE X g m (.Call (.Name "isinstance" p) [e,a2] [] pos) (f1 f (bF tab)):=by
 refine PE.imp (je (FK hcv) hg hm (by first|exact KR|rfl) (d4 he (d4 h2 hZ hs2) hs1) (by decide) (by decide) hs1 hpl) fun σ H Q ⟨r,G,si,q⟩=>⟨r,G,si,bh (bu q) fun d q1 v G1 H1 w1 r1=>?_⟩
 obtain⟨d',e',q2⟩:=dc q1;unfold bF at e';split at e'
 .cases e';have hv:v=.non:=r1.non w1.ok;subst hv;exact⟨.non,false,rfl,.inl ⟨rfl,hx.no⟩,q2 _ G1 H1 w1 (.scl (.bl _))⟩
 .rename_i k nm ds;cases ht:tab nm with
 |none=>rw[ht]at e';cases e'
 |some b=>rw[ht]at e';cases e';obtain⟨a,C,od,rfl,ha,xn⟩:=RB.exc w1.ok r1;obtain⟨bm,xa,hk⟩:=hx.ex nm b C ht xn;exact⟨.ref a,b,rfl,.inr ⟨a,C,od,bm,rfl,ha,xa,hk⟩,q2 _ G1 H1 w1 (.scl (.bl _))⟩
 .cases e'
theorem oh{x:Str}{T:Addr}{tab:Str->Option Bool}(hmT:X.mg x=some (.ref T))(hx:IsxOk X.K (.ref T) tab)(hgT:Gl X x)(hg:Gl X "isinstance")(hm:X.mg "isinstance" = none)(he:SB X g m e f)(hd:(x==("__debug__" : Str))=false:=by decide)(hs1:g_ [e,.Name x p2] X.env=(false,eval e X.env)::g_ [.Name x p2] X.env:=by rfl)(hs2:g_ [.Name x p2] X.env=(false,eval (.Name x p2) X.env)::g_ [] X.env:=by rfl)(hpl:(backTo pos (g_ [.Name x p2] X.env)).any (·.1)=false:=by rfl):SE X g m (.Call (.Name "isinstance" p) [e,.Name x p2] [] pos) (f1 f (bF tab)):=xE (cv:=.ref T) (fun u h=>h) hx (rJ (v:=.ref T) hgT hmT rfl hd) hg hm he hs1 hs2 hpl
theorem xC{x:Str}{T:String}{tab:Str->Option Bool}(hv:KN x=some (.type T))(hmT:X.mg x=none)(hx:IsxOk X.K (.type T) tab)(hgT:Gl X x)(hg:Gl X "isinstance")(hm:X.mg "isinstance" = none)(he:SB X g m e f)(hn:x≠"__name__" := by decide)(hd:(x==("__debug__" : Str))=false:=by decide)(hs1:g_ [e,.Name x p2] X.env=(false,eval e X.env)::g_ [.Name x p2] X.env:=by rfl)(hs2:g_ [.Name x p2] X.env=(false,eval (.Name x p2) X.env)::g_ [] X.env:=by rfl)(hpl:(backTo pos (g_ [.Name x p2] X.env)).any (·.1)=false:=by rfl):SE X g m (.Call (.Name "isinstance" p) [e,.Name x p2] [] pos) (f1 f (bF tab)):=xE (cv:=.ty T) (fun u h=>h) hx (oK (v:=.ty T) hgT hmT hv rfl hn hd) hg hm he hs1 hs2 hpl
end
section
variable{X:Cx}{g:GE}{m:List Md}{e:Expr}{es:List Expr}{fl:ah->Res (List D)}{k:Nat}{ps:List Str}{F:List D->Res D}{x:Str}{p pos:Pos}{ms:List Md}
theorem yy(c:CalleeX X.prog X.w X.K X.mg X.base x ps [] k false ms F)(hr:Room k X.A)(ha:gu X g m (e::es) ms fl)(hg:Gl X x:=by rfl)(hdb:(x==("__debug__" : Str))=false:=by decide)(he:g_ (e::es) X.env=(false,eval e X.env)::g_ es X.env:=by rfl)(hpl:(backTo pos (g_ es X.env)).any (·.1)=false:=by rfl):SE X g m (.Call (.Name x p) (e::es) [] pos) (i4 fl [] F):=Eg (ms:=ms) (dds:=[]) (dvs:=[]) (ds:=[]) (by rw[show(t_ ([]:List D).length Md.sh)=[]from rfl,JZ];exact c) hr .nil .nil ha hg hdb he hpl
end
theorem XN.uniq{K:W.Frag}{nm:Str}{C c:Addr}(h:XN K nm C)(k:(K.all fun e=>match e.2.data with|.cls cd=>cd.name != nm || e.1==c|_=>true)=true):C=c:=by
 obtain⟨o,cd,h1,h2,h3⟩:=h;have hm:(C,o)∈(K:List (Addr×Obj)):=by
  have key:∀l:List (Addr×Obj),l.lookup C=some o->(C,o)∈l:=by
   intro l
   induction l with
  |nil=>intro h;cases h
  |cons q l ih=>
    intro h;rw[Nq]at h;split at h
    .rename_i hb;have:=Ly hb;cases h;rw[this];exact k_
    .exact h_ _ (ih h)
  exact key K h1
 have:=JJ.mp k _ hm;simp only[h2]at this;rw[h3]at this;simpa using this
def uU(f:Addr):Nat->Option (Option V×Option D):=fun j=>if j=0 then some (some (V.ref f),none)else none
theorem SI.fn{X:Cx}{m:List Md}{r:ah}{G:GH}{st:L2.St}{H:Hp}(f:Addr)(s:SI X ⟨G,H,fun _=>none⟩ m r G st H):SI X ⟨G,H,uU f⟩ (.bw::m) (none::r) G (some (V.ref f)::st) H where
 gok:=s.gok
 old:=s.old
 ge:=s.ge
 gf:=s.gf
 lm:=congrArg (· + 1) s.lm
 lr:=congrArg (· + 1) s.lr
 sh:=fun i d h hm=>by cases i with
 |zero=>simp at h
 |succ i=>exact s.sh i d (by simpa using h) (by simpa using hm)
 ow:=fun i d h hm=>by cases i with
 |zero=>simp at h
 |succ i=>exact s.ow i d (by simpa using h) (by simpa using hm)
 bw:=fun i d h hm=>by cases i with
 |zero=>simp at h
 |succ i=>exact s.bw i d (by simpa using h) (by simpa using hm)
 dis:=fun i j a d e hij hi hj mi mj si sj=>by cases i with
 |zero=>simp at hi
 |succ i=>cases j with
  |zero=>simp at hj
  |succ j=>exact s.dis i j a d e (fun z=>hij (by rw[z])) (by simpa using hi) (by simpa using hj) (by simpa using mi) (by simpa using mj) (by simpa using si) (by simpa using sj)
 lk:=fun i o h _=>by cases i with
 |zero=>have h:some (some (V.ref f),none)=some o:=h;cases h;exact⟨rfl,fun d e=>by simp at e⟩
 |succ i=>exact nomatch (show none=some o from h)
def Jk(K:W.Frag)(mg:Str->Option b_)(y:Str)(ro:Bool)(ms:List Md)(F:List D->Res D):Sp:=fun vs H Q E=>∃f vs',mg y=some (.ref f)/\vs=V.ref f::vs'/\iR K ro ms F vs' H Q E
section
variable{P:u_}{w:H_}{K:W.Frag}{mg:Str->Option b_}{base:Heap}
structure CalleeF(P:u_)(w:H_)(K:W.Frag)(mg:Str->Option b_)(base:Heap)(x y:Str)(ps:List Str)(k:Nat)(ro:Bool)(ms:List Md)(F:List D->Res D):Prop where
 ex:∃f fd,mg x=some (.ref f)/\W.keepIn K (.ref f)=true/\eD K fd ps []/\FnOk P w K mg base bP k f fd ps (Jk K mg y ro ms F)
end
end DL
namespace DL
open PySem PySem.Spec PyProof.Rows L2
section
variable{X:Cx}{g:GE}{i:Nat}{m m' m1:List Md}{r r':ah}{w:List (List D)}{G G':GH}{σ σ':L2.St}{H H':Hp}{st:Stmt}{sts sts':List Stmt}{ro:Bool}{mb:List Md}{c e:Expr}{q:FQ}{f:FE}{s1:FS}{f1:cZ}{pos p1 p2 p3 apos cpos:Pos}{x y:Str}
theorem F8{fp:List Addr}{p:Addr}{d0:D}(si:SI X (b6 g H fp i p) m r G σ H)(hm:m[i]? = some .bw)(h0:∀b∈fp,g.h0 b=none)(hS:∀b∈fp,H b≠none)(hb:∀j,j≠i->m[j]?≠some .bw)(le:aG G G')(g2:aN X.K G' H)(out:∀b,b∉fp->G' b=G b)(ho:Own X.K G' H p d0)(hpf:p∈fp):SI X g (m.set i .ow) (r.set i (some d0)) G' σ H:=by
 have hlt:i<m.length:=(f_.mp hm).1;have hst:σ[i]? = some (some (V.ref p)):=(si.lk i (some (V.ref p),none) (by show(if i=i then _ else _)=_;rw[if_pos rfl]) hm).1;have h0':∀b,b∉fp->(b6 g H (fp) i p).h0 b=g.h0 b:=fun b hb=>by show(if b∈fp then H b else g.h0 b)=_;rw[if_neg hb]
 have h0i:∀b,b∈fp->(b6 g H (fp) i p).h0 b≠none:=fun b hb=>by show(if b∈fp then H b else g.h0 b)≠_;rw[if_pos hb];exact hS b hb
 have nin:∀b,g.h0 b≠none->b∉fp:=fun b h z=>h (h0 b z);have mne:∀{j x},i≠j->(m.set i .ow)[j]? = some x->m[j]? = some x:=fun hij h=>by rw[a_ hij]at h;exact h
 refine⟨g2,fun a o e=>?_,fun a d e=>le a d (si.ge a d e),fun a h=>?_,by simpa using si.lm,by simpa using si.lr,fun j d h1 h2=>?_,fun j d h1 h2=>?_,fun j d h1 h2=>?_,fun j k a d e hjk h1 h2 m1 m2 z1 z2=>?_,fun j o hj hm'=>?_⟩
 .exact si.old a o (by rw[h0' a (nin a (by rw[e];simp))];exact e)
 .have hn:=nin a h;rw[out a hn];exact si.gf a (by rw[h0' a hn];exact h)
 .by_cases hij:i=j
  .subst hij;rw[d_ hlt]at h2;cases h2
  .rw[a_ hij]at h1;obtain⟨v,y1,y2⟩:=si.sh j d h1 (mne hij h2);exact⟨v,y1,y2.mono le⟩
 .by_cases hij:i=j
  .subst hij;rw[d_ (by rw[si.lr,<-si.lm];exact hlt)]at h1;cases h1;exact⟨p,hst,ho,h0 p hpf⟩
  .rw[a_ hij]at h1;obtain⟨a,y1,y2,y3⟩:=si.ow j d h1 (mne hij h2);have hn:a∉fp:=fun z=>h0i a z y3;exact⟨a,y1,⟨by rw[out a hn];exact y2.un,y2.ob.mono le fun _ z=>z⟩,by rw[<-h0' a hn];exact y3⟩
 .by_cases hij:i=j
  .subst hij;rw[d_ hlt]at h2;cases h2
  .exact absurd (mne hij h2) (hb j (JX hij))
 .have key:∀k e,i≠k->(r.set i (some d0))[k]? = some (some e)->(m.set i .ow)[k]? = some .ow->σ[k]? = some (some (V.ref p))->False:=fun k e hik h m0 z=>by rw[a_ hik]at h;obtain⟨a,y1,y2,y3⟩:=si.ow k e h (mne hik m0);rw[z]at y1;cases y1;exact h0i p hpf y3
  by_cases hij:i=j
  .subst hij;rw[hst]at z1;cases z1;exact key k e hjk h2 m2 z2
  .by_cases hik:i=k
   .subst hik;rw[hst]at z2;cases z2;exact key j d hij h1 m1 z1
   .rw[a_ hij]at h1;rw[a_ hik]at h2;exact si.dis j k a d e hjk h1 h2 (mne hij m1) (mne hik m2) z1 z2
 .by_cases hij:i=j
  .subst hij;rw[d_ hlt]at hm';cases hm'
  .exact absurd (mne hij hm') (hb j (JX hij))
theorem Ea{K:W.Frag}{G1:GH}{as:List Addr}{w:List (List D)}(q:Paired (fun b ds=>G1 b=some (.lst ds)) as w):b7 K G1 (as.map V.ref) (w.map D.lst):=by induction q with
|nil=>exact .nil
|cons h _ ih=>exact .cons (.ref h) ih
theorem dI.frzO(s:dI X g i m r w G σ H)(hb:∀j,j≠i->m[j]?≠some .bw):∃G',aG G G'/\SI X g (m.set i .ow) (r.set i (some (.lst (w.map D.lst)))) G' σ H:=by
 obtain⟨p,as,R,h0,si,hm⟩:=s;have nd:=JC.mp R.nd;obtain⟨G1,l1,o1,g1,q1⟩:=rD si.gok R.rw nd.2 fun b hb=>R.un b (h_ _ hb);have hp1:G1 p=none:=by rw[o1 p nd.1];exact R.un p k_
 exact⟨G1,l1,F8 si hm h0 (fun b hb=>R.isS hb) hb l1 g1 (fun b hb=>o1 b fun z=>hb (h_ _ z)) ⟨hp1,.lst R.out (Ea q1)⟩ k_⟩
theorem li(h:dH X g ro mb (m.set i .ow) sts s1 m')(hb:∀j,j≠i->m[j]?≠some .bw):hU X g ro mb i m sts (fZ i s1) m':=⟨by simpa using h.1,bx.imp h.2 fun D σ H ⟨r,w,G,s,q⟩=>by obtain⟨G',le,si⟩:=s.frzO hb;exact⟨_,G',si,br.gle q le⟩⟩
abbrev FM:=ah->List (List D)->Out
def tM(X:Cx)(g:GE)(ro:Bool)(mb:List Md)(i:Nat)(m m':List Md)(F:FM):TS:=fun D σ H=>∃r w G,dI X g i m r w G σ H/\br X g ro m' mb G D (F r w)
def SM(X:Cx)(g:GE)(ro:Bool)(mb:List Md)(i:Nat)(m:List Md)(st:Stmt)(F:FM)(m':List Md):Prop:=m'.length=m.length/\PS X st (tM X g ro mb i m m' F)
def gq(q:FQ)(F1 F2:FM):FM:=fun r w=>match q r with
|.ok true=>F1 r w
|.ok false=>F2 r w
|_=>.stuck
theorem og{F1 F2:FM}(hc:∀g',SQ X g' m c q)(h1:hU X g ro mb i m sts F1 m')(h2:hU X g ro mb i m sts' F2 m'):SM X g ro mb i m (.If c sts sts' pos) (gq q F1 F2) m':=by have hcA:PT X c (fun σ H Q=>∃g',tQ X g' m q σ H Q):=fun pz s σ H Q I ⟨g',k⟩=>hc g' pz s σ H Q I k;refine⟨h1.1,PS.imp (nX hcA h1.2 h2.2) fun D σ H ⟨r,w,G,⟨p,as,R,h0,si,hm⟩,k⟩=>⟨_,r,G,si,?_⟩⟩;unfold gq at k;cases z:q r with
|exc x=>rw[z]at k;exact k.elim
|stuck=>rw[z]at k;exact k.elim
|ok b=>rw[z]at k;intro G1 H1 w1;have S1:=ka R h0 si w1.ge (si.grow w1) hm;cases b with
 |true=>rw[if_pos rfl];exact⟨r,w,G1,S1,br.gle k w1.ge⟩
 |false=>rw[if_neg l_];exact⟨r,w,G1,S1,br.gle k w1.ge⟩
def d5(F1:FM)(f2:FS):FM:=fun r w=>match F1 r w with
|.nx r'=>f2 r'
|.rt d=>.rt d
|_=>.stuck
theorem yF{F1:FM}{f2:FS}(h1:SM X g ro mb i m st F1 m1)(h2:dH X g ro mb m1 sts f2 m'):hU X g ro mb i m (st::sts) (d5 F1 f2) m':=by refine⟨h2.1.trans h1.1,bx.imp (ib h1.2 h2.2) fun D σ H ⟨r,w,G,si,k⟩=>⟨r,w,G,si,?_⟩⟩;unfold d5 at k;cases e:F1 r w with
|nx r'=>rw[e]at k;exact fun σ' G' H' le si'=>⟨r',G',si',br.gle k le⟩
|rt d=>rw[e]at k;exact k
|bk r'=>rw[e]at k;exact k.elim
|ct r'=>rw[e]at k;exact k.elim
|exc x r'=>rw[e]at k;exact k.elim
|stuck=>rw[e]at k;exact k
theorem oU{F1:FM}(h1:SM X g ro mb i m st F1 m'):hU X g ro mb i m [st] F1 m':=⟨h1.1,rc h1.2⟩
def jO(q:FQ)(F1 F2:FM):FM:=fun r w=>match q r with
|.ok true=>(match F1 r w with
 |.rt d=>.rt d
 |_=>.stuck)
|.ok false=>F2 r w
|_=>.stuck
theorem Fg{F1 F2:FM}(hc:∀g',SQ X g' m c q)(h1:hU X g ro mb i m sts F1 m1)(h2:hU X g ro mb i m sts' F2 m'):hU X g ro mb i m (.If c sts [] pos::sts') (jO q F1 F2) m':=by have hcA:PT X c (fun σ H Q=>∃g',tQ X g' m q σ H Q):=fun pz s σ H Q I ⟨g',k⟩=>hc g' pz s σ H Q I k;refine⟨h2.1,bx.imp (ib (nX hcA h1.2 oO) h2.2) fun D σ H ⟨r,w,G,⟨p,as,R,h0,si,hm⟩,k⟩=>⟨_,r,G,si,?_⟩⟩;unfold jO at k;cases z:q r with
|exc x=>rw[z]at k;exact k.elim
|stuck=>rw[z]at k;exact k.elim
|ok b=>rw[z]at k;intro G1 H1 w1;have S1:=ka R h0 si w1.ge (si.grow w1) hm;cases b with
 |true=>rw[if_pos rfl];refine⟨r,w,G1,S1,?_⟩;have k:br X g ro m' mb G D (match F1 r w with|.rt d=>.rt d|_=>.stuck):=k;cases e:F1 r w with
  |rt d=>rw[e]at k;exact k
  |nx r'=>rw[e]at k;exact k.elim
  |bk r'=>rw[e]at k;exact k.elim
  |ct r'=>rw[e]at k;exact k.elim
  |exc x r'=>rw[e]at k;exact k.elim
  |stuck=>rw[e]at k;exact k.elim
 |false=>rw[if_neg l_];exact⟨r,w,G1,S1,br.gle k w1.ge⟩
end
section
variable{X:Cx}{g:GE}{i jy:Nat}{m m' m1 ms:List Md}{r r':ah}{w:List (List D)}{G G':GH}{σ σ':L2.St}{H H':Hp}{st:Stmt}{sts sts':List Stmt}{ro:Bool}{mb:List Md}{c e tg:Expr}{es:List Expr}{q:FQ}{f:FE}{s1:FS}{f1:cZ}{pos p p1 p2 p3 apos cpos:Pos}{x y z:Str}{k:Nat}{ps:List Str}{fl:ah->Res (List D)}
theorem SI.addOwn{p a:Addr}{as:List Addr}{ds:List D}(si:SI X (b6 g H (p::as) i p) m r G σ H)(R:LRw X.K G H p as w)(h0:∀b∈p::as,g.h0 b=none)(hm:m[i]? = some .bw)(hb:∀j,j≠i->m[j]?≠some .bw)(hmy:m[jy]? = some .ow)(hry:r[jy]? = some (some (.lst ds)))(hsy:σ[jy]? = some (some (V.ref a)))(ho:Own X.K G H a (.lst ds))(hga:(b6 g H (p::as) i p).h0 a=none):dI X g i m (r.set jy none) (w++[ds]) G σ (upd H p (.lst (as.map V.ref++[V.ref a]))):=by
 have h0':∀c,c∉p::as->(b6 g H (p::as) i p).h0 c=g.h0 c:=fun c hc=>by show(if c∈p::as then H c else g.h0 c)=_;rw[if_neg hc]
 have h0i:∀c,c∈p::as->(b6 g H (p::as) i p).h0 c=H c:=fun c hc=>by show(if c∈p::as then H c else g.h0 c)=_;rw[if_pos hc]
 have hap:a∉p::as:=fun z=>by rw[h0i a z]at hga;exact R.isS z hga
 have hap':a≠p:=fun z=>hap (by rw[z];exact k_);have nd:=JC.mp R.nd;rw[h0' a hap]at hga;have sub:∀b,b∈p::(as++[a])↔b∈p::as\/b=a:=fun b=>by simp[or_assoc]
 generalize hH:upd H p (.lst (as.map V.ref++[V.ref a]))=H2;have e2:∀b,b≠p->H2 b=H b:=fun b hb=>by rw[<-hH,aK hb]
 have e2p:H2 p=some (.lst ((as++[a]).map V.ref)):=by rw[<-hH,bJ];simp
 have k0':∀c,c∉p::(as++[a])->(b6 g H2 (p::(as++[a])) i p).h0 c=g.h0 c:=fun c hc=>by show(if c∈p::(as++[a])then _ else g.h0 c)=_;rw[if_neg hc]
 have k0i:∀c,c∈p::(as++[a])->(b6 g H2 (p::(as++[a])) i p).h0 c=H2 c:=fun c hc=>by show(if c∈p::(as++[a])then H2 c else g.h0 c)=_;rw[if_pos hc]
 have unp:G p=none:=R.un p k_;have rne:∀{j:Nat}{d:D},(r.set jy none)[j]? = some (some d)->jy≠j/\r[j]? = some (some d):=fun{j d} h=>by
  have hij:jy≠j:=by
   rintro rfl
   rw[Ky,if_pos rfl]at h;split at h <;> cases h
  rw[a_ hij]at h;exact⟨hij,h⟩
 refine⟨p,as++[a],⟨e2p,?_,fun b hb'=>?_,?_⟩,fun b hb'=>?_,⟨fun c d e=>?_,fun c u e=>?_,si.ge,fun c h=>?_,si.lm,by rw[JD];exact si.lr,fun j d h1 h2=>si.sh j d (rne h1).2 h2,fun j d h1 h2=>?_,fun j d h1 h2=>?_,fun j k a d e hjk h1 h2=>si.dis j k a d e hjk (rne h1).2 (rne h2).2,fun j o hj hm'=>?_⟩,hm⟩
 .rw[JC,List.nodup_append];refine⟨fun z=>(JS.mp z).elim nd.1 fun z=>hap' (E_.mp z).symm,nd.2,by simp,?_⟩;intro x hx y hy e;rw[E_.mp hy]at e;subst e;exact hap (h_ _ hx)
 .rcases(sub b).mp hb' with z|rfl
  .exact R.un b z
  .exact ho.un
 .refine Paired.snoc (o7 R.rw fun b hb' ds' q=>q.mono (aG.refl _) (e2 b (by rintro rfl;exact nd.1 hb'))) ?_;cases ho.ob with
 |lst e1 rs=>exact⟨_,by rw[e2 a hap'];exact e1,rs⟩
 .rcases(sub b).mp hb' with z|rfl
  .exact h0 b z
  .exact hga
 .have hc:c≠p:=by rintro rfl;rw[unp]at e;cases e
  exact(si.gok c d e).mono (fun _ _ z=>z) fun u z=>by rw[e2 c hc];exact z
 .by_cases hc:c∈p::(as++[a])
  .rw[k0i c hc]at e;exact e
  .rw[k0' c hc]at e;have hc1:c∉p::as:=fun z=>hc ((sub c).mpr (.inl z));have hcp:c≠p:=by rintro rfl;exact hc1 k_
   rw[e2 c hcp];exact si.old c u (by rw[h0' c hc1];exact e)
 .by_cases hc:c∈p::as
  .exact si.gf c (by rw[h0i c hc];exact R.isS hc)
  .by_cases hca:c=a
   .subst hca;rw[ho.un];show none=g.gh c;cases z:g.gh c with
   |none=>rfl
   |some d=>have:=si.ge c d z;rw[ho.un]at this;exact this
   .rw[k0' c fun z=>((sub c).mp z).elim hc hca]at h;exact si.gf c (by rw[h0' c hc];exact h)
 .obtain⟨hj,h1⟩:=rne h1;obtain⟨b,q1,q2,q3⟩:=si.ow j d h1 h2;have hbf:b∉p::as:=fun z=>by rw[h0i b z]at q3;exact R.isS z q3
  have hba:b≠a:=by rintro rfl;exact si.dis jy j b _ _ hj hry h1 hmy h2 hsy q1
  have hbp:b≠p:=by rintro rfl;exact hbf k_
  rw[h0' b hbf]at q3;exact⟨b,q1,⟨q2.un,q2.ob.mono (fun _ _ z=>z) fun u z=>by rw[e2 b hbp];exact z⟩,by rw[k0' b fun z=>((sub b).mp z).elim hbf hba];exact q3⟩
 .by_cases hj:j=i
  .subst hj;have:=(si.lk j (some (V.ref p),none) (by show(if j=j then _ else _)=_;rw[if_pos rfl]) hm).2 d (rne h1).2;cases this
  .exact absurd h2 (hb j hj)
 .have:=si.lk j o hj hm';exact⟨this.1,fun d hd=>this.2 d (rne hd).2⟩
def e8(jy:Nat):cZ:=fun r w=>match r[jy]? with
|some (some (.lst ds))=>if w.length<sizeLine then some (r.set jy none,w++[ds])else none
|_=>none
theorem Ed(jy:Nat)(hm:m[i]? = some .bw)(hb:∀j,j≠i->m[j]?≠some .bw)(hmy:m[jy]? = some .ow)(hN:X.N[i]? = some x)(hv:dk X.env.scope x)(hNy:X.N[jy]? = some y)(hvy:dk X.env.scope y)(hd:(x==("__debug__" : Str))=false:=by decide)(hcd:(x==("__classdict__" : Str))=false:=by decide)(hdy:(y==("__debug__" : Str))=false:=by decide)(hcdy:(y==("__classdict__" : Str))=false:=by decide)(hbase:Kn (.Name x p2) "append" X.env (eval (.Name x p2) X.env)=eval (.Name x p2) X.env:=by rfl)(hfew:((backTo cpos (g_ [.Name y p1] X.env)).all (fun x=>! x.1)&&(MJ cpos (LA [] X.env)).all (fun x=>x.1.isSome)&&decide (([.Name y p1]:List Expr).length+([]:List Lr).length+(if ([]:List Lr).isEmpty then 0 else 1)<30))=true:=by rfl)(hline:(apos.endLine==cpos.line)=true:=by rfl)(hst:g_ [.Name y p1] X.env=(false,eval (.Name y p1) X.env)::g_ [] X.env:=by rfl)(hplain:(backTo cpos (g_ [] X.env)).any (·.1)=false:=by rfl):hV X g i m (.Expr (.Call (.Attribute (.Name x p2) "append" apos) [.Name y p1] [] cpos) pos) (e8 jy) m:=by
 refine PS.imp (oN (wA Kg KB KD mR (dJ hN hv hd hcd) (d4 (dJ hNy hvy hdy hcdy) hZ hst) hbase hfew hline hst hplain)) fun D0 σ H ⟨r,w,G,⟨p,as,R,h0,si,_⟩,r',w',e,k⟩=>?_;have hst:σ[i]? = some (some (V.ref p)):=(si.lk i (some (V.ref p),none) (by show(if i=i then _ else _)=_;rw[if_pos rfl]) hm).1;unfold e8 at e;split at e
 .rename_i ds hry;by_cases hl:w.length<sizeLine
  .rw[if_pos hl]at e;cases e;obtain⟨a,y1,y2,y3⟩:=si.ow jy _ hry hmy;have hlen:=Paired.length R.rw;exact⟨_,hst,.inl ⟨rfl,_,bb.of R.out⟩,_,y1,p,as.map V.ref,V.ref a,rfl,rfl,R.out,by rw[n_];omega,k σ G _ (aG.refl G) (SI.addOwn si R h0 hm hb hmy hry y1 y2 y3)⟩
  .rw[if_neg hl]at e;cases e
 .cases e
theorem Ej(i:Nat)(hlt:i<m.length)(hN:X.N.Nodup)(hi:X.N[i]? = some x)(hx:fj X.env.scope x)(hs:Kp (.List [] p2) (some (.Name x p3)) pos.line X.env=pure false:=by rfl)(hf:X.fn x=true\/X.env.scope.names.lookup x=some .local:=by first|exact .inl rfl|exact .inr rfl|assumption):PS X (.Assign [.Name x p3] (.List [] p2) pos) (ii X g i m (m.set i .bw) (fun r=>some (r.set i none,[]))):=by
 refine PS.imp (jF hN hi hx (wW hZ) hs hf) fun D0 σ H ⟨r,G,si,r',w',e,k⟩=>?_;cases e;refine⟨by rw[Jz];simp,fun p hp=>?_⟩;have w2:=Grow.new si.gok hp (.lst []);refine k _ G _ w2.ge (si.new2 w2 hlt (p:=p) (as:=[]) ⟨bJ,by simp,fun b hb=>?_,.nil⟩ fun b hb=>?_)
 .rw[E_.mp hb];exact si.gok.isN hp
 .rw[E_.mp hb];exact hp
open Classical in
def jx(i:Nat)(f:FE)(ft:FT):cZ:=fun r w=>match f (cy i r w)with
|.ok d=>if Cln d then(ft d r).map fun r'=>(r',w)else none
|_=>none
theorem yz{ft:FT}(hb:∀j,j≠i->m[j]?≠some .bw)(h:∀g',SE X g' (m.set i .sh) e f)(hg:∀g',SG X g' m tg ft m)(hs:L1 [tg] e pos.line X.env=pure false:=by rfl)(hw:L3 [tg] e X.env=pure none:=by rfl)(h1:(JV [tg] X.env).map (·.2)=[Lg tg X.env]:=by rfl):hV X g i m (.Assign [tg] e pos) (jx i f ft) m:=by have hgA:PG X tg (fun v σ H Q=>∃g',tG X g' m m ft v σ H Q):=fun pz s σ H v u Q I r ⟨g',q⟩=>(hg g').2 pz s σ H v u Q I r q;refine PS.imp (oy (oM (g:=g) hb h) hgA hs hw h1) fun D0 σ H ⟨r,w,G,s,r',w',e,k⟩=>?_;unfold jx at e;cases ef:f (cy i r w)with
|exc x=>rw[ef]at e;cases e
|stuck=>rw[ef]at e;cases e
|ok d=>
  rw[ef]at e;simp only[]at e;by_cases hc:Cln d
  .rw[if_pos hc]at e;cases et:ft d r with
  |none=>rw[et]at e;cases e
  |some r1=>rw[et]at e;cases e;refine⟨r,_,G,s,d,ef,hc,fun v G' H' wg rv s'=>?_⟩;obtain⟨p,as,R,h0,si,hm⟩:=s';exact⟨_,r,G',d,si,rv,_,et,fun σ' si'=>k σ' G' H' wg.ge ⟨p,as,R,h0,si',hm⟩⟩
  .rw[if_neg hc]at e;cases e
abbrev jv:=ah->List (List D)->Option (List (List D))
def wQ(X:Cx)(g:GE)(D:Ends)(w':List (List DL.D)):Prop:=∀p as G' H',Grow X.K g.gh g.h0 G' H'->LRw X.K G' H' p as w'->(∀b∈p::as,g.h0 b=none)->D.rt (V.ref p) H'
def tR(X:Cx)(g:GE)(i:Nat)(m:List Md)(F:jv):TS:=fun D σ H=>∃r w G,dI X g i m r w G σ H/\∃w',F r w=some w'/\wQ X g D w'
def tZ(X:Cx)(g:GE)(m:List Md)(F:ah->Option (List (List D))):TS:=fun D σ H=>∃r G,SI X g m r G σ H/\∃w',F r=some w'/\wQ X g D w'
theorem pA{p:Addr}{fp:List Addr}(si:SI X (b6 g H fp i p) m r G σ H)(h0:∀b∈fp,g.h0 b=none):Grow X.K g.gh g.h0 G H:=by
 have nin:∀b,g.h0 b≠none->b∉fp:=fun b h z=>h (h0 b z);have h0':∀b,b∉fp->(b6 g H (fp) i p).h0 b=g.h0 b:=fun b hb=>by show(if b∈fp then H b else g.h0 b)=_;rw[if_neg hb]
 exact⟨si.gok,fun a o e=>si.old a o (by rw[h0' a (nin a (by rw[e];simp))];exact e),si.ge,fun a h=>si.gf a (by rw[h0' a (nin a h)];exact h)⟩
theorem EX(hm:m[i]? = some .bw)(hN:X.N[i]? = some x)(hv:dk X.env.scope x)(hd:(x==("__debug__" : Str))=false:=by decide)(hcd:(x==("__classdict__" : Str))=false:=by decide):bx X [.Return (some (.Name x p1)) pos] (tR X g i m fun _ w=>some w):=rc (PS.imp (mh (dJ hN hv hd hcd)) fun D σ H ⟨r,w,G,⟨p,as,R,h0,si,_⟩,w',e,k⟩=>by cases e;exact⟨_,(si.lk i (some (V.ref p),none) (by show(if i=i then _ else _)=_;rw[if_pos rfl]) hm).1,k p as G H (pA si h0) R h0⟩)
theorem GQ{F:jv}(h1:hV X g i m st f1 m1)(h2:bx X sts (tR X g i m1 F)):bx X (st::sts) (tR X g i m fun r w=>(f1 r w).bind fun z=>F z.1 z.2):=bx.imp (ib h1 h2) fun D σ H ⟨r,w,G,si,w',e,k⟩=>by replace e:(f1 r w).bind (fun z=>F z.1 z.2)=some w':=e;cases q:f1 r w with
 |none=>rw[q]at e;cases e
 |some z=>rw[q]at e;exact⟨r,w,G,si,z.1,z.2,q,fun σ' G' H' le si'=>⟨z.1,z.2,G',si',w',e,k⟩⟩
theorem EW{F:jv}{f:ah->Option (ah×List (List D))}(h1:PS X st (ii X g i m m1 f))(h2:bx X sts (tR X g i m1 F)):bx X (st::sts) (tZ X g m fun r=>(f r).bind fun z=>F z.1 z.2):=bx.imp (ib h1 h2) fun D σ H ⟨r,G,si,w',e,k⟩=>by replace e:(f r).bind (fun z=>F z.1 z.2)=some w':=e;cases q:f r with
 |none=>rw[q]at e;cases e
 |some z=>rw[q]at e;exact⟨r,G,si,z.1,z.2,q,fun σ' G' H' le si'=>⟨z.1,z.2,G',si',w',e,k⟩⟩
end
def Ji(K:W.Frag)(ms:List Md)(F:List D->Option (List (List D))):Sp:=fun vs H Q _=>∃G ds w',aN K G H/\ArgsOk K G H ms vs ds/\F ds=some w'/\∀p as G' H',Grow K G H G' H'->LRw K G' H' p as w'->(∀b∈p::as,H b=none)->Q (V.ref p) H'
structure CalleeR(P:u_)(w:H_)(K:W.Frag)(mg:Str->Option b_)(base:Heap)(x:Str)(ps:List Str)(k:Nat)(ms:List Md)(F:List D->Option (List (List D))):Prop where
 ex:∃f fd,mg x=some (.ref f)/\W.keepIn K (.ref f)=true/\eD K fd ps []/\FnOk P w K mg base bP k f fd ps (Ji K ms F)
section
variable{P:u_}{w:H_}{K:W.Frag}{mg:Str->Option b_}{base:Heap}
theorem ES{x:Str}{st:Stmt}{N ps:List Str}{k:Nat}{ms:List Md}{F:ah->Option (List (List D))}(A:DefAt K mg x st)(S:FnScope N ps (aa st))(hms:ms.length=ps.length)(hb:∀(kV doc pm:b_)(an:Option Addr)(cdv ct:b_)(us:List b_),us.length=ps.length->Lm (W.fnOf x x (aI st) (ap st) (aa st) .none kV doc pm an cdv ct) ⟨us,[]⟩=pure (ps.zip us))(hbody:∀(f:Addr)(cdv:b_)(A:Jr)(outer:List Env)(s:e_)(H:Hp)(g:GE)(E:XK),Room k (A.deeper (KW x (aa st) s.heap.objs.size f cdv)) ->bx (a9 bP P w K mg base N x (aa st) f cdv A outer s H E).nox (ap st) (tZ (a9 bP P w K mg base N x (aa st) f cdv A outer s H E).nox g (fE N.length ms) F)):CalleeR P w K mg base x ps (k+1) ms fun ds=>F (a7 N.length ds):=by
 obtain⟨f,fd,h1,F'⟩:=A.ex;refine⟨f,fd,h1,F'.kp,F'.binds hb,?_⟩;refine F'.ok S (fun vs H Q E ⟨G,ds,w',gk,rs,q⟩=>rs.len.1.trans hms) fun cdv A outer s H vs Q E hr h=>?_;obtain⟨G,ds,w',gk,rs,e,q⟩:=h;have hpl:ps.length<=N.length:=by have:=congrArg K4 S.pre;rw[JM]at this;omega
 exact⟨_,hbody f cdv A outer s H ⟨G,H,fun _=>none⟩ E hr,a7 N.length ds,G,mL gk rs (by omega),w',e,fun p as G' H' wg R hn=>q p as G' H' wg R hn⟩
end
section
variable{X:Cx}{g:GE}{i:Nat}{m ms:List Md}{e:Expr}{es:List Expr}{fl:ah->Res (List D)}{k:Nat}{ps:List Str}{F:List D->Option (List (List D))}{x y:Str}{p p3 pos cpos:Pos}
def mq(i:Nat)(fl:ah->Res (List D))(F:List D->Option (List (List D))):ah->Option (ah×List (List D)):=fun r=>match fl r with
|.ok ds=>(F ds).map fun w=>(r.set i none,w)
|_=>none
theorem Hc(i:Nat)(hlt:i<m.length)(hN:X.N.Nodup)(hi:X.N[i]? = some x)(hx:fj X.env.scope x)(c:CalleeR X.prog X.w X.K X.mg X.base y ps k ms F)(hr:Room k X.A)(ha:gu X g m (e::es) ms fl)(hs:Kp (.Call (.Name y p) (e::es) [] cpos) (some (.Name x p3)) pos.line X.env=pure false:=by rfl)(hf:X.fn x=true\/X.env.scope.names.lookup x=some .local:=by first|exact .inl rfl|exact .inr rfl|assumption)(hg:Gl X y:=by rfl)(hdb:(y==("__debug__" : Str))=false:=by decide)(he:g_ (e::es) X.env=(false,eval e X.env)::g_ es X.env:=by rfl)(hpl:(backTo cpos (g_ es X.env)).any (·.1)=false:=by rfl):PS X (.Assign [.Name x p3] (.Call (.Name y p) (e::es) [] cpos) pos) (ii X g i m (m.set i .bw) (mq i fl F)):=by
 obtain⟨fa,fd,h1,h2,h3,h4⟩:=c.ex;refine PS.imp (jF hN hi hx (mv h4 hr hg h1 h2 h3 .nil lW ha hdb he hpl) hs hf) fun D0 σ H ⟨r,G,si,r',w',ee,kk⟩=>⟨r,G,si,?_⟩
 unfold mq at ee;cases ez:fl r with
|exc x=>rw[ez]at ee;cases ee
|stuck=>rw[ez]at ee;cases ee
|ok zs=>rw[ez]at ee;cases ef:F zs with
 |none=>simp only[ef]at ee;cases ee
 |some w1=>simp only[ef]at ee;cases ee;intro vs G' H' wg rs;refine⟨G',zs,_,wg.ok,by rw[JZ];exact rs,ef,fun p as G2 H2 w2 R hn=>?_⟩;exact kk _ G2 H2 (wg.trans w2).ge (si.new2 (wg.trans w2) hlt R fun b hb=>wg.back (hn b hb))
end
def lessL(H:Hp)(fp:List Addr):Hp:=fun b=>if b∈fp then none else H b
theorem Fh{H:Hp}{fp:List Addr}{b:Addr}(h:b∈fp):lessL H fp b=none:=if_pos h
theorem mH{H:Hp}{fp:List Addr}{b:Addr}(h:b∉fp):lessL H fp b=H b:=if_neg h
def Jl(K:W.Frag)(ms:List Md)(F:List (List D)->List D->Res D):Sp:=fun vs H Q _=>∃G p as w us ds,aN K G H/\LRw K G H p as w/\vs=V.ref p::us/\ArgsOk K G H ms us ds /\fin (F w ds) (fun d=>∀v G' H',Grow K G (lessL H (p::as)) G' H'->RV true K (lessL H (p::as)) G' H' v d->Q v H') fun _=>False
structure CalleeD(P:u_)(w:H_)(K:W.Frag)(mg:Str->Option b_)(base:Heap)(x:Str)(ps:List Str)(k:Nat)(ms:List Md)(F:List (List D)->List D->Res D):Prop where
 ex:∃f fd,mg x=some (.ref f)/\W.keepIn K (.ref f)=true/\eD K fd ps []/\FnOk P w K mg base bP k f fd ps (Jl K ms F)
theorem zr{X:Cx}{ro:Bool}{o:Out}{m':List Md}{g:GE}{G:GH}{Q:VK}(hro:ro=true)(q:fin (outR ro o) (fun d=>∀v G' H',Grow X.K g.gh g.h0 G' H'->RV ro X.K g.h0 G' H' v d->Q v H') fun _=>False):br X g ro m' [] G { nx:=fun _ H'=>Q .non H',rt:=Q } o:=by subst hro;cases o with
|nx r'=>exact q.elim
|rt d=>exact fun v G' H' wg rv=>q v G' H' wg rv
|bk r'=>exact q.elim
|ct r'=>exact q.elim
|exc x r'=>exact q.elim
|stuck=>exact q
section
variable{P:u_}{w:H_}{K:W.Frag}{mg:Str->Option b_}{base:Heap}
theorem zc{x:Str}{st:Stmt}{n0:Str}{N ps:List Str}{k:Nat}{ms:List Md}{F:FM}{m':List Md}(A:DefAt K mg x st)(S:FnScope (n0::N) ps (aa st))(hms:ms.length+1=ps.length)(hb:∀(kV doc pm:b_)(an:Option Addr)(cdv ct:b_)(us:List b_),us.length=ps.length->Lm (W.fnOf x x (aI st) (ap st) (aa st) .none kV doc pm an cdv ct) ⟨us,[]⟩=pure (ps.zip us))(hbody:∀(f:Addr)(cdv:b_)(A:Jr)(outer:List Env)(s:e_)(H:Hp)(g:GE)(E:XK),Room k (A.deeper (KW x (aa st) s.heap.objs.size f cdv)) ->hU (a9 bP P w K mg base (n0::N) x (aa st) f cdv A outer s H E).nox g true [] 0 (.bw::fE N.length ms) (ap st) F m'):CalleeD P w K mg base x ps (k+1) ms fun w ds=>outR true (F (none::a7 N.length ds) w):=by
 obtain⟨f,fd,h1,F'⟩:=A.ex;refine⟨f,fd,h1,F'.kp,F'.binds hb,?_⟩;refine F'.ok S (fun vs H Q E ⟨G,p,as,w,us,ds,gk,R,hv,rs,q⟩=>by rw[hv,G_,rs.len.1,hms]) fun cdv A outer s H vs Q E hr h=>?_;obtain⟨G,p,as,w',us,ds,gk,R,rfl,rs,q⟩:=h;have hpl:ps.length<=N.length+1:=by have:=congrArg K4 S.pre;rw[JM,G_]at this;omega
 have si:=SI.fn (X:=(a9 bP P w K mg base (n0::N) x (aa st) f cdv A outer s H E).nox) p (mL (N:=N) gk rs (by omega));have e:L2.a8 (n0::N) (V.ref p::us)=some (V.ref p)::L2.a8 N us:=by unfold L2.a8;rw[A_,MO,G_,G_,LU]
 have eg:b6 ⟨G,lessL H (p::as),fun _=>none⟩ H (p::as) 0 p=⟨G,H,uU p⟩:=by
  unfold b6 uU;congr 1;funext b;by_cases hb:b∈p::as
  .rw[if_pos hb]
  .rw[if_neg hb];exact mH hb
 rw[<-e,<-eg]at si;exact⟨_,(hbody f cdv A outer s H ⟨G,lessL H (p::as),fun _=>none⟩ E hr).2,none::a7 N.length ds,w',G,⟨p,as,R,fun b hb=>Fh hb,si,rfl⟩,zr rfl q⟩
end
section
variable{X:Cx}{g:GE}{i:Nat}{m ms:List Md}{mb:List Md}{e:Expr}{es:List Expr}{fl:ah->Res (List D)}{k:Nat}{ps:List Str}{F:List (List D)->List D->Res D}{r:ah}{w:List (List D)}{G G1 G':GH}{σ:L2.St}{H H1 H':Hp}{x y:Str}{p p1 p3 pos cpos:Pos}
theorem Grow.lessL{K:W.Frag}{G0:GH}{H0:Hp}{fp:List Addr}(w1:Grow K G0 H0 G1 H1)(h0:∀b∈fp,H0 b=none)(w2:Grow K G1 (lessL H1 fp) G' H'):Grow K G0 H0 G' H':=by
 have ne:∀b,H0 b≠none->b∉fp:=fun b h z=>h (h0 b z);have he:∀b o,H0 b=some o->DL.lessL H1 fp b=some o:=fun b o e=>by rw[mH (ne b (by rw[e];simp))];exact w1.he b o e
 refine⟨w2.ok,fun b o e=>w2.he b o (he b o e),fun b d e=>w2.ge b d (w1.ge b d e),fun b h=>?_⟩;rw[w2.gf b ?_,w1.gf b h];cases e:H0 b with
|none=>exact absurd e h
|some o=>rw[he b o e];simp
theorem yX{fp:List Addr}{p a:Addr}(si:SI X (b6 g H fp i p) m r G σ H)(h0:∀b∈fp,g.h0 b=none)(wg:Grow X.K G H G1 H1)(hn:lessL H1 fp a=none):g.h0 a=none:=by cases e:g.h0 a with
|none=>rfl
|some o=>
  have hf:a∉fp:=fun z=>by rw[h0 a z]at e;cases e
  have h1:=(pA si h0).he a o e;rw[mH hf,wg.he a o h1]at hn;cases hn
def iK(fl:ah->Res (List D))(F:List (List D)->List D->Res D)(k:D->ah->Out):FM:=fun r w=>match fl r with
|.ok ds=>(match F w ds with
 |.ok d=>k d r
 |_=>.stuck)
|_=>.stuck
theorem Fe(hm:m[i]? = some .bw)(hN:X.N[i]? = some x)(hv:dk X.env.scope x)(c:CalleeD X.prog X.w X.K X.mg X.base y ps k ms F)(hr:Room k X.A)(ha:∀g',gu X g' m (e::es) ms fl)(hd:(x==("__debug__" : Str))=false:=by decide)(hcd:(x==("__classdict__" : Str))=false:=by decide)(hg:Gl X y:=by rfl)(hdb:(y==("__debug__" : Str))=false:=by decide)(he:g_ (.Name x p1::e::es) X.env=(false,eval (.Name x p1) X.env)::g_ (e::es) X.env:=by rfl)(hpl:(backTo cpos (g_ (e::es) X.env)).any (·.1)=false:=by rfl):SM X g true mb i m (.Return (some (.Call (.Name y p) (.Name x p1::e::es) [] cpos)) pos) (iK fl F fun d _=>.rt d) m:=by obtain⟨fa,fd,h1,h2,h3,h4⟩:=c.ex;have haA:PA X (e::es) (fun σ H Q=>∃g',uB X g' m ms fl σ H Q):=fun ps' pz s σ H Q I ⟨g',k⟩=>ha g' ps' pz s σ H Q I k;refine⟨rfl,PS.imp (mh (mv h4 hr hg h1 h2 h3 .nil lW (d4 (dJ hN hv hd hcd) haA he) hdb he hpl)) fun D σ H ⟨r,w,G,⟨p,as,R,h0,si,_⟩,kk⟩=>?_⟩;refine⟨_,(si.lk i (some (V.ref p),none) (by show(if i=i then _ else _)=_;rw[if_pos rfl]) hm).1,_,r,G,si,?_⟩;unfold iK at kk;cases ez:fl r with
|exc x=>rw[ez]at kk;exact kk.elim
|stuck=>rw[ez]at kk;exact kk.elim
|ok zs=>rw[ez]at kk;intro vs G1 H1 wg rs;refine⟨G1,p,as,w,vs,zs,wg.ok,R.grow wg,by rw[JZ],rs,?_⟩;cases ef:F w zs with
 |exc x=>simp only[ef]at kk;exact kk.elim
 |stuck=>simp only[ef]at kk;exact kk.elim
 |ok d=>
   simp only[ef]at kk;intro v G2 H2 w2 rv;refine kk v G2 H2 (((pA si h0).trans wg).lessL h0 w2) ?_;rcases rv with⟨a,rfl,hn,ho⟩|z
   .exact .inl ⟨a,rfl,yX si h0 wg hn,ho⟩
   .exact .inr z
theorem Ff{ro:Bool}(hm:m[i]? = some .bw)(hb:∀j,j≠i->m[j]?≠some .bw)(hNn:X.N.Nodup)(hN:X.N[i]? = some x)(hx:fj X.env.scope x)(hv:dk X.env.scope x)(c:CalleeD X.prog X.w X.K X.mg X.base y ps k ms F)(hr:Room k X.A)(ha:∀g',gu X g' m (e::es) ms fl)(hs:Kp (.Call (.Name y p) (.Name x p1::e::es) [] cpos) (some (.Name x p3)) pos.line X.env=pure false:=by rfl)(hf:X.fn x=true\/X.env.scope.names.lookup x=some .local:=by first|exact .inl rfl|exact .inr rfl|assumption)(hd:(x==("__debug__" : Str))=false:=by decide)(hcd:(x==("__classdict__" : Str))=false:=by decide)(hg:Gl X y:=by rfl)(hdb:(y==("__debug__" : Str))=false:=by decide)(he:g_ (.Name x p1::e::es) X.env=(false,eval (.Name x p1) X.env)::g_ (e::es) X.env:=by rfl)(hpl:(backTo cpos (g_ (e::es) X.env)).any (·.1)=false:=by rfl):SM X g ro mb i m (.Assign [.Name x p3] (.Call (.Name y p) (.Name x p1::e::es) [] cpos) pos) (iK fl F fun d r=>match d with|.non=>.stuck|d=>.nx (r.set i (some d))) (m.set i .ow):=by obtain⟨fa,fd,h1,h2,h3,h4⟩:=c.ex;have haA:PA X (e::es) (fun σ H Q=>∃g',uB X g' m ms fl σ H Q):=fun ps' pz s σ H Q I ⟨g',k⟩=>ha g' ps' pz s σ H Q I k;refine⟨by simp,PS.imp (jF hNn hN hx (mv h4 hr hg h1 h2 h3 .nil lW (d4 (dJ hN hv hd hcd) haA he) hdb he hpl) hs hf) fun D σ H ⟨r,w,G,⟨p,as,R,h0,si,_⟩,kk⟩=>?_⟩;refine⟨_,(si.lk i (some (V.ref p),none) (by show(if i=i then _ else _)=_;rw[if_pos rfl]) hm).1,_,r,G,si,?_⟩;unfold iK at kk;cases ez:fl r with
|exc x=>rw[ez]at kk;exact kk.elim
|stuck=>rw[ez]at kk;exact kk.elim
|ok zs=>rw[ez]at kk;intro vs G1 H1 wg rs;have R1:=R.grow wg;refine⟨G1,p,as,w,vs,zs,wg.ok,R1,by rw[JZ],rs,?_⟩;cases ef:F w zs with
 |exc x=>simp only[ef]at kk;exact kk.elim
 |stuck=>simp only[ef]at kk;exact kk.elim
 |ok d=>
   simp only[ef]at kk;intro v G2 H2 w2 rv;rcases rv with⟨a,rfl,hn,ho⟩|⟨rfl,_⟩
   .have kk:∀σ' G' H',aG G G'->SI X g (m.set i .ow) (r.set i (some d)) G' σ' H'->D.nx σ' H':=by cases d with
    |non=>exact kk.elim
    |_=>exact kk
    have wt:=((pA si h0).trans wg).lessL h0 w2;have le2:aG G G2:=fun a d e=>w2.ge a d (wg.ge a d e);have hlt:i<m.length:=(f_.mp hm).1;have mne:∀{j x},i≠j->(m.set i .ow)[j]? = some x->m[j]? = some x:=fun hij h=>by rw[a_ hij]at h;exact h
    have h0':∀b,b∉p::as->(b6 g H (p::as) i p).h0 b=g.h0 b:=fun b hb=>by show(if b∈p::as then H b else g.h0 b)=_;rw[if_neg hb]
    have own:∀(j:Nat)(d':DL.D),i≠j->r[j]? = some (some d')->m[j]? = some .ow->∃b,σ[j]? = some (some (V.ref b))/\Own X.K G2 H2 b d'/\g.h0 b=none/\DL.lessL H1 (p::as) b≠none:=fun j d' hij h1 h2=>by
     obtain⟨b,y1,y2,y3⟩:=si.ow j d' h1 h2;have hbf:b∉p::as:=fun z=>by have e:(if b∈p::as then H b else g.h0 b)=none:=y3;rw[if_pos z]at e;exact R.isS z e
     have y2':=y2.mono wg;have hS:DL.lessL H1 (p::as) b≠none:=by rw[mH hbf];exact y2'.ob.isS
     refine⟨b,y1,⟨by rw[w2.gf b hS];exact y2'.un,y2'.ob.mono w2.ge fun o z=>w2.he b o (by rw[mH hbf];exact z)⟩,by rw[<-h0' b hbf];exact y3,hS⟩
    refine kk _ G2 H2 le2 ⟨w2.ok,wt.he,wt.ge,wt.gf,by simpa using si.lm,by simpa using si.lr,fun j d' h1 h2=>?_,fun j d' h1 h2=>?_,fun j d' h1 h2=>?_,fun j k a' d' e' hjk h1 h2 m1 m2 z1 z2=>?_,fun j o hj hm'=>?_⟩
    .by_cases hij:i=j
     .subst hij;rw[d_ hlt]at h2;cases h2
     .rw[a_ hij]at h1 ⊢;obtain⟨v,y1,y2⟩:=si.sh j d' h1 (mne hij h2);exact⟨v,y1,y2.mono le2⟩
    .by_cases hij:i=j
     .subst hij;rw[d_ (by rw[si.lr,<-si.lm];exact hlt)]at h1;cases h1;exact⟨a,by rw[d_ (by rw[<-si.lm];exact hlt)],ho,yX si h0 wg hn⟩
     .rw[a_ hij]at h1 ⊢;obtain⟨b,y1,y2,y3,_⟩:=own j d' hij h1 (mne hij h2);exact⟨b,y1,y2,y3⟩
    .by_cases hij:i=j
     .subst hij;rw[d_ hlt]at h2;cases h2
     .exact absurd (mne hij h2) (hb j (JX hij))
    .have key:∀k e',i≠k->(r.set i (some d))[k]? = some (some e')->(m.set i .ow)[k]? = some .ow->(σ.set i (some (V.ref a)))[k]? = some (some (V.ref a))->False:=fun k e' hik h m0 z=>by rw[a_ hik]at h z;obtain⟨b,y1,_,_,y4⟩:=own k e' hik h (mne hik m0);rw[z]at y1;cases y1;exact y4 hn
     have hia:(σ.set i (some (V.ref a)))[i]? = some (some (V.ref a)):=by rw[d_ (by rw[<-si.lm];exact hlt)]
     by_cases hij:i=j
     .subst hij;rw[hia]at z1;cases z1;exact key k e' hjk h2 m2 z2
     .by_cases hik:i=k
      .subst hik;rw[hia]at z2;cases z2;exact key j d' hij h1 m1 z1
      .rw[a_ hij]at h1 z1;rw[a_ hik]at h2 z2;exact si.dis j k a' d' e' hjk h1 h2 (mne hij m1) (mne hik m2) z1 z2
    .by_cases hij:i=j
     .subst hij;rw[d_ hlt]at hm';cases hm'
     .exact absurd (mne hij hm') (hb j (JX hij))
   .exact kk.elim
end
def Jh(K:W.Frag)(ms:List Md)(F:List D->Res D):Sp:=fun vs H Q _=>∃G a us d ds,aN K G H/\vs=V.ref a::us/\ArgsOk K G H ms us ds/\Own K G H a d /\fin (F (d::ds)) (fun d'=>∀v G' H',Grow K G (lessA H a) G' H'->RV true K (lessA H a) G' H' v d'->Q v H') fun _=>False
structure CalleeU(P:u_)(w:H_)(K:W.Frag)(mg:Str->Option b_)(base:Heap)(x:Str)(ps:List Str)(k:Nat)(ms:List Md)(F:List D->Res D):Prop where
 ex:∃f fd,mg x=some (.ref f)/\W.keepIn K (.ref f)=true/\eD K fd ps []/\FnOk P w K mg base bP k f fd ps (Jh K ms F)
theorem SI.own1{X:Cx}{m:List Md}{r:ah}{G:GH}{st:L2.St}{H:Hp}{a:Addr}{d:D}(s:SI X ⟨G,H,fun _=>none⟩ m r G st H)(hsh:∀(j:Nat) x,m[j]? = some x->x=.sh)(ho:Own X.K G H a d):SI X ⟨G,lessA H a,fun _=>none⟩ (.ow::m) (some d::r) G (some (V.ref a)::st) H where
 gok:=s.gok
 old:=fun b o e=>by
  have e':lessA H a b=some o:=e;by_cases hb:b=a
  .subst hb;rw[z7]at e';cases e'
  .rw[j8 hb]at e';exact e'
 ge:=fun _ _ e=>e
 gf:=fun _ _=>rfl
 lm:=congrArg (· + 1) s.lm
 lr:=congrArg (· + 1) s.lr
 sh:=fun i d h hm=>by cases i with
 |zero=>simp at hm
 |succ i=>exact s.sh i d (by simpa using h) (by simpa using hm)
 ow:=fun i e h hm=>by cases i with
 |zero=>simp at h;subst h;exact⟨a,rfl,ho,z7⟩
 |succ i=>cases hsh i .ow (by simpa using hm)
 bw:=fun i d h hm=>by cases i with
 |zero=>simp at hm
 |succ i=>cases hsh i .bw (by simpa using hm)
 dis:=fun i j b d e hij hi hj mi mj si sj=>by cases i with
 |zero=>cases j with
  |zero=>exact hij rfl
  |succ j=>cases hsh j .ow (by simpa using mj)
 |succ i=>cases hsh i .ow (by simpa using mi)
 lk:=fun i o h _=>nomatch h
section
variable{P:u_}{w:H_}{K:W.Frag}{mg:Str->Option b_}{base:Heap}
theorem Hg{n:Nat}{ms:List Md}(h:∀x∈ms,x=Md.sh)(j:Nat)(x:Md)(e:(fE n ms)[j]? = some x):x=.sh:=by
 unfold fE at e;rcases JS.mp (Kd e)with z|z
 .exact h x z
 .exact(NP.mp z).2
theorem Eo{x:Str}{st:Stmt}{n0:Str}{N ps:List Str}{k:Nat}{ms:List Md}{fs:FS}{m':List Md}(A:DefAt K mg x st)(S:FnScope (n0::N) ps (aa st))(hms:ms.length+1=ps.length)(hsh:∀x∈ms,x=Md.sh)(hb:∀(kV doc pm:b_)(an:Option Addr)(cdv ct:b_)(us:List b_),us.length=ps.length->Lm (W.fnOf x x (aI st) (ap st) (aa st) .none kV doc pm an cdv ct) ⟨us,[]⟩=pure (ps.zip us))(hbody:∀(f:Addr)(cdv:b_)(A:Jr)(outer:List Env)(s:e_)(H:Hp)(g:GE)(E:XK),Room k (A.deeper (KW x (aa st) s.heap.objs.size f cdv)) ->dH (a9 bP P w K mg base (n0::N) x (aa st) f cdv A outer s H E).nox g true [] (.ow::fE N.length ms) (ap st) fs m'):CalleeU P w K mg base x ps (k+1) ms fun ds=>outR true (fs (a7 (N.length+1) ds)):=by
 obtain⟨f,fd,h1,F⟩:=A.ex;refine⟨f,fd,h1,F.kp,F.binds hb,?_⟩;refine F.ok S (fun vs H Q E ⟨G,a,us,d,ds,gk,hv,rs,ho,q⟩=>by rw[hv,G_,rs.len.1,hms]) fun cdv A outer s H vs Q E hr h=>?_;obtain⟨G,a,us,d,ds,gk,rfl,rs,ho,q⟩:=h;have hpl:ps.length<=N.length+1:=by have:=congrArg K4 S.pre;rw[JM,G_]at this;omega
 have si:=SI.own1 (X:=(a9 bP P w K mg base (n0::N) x (aa st) f cdv A outer s H E).nox) (mL (N:=N) gk rs (by omega)) (fun j x e=>Hg hsh j x e) ho;have e:L2.a8 (n0::N) (V.ref a::us)=some (V.ref a)::L2.a8 N us:=by unfold L2.a8;rw[A_,MO,G_,G_,LU]
 have e0:a7 (N.length+1) (d::ds)=some d::a7 N.length ds:=by unfold a7;rw[A_,MO,G_,LU]
 rw[<-e,<-e0]at si;exact⟨_,(hbody f cdv A outer s H ⟨G,lessA H a,fun _=>none⟩ E hr).2,a7 (N.length+1) (d::ds),G,si,zr rfl q⟩
end
section
variable{X:Cx}{g:GE}{i:Nat}{m ms:List Md}{mb:List Md}{e:Expr}{es:List Expr}{fl:ah->Res (List D)}{k:Nat}{ps:List Str}{F:List D->Res D}{r:ah}{G G1 G':GH}{σ:L2.St}{H H1 H':Hp}{x y:Str}{p p1 p3 pos cpos:Pos}
def gF(i:Nat)(fl:ah->Res (List D))(F:List D->Res D):FS:=fun r=>match r[i]?,fl r with
|some (some d0),.ok ds=>(match F (d0::ds)with
 |.ok .non=>.stuck
 |.ok d=>.nx (r.set i (some d))
 |_=>.stuck)
|_,_=>.stuck
theorem Dw{ro:Bool}(hm:m[i]? = some .ow)(hNn:X.N.Nodup)(hN:X.N[i]? = some x)(hx:fj X.env.scope x)(hv:dk X.env.scope x)(c:CalleeU X.prog X.w X.K X.mg X.base y ps k ms F)(hr:Room k X.A)(ha:gu X g m (e::es) ms fl)(hs:Kp (.Call (.Name y p) (.Name x p1::e::es) [] cpos) (some (.Name x p3)) pos.line X.env=pure false:=by rfl)(hf:X.fn x=true\/X.env.scope.names.lookup x=some .local:=by first|exact .inl rfl|exact .inr rfl|assumption)(hd:(x==("__debug__" : Str))=false:=by decide)(hcd:(x==("__classdict__" : Str))=false:=by decide)(hg:Gl X y:=by rfl)(hdb:(y==("__debug__" : Str))=false:=by decide)(he:g_ (.Name x p1::e::es) X.env=(false,eval (.Name x p1) X.env)::g_ (e::es) X.env:=by rfl)(hpl:(backTo cpos (g_ (e::es) X.env)).any (·.1)=false:=by rfl):SS X g ro mb m (.Assign [.Name x p3] (.Call (.Name y p) (.Name x p1::e::es) [] cpos) pos) (gF i fl F) m:=by obtain⟨fa,fd,h1,h2,h3,h4⟩:=c.ex;refine⟨rfl,PS.imp (jF hNn hN hx (mv h4 hr hg h1 h2 h3 .nil lW (d4 (dJ hN hv hd hcd) ha he) hdb he hpl) hs hf) fun D σ H ⟨r,G,si,kk⟩=>?_⟩;unfold gF at kk;cases er:r[i]? with
|none=>simp only[er]at kk;exact kk.elim
|some o=>cases o with
 |none=>simp only[er]at kk;exact kk.elim
 |some d0=>obtain⟨a0,s0,o0,n0⟩:=si.ow i d0 er hm;refine⟨_,s0,r,G,si,?_⟩;cases ez:fl r with
  |exc x=>simp only[er,ez]at kk;exact kk.elim
  |stuck=>simp only[er,ez]at kk;exact kk.elim
  |ok zs=>simp only[er,ez]at kk;intro vs G1 H1 wg rs;have o1:=o0.mono wg;have s1:=si.grow wg;refine⟨G1,a0,vs,d0,zs,wg.ok,by rw[JZ],rs,o1,?_⟩;cases ef:F (d0::zs)with
   |exc x=>simp only[ef]at kk;exact kk.elim
   |stuck=>simp only[ef]at kk;exact kk.elim
   |ok d=>
     simp only[ef]at kk;intro v G2 H2 w2 rv;rcases rv with⟨a,rfl,hn,ho⟩|⟨rfl,_⟩
     .have kk:∀σ' G' H',aG G G'->SI X g m (r.set i (some d)) G' σ' H'->D.nx σ' H':=by cases d with
      |non=>exact kk.elim
      |_=>exact kk
      have le2:aG G G2:=fun a d e=>w2.ge a d (wg.ge a d e);have hlt:i<m.length:=(f_.mp hm).1;have wt:Grow X.K g.gh g.h0 G2 H2:=s1.grown.lessA n0 w2;have ga:g.h0 a=none:=by cases e:g.h0 a with
      |none=>rfl
      |some o=>
        have hne:a≠a0:=by rintro rfl;rw[n0]at e;cases e
        rw[j8 hne,s1.old a o e]at hn;cases hn
      have own:∀(j:Nat)(d':DL.D),i≠j->r[j]? = some (some d')->m[j]? = some .ow->∃b,σ[j]? = some (some (V.ref b))/\Own X.K G2 H2 b d'/\g.h0 b=none/\lessA H1 a0 b≠none:=fun j d' hij h1 h2=>by
       obtain⟨b,y1,y2,y3⟩:=s1.ow j d' h1 h2;have hne:b≠a0:=by rintro rfl;exact si.dis i j b _ _ hij er h1 hm h2 s0 y1
       have hS:lessA H1 a0 b≠none:=by rw[j8 hne];exact y2.ob.isS
       exact⟨b,y1,⟨by rw[w2.gf b hS];exact y2.un,y2.ob.mono w2.ge fun o z=>w2.he b o (by rw[j8 hne];exact z)⟩,y3,hS⟩
      have hia:(σ.set i (some (V.ref a)))[i]? = some (some (V.ref a)):=by rw[d_ (by rw[<-si.lm];exact hlt)]
      refine kk _ G2 H2 le2 ⟨w2.ok,wt.he,wt.ge,wt.gf,by simpa using si.lm,by simpa using si.lr,fun j d' h1 h2=>?_,fun j d' h1 h2=>?_,fun j d' h1 h2=>?_,fun j k a' d' e' hjk h1 h2 m1 m2 z1 z2=>?_,fun j o hj hm'=>?_⟩
      .have hij:i≠j:=by rintro rfl;rw[hm]at h2;cases h2
       rw[a_ hij]at h1 ⊢;obtain⟨v,y1,y2⟩:=si.sh j d' h1 h2;exact⟨v,y1,y2.mono le2⟩
      .by_cases hij:i=j
       .subst hij;rw[d_ (by rw[si.lr,<-si.lm];exact hlt)]at h1;cases h1;exact⟨a,hia,ho,ga⟩
       .rw[a_ hij]at h1 ⊢;obtain⟨b,y1,y2,y3,_⟩:=own j d' hij h1 h2;exact⟨b,y1,y2,y3⟩
      .have hij:i≠j:=by rintro rfl;rw[hm]at h2;cases h2
       rw[a_ hij]at h1 ⊢;obtain⟨v,y1,y2⟩:=s1.bw j d' h1 h2;refine⟨v,y1,?_⟩;rcases y2 with y2|⟨b,rfl,y2,y3⟩
       .exact .inl (y2.mono w2.ge)
       .have hne:b≠a0:=by rintro rfl;exact y3 n0
        have hS:lessA H1 a0 b≠none:=by rw[j8 hne];exact y2.ob.isS
        exact .inr ⟨b,rfl,⟨by rw[w2.gf b hS];exact y2.un,y2.ob.mono w2.ge fun o z=>w2.he b o (by rw[j8 hne];exact z)⟩,y3⟩
      .have key:∀k e',i≠k->(r.set i (some d))[k]? = some (some e')->m[k]? = some .ow->(σ.set i (some (V.ref a)))[k]? = some (some (V.ref a))->False:=fun k e' hik h m0 z=>by rw[a_ hik]at h z;obtain⟨b,y1,_,_,y4⟩:=own k e' hik h m0;rw[z]at y1;cases y1;exact y4 hn
       by_cases hij:i=j
       .subst hij;rw[hia]at z1;cases z1;exact key k e' hjk h2 m2 z2
       .by_cases hik:i=k
        .subst hik;rw[hia]at z2;cases z2;exact key j d' hij h1 m1 z1
        .rw[a_ hij]at h1 z1;rw[a_ hik]at h2 z2;exact si.dis j k a' d' e' hjk h1 h2 m1 m2 z1 z2
      .have hij:i≠j:=by rintro rfl;rw[hm]at hm';cases hm'
       have:=si.lk j o hj hm';exact⟨by rw[a_ hij];exact this.1,fun d h=>this.2 d (by rw[a_ hij]at h;exact h)⟩
     .exact kk.elim
end
section
variable{X:Cx}{g:GE}{i jr:Nat}{m:List Md}{r:ah}{w:List (List D)}{ie:Expr}{fi:FE}{sts:List Stmt}{pos p1 p2 p3:Pos}{x y:Str}
def gL(i jr:Nat)(fi:FE)(fA:FA):cZ:=fun r w=>match fi (cy i r w)with
|.ok (.int x)=>(c8 w.length x).bind fun k=>(fA (r.set jr none) w k).map fun w'=>(r.set jr none,w')
|_=>none
theorem GP{fA:FA}(hm:m[i]? = some .bw)(hb:∀j,j≠i->m[j]?≠some .bw)(hmj:m[jr]? = some .sh)(hN:X.N.Nodup)(hNi:X.N[i]? = some x)(hvx:dk X.env.scope x)(hNj:X.N[jr]? = some y)(hy:fj X.env.scope y)(hi:∀g',SE X g' (m.set i .sh) ie fi)(h2:jt X g i jr m sts fA)(hd:(x==("__debug__" : Str))=false:=by decide)(hcd:(x==("__classdict__" : Str))=false:=by decide)(hpl:mz ie:=by intro _ _;rfl)(hs:Kp (.Subscript (.Name x p2) ie p3) (some (.Name y p1)) pos.line X.env=pure false:=by rfl)(hf:X.fn y=true\/X.env.scope.names.lookup y=some .local:=by first|exact .inl rfl|exact .inr rfl|assumption):fV X g i m (.Assign [.Name y p1] (.Subscript (.Name x p2) ie p3) pos::sts) (gL i jr fi fA) m:=by
 refine bx.imp (ib (jF hN hNj hy (qv rF (dJ hNi hvx hd hcd) (oM (g:=g) hb hi) hpl) hs hf) h2) fun D0 σ H ⟨r,w,G,s,r',w',e,kk⟩=>?_;have key:∀{G H},dI X g i m r w G σ H->∃p as,LRw X.K G H p as w/\(∀b∈p::as,g.h0 b=none)/\SI X (b6 g H (p::as) i p) m r G σ H/\σ[i]? = some (some (V.ref p)):=fun s=>by obtain⟨p,as,R,h0,si,_⟩:=s;exact⟨p,as,R,h0,si,(si.lk i (some (V.ref p),none) (by show(if i=i then _ else _)=_;rw[if_pos rfl]) hm).1⟩
 obtain⟨p,_,_,_,_,hst⟩:=key s;unfold gL at e;cases ei:fi (cy i r w)with
|exc x=>rw[ei]at e;cases e
|stuck=>rw[ei]at e;cases e
|ok d=>rw[ei]at e;cases d with
 |int vx=>simp only[]at e;cases ex:c8 w.length vx with
  |none=>rw[ex]at e;cases e
  |some k=>rw[ex]at e;simp only[Kq]at e;cases eA:fA (r.set jr none) w k with
   |none=>rw[eA]at e;cases e
   |some w1=>
     rw[eA]at e;cases e;refine⟨_,hst,r,w,G,s,.int vx,ei,.int vx,fun v G1 H1 wg rv s1=>?_⟩;have rv:=rv.int wg.ok;subst rv;obtain⟨p',as,R1,h0,si1,hst'⟩:=key s1;rw[hst]at hst';cases hst';have hk:k<w.length:=(rE ex).2.1;have hw:w[k]? = some (w.getD k []):=by rw[z_,m_ hk];rfl
     obtain⟨q,hq,_⟩:=Paired.get R1.rw hw;have hl:(as.map V.ref).length=w.length:=by rw[n_];exact Paired.length R1.rw
     have at1:dY (as.map V.ref) vx=some (V.ref q):=by unfold dY;rw[hl,ex];show(as.map V.ref)[k]? = _;rw[s_,hq];rfl
     refine⟨p,_,vx,_,rfl,rfl,bb.of R1.out,at1,?_⟩;have hlt:jr<m.length:=(f_.mp hmj).1;exact⟨r.set jr none,w,k,G1,⟨p,as,q,R1,h0,si1.slot hmj,hq,by rw[d_ (by rw[<-si1.lm];exact hlt)],hm,hmj,by rw[d_ (by rw[si1.lr,<-si1.lm];exact hlt)]⟩,_,eA,fun σ' G' H' le s'=>kk σ' G' H' (aG.trans wg.ge le) s'⟩
 |_=>cases e
end
theorem SI.modeN{X:Cx}{g:GE}{m:List Md}{r:ah}{G:GH}{σ:L2.St}{H:Hp}{j:Nat}(s:SI X g m r G σ H)(hr:∀d,r[j]?≠some (some d)):SI X g (m.set j .sh) r G σ H:=by
 have ne:∀{k:Nat}{d:D},r[k]? = some (some d)->j≠k:=fun h=>by rintro rfl;exact hr _ h
 have mn:∀{k:Nat}{x:Md},j≠k->(m.set j .sh)[k]? = some x->m[k]? = some x:=fun hk h=>by rw[a_ hk]at h;exact h
 refine⟨s.gok,s.old,s.ge,s.gf,by rw[JD];exact s.lm,s.lr,fun k d h hm=>s.sh k d h (mn (ne h) hm),fun k d h hm=>s.ow k d h (mn (ne h) hm),fun k d h hm=>s.bw k d h (mn (ne h) hm),fun k l a d e hkl h1 h2 m1 m2=>s.dis k l a d e hkl h1 h2 (mn (ne h1) m1) (mn (ne h2) m2),fun k o h hm=>?_⟩;by_cases hk:j=k
 .subst hk;rw[Ky]at hm;split at hm
  .split at hm <;> cases hm
  .exact s.lk j o h hm
 .exact s.lk k o h (mn hk hm)
section
variable{X:Cx}{g:GE}{i:Nat}{m:List Md}{pos p1 p2 apos cpos:Pos}{x y:Str}
theorem Ee(jy:Nat)(hij:i≠jy)(hm:m[i]? = some .bw)(hb:∀j,j≠i->m[j]?≠some .bw)(hmy:m[jy]? = some .ow)(hN:X.N[i]? = some x)(hv:dk X.env.scope x)(hNy:X.N[jy]? = some y)(hvy:dk X.env.scope y)(hd:(x==("__debug__" : Str))=false:=by decide)(hcd:(x==("__classdict__" : Str))=false:=by decide)(hdy:(y==("__debug__" : Str))=false:=by decide)(hcdy:(y==("__classdict__" : Str))=false:=by decide)(hbase:Kn (.Name x p2) "append" X.env (eval (.Name x p2) X.env)=eval (.Name x p2) X.env:=by rfl)(hfew:((backTo cpos (g_ [.Name y p1] X.env)).all (fun x=>! x.1)&&(MJ cpos (LA [] X.env)).all (fun x=>x.1.isSome)&&decide (([.Name y p1]:List Expr).length+([]:List Lr).length+(if ([]:List Lr).isEmpty then 0 else 1)<30))=true:=by rfl)(hline:(apos.endLine==cpos.line)=true:=by rfl)(hst:g_ [.Name y p1] X.env=(false,eval (.Name y p1) X.env)::g_ [] X.env:=by rfl)(hplain:(backTo cpos (g_ [] X.env)).any (·.1)=false:=by rfl):hV X g i m (.Expr (.Call (.Attribute (.Name x p2) "append" apos) [.Name y p1] [] cpos) pos) (e8 jy) (m.set jy .sh):=by
 refine PS.imp (Ed (g:=g) jy hm hb hmy hN hv hNy hvy hd hcd hdy hcdy hbase hfew hline hst hplain) fun D0 σ H ⟨r,w,G,s,r',w',e,k⟩=>⟨r,w,G,s,r',w',e,fun σ' G' H' le s'=>k σ' G' H' le ?_⟩
 obtain⟨p,as,R,h0,si,_⟩:=s';refine⟨p,as,R,h0,si.modeN fun d h=>?_,by rw[a_ (JX hij)];exact hm⟩;unfold e8 at e;split at e
 .rename_i ds hry;split at e
  .cases e;rw[Ky,if_pos rfl]at h;split at h <;> cases h
  .cases e
 .cases e
end
def qi(f1:cZ)(F:jv):jv:=fun r w=>(f1 r w).bind fun z=>F z.1 z.2
def qu(f:ah->Option (ah×List (List D)))(F:jv):ah->Option (List (List D)):=fun r=>(f r).bind fun z=>F z.1 z.2
section
variable{X:Cx}{g:GE}{i:Nat}{m m1:List Md}{st:Stmt}{sts:List Stmt}{f1:cZ}
theorem Hf{F:jv}(h1:hV X g i m st f1 m1)(h2:bx X sts (tR X g i m1 F)):bx X (st::sts) (tR X g i m (qi f1 F)):=GQ h1 h2
theorem GR{F:jv}{f:ah->Option (ah×List (List D))}(h1:PS X st (ii X g i m m1 f))(h2:bx X sts (tR X g i m1 F)):bx X (st::sts) (tZ X g m (qu f F)):=EW h1 h2
end
abbrev uQ(i:Nat):ah->Option (ah×List (List D)):=fun r=>some (r.set i none,[])
abbrev Cc:jv:=fun _ w=>some w
abbrev kt(fl:ah->Res (List D))(F:List (List D)->List D->Res D):FM:=iK fl F fun d _=>.rt d
abbrev kn(i:Nat)(fl:ah->Res (List D))(F:List (List D)->List D->Res D):FM:=iK fl F fun d r=>match d with|.non=>.stuck|d=>.nx (r.set i (some d))
end DL
namespace DL
open PySem PySem.Spec PyProof.Rows L2 PySem.W PySem.Calls
def dL(K:W.Frag)(C:Addr):Option (List b_×Str):=match K.lookup C with
|some ⟨.type "type",_,.cls cd,sl⟩=>(match cd.mro,sl.toList with
 |.ref C'::bm,[_,_,_,_,some (.builtin _),_]=>if (C'==C && ! cd.hasDel)=true then some (bm,cd.name)else none
 |_,_=>none)
|_=>none
theorem qI{K:W.Frag}{C:Addr}{bm:List b_}{nm:Str}(h:dL K C=some (bm,nm)):XO K C bm/\XN K nm C:=by
 unfold dL at h;split at h
 .rename_i dict cd sl hk;split at h
  .rename_i C' bm' k0 k1 k2 k3 n k5 hm hs;split at h
   .rename_i hc;cases h;simp only[Jx,beq_iff_eq,KZ]at hc;obtain⟨rfl,hd⟩:=hc;refine⟨?_,_,cd,hk,rfl,rfl⟩;obtain⟨nm',bs,mro,ns,q,hdct,sn,sub,ab,col,hdel⟩:=cd;have e1:mro=Value.ref C'::bm:=hm;have e2:hdel=false:=hd;subst e1 e2;have e3:sl = #[k0,k1,k2,k3,some (Value.builtin n),k5]:=by cases sl with
    |mk l=>exact congrArg Array.mk hs
    subst e3;exact⟨_,_,_,_,_,_,_,_,_,_,_,_,_,_,_,_,hk⟩
   .cases h
  .cases h
 .cases h
def gC(K:W.Frag)(nm:Str)(c:Addr):Bool:=K.all fun e=>match e.2.data with
|.cls cd=>cd.name != nm || e.1==c
|_=>true
structure CF(K:W.Frag)(nm:Str)(c:Addr)(bm:List b_):Prop where
 xa:XA K c bm
 xn:XN K nm c
 un:gC K nm c=true
theorem nR{K:W.Frag}{nm:Str}{c:Addr}{bm:List b_}(o:dL K c=some (bm,nm))(be:bm.contains (Value.type "BaseException")=true)(bo:bm.contains (Value.type "object")=true)(ga:Lx K (.ref c) "__getattribute__" = some (some (.builtin "BaseException.__getattribute__")))(gn:Lx K (.ref c) "__getattr__" = some none)(gc:Lx K (.ref c) "__class__" = some (some (.builtin "object.__class__")))(gg:Op K (.builtin "object.__class__") "__get__" = some (some (.builtin "getset_descriptor.__get__")))(gt:takesIn K (.builtin "object.__class__")=some true)(un:gC K nm c=true):CF K nm c bm:=⟨⟨(qI o).1,be,bo,ga,gn,gc,gg,gt⟩,(qI o).2,un⟩
theorem CF.eq{K:W.Frag}{nm:Str}{c C:Addr}{bm:List b_}(f:CF K nm c bm)(h:XN K nm C):C=c:=XN.uniq h f.un
theorem Bc{K:W.Frag}{T:Addr}{hit:Str->Bool}(l:List (Str×Addr×List b_))(h:∀q∈l,CF K q.1 q.2.1 q.2.2/\(Value.ref q.2.1::q.2.2).contains (.ref T)=true)(hh:∀nm,hit nm=true->∃q∈l,q.1=nm):lQ K T hit:=by intro nm C hn xn;obtain⟨q,hq,rfl⟩:=hh nm hn;obtain⟨f,hc⟩:=h q hq;have:=f.eq xn;subst this;exact⟨_,f.xa.ob,hc⟩
theorem C5{K:W.Frag}{c:b_}{tab:Str->Option Bool}(l:List (Str×Addr×List b_))(n:NO K (.type "NoneType") c=some false)(h:∀q∈l,CF K q.1 q.2.1 q.2.2/\NO K (.ref q.2.1) c=tab q.1)(hh:∀nm b,tab nm=some b->∃q∈l,q.1=nm):IsxOk K c tab:=by refine⟨n,fun nm b C ht xn=>?_⟩;obtain⟨q,hq,rfl⟩:=hh nm b ht;obtain⟨f,hc⟩:=h q hq;have:=f.eq xn;subst this;exact⟨_,f.xa,by rw[hc,ht]⟩
theorem Ba{K:W.Frag}{h:Heap}{mg:Str->Option b_}{x:Str}{C:Addr}(KX:K.In h)(G:h.Ns Jt mg)(a:W.nsIn K Jt x=some (some (.ref C)))(e:excIn K C dM "ValueError.__new__" = true):XC K mg x C:=⟨W.mg_of KX G a,e⟩
end DL
namespace DL
open PySem PySem.Spec PyProof.Rows L2 PySem.W
def gR{α:Type}(P:α->Prop):List α->Prop
|[]=>True
|a::l=>P a/\gR P l
theorem gR.mem{α:Type}{P:α->Prop}:∀{l:List α},gR P l->∀q∈l,P q
|[],_,_,hq=>by cases hq
|a::l,h,q,hq=>by
  rcases C_.mp hq with rfl|hq
  .exact h.1
  .exact gR.mem h.2 q hq
abbrev QL:=List (Str×Addr×List b_)
theorem uZ{l1 l2 N:List Str}{nm:Str}{b:Bool}{L:QL}(hN:L.map (·.1)=N)(hs:(l1++l2).all (fun x=>N.contains x)=true)(h:(if l1.contains nm=true then some true else if l2.contains nm=true then some false else none)=some b):∃q∈L,q.1=nm:=by
 have hm:nm∈l1++l2:=by
  split at h
  .rename_i z;exact K2 _ (Ku.mp z)
  .split at h
   .rename_i z;exact Ju _ (Ku.mp z)
   .cases h
 have:=Ku.mp (JJ.mp hs nm hm);rw[<-hN]at this;obtain⟨q,h1,h2⟩:=JL.mp this;exact⟨q,h1,h2⟩
theorem qc{K:W.Frag}{c:b_}{l1 l2 N:List Str}{L:QL}(hN:L.map (·.1)=N)(f:gR (fun q=>CF K q.1 q.2.1 q.2.2) L)(n:NO K (.type "NoneType") c=some false)(h:L.all (fun q=>NO K (.ref q.2.1) c==if l1.contains q.1=true then some true else if l2.contains q.1=true then some false else none)=true)(hs:(l1++l2).all (fun x=>N.contains x)=true:=by decide+kernel):IsxOk K c fun nm=>if l1.contains nm=true then some true else if l2.contains nm=true then some false else none:=C5 L n (fun q hq=>⟨f.mem q hq,Ly (JJ.mp h q hq)⟩) fun _ _ z=>uZ hN hs z
end DL
namespace DL
open PySem PySem.Spec PyProof.Rows L2 PySem.W PySem.Calls
section
variable{prog:u_}{w:H_}{A:Jr}{E:b_->e_->Prop}{s:e_}{nm q:Str}{C N a:Addr}{bs bm:List b_}{sn:List Str}{sub:List b_}{ab:Bool}{col:Option Bool}{dd:Option Addr}{k0 k1 k2 k3 k5:Option b_}{newId:String}{oe:Obj}
theorem BB{K:W.Frag}{name:Str}{tk:Tok}{dx:Addr}{mA:Str->Option b_}{v:b_}{vs:Array b_}{Q:b_->e_->Prop}(kin:K.In s.heap)(hC:s.heap.get? C=some (JA nm q C N bs bm true sn sub ab col dd k0 k1 k2 k3 k5 newId))(he:s.heap.get? a=some oe)(hc:oe.cls=.ref C)(hda:oe.data=.fields vs)(hdi:oe.dict=some dx)(hn:s.heap.Ns dx mA)(g1:Lx K (.ref C) name=some none)(hv:mA name=some v)(ho:Ny v=pure v)(hq:Q v s):p_ (y_ prog w) A (Lb.«object.__getattribute__» ⟨[.ref a,.str name tk],[]⟩) (fun fin s'=>∃u,fin=.done (.ret u)/\Ny u=pure u/\Q u s') E s:=by
 obtain⟨oc,odi,oda,osl⟩:=oe
 dsimp only at hc hda hdi
 subst hc hda hdi;unfold Lb.«object.__getattribute__»;refine c_ ?_;show p_ _ _ (pure ((Value.ref a,[Value.str name tk]):b_×List b_)) _ _ _;refine i_ ?_;show p_ _ _ (Mg (Value.str name tk) >>= _) _ _ _;refine c_ ?_;show p_ _ _ (pure name) _ _ _;refine i_ (c_ (JT he ?_));refine c_ ?_;unfold MN;refine c_ (LR kin g1 _ _ _ _ (fun b o e=>e) ?_);refine c_ ?_;show p_ _ _ (pure none) _ _ _;refine i_ (c_ ?_);show p_ _ _ (pure none) _ _ _;refine i_ ?_;unfold Oh OE OW;refine c_ (c_ (c_ (LQ he ?_)));unfold instanceDict;refine c_ (LQ he ?_);refine c_ ?_;unfold classData;refine c_ (OK hC (i_ ?_))
 dsimp only
 refine i_ ?_;refine wpAny_nsGet hn ?_;rw[hv];exact c_ (NM (i_ (i_ ⟨v,rfl,ho,hq⟩)))
end
abbrev cS(C t:Addr)(od:Option Addr):Obj:={ cls:=.ref C,dict:=od,data:=.fields #[.ref t,.none,.none,.none,.bool false,.none] }
section
variable{prog:u_}{w:H_}{A:Jr}{E:b_->e_->Prop}{h:Heap}{gs:Array OI}{dr:Drawn}{tk:Nat}{os:OsState}
variable{nm ql:Str}{C N fI:Addr}{bs bm bB:List b_}{hdct:Bool}{sn:List Str}{sub:List b_}{ab:Bool}{col:Option Bool}{dd:Option Addr}{k0 k1 k2 k3 k5:Option b_}{B nw ini:String}{mN:Str->Option b_}{us:List b_}{oI:Obj}
theorem EZ{Q:Fin->e_->Prop}(XF:ExcBaseFacts B nw ini bB)(T:M9 h bB bm)(hC:h.get? C=some (JA nm ql C N bs bm hdct sn sub ab col dd k0 k1 k2 k3 k5 nw))(hn:h.Ns N mN)(hi:mN "__init__" = some (.ref fI))(hf:h.get? fI=some oI)(hfc:oI.cls=.type "function")(hz:us.length<=sizeLine)(hq:∀h' e,OX h h' e (.ref C) us->p_ (y_ prog w) A (call (.ref fI) (.ref e::us)) (fun r s'=>r=.none/\Q (.done (.ret (.ref e))) s') E ⟨h',gs,dr,tk,os⟩):p_ (y_ prog w) A (Lb.«type.__call__» ⟨.ref C::us,[]⟩) Q E ⟨h,gs,dr,tk,os⟩:=by
 repeat (first
  |with_reducible refine K0 hC ?_
  |with_reducible refine wpAny_madeBy_exc hC ?_
  |wp_step)
 refine codeAny_call_builtin_code (NQ _ XF.quiet) (wpAny_check_new_subT XF T hC (codeAny_exc_new_subT XF T hC ?_ hz));show p_ _ _ _ _ _ _;have hk:∀b o,h.get? b=some o->((h.push { cls:=.type "tuple",data:=.seq us.toArray }).push (cS C h.objs.size none)).get? b=some o:=fun b o e=>j_ _ (j_ _ e);have hg:((h.push { cls:=.type "tuple",data:=.seq us.toArray }).push (cS C h.objs.size none)).get? (h.objs.size+1)=some (cS C h.objs.size none):=by heap_get
 have hg2:((h.push { cls:=.type "tuple",data:=.seq us.toArray }).push (cS C h.objs.size none)).get? h.objs.size=some { cls:=.type "tuple",data:=.seq us.toArray }:=j_ _ (Oc rfl rfl);have hC1:=hk _ _ hC;have hf1:=hk _ _ hf;have hn1:=hn.keeps hk;have T1:=T.keeps hk;have hcC:(Value.ref C::bm).contains (.ref C)=true:=by simp
 unfold Mt
 repeat (first
  |with_reducible refine K0 hg ?_
  |(with_reducible refine Kl hC1 ?_;rw[hcC])
  |wp_step)
 show p_ _ _ (typeLookup (.ref C) _) _ _ _;refine wpAny_typeLookup_tail hC1 hn1 T1 XF.mroIs XF.init.lookup ?_;rw[hi];refine J6 (c_ ?_);unfold bindSpecial;refine c_ (MZ (T := "function") ⟨_,hf1,hfc⟩ ?_);rw[if_pos (by decide)];refine i_ (c_ (JF (hq _ (h.objs.size+1) ⟨hk,K1 (Ox _),h.objs.size,hg,K1 (w_ _),hg2⟩) (fun r s' hr=>?_) fun _ _ z=>z));obtain⟨rfl,hQ⟩:=hr
 wp_walk
 exact hQ
theorem Gq{Q:b_->e_->Prop}(XF:ExcBaseFacts B nw ini bB)(T:M9 h bB bm)(hC:h.get? C=some (JA nm ql C N bs bm hdct sn sub ab col dd k0 k1 k2 k3 k5 nw))(hn:h.Ns N mN)(hi:mN "__init__" = some (.ref fI))(hf:h.get? fI=some oI)(hfc:oI.cls=.type "function")(hz:us.length<=sizeLine)(hq:∀h' e,OX h h' e (.ref C) us->p_ (y_ prog w) (A.under (.builtin "type.__call__" ⟨.ref C::us,[]⟩)) (call (.ref fI) (.ref e::us)) (fun r s'=>r=.none/\Q (.ref e) s') E ⟨h',gs,dr,tk,os⟩):p_ (y_ prog w) A (call (.ref C) us) Q E ⟨h,gs,dr,tk,os⟩:=by
 have f1:=tc_lookup;have f2:=tc_bind (.ref C);have hT:Shared.TypeIs ⟨h,gs,dr,tk,os⟩ (.ref C) "type" := ⟨_,hC,rfl⟩
 refine Lv (codeAny_of_tree ?_);show p_ _ _ (callAny (.ref C) _) _ _ _
 repeat (any_goals (first
  |assumption
  |with_reducible refine K0 hC ?_
  |wp_step))
 exact⟨rfl,codeAny_call_builtin_at (NQ _ (by decide+kernel)) entry_typeCall (wpAny_check_type_call_sub hC (EZ XF T hC hn hi hf hfc hz fun h' e hm=>hq h' e hm))⟩
theorem GX{M:NU}{s:e_}{x:Sem b_}{env:Env}{Q:Flow->e_->Prop}(hb:bm.contains (.type "BaseException")=true)(hh:A.handled=none)(hx:p_ M A x (fun v s1=>∃e t od,v=.ref e/\s1.heap.get? C=some (JA nm ql C N bs bm hdct sn sub ab col dd k0 k1 k2 k3 k5 nw)/\s1.heap.get? e=some (cS C t od)/\E (.ref e) s1) E s):p_ M A (raiseStmt env (some x) none) Q E s:=by
 have hcB:(Value.ref C::bm).contains (.type "BaseException")=true:=by rw[Ks,hb,LL]
 unfold raiseStmt;refine c_ (JF hx (fun v s1 h1=>?_) fun _ _ z=>z);obtain⟨e,t,od,rfl,hC,he,hE⟩:=h1;obtain⟨hp,g,d,tk,os⟩:=s1
 repeat (first
  |with_reducible refine K0 he ?_
  |with_reducible refine K0 hC ?_
  |(with_reducible refine Kl hC ?_;rw[hcB])
  |wp_step)
 exact wpAny_raiseNew_none hh hE
end
theorem Ig{self:b_}{bm:List b_}{h:Heap}(T:M9 h dM bm):refuseLoop self "__setattr__" bm=pure ():=by induction T with
|base=>exact MG.passes self
|own _ _ _ _ ih=>rw[refuseLoop_ref];exact ih
section
variable{prog:u_}{w:H_}{A:Jr}{E:b_->e_->Prop}{h:Heap}{gs:Array OI}{dr:Drawn}{tk:Nat}{os:OsState}
variable{nm ql:Str}{C N e t:Addr}{bs bm:List b_}{sn:List Str}{sub:List b_}{ab:Bool}{col:Option Bool}{dd:Option Addr}{k0 k1 k2 k3 k5:Option b_}{nw:String}{K:W.Frag}{name:Str}{v:b_}
theorem uH{Q:Unit->e_->Prop}(kin:K.In h)(hC:h.get? C=some (JA nm ql C N bs bm true sn sub ab col dd k0 k1 k2 k3 k5 nw))(T:M9 h dM bm)(he:h.get? e=some (cS C t none))(g0:Lx K (.ref C) "__setattr__" = some (some (.builtin "object.__setattr__")))(g1:Lx K (.ref C) name=some none)(hq:∀h' dx tk',h.get? dx=none->h'.get? e=some (cS C t (some dx))->h'.Ns1 dx (fun y=>if y=name then some v else none)->(∀b o,b≠e->h.get? b=some o->h'.get? b=some o)->Q () ⟨h',gs,dr,tk',os⟩):p_ (y_ prog w) A (setAttr (.ref e) name v) Q E ⟨h,gs,dr,tk,os⟩:=by
 have f3:=MG.slot.bind (.ref e);have hcB:(Value.ref C::bm).contains (.type "object")=true:=by rw[Ks,rQ T (by decide+kernel),LL]
 have L0:Looks (y_ prog w) h (Mt (.ref e) (.type "object")) true:=by intro A Q E s k q;unfold Mt;refine c_ (JT (k _ _ he) ?_);obtain⟨hh,a1,a2,a3,a4⟩:=s;exact Kl (k _ _ hC) (by rw[hcB];exact q)
 unfold setAttr callSpecial? specialOf;refine c_ (Ob ?_);refine c_ (c_ (c_ (JT he (LR kin g0 _ _ _ _ (fun b o e=>e) ?_))));refine J6 ?_;rw[f3];refine c_ (i_ (c_ (Lv ?_)));have SF:=PySem.F.store_object;refine K7 SF.slot.plain SF.entry (@check_slot (y_ prog w) _ _ ⟨h,gs,dr,tk+1,os⟩ "object.__setattr__" "object" "__setattr__" (.ref e) [.str name tk,v] [] _ SF.kind SF.split L0 (SF.args (.ref e) (.str name tk) v) ?_);show p_ _ _ (Lb.«object.__setattr__» ⟨[.ref e,.str name tk,v],[]⟩) _ _ _;rw[osa_eq,refuse_eq];refine c_ (c_ (JT he (c_ (wpAny_mroOf_exc hC ?_))));rw[refuseLoop_ref,Ig T];refine i_ (c_ (JT he (c_ (LR kin g1 _ _ _ _ (fun b o e=>e) ?_))));refine c_ ?_;show p_ _ _ (pure none) _ _ _;refine i_ ?_;have hx1:(h.push { cls:=.type "dict",data:=.dict #[] }).get? e=some (cS C t none):=j_ _ he;have hxs:e≠h.objs.size:=Js (r_ he);refine c_ (i_ (c_ (c_ (LQ he (c_ ?_)))));unfold classData;refine c_ (OK hC (i_ ?_));refine c_ (wpAny_alloc' (c_ (wpAny_update' hx1 (i_ ?_))));have hgd:((h.push { cls:=.type "dict",data:=.dict #[] }).update e fun o=>{ o with dict:=some h.objs.size }).get? h.objs.size=some { cls:=.type "dict",data:=.dict #[] }:=(JO _ _ _ _ hxs.symm).trans (Oc rfl rfl);have hnd:((h.push { cls:=.type "dict",data:=.dict #[] }).update e fun o=>{ o with dict:=some h.objs.size }).Ns h.objs.size (fun _=>none):=⟨_,#[],_,hgd,rfl,fun e he=>absurd he (by simp),fun _=>rfl⟩
 show p_ _ _ (LX h.objs.size (.str name tk) name v) _ _ _;unfold LX Os;refine c_ (i_ (c_ (wpAny_nsSet1 (NX hnd) fun h' hn' hs=>?_)));obtain⟨oD,esD,epD,hoD,hdD,hcD⟩:=hn'.count (Within.cons name v Within.nil);refine c_ (wpAny_lookBehind hoD (by rw[hdD];exact pastItsLine_dict (JE hcD (by rw[G_,OA,Jz];omega))) ?_);have hx':h'.get? e=some (cS C t (some h.objs.size)):=(hs.2 e hxs).trans (JI _ hx1 rfl);refine i_ (show p_ _ _ (pure (some Value.none)) _ _ _ from i_ (i_ (hq h' h.objs.size _ (K1 (w_ _)) hx' hn' fun b o hb hbo=>?_)));exact(hs.2 b (Js (r_ hbo))).trans ((JO _ _ _ _ hb).trans (j_ _ hbo))
theorem Di{x:b_}{Q:b_->e_->Prop}(hC:h.get? C=some (JA nm ql C N bs bm true sn sub ab col dd k0 k1 k2 k3 k5 "ValueError.__new__"))(T:M9 h dM bm)(he:h.get? e=some (cS C t none))(hq:∀h' t',h'.get? e=some (cS C t' none)->(∀b o,b≠e->h.get? b=some o->h'.get? b=some o)->Q .none ⟨h',gs,dr,tk,os⟩):p_ (y_ prog w) A (call (.builtin "ValueError.__init__") [.ref e,x]) Q E ⟨h,gs,dr,tk,os⟩:=by
 have XF:=Mv;refine Lv (K7 XF.init.plain XF.initEntry (wpAny_check_init_subT XF T hC he rfl ?_))
 wp_walk
 refine hq _ h.objs.size ?_ fun b o hb hbo=>?_
 .rw[JI _ (j_ _ he) rfl];rfl
 .rw[JO _ _ _ _ hb];exact j_ _ hbo
end
def XR(e C:Addr)(od:Option Addr):Heap->Prop:=fun h=>∃t,h.get? e=some (cS C t od)
theorem XR.ok{P:u_}{w:H_}{H:Hp}{h:Heap}{e C t:Addr}{od:Option Addr}(x:h.get? e=some (cS C t od)):cE P w H h e (.ext (XR e C od)):=⟨⟨t,x⟩,⟨_,x⟩,fun h1 h2 ⟨t,q⟩ k=>⟨t,k _ q⟩⟩
structure XI(K:W.Frag)(C:Addr)(bm:List b_)(f:Str):Prop where
 ob:∃N nm q bs sn sub ab col dd k0 k1 k2 k3 k5,K.lookup C=some (JA nm q C N bs bm true sn sub ab col dd k0 k1 k2 k3 k5 "ValueError.__new__")
 tl:∀h,K.In h->M9 h dM bm
 g0:Lx K (.ref C) "__setattr__" = some (some (.builtin "object.__setattr__"))
 g1:Lx K (.ref C) f=some none
structure XT(K:W.Frag)(T:Addr):Prop where
 sp:Op K (.ref T) "__getattribute__" = some (some (.builtin "type.__getattribute__"))
 rd:readsIn K T (.type "type")=true
 fc:findCls K (.ref T) (.type "type") "__init__" = some (.val (.builtin "ValueError.__init__"))
section
variable{X:Cx}{a:Expr}{as:List Expr}{t:TA}{x:Str}{T:Addr}{p apos pos:Pos}{pl:Sem Bool}
theorem EF(hg:Gl X x)(hm:X.mg x=some (.ref T))(hT:XT X.K T)(ha:PA X (a::as) t)(hdb:(x==("__debug__" : Str))=false:=by decide)(ht:eval (.Call (.Attribute (.Name x p) "__init__" apos) (a::as) [] pos) X.env=(do
   let ov <-eval (.Name x p) X.env
   Nu apos.atName
   let(f,first) <-KO [ov] (getMethod ov "__init__" pl)
   callWith pos f first (backTo pos (g_ (a::as) X.env)) (MJ pos (LA [] X.env))):=by rfl)(hs:g_ (a::as) X.env=(false,eval a X.env)::g_ as X.env:=by rfl)(hplain:(backTo pos (g_ as X.env)).any (·.1)=false:=by rfl):PE X (.Call (.Attribute (.Name x p) "__init__" apos) (a::as) [] pos) (fun σ H Q=>t σ H fun vs H1=>∃e C bm f y,vs=[.ref e,y]/\H1 e=some (.ext (XR e C none))/\XI X.K C bm f/\Q .non H1):=by
 intro pz s σ H Q I h;refine methodCall_KW (pl:=pl) (j4 I hg hm ?_ hdb) ht;refine method_cls I.kIn hT.sp (cls_value (mc:=.type "type") I.kIn hT.rd hT.fc rfl ?_);have I0:=I.tok (s.toks+1);have hA:=ha pos pz _ σ H _ I0 h;rw[hs]at hA ⊢;refine M6 (by show(false || (backTo pos (g_ as X.env)).any (·.1))=false;rw[hplain] <;> rfl) (Nl ?_);refine aO hA fun us s1 ⟨vs,H1,I1,r,e,C,bm,f,y,hv,he,xi,q⟩=>?_;subst hv;obtain⟨u,z,rfl,r1,r2⟩:=kS r;cases(show u=Value.ref e from r1);obtain⟨⟨t,g1⟩,_,_⟩:=I1.hok e _ he;obtain⟨N,nm,ql,bs,sn,sub,ab,col,dd,k0,k1,k2,k3,k5,ob⟩:=xi.ob;refine Di (I1.kIn _ _ ob) (xi.tl _ I1.kIn) g1 fun h' t' g2 g3=>⟨.non,H1,?_,rfl,q⟩
 have:=I1.write (x:=e) (e:=e) (o:=.ext (XR e C none)) (h':=h') (t':=s1.toks) (by rw[he];trivial) (.inl rfl) g3 ⟨_,g2⟩ (XR.ok g2);rw[show upd H1 e (.ext (XR e C none))=H1 from by funext b;unfold upd;split <;> simp_all]at this;exact this
theorem EL{o v:Expr}{f:Str}{to tv:TE}{p':Pos}(ho:PE X o to)(hv:PE X v tv)(hs:Kp v (some (.Attribute o f p')) pos.line X.env=pure false:=by rfl):PS X (.Assign [.Attribute o f p'] v pos) (fun D σ H=>tv σ H fun y H1=>to σ H1 fun x H2=>∃e C bm,x=.ref e/\H2 e=some (.ext (XR e C none))/\XI X.K C bm f/\∀dx,H2 dx=none->dx≠e->D.nx σ (upd (upd H2 dx (.xd [(f,y)])) e (.ext (XR e C (some dx))))):=by
 intro pz s σ H D I h;refine plainObj_wpAny_Assign_Attribute (aO (hv pz s σ H _ I h) fun u s1 ⟨y,H1,I1,ry,q⟩=>aO (ho pz s1 σ H1 _ I1 q) fun ov s2 ⟨x,H2,I2,rx,e,C,bm,ex,he,xi,q2⟩=>?_) hs;subst ex;obtain rfl:ov=Value.ref e:=rx;obtain⟨⟨t,g1⟩,_,_⟩:=I2.hok e _ he;obtain⟨N,nm,ql,bs,sn,sub,ab,col,dd,k0,k1,k2,k3,k5,ob⟩:=xi.ob;refine uH I2.kIn (I2.kIn _ _ ob) (xi.tl _ I2.kIn) g1 xi.g0 xi.g1 fun h' dx tk' n1 n2 n3 n4=>?_;have hdx:H2 dx=none:=by cases z:H2 dx with
 |none=>rfl
 |some ho=>obtain⟨o,z2⟩:=oq (I2.hok dx _ z);rw[n1]at z2;cases z2
 have hde:dx≠e:=fun z=>by rw[z,g1]at n1;cases n1
 have old:∀b u,H2 b=some u->b≠e->upd (upd H2 dx (.xd [(f,y)])) e (.ext (XR e C (some dx))) b=some u:=fun b u hb hne=>by rw[aK hne,aK (fun z=>by rw[z,hdx]at hb;cases hb)];exact hb
 refine⟨σ,upd (upd H2 dx (.xd [(f,y)])) e (.ext (XR e C (some dx))),?_,q2 dx hdx hde⟩;refine I2.call' (ch:=[]) rfl ⟨fun b o hb hn _ _=>n4 b o (fun z=>by rw[z,he]at hn;cases hn) hb,fun b o hb hn _ _=>⟨o.slots,n4 b o (fun z=>by rw[z,he]at hn;cases hn) hb⟩,fun b o hb hn _=>?_,fun b o hb _=>?_,fun b xs hb=>old b _ hb (fun z=>by rw[z,he]at hb;cases hb),fun b o u hb=>old b _ hb (fun z=>by rw[z,he]at hb;cases hb),fun b ps hb=>⟨#[],by simpa using old b _ hb (fun z=>by rw[z,he]at hb;cases hb)⟩⟩ (fun b u hb=>?_) I2.bare fun b hb=>absurd hb (by simp)
 .rw[aK (fun z=>by rw[z,he]at hn;cases hn),aK (fun z=>by rw[z,n1]at hb;cases hb)];exact hn
 .by_cases z:b=e
  .exact⟨_,by rw[z];exact n2⟩
  .exact⟨o,n4 b o z hb⟩
 .by_cases z:b=e
  .subst z;rw[bJ]at hb;cases hb;exact XR.ok n2
  .rw[aK z]at hb;by_cases z2:b=dx
   .subst z2;rw[bJ]at hb;cases hb;refine⟨_,n3,fun g=>?_⟩;show cI (Nq g [(f,y)]) _;rw[Nq];by_cases hg:g=f
    .subst hg;simp only[beq_self_eq_true,if_pos];exact ry
    .rw[show(g==f)=false from by simpa using hg,if_neg hg];exact True.intro
   .rw[aK z2]at hb;refine(I2.hok b u hb).stay (fun c v hc hcv=>n4 c v (fun zz=>?_) hcv) (fun c hc=>old c _ hc fun zz=>by rw[zz,he]at hc;cases hc) fun c xs hc=>old c _ hc fun zz=>by rw[zz,he]at hc;cases hc
    rcases hc with rfl|hc
    .exact z zz
    .rw[zz,he]at hc;cases hc
end
theorem A4{K:W.Frag}{h:Heap}{N:Addr}{mg:Str->Option b_}{n:Str}{v:b_}(X:K.In h)(G:h.Ns N mg)(e:nsIn K N n=some (some v)):mg n=some v:=by
 obtain⟨o,es,ep,ho,hd,_,hf⟩:=G;unfold nsIn at e;split at e
 .rename_i c d es' n' sl q;have hx:=X _ _ q;rw[ho]at hx;cases hx;cases hd;split at e
  .rename_i en he;rw[<-hf];unfold nsFind findBy;rw[<-NH,he]
   first|exact B_ e|(cases e;rfl)
  .split at e <;> cases e
 .cases e
def Jj(C:Addr)(f:Str):Sp:=fun vs H Q _=>∃e i,vs=[.ref e,.int i]/\i.natAbs.log2<64/\H e=some (.ext (XR e C none))/\∀dx,H dx=none->dx≠e->Q .non (upd (upd H dx (.xd [(f,.int i)])) e (.ext (XR e C (some dx))))
structure XCI(P:u_)(w:H_)(K:W.Frag)(mg:Str->Option b_)(base:Heap)(x:Str)(C:Addr)(f:Str):Prop where
 bound:mg x=some (.ref C)
 keep:keepIn K (.ref C)=true
 ex:∃bm fI fd y oI N nm ql bs sn sub ab col dd k0 k1 k2 k3 k5,XI K C bm f/\K.lookup C=some (JA nm ql C N bs bm true sn sub ab col dd k0 k1 k2 k3 k5 "ValueError.__new__")/\PH K N=true/\nsIn K N "__init__" = some (some (.ref fI))/\K.lookup fI=some oI/\oI.cls=.type "function" /\eD K fd ["self",y] []/\FnOk P w K mg base bP 1 fI fd ["self",y] (Jj C f)
section
variable{X:Cx}{pz:List (Addr×Obj)}{σ:L2.St}{H:Hp}{s:e_}
theorem Inv.exc{h':Heap}{e C:Addr}{vs:List b_}(I:Inv X pz σ H s)(m:s.heap.MadeExcOf h' e (.ref C) vs):H e=none/\Inv X pz σ (upd H e (.ext (XR e C none))) { heap:=h',gens:=s.gens,drawn:=s.drawn,toks:=s.toks,os:=s.os }:=by
 obtain⟨t,m1,m2,m3⟩:=m.there;have hn:H e=none:=by cases z:H e with
 |none=>rfl
 |some u=>obtain⟨o,z2⟩:=oq (I.hok e u z);rw[m.new]at z2;cases z2
 have old:∀b u,H b=some u->upd H e (.ext (XR e C none)) b=some u:=fun b u hb=>by rw[aK (fun z=>by rw[z,hn]at hb;cases hb)];exact hb
 refine⟨hn,I.call' (ch:=[]) rfl ⟨fun b o hb _ _ _=>m.keeps b o hb,fun b o hb _ _ _=>⟨o.slots,m.keeps b o hb⟩,fun b o hb hz _=>?_,fun b o hb _=>⟨o,m.keeps b o hb⟩,fun b xs hb=>old b _ hb,fun b o u hb=>old b _ hb,fun b ps hb=>⟨#[],by simpa using old b _ hb⟩⟩ (fun b u hb=>?_) I.bare fun b hb=>absurd hb (by simp)⟩
 .rw[aK (fun z=>by rw[z,m.new]at hb;cases hb)];exact hz
 .by_cases z:b=e
  .subst z;rw[bJ]at hb;cases hb;exact XR.ok m1
  .rw[aK z]at hb;exact(I.hok b u hb).stay (fun c v _ hc=>m.keeps c v hc) (fun c hc=>old c _ hc) fun c xs hc=>old c _ hc
theorem Fly.init{s':e_}{h':Heap}{e C dx:Addr}{vs:List b_}{f:Str}{y:V}(I:Inv X pz σ H s)(m:s.heap.MadeExcOf h' e (.ref C) vs)(os:s'.os=s.os)(bare:LC s'.gens)(un:Un (bK X.stack) [] (upd H e (.ext (XR e C none))) (upd (upd (upd H e (.ext (XR e C none))) dx (.xd [(f,y)])) e (.ext (XR e C (some dx)))) h' s'.heap)(hok:ce X.prog X.w (upd (upd (upd H e (.ext (XR e C none))) dx (.xd [(f,y)])) e (.ext (XR e C (some dx)))) s'.heap)(hdx:upd H e (.ext (XR e C none)) dx=none)(hde:dx≠e):H dx=none/\Fly X.prog X.w X.stack H s (upd H dx (.xd [(f,y)])) e (.ref C) (some dx) s':=by
 obtain⟨hn,I2⟩:=Inv.exc I m;have hd:H dx=none:=by rw[aK hde]at hdx;exact hdx
 have ne:∀b o,s.heap.get? b=some o->b≠e:=fun b o hb z=>by rw[z,m.new]at hb;cases hb
 have up:∀b,b≠e->upd (upd (upd H e (.ext (XR e C none))) dx (.xd [(f,y)])) e (.ext (XR e C (some dx))) b=upd H dx (.xd [(f,y)]) b:=fun b hb=>by
  rw[aK hb];by_cases z:b=dx
  .subst z;rw[bJ,bJ]
  .rw[aK z,aK z,aK hb]
 have up0:∀b,b≠e->upd H e (.ext (XR e C none)) b=H b:=fun b hb=>aK hb;have he2:upd H dx (.xd [(f,y)]) e=none:=by rw[aK hde.symm];exact hn
 have inn:∀b u,upd H dx (.xd [(f,y)]) b=some u->b≠e:=fun b u hb z=>by rw[z,he2]at hb;cases hb
 obtain⟨⟨t,g1⟩,_,_⟩:=hok e _ bJ;have un2:Un (bK X.stack) [] H (upd H dx (.xd [(f,y)])) s.heap s'.heap:=by
  refine⟨fun b o hb hz hf hx=>un.keep b o (m.keeps b o hb) (by rw[up0 b (ne b o hb)];exact hz) hf hx,fun b o hb hz hf hx=>un.slot b o (m.keeps b o hb) (by rw[up0 b (ne b o hb)];exact hz) hf hx,fun b o hb hz hx=>?_,fun b o hb hx=>un.there b o (m.keeps b o hb) hx,fun b xs hb=>?_,fun b o u hb=>?_,fun b ps hb=>?_⟩
  .rw[<-up b (ne b o hb)];exact un.free b o (m.keeps b o hb) (by rw[up0 b (ne b o hb)];exact hz) hx
  .have hbe:b≠e:=fun z=>by rw[z,hn]at hb;cases hb
   rw[<-up b hbe];exact un.tups b xs (by rw[up0 b hbe];exact hb)
  .have hbe:b≠e:=fun z=>by rw[z,hn]at hb;cases hb
   rw[<-up b hbe];exact un.frzs b o u (by rw[up0 b hbe];exact hb)
  .have hbe:b≠e:=fun z=>by rw[z,hn]at hb;cases hb
   rw[<-up b hbe];exact un.tbls b ps (by rw[up0 b hbe];exact hb)
 have hok2:ce X.prog X.w (upd H dx (.xd [(f,y)])) s'.heap:=fun b u hb=>by
  refine(hok b u (by rw[up b (inn b u hb)];exact hb)).stay (fun c v _ hc=>hc) (fun c hc=>?_) fun c xs hc=>?_
  .have:c≠e:=fun z=>by rw[z,bJ]at hc;cases hc
   rw[<-up c this];exact hc
  .have:c≠e:=fun z=>by rw[z,bJ]at hc;cases hc
   rw[<-up c this];exact hc
 refine⟨hd,os,bare,un2,hok2,N7 s'.heap (e::bK X.stack),fun b o hb=>OS _ hb,N8 _ k_,?_,⟨_,_,g1,rfl,fun d hd=>by cases hd;rfl,rfl,.inl rfl⟩,fun b o hb hf=>?_,fun b u hb=>?_⟩
 .have key:∀l:List Env,(∀b∈bK l,b∈bK X.stack)->s.heap.FunFrames X.base l->s'.heap.FunFrames (N7 s'.heap (e::bK X.stack)) l:=by
   intro l
   induction l with
  |nil=>intro _ _;unfold LK;trivial
  |cons env l ih=>intro hs hf;unfold LK at hf ⊢;obtain⟨f1,⟨L,o,f2,f3,f4,f5⟩,f6⟩:=hf;have hL:L∈bK X.stack:=hs L (by unfold bK;rw[JU,f2];exact k_);obtain⟨sl,hsl⟩:=un2.slot L o f4 (I.stkFree L hL) hL (by simp);refine⟨f1,⟨L,_,f2,N8 _ (h_ _ hL),hsl,f5⟩,ih (fun b hb=>hs b ?_) f6⟩;unfold bK;rw[JU,f2];exact h_ _ hb
  exact key X.stack (fun _ hb=>hb) I.stack
 .obtain⟨o',ho'⟩:=un2.there b o hb (by simp);exact⟨o',Nn _ ho' fun z=>by
   rcases C_.mp z with z|z
   .exact ne b o hb z
   .exact hf z⟩
 .obtain⟨o,eo⟩:=oq (hok2 b u hb);refine⟨o,Nn _ eo fun z=>?_⟩;rcases C_.mp z with z|z
  .exact inn b u hb z
  .have h1:=I.stkFree b z;by_cases zz:b=dx
   .obtain⟨_,ob,hob,_⟩:=I.stack.mem z;have:=un2.free b ob hob h1 (by simp);rw[this]at hb;cases hb
   .rw[aK zz,h1]at hb;cases hb
end
section
variable{X:Cx}{g:GE}{ro:Bool}{m mb:List Md}{a e:Expr}{fl:ah->Res (List D)}{fe:FE}{x f nm:Str}{C:Addr}{p np pos:Pos}
def jf(hit:Str->Bool)(f:Str):D->Option D
|.obj 0 ((_,.str nm)::ds)=>if hit nm=true then ds.lookup f else none
|_=>none
def lP(K:W.Frag)(f:Str)(hit:Str->Bool):Prop:=∀nm C,hit nm=true->XN K nm C->∃bm,XA K C bm/\XI K C bm f
theorem Cs{ta:TE}(he:PE X e ta)(hb:Kn e f X.env (eval e X.env)=eval e X.env):PE X (.Attribute e f pos) (fun σ H Q=>ta σ H fun x H1=>∃a C bm dx fs v,x=.ref a/\H1 a=some (.ext (hR a C (some dx)))/\XA X.K C bm/\XI X.K C bm f/\H1 dx=some (.xd fs)/\fs.lookup f=some v /\(∀u,ar v u->handedIn u=true)/\Q v H1):=by intro pz s σ H Q I h;refine Dg hb (aO (he pz s σ H _ I h) fun u s1 ⟨x,H1,I1,rx,a,C,bm,dx,fs,v,ex,ea,xa,xi,ed,l,hh,q⟩=>?_);subst ex;obtain rfl:u=Value.ref a:=rx;obtain⟨⟨oe,vs,o1,o2,o3,o4⟩,_,_⟩:=I1.hok a _ ea;obtain⟨N,nm,ql,bs,sn,sub,ab,col,dd,k0,k1,k2,k3,k5,ob⟩:=xi.ob;obtain⟨mA,n1,n2⟩:=I1.hok dx _ ed;have n3:=n2 f;rw[l]at n3;unfold getAttr;refine c_ (Ob ?_);cases hm:mA f with
|none=>rw[hm]at n3;exact JG n3
|some z=>rw[hm]at n3;exact yw (s:={ heap:=s1.heap,gens:=s1.gens,drawn:=s1.drawn,toks:=s1.toks+1,os:=s1.os }) I1.kIn (I1.kIn _ _ ob) o1 o2 xa.be xa.ga xa.gn (BB (s:={ heap:=s1.heap,gens:=s1.gens,drawn:=s1.drawn,toks:=s1.toks+1,os:=s1.os }) I1.kIn (I1.kIn _ _ ob) o1 o2 o4 (o3 dx rfl) n1.ns xi.g1 hm (handedOut_of (hh z n3)) ⟨v,H1,I1.tok _,n3,q⟩)
theorem vI.look{K:W.Frag}{G:GH}{fs:List (Str×V)}{ds:List (Str×D)}{d:D}(h:vI K G fs ds)(l:ds.lookup f=some d):∃v,fs.lookup f=some v/\RG K G v d:=by induction h with
|nil=>cases l
|@cons p q fs ds r _ ih=>
  obtain⟨a,v⟩:=p;obtain⟨b,d'⟩:=q;obtain⟨r1,r2⟩:=r;have r1:a=b:=r1;subst r1;rw[Nq]at l ⊢;split at l
  .rename_i hb;cases l;exact⟨v,rfl,r2⟩
  .rename_i hb;exact ih l
theorem BL{hit:Str->Bool}(hx:lP X.K f hit)(he:SB X g m e fe)(hb:Kn e f X.env (eval e X.env)=eval e X.env:=by rfl):SE X g m (.Attribute e f pos) (f1 fe (jf hit f)):=by
 refine PE.imp (Cs he hb) fun σ H Q ⟨r,G,si,q⟩=>⟨r,G,si,bh (bu q) fun d q1 v G1 H1 w1 r1=>?_⟩
 obtain⟨d',e',q2⟩:=dc q1;unfold jf at e';split at e'
 .rename_i k nm ds;split at e'
  .rename_i hh;obtain⟨a,C,dx,rfl,ha,xn,hG⟩:∃a C dx,v=.ref a/\H1 a=some (.ext (hR a C (some dx)))/\XN X.K nm C/\G1 dx=some (.obj 1 ds):=by
    rcases r1 with h|⟨a,rfl,h⟩
    .cases h with
    |scl s=>cases s
    |ref e2=>cases w1.ok _ _ e2 with
     |@exc _ _ od _ r n fl=>cases od with
      |none=>cases(show ds=[]from fl);cases e'
      |some dx=>exact⟨_,_,dx,rfl,r,n,fl⟩
    |kc k=>cases k
    .cases h.ob
   obtain⟨bm,xa,xi⟩:=hx nm C hh xn;cases w1.ok _ _ hG with
  |fld hd rf=>obtain⟨v',l,rv⟩:=rf.look e';refine⟨a,C,bm,dx,_,v',rfl,ha,xa,xi,hd,l,fun u hu=>?_,q2 v' G1 H1 w1 rv⟩;cases rv with
   |scl s=>cases s <;> first|(obtain⟨_,rfl⟩:=hu;rfl)|(cases hu;rfl)
   |ref _=>cases(show u=Value.ref _ from hu);rfl
   |kc _=>cases(show u=Value.ref _ from hu);rfl
  .cases e'
 .cases e'
end
def uP(K:W.Frag)(C:Addr):Option Addr:=match K.lookup C with
|some ⟨_,_,.cls cd,_⟩=>some cd.ns
|_=>none
def gy(K:W.Frag)(C N:Addr):Bool:=match K.lookup C with
|some ⟨.type "type",_,.cls cd,sl⟩=>(match cd.mro,sl.toList with
 |.ref C'::bm,[_,_,_,_,some (.builtin n),_]=>C'==C&&n == "ValueError.__new__" && ! cd.hasDel&&cd.hasDict&&tailIn K dM bm&&PH K cd.ns&&cd.ns==N
 |_,_=>false)
|_=>false
theorem BY{K:W.Frag}{C N:Addr}(h:gy K C N=true):∃bm,(∃nm q bs sn sub ab col dd k0 k1 k2 k3 k5,K.lookup C=some (JA nm q C N bs bm true sn sub ab col dd k0 k1 k2 k3 k5 "ValueError.__new__"))/\tailIn K dM bm=true/\PH K N=true:=by
 unfold gy at h;split at h
 .rename_i dict cd sl hk;split at h
  .rename_i C' bm k0 k1 k2 k3 n k5 hm hs;simp only[Jx,beq_iff_eq,KZ]at h;obtain⟨⟨⟨⟨⟨⟨rfl,rfl⟩,hd⟩,hx⟩,ht⟩,hn⟩,rfl⟩:=h;obtain⟨nm',bs,mro,ns,q,hdct,sn,sub,ab,col,hdel⟩:=cd;have e1:mro=Value.ref C'::bm:=hm;have e2:hdel=false:=hd;have e4:hdct=true:=hx;subst e1 e2 e4;have e3:sl = #[k0,k1,k2,k3,some (Value.builtin "ValueError.__new__"),k5]:=by cases sl with
   |mk l=>exact congrArg Array.mk hs
   subst e3;exact⟨bm,⟨_,_,_,_,_,_,_,_,_,_,_,_,_,hk⟩,ht,hn⟩
  .cases h
 .cases h
theorem wN{K:W.Frag}{C N:Addr}{bm:List b_}{nm:Str}(h:gy K C N=true)(o:dL K C=some (bm,nm)):(∃nm q bs sn sub ab col dd k0 k1 k2 k3 k5,K.lookup C=some (JA nm q C N bs bm true sn sub ab col dd k0 k1 k2 k3 k5 "ValueError.__new__"))/\tailIn K dM bm=true/\PH K N=true:=by
 obtain⟨bm',⟨nm',q,bs,sn,sub,ab,col,dd,k0,k1,k2,k3,k5,h1⟩,h2,h3⟩:=BY h;obtain⟨⟨N1,nm1,q1,bs1,hd1,sn1,sub1,ab1,col1,dd1,a0,a1,a2,a3,a5,nw1,z1⟩,_⟩:=qI o;rw[h1]at z1;have:bm'=bm:=by have e1:=congrArg Obj.data (B_ z1);have e2:=Data.cls.inj e1;have e3:=congrArg ClassData.mro e2;exact(List.cons.inj e3).2
 subst this;exact⟨⟨_,_,_,_,_,_,_,_,_,_,_,_,_,h1⟩,h2,h3⟩
theorem qd{K:W.Frag}{C N:Addr}{bm:List b_}{nm f:Str}(h:gy K C N=true)(o:dL K C=some (bm,nm))(g0:Lx K (.ref C) "__setattr__" = some (some (.builtin "object.__setattr__")))(g1:Lx K (.ref C) f=some none):XI K C bm f:=by obtain⟨⟨nm',q,bs,sn,sub,ab,col,dd,k0,k1,k2,k3,k5,h1⟩,h2,h3⟩:=wN h o;exact⟨⟨N,nm',q,bs,sn,sub,ab,col,dd,k0,k1,k2,k3,k5,h1⟩,fun h kin=>tail_of_in kin h2,g0,g1⟩
def BD(s:Stmt):Stmt:=match s with
|.ClassDef _ _ _ (d::_) _ _ _ _ _ _ _=>d
|_=>s
theorem Bb{K:W.Frag}{f:Str}{hit:Str->Bool}(l:List (Str×Addr×List b_))(h:∀q∈l,CF K q.1 q.2.1 q.2.2/\XI K q.2.1 q.2.2 f)(hh:∀nm,hit nm=true->∃q∈l,q.1=nm):lP K f hit:=by intro nm C hn xn;obtain⟨q,hq,rfl⟩:=hh nm hn;obtain⟨c,xi⟩:=h q hq;have:=c.eq xn;subst this;exact⟨_,c.xa,xi⟩
abbrev _root_.L2.Cx.loop(X:Cx):Cx:=X.wish (Mz (y_ X.prog X.w) X.A X.env (cameBackBy (y_ X.prog X.w) X.A X.env X.xe))
structure IsxT(K:W.Frag)(cs:List Addr)(tab:Str->Option Bool):Prop where
 no:PJ K (.type "NoneType") (cs.map Value.ref)=some false
 ex:∀nm b C,tab nm=some b->XN K nm C->∃bm,XA K C bm/\PJ K (.ref C) (cs.map Value.ref)=some b
structure XCG(P:u_)(w:H_)(K:W.Frag)(mg:Str->Option b_)(base:Heap)(x:Str)(C:Addr)(f:Str)(sp:Sp):Prop where
 bound:mg x=some (.ref C)
 keep:keepIn K (.ref C)=true
 ex:∃bm fI fd y oI N nm ql bs sn sub ab col dd k0 k1 k2 k3 k5,XI K C bm f/\K.lookup C=some (JA nm ql C N bs bm true sn sub ab col dd k0 k1 k2 k3 k5 "ValueError.__new__")/\PH K N=true/\nsIn K N "__init__" = some (some (.ref fI))/\K.lookup fI=some oI/\oI.cls=.type "function" /\eD K fd ["self",y] []/\FnOk P w K mg base bP 1 fI fd ["self",y] sp
abbrev nW(n:Str)(i:Int):PyData:=.tuple [.str n,.int i]
def gE(n:Str)(i:Int):Prop:=(nW n i).showable=true/\(nW n i).shown.length<=1000
instance (n:Str) (i:Int):Decidable (gE n i):=by unfold gE;infer_instance
def nK(K:W.Frag)(v:V)(H:Hp):Prop:=∃p n i,v=.ref p/\cr K H p [.str n,.int i]/\gE n i
section
variable{X:Cx}{e:Expr}{te:TE}{pos p:Pos}
theorem EE{tv:TE}{kr:Nat}(hv:PE X e tv)(hr:Room kr X.A):PE X (.FormattedValue e 114 none pos) (fun σ H Q=>tv σ H fun x H1=>nK X.K x H1/\∀z:Str,z.length<=1000->Q (.str z) H1):=by
 intro pz s σ H Q I h;refine wpAny_FormattedValue_repr (aO (hv pz s σ H _ I h) fun u s1 ⟨x,H1,I1,r,⟨p,n,i,hx,sq,h1,h2⟩,q⟩=>?_);subst hx;cases(show u=Value.ref p from r);obtain⟨its,rv,⟨o,ho,hc,k,hd⟩,_⟩:=I1.tuple sq;obtain⟨u1,u2,rfl,r1,r2⟩:=kS rv;obtain⟨t1,rfl⟩:=(show ∃t,u1=Value.str n t from r1)
 obtain⟨t2,rfl⟩:=(show ∃t,u2=Value.int i t from r2)
 have rd:Reads s1.heap (.ref p) (nW n i) ([]++([]++[])):=.tuple ho hc hd (.cons (.str n t1) (.cons (.int i t2) .nil));have dp:(nW n i).depth<=3:=by simp[J0,L_]
 have un:=hr.un;refine pyReprObj_of_reads rd h1 (fun z=>absurd z (by simp[PyData.hasDict,PyData.hasDictAll])) hr.gd (by omega) (fun b o z=>z) (fun h' u tk hk=>?_) (by rw[Jz];omega);exact wpAny_formatField_str ⟨.str _,H1,I1.kept (t':=tk) hk,⟨_,rfl⟩,q _ h2⟩ ⟨.str _,H1,(I1.kept (t':=tk) hk).tok _,⟨_,rfl⟩,q _ h2⟩ (by rw[Jz];omega)
theorem Cn{a:Str}{j i kr:Nat}{p2:Pos}(hv:PE X e (fK i))(hr:Room kr X.A)(ha:a.length<=1000):PE X (.JoinedStr [.Constant (.str a) j p,.FormattedValue e 114 none p2] pos) (fun σ H Q=>fK i σ H fun x H1=>nK X.K x H1/\∀z:Str,z.length<=sizeLine->Q (.str z) H1):=by
 intro pz s σ H Q I h;refine JoinedStr_many ?_;refine joinParts_cons (aO (wX (x:=a) pz s σ H (fun x H1=>x=.str a/\H1=H) I ⟨rfl,rfl⟩) fun u s1 ⟨x,H1,I1,r,hx,hH⟩=>?_);subst hx hH;obtain⟨t,rfl⟩:=(show ∃t,u=Value.str a t from r)
 have e1:(Nv++a).length=0+a.length:=strLen_append _ _;refine⟨by rw[Jz];omega,?_⟩;refine joinParts_cons (aO (EE hv hr pz s1 σ H1 (fun x H2=>∃y:Str,y.length<=1000/\x=.str y/\∀z:Str,z.length<=sizeLine->Q (.str z) H2) I1 ?_) fun u s2 ⟨x,H2,I2,r,y,hy,hx,q⟩=>?_)
 .obtain⟨v,hv,hok,q⟩:=h;exact⟨v,hv,hok,fun z hz=>⟨z,hz,rfl,q⟩⟩
 .subst hx;obtain⟨t,rfl⟩:=(show ∃t,u=Value.str y t from r)
  have e2:(Nv++a++y).length=(Nv++a).length+y.length:=strLen_append _ _;refine⟨by rw[Jz];omega,?_⟩;have hz:(Nv++a++y).length<=sizeLine:=by rw[Jz];omega
  exact joinParts_nil ⟨.str _,H2,I2.tok _,⟨_,rfl⟩,q _ hz⟩ hz
end
def lJ(K:W.Frag)(C:Addr)(f:Str):Sp:=fun vs H Q _=>∃e v,vs=[.ref e,v]/\nK K v H/\H e=some (.ext (XR e C none))/\∀dx,H dx=none->dx≠e->Q .non (upd (upd H dx (.xd [(f,v)])) e (.ext (XR e C (some dx))))
def BR(K:W.Frag)(f:Str):TS:=nv (wP (fun σ H Q=>qG (fK 0) (qG (fun σ H Q=>fK 1 σ H fun x H1=>nK K x H1/\∀z:Str,z.length<=sizeLine->Q (.str z) H1) ny) σ H fun vs H1=>∃e C bm f y,vs=[.ref e,y]/\H1 e=some (.ext (XR e C none))/\XI K C bm f/\Q .non H1))
 (fun D σ H=>fK 1 σ H fun y H1=>fK 0 σ H1 fun x H2=>∃e C bm,x=.ref e/\H2 e=some (.ext (XR e C none))/\XI K C bm f/\∀dx,H2 dx=none->dx≠e->D.nx σ (upd (upd H2 dx (.xd [(f,y)])) e (.ext (XR e C (some dx)))))
theorem Ga{P:u_}{w:H_}{K:W.Frag}{mg:Str->Option b_}{base:Heap}{qual y f:Str}{st:Stmt}{fI C:Addr}{fd:JP}{bm:List b_}{k:Nat}(F:Fun K "__init__" qual st fI fd)(S:FnScope ["self",y] ["self",y] (aa st))(xi:XI K C bm f)(hb:∀(cdv:b_)(A:Jr)(outer:List Env)(s:e_)(H:Hp)(E:XK),Room k (A.deeper (KW qual (aa st) s.heap.objs.size fI cdv))->bx (a9 bP P w K mg base ["self",y] qual (aa st) fI cdv A outer s H E).nox (ap st) (BR K f)):FnOk P w K mg base bP (k+1) fI fd ["self",y] (lJ K C f):=by
 refine F.ok S (fun vs H Q E ⟨e,v,h,_⟩=>by rw[h];rfl) fun cdv A outer s H vs Q E hr ⟨e,v,hv,hok,he,q⟩=>⟨_,hb cdv A outer s H E hr,?_⟩
 subst hv;exact⟨_,rfl,_,rfl,hok,fun x _=>⟨e,C,bm,f,_,rfl,he,xi,_,rfl,_,rfl,e,C,bm,rfl,he,xi,fun dx h1 h2=>q dx h1 h2⟩⟩
theorem Bh{P:u_}{w:H_}{K:W.Frag}{h:Heap}{mg:Str->Option b_}{x y f qual nm:Str}{C N fI:Addr}{bm:List b_}{st:Stmt}{fd:JP}{sp:Sp}(KX:K.In h)(G:h.Ns Jt mg)(a:nsIn K Jt x=some (some (.ref C)))(kp:keepIn K (.ref C)=true)(z:gy K C N=true)(o:dL K C=some (bm,nm))(xi:XI K C bm f)(i:nsIn K N "__init__" = some (some (.ref fI)))(F:Fun K "__init__" qual st fI fd)(fc:typeIn K (.ref fI)=some (.type "function"))(hb:∀(kV doc pm:b_)(an:Option Addr)(cdv ct:b_)(us:List b_),us.length=([("self" : Str),y]).length->Lm (W.fnOf "__init__" qual (aI st) (ap st) (aa st) .none kV doc pm an cdv ct) ⟨us,[]⟩=pure (([("self" : Str),y]).zip us))(ok:∀base,FnOk P w K mg base bP 1 fI fd ["self",y] sp)(base:Heap):XCG P w K mg base x C f sp:=by obtain⟨⟨nm',q,bs,sn,sub,ab,col,dd,k0,k1,k2,k3,k5,h1⟩,h2,h3⟩:=wN z o;obtain⟨oI,lI,hI⟩:=M7.mp (show(K.lookup fI).map (·.cls)=some (.type "function")from fc);exact⟨mg_of KX G a,kp,bm,fI,fd,y,oI,N,nm',q,bs,sn,sub,ab,col,dd,k0,k1,k2,k3,k5,xi,h1,h3,i,lI,hI,F.binds hb,ok base⟩
end DL
namespace DL
open PySem PySem.Spec PyProof.Rows L2 PySem.W PySem.Calls PySem.Builtin PySem.Builtin.Str
end DL
namespace DL
open PySem PySem.Spec PyProof.Rows L2 PySem.W PySem.Calls
section
variable{X:Cx}{pz:List (Addr×Obj)}{σ:L2.St}{H:Hp}{s:e_}{x f:Str}{C:Addr}{np cpos pos:Pos}{a:Expr}{t:TA}
theorem Ht{sp:Sp}{ok:V->Hp->Prop}{Q:Flow->e_->Prop}(I:Inv X pz σ H s)(hc:X.calm=true)(c:XCG X.prog X.w X.K X.mg X.base x C f sp)(hr:Room 2 X.A)(hg:Gl X x)(ha:PA X [a] t)(hsp:∀e v H Q E,H e=none->ok v H->(∀dx,upd H e (.ext (XR e C none)) dx=none->dx≠e->Q .non (upd (upd (upd H e (.ext (XR e C none))) dx (.xd [(f,v)])) e (.ext (XR e C (some dx)))))->sp [.ref e,v] (upd H e (.ext (XR e C none))) Q E)(h:t σ H fun vs H1=>∃v,vs=[v]/\ok v H1/\∀s1 e dx s',Inv X pz σ H1 s1->H1 dx=none->Fly X.prog X.w X.stack H1 s1 (upd H1 dx (.xd [(f,v)])) e (.ref C) (some dx) s'->X.xe (.ref e) s')(hdb:(x==("__debug__" : Str))=false:=by decide)(he:g_ [a] X.env=(false,eval a X.env)::g_ [] X.env:=by rfl)(hpl:(backTo cpos (g_ [] X.env)).any (·.1)=false:=by rfl):p_ (y_ X.prog X.w) X.A (exec (.Raise (some (.Call (.Name x np) [a] [] cpos)) none pos) X.env) Q X.xe s:=by
 obtain⟨bm,fI,fd,y,oI,N,nm,ql,bs,sn,sub,ab,col,dd,k0,k1,k2,k3,k5,xi,ob,hns,hni,hfI,hfc,hbd,F⟩:=c.ex;rw[arm_exec_Raise];refine c_ (Lj (GX (C:=C) (nm:=nm) (ql:=ql) (N:=N) (bs:=bs) (bm:=bm) (hdct:=true) (sn:=sn) (sub:=sub) (ab:=ab) (col:=col) (dd:=dd) (k0:=k0) (k1:=k1) (k2:=k2) (k3:=k3) (k5:=k5) (nw := "ValueError.__new__") (rQ (xi.tl _ I.kIn) (by decide+kernel)) (I.ok.hd hc)
  (c_ (JF (KP (j4 I hg c.bound ?_ hdb)) (fun v s3 h3=>c_ (Lj (i_ h3))) fun _ _ z=>z))))
 refine callWith_K (h₀:=X.base) I.ok.mod.kin c.keep (aO (ha cpos pz s σ H _ I h) fun us s1 ⟨vs,H1,I1,r,v,hv,hok,q⟩=>⟨I1.kIn,?_⟩) he hpl;subst hv;obtain⟨u,rfl,ru⟩:=r.one;obtain⟨hp,gs,dr,tk,os⟩:=s1;refine Gq (us:=[u]) Mv (xi.tl _ I1.kIn) (I1.kIn _ _ ob) (Nd (OR I1.kIn hns)) ?_ (I1.kIn _ _ hfI) hfc (by rw[Jz];show 1<=16777216;decide) fun h' e m=>?_
 .exact A4 I1.kIn (Nd (OR I1.kIn hns)) hni
 obtain⟨hn,I2⟩:=Inv.exc I1 m;have e0:=I2.env0.make C [u] [];refine Lv (Mf (F.run _ X.stack _ _ ⟨[.ref e,u],[]⟩ [.ref e,u] [.ref e,v] (fun z H'=>z=.non/\∃dx,upd H1 e (.ext (XR e C none)) dx=none/\dx≠e/\H'=upd (upd (upd H1 e (.ext (XR e C none))) dx (.xd [(f,v)])) e (.ext (XR e C (some dx)))) (fun _ _ _=>False) (hr.make C [u] []) e0 (hbd _ [.ref e,u] I2.kIn rfl) (.cons rfl (.cons ru .nil)) (hsp e v H1 _ _ hn hok fun dx h1 h2=>⟨rfl,dx,h1,h2,rfl⟩)) fun r s' hq=>?_);cases r with
|error e=>exact JG hq
|ok fl=>cases fl with
 |ret z=>obtain⟨v',H',o1,o2,o3,o4,o5,rfl,dx,d1,d2,rfl⟩:=hq;obtain⟨hd,fl⟩:=Fly.init I1 m o1 o2 o3 o4 d1 d2;obtain⟨⟨t,g1⟩,_,_⟩:=o4 e _ bJ;exact⟨o5,e,t,some dx,rfl,(I1.call' (ch:=[]) fl.os fl.un fl.hok fl.bare (fun b z=>absurd z (by simp))).kIn _ _ ob,g1,q _ e dx s' I1 hd fl⟩
 |next=>exact JG hq
 |brk=>exact JG hq
 |cont=>exact JG hq
end
open Classical in
def nY(m:List Md)(nm f:Str)(fl:ah->Res (List D)):FS:=fun r=>eY m r (fl r) fun ds=>match ds with
|[.tup [.str n,.int i]]=>if gE n i then .exc (xD nm [(f,.tup [.str n,.int i])]) (forget m r)else .stuck
|_=>.stuck
section
variable{X:Cx}{g:GE}{ro:Bool}{m mb:List Md}{a e:Expr}{fl:ah->Res (List D)}{fe:FE}{x f nm:Str}{C:Addr}{p np pos q1 q2 q3:Pos}
theorem GK(hc:X.calm=true)(c:XCG X.prog X.w X.K X.mg X.base x C f (lJ X.K C f))(xn:XN X.K nm C)(hr:Room 2 X.A)(hg:Gl X x)(ha:SA X g m [a] fl)(hdb:(x==("__debug__" : Str))=false:=by decide)(he:g_ [a] X.env=(false,eval a X.env)::g_ [] X.env:=by rfl)(hpl:(backTo p (g_ [] X.env)).any (·.1)=false:=by rfl):SS X g ro mb m (.Raise (some (.Call (.Name x np) [a] [] p)) none pos) (nY m nm f fl) m:=by
 refine⟨rfl,fun pz s σ H D I ⟨r,G,si,q⟩=>?_⟩;refine Ht (ok:=nK X.K) I hc c hr hg ha (fun e v H Q E hn hk k=>⟨e,v,rfl,?_,bJ,fun dx h1 h2=>k dx h1 h2⟩) ⟨r,G,si,?_⟩ hdb he hpl
 .obtain⟨p,n,i,h1,h2,h3⟩:=hk;refine⟨p,n,i,h1,?_,h3⟩;rcases h2 with z|z
  .exact .inl (Rd.mono (H:=H) z fun b o hb=>qX hn _ _ hb)
  .exact .inr z
 refine bh (eO si rfl q) fun ds q vs G' H' w' rs=>?_;split at q
 .rename_i n i;split at q
  .rename_i hi;cases rs with
  |cons r1 rest=>
    cases rest;obtain⟨p,xs,rfl,sq,rx⟩:=r1.tup w'.ok;have hx:xs=[.str n,.int i]:=by cases rx with
    |cons a1 t1=>cases t1 with
     |cons a2 t2=>cases t2;rw[a1.str w'.ok,a2.int w'.ok]
    subst hx;refine⟨_,rfl,⟨p,n,i,rfl,sq,hi⟩,fun s1 e dx s' I1 hd fl=>?_⟩;have gw:Grow X.K G' H' (gset G' dx (.obj 1 [(f,.tup [.str n,.int i])])) (upd H' dx (.xd [(f,.ref p)])):=Grow.newF w'.ok hd (OB.fld bJ (.cons ⟨rfl,r1⟩ .nil));exact q pz (.ref e) s' σ _ _ (w'.trans gw).ge (by have:=(si.grow (w'.trans gw)).forget;exact this) (fl.inv I1) ⟨pz,s1,H',e,C,some dx,nm,[(f,.tup [.str n,.int i])],rfl,rfl,xn,cQ,I1,fl⟩
  .exact q.elim
 .exact q.elim
def ky(T1 T2:String)(d:D):Option D:=(ig d).map fun t=>.bl (cM t T1 || cM t T2)
theorem CL(K:W.Frag)(d:D)(t:String)(h:ig d=some t):PJ K (.type t) [.type "list",.type "tuple"]=some (cM t "list" || cM t "tuple"):=pi (P:=fun t=>PJ K (.type t) [.type "list",.type "tuple"]=some (cM t "list" || cM t "tuple")) h (by kernel_rfl) (by kernel_rfl) (by kernel_rfl) (by kernel_rfl) (by kernel_rfl) (by kernel_rfl) (by kernel_rfl)
theorem Gr{T1 T2:String}:dZ X (.builtin "isinstance") (fun xs H Q=>∃(x:V)(tp:Addr)(t:String)(b:Bool),xs=[x,.ref tp]/\H tp=some (.tup [.ty T1,.ty T2])/\vG X.K x H t/\PJ X.K (.type t) [.type T1,.type T2]=some b/\Q (.bl b) H):=by
 intro pz s σ H xs us Q I r h;obtain⟨x,tp,t,b,rfl,ht,ty,e,q⟩:=h;obtain⟨u,w',rfl,rx,ry⟩:=kS r;cases(show w'=Value.ref tp from ry);obtain⟨_,its,rv,⟨o,o1,o2,n,o3⟩,_⟩:=I.hok tp _ ht;obtain⟨oc,od,oda,osl⟩:=o
 dsimp only at o2 o3
 subst o2 o3;cases rv with
|cons a1 t1=>cases t1 with
|cons a2 t2=>
 cases t2;cases a1;cases a2;have fin:∀tk,EP X pz σ Q (.bool b) { s with toks:=tk }:=fun tk=>⟨.bl b,H,I.tok tk,rfl,q⟩
 cases x with
|non=>cases rx;cases(show t = "NoneType" from ty);exact NA kitx_none I.kIn True.intro o1 e (fun z=>nomatch z) fin
|bl y=>cases rx;cases(show t = "bool" from ty);exact NA kitx_bool I.kIn True.intro o1 e (fun z=>nomatch z) fin
|int i=>obtain⟨t,rfl⟩:=rx;cases ty;exact NA kitx_int I.kIn True.intro o1 e (fun z=>nomatch z) fin
|str i=>obtain⟨t,rfl⟩:=rx;cases ty;exact NA kitx_str I.kIn True.intro o1 e (fun z=>nomatch z) fin
|ref p=>
  cases rx;rcases ty with⟨rfl,xs,hq⟩|⟨rfl,xs,hq⟩|⟨rfl,kvs,hq⟩
  .obtain⟨its,_,pl,_⟩:=I.list hq;obtain⟨o,ho,hc,_⟩:=pl.isList;exact NA kitx_list I.kIn ⟨o,ho,hc⟩ o1 e (fun z=>nomatch z) fin
  .obtain⟨its,_,pl,_⟩:=I.tuple hq;obtain⟨o,ho,hc,_⟩:=pl;exact NA kitx_tuple I.kIn ⟨o,ho,hc⟩ o1 e (fun z=>nomatch z) fin
  .obtain⟨_,_,vs,_,pp⟩:=(show cE X.prog X.w H s.heap p (.dK kvs)from hq.ok I.hok)
   obtain⟨o,es,ep,h1,h2,_⟩:=pp;exact NA kitx_dict I.kIn ⟨o,h1,h2.1⟩ o1 e (fun z=>nomatch z) fin
|_=>exact(show False from ty).elim
theorem Du{k:Nat}(hg:Gl X "isinstance")(hm:X.mg "isinstance" = none)(g1:Gl X "list")(m1:X.mg "list" = none)(g2:Gl X "tuple")(m2:X.mg "tuple" = none)(he:SB X g m e fe)(hs1:g_ [e,.Tuple [.Name "list" q1,.Name "tuple" q2] k q3] X.env=(false,eval e X.env)::g_ [.Tuple [.Name "list" q1,.Name "tuple" q2] k q3] X.env:=by rfl)(hs2:g_ [.Tuple [.Name "list" q1,.Name "tuple" q2] k q3] X.env=(false,eval (.Tuple [.Name "list" q1,.Name "tuple" q2] k q3) X.env)::g_ [] X.env:=by rfl)(hs3:g_ [.Name "list" q1,.Name "tuple" q2] X.env=(false,eval (.Name "list" q1) X.env)::g_ [.Name "tuple" q2] X.env:=by rfl)(hs4:g_ [.Name "tuple" q2] X.env=(false,eval (.Name "tuple" q2) X.env)::g_ [] X.env:=by rfl)(hpl:(backTo pos (g_ [.Tuple [.Name "list" q1,.Name "tuple" q2] k q3] X.env)).any (·.1)=false:=by rfl):SE X g m (.Call (.Name "isinstance" p) [e,.Tuple [.Name "list" q1,.Name "tuple" q2] k q3] [] pos) (f1 fe (ky "list" "tuple")):=by
 have hT:=wY (x1:=k) (pos:=q3) (d4 (oK (v:=.ty "list") g1 m1 rfl rfl (by decide) (by decide)) (d4 (oK (v:=.ty "tuple") g2 m2 rfl rfl (by decide) (by decide)) hZ hs4) hs3);refine PE.imp (je (Gr (T1 := "list") (T2 := "tuple")) hg hm (by first|exact KR|rfl) (d4 he (d4 hT hZ hs2) hs1) (by decide) (by decide) hs1 hpl) fun σ H Q ⟨r,G,si,q⟩=>⟨r,G,si,bh (bu q) fun d qa v G1 H1 w1 r1=>?_⟩
 obtain⟨d',e',qb⟩:=dc qa;refine⟨by rw[Jz];show 2<=16777216;decide,fun p hp=>?_⟩;have g0:=Grow.new w1.ok hp (.tup [V.ty "list",V.ty "tuple"]);unfold ky at e';cases et:ig d with
|none=>rw[et]at e';cases e'
|some t=>rw[et]at e';cases e';exact⟨v,p,t,_,rfl,bJ,xK g0.ok (r1.mono g0) et,CL X.K d t et,qb _ G1 _ (w1.trans g0) (.scl (.bl _))⟩
end
end DL
section
namespace L2
open PySem PySem.Spec PyProof.Rows
theorem gH{sc:KG}{x:Str}(h:(match sc.names.lookup x with|some .local=>true|some .cell=>true|_=>false)=true):fj sc x:=by
 revert h;unfold fj;split <;> intro h
 .exact .inl (by assumption)
 .exact .inr (by assumption)
 .cases h
theorem cJ{N P:List Str}{sc:KG}(h:(decide (sc.kind=.function) && ! sc.isCoroutine && ! sc.isGenerator&&decide N.Nodup&&decide (N.take P.length=P)&&(P.all fun x=>match sc.names.lookup x with|some .local=>true|some .cell=>true|_=>false)&&sc.names.all fun y=>decide (y.2≠.free))=true:=by decide+kernel):FnScope N P sc:=by simp only[Jx,decide_eq_true_eq,KZ,JJ]at h;obtain⟨⟨⟨⟨⟨⟨a,b⟩,c⟩,d⟩,e⟩,f⟩,k⟩:=h;exact⟨a,b,c,d,e,fun x hx=>gH (f x hx),k⟩
end L2
namespace DL
open PySem PySem.Spec PyProof.Rows L2
section
variable{X:Cx}{g:GE}{m mb ms:List Md}{e a b:Expr}{es:List Expr}{f fa fb:FE}{x:Str}{p pos pos':Pos}{ro:Bool}{fl:ah->Res (List D)}{k:Nat}{ps:List Str}{F:List D->Res D}
theorem bE(h:SE X g m e f):SB X g m e f:=SE.toB h
theorem iB{i:Int}{j:Nat}:SB X g m (.Constant (.int i) j pos) fun _=>.ok (.int i):=bE gz
theorem xB(hu:X.A.units+1<Mm)(ha:SB X g m a fa)(hb:SB X g m b fb)(hs:mz b:=by intro _ _;rfl):SB X g m (.Subscript a b pos) (f2 fa fb az):=bE (gW hu ha hb hs)
theorem ca(i:Nat)(hN:X.N.Nodup)(he:SE X g m e f)(hi:X.N[i]? = some x:=by rfl)(hx:fj X.env.scope x:=by exact gH rfl)(hs:Kp e (some (.Name x pos')) pos.line X.env=pure false:=by rfl)(hf:X.fn x=true\/X.env.scope.names.lookup x=some .local:=by first|exact .inl rfl|exact .inr rfl|assumption):SS X g ro mb m (.Assign [.Name x pos'] e pos) (av m i f) (m.set i .sh):=BH i hN hi hx he hs hf
theorem b5(i:Nat)(hN:X.N.Nodup)(hi:X.N[i]? = some x:=by rfl)(hx:fj X.env.scope x:=by exact gH rfl)(hf:X.fn x=true\/X.env.scope.names.lookup x=some .local:=by first|exact .inl rfl|exact .inr rfl|assumption):SG X g m (.Name x pos) (ax i) (m.set i .sh):=BA i hN hi hx hf
theorem bI(c:Callee X.prog X.w X.K X.mg X.base x ps [] k false ms F)(ha:gu X g m (e::es) ms fl)(hr:Room k X.A:=by exact Room.mono ‹_› (by decide))(hg:Gl X x:=by rfl)(hdb:(x==("__debug__" : Str))=false:=by decide)(he:g_ (e::es) X.env=(false,eval e X.env)::g_ es X.env:=by rfl)(hpl:(backTo pos (g_ es X.env)).any (·.1)=false:=by rfl):SE X g m (.Call (.Name x p) (e::es) [] pos) (aM fl [] F):=Bn (dds:=[]) c hr ha (by simp) hg .nil .nil hdb he hpl
end
theorem dF{P:u_}{w:H_}{K:W.Frag}{mg:Str->Option b_}{base:Heap}{x:Str}{st:Stmt}{N ps:List Str}{k:Nat}{ro:Bool}{ms:List Md}{fs:FS}{m':List Md}(A:DefAt K mg x st)(S:FnScope N ps (aa st))(hbody:∀(f:Addr)(cdv:b_)(A:Jr)(outer:List Env)(s:e_)(H:Hp)(g:GE)(E:XK),Room k (A.deeper (KW x (aa st) s.heap.objs.size f cdv))->(A.deeper (KW x (aa st) s.heap.objs.size f cdv)).units+1<Mm ->dH (a9 bP P w K mg base N x (aa st) f cdv A outer s H E).nox g ro [] (fE N.length ms) (ap st) fs m')(hms:ms.length=ps.length:=by rfl)(hb:∀(kV doc pm:b_)(an:Option Addr)(cdv ct:b_)(us:List b_),us.length=ps.length->Lm (W.fnOf x x (aI st) (ap st) (aa st) .none kV doc pm an cdv ct) ⟨us,[]⟩=pure (ps.zip us):=by intro _ _ _ _ _ _ us hl;rcases us with _|⟨_,_|⟨_,_|⟨_,_|⟨_,_|⟨_,_|⟨_,_⟩⟩⟩⟩⟩⟩ <;> first|(exfalso;revert hl;simp;done)|kernel_rfl):Callee P w K mg base x ps [] (k+1) ro ms fun ds=>outR ro (fs (a7 N.length ds)):=CP A S hms hb fun f cdv A outer s H g E hr=>hbody f cdv A outer s H g E hr (jC hr)
end DL
end
section
namespace Rg
theorem zB{α:Type}[DecidableEq α]:∀{l m:List α},l.Nodup->(∀x∈l,x∈m)->l.length<=m.length
|[],_,_,_=>JK _
|a::l,m,hn,hs=>by
  have hn':=JC.mp hn;have h1:=zB (l:=l) (m:=m.erase a) hn'.2 fun x hx=>by
   have hxa:x≠a:=by rintro rfl;exact hn'.1 hx
   exact(List.mem_erase_of_ne hxa).mpr (hs x (h_ _ hx))
  have ha:a∈m:=hs a k_;rw[List.length_erase_of_mem ha]at h1;have:=List.length_pos_of_mem ha;simp only[G_];omega
structure S where
 line:List Nat
 things:List Nat
section
variable(W:Nat->List Nat)(O:Nat->Option Nat)
def vC(row things:List Nat):Nat:=(row.find? fun x=>decide (x∈things)).getD 0
def tV(s:S)(h:Nat):Nat:=vC (W h) s.things
def pt(s:S)(x:Nat):Nat:=(s.line.find? fun h=>decide (O h=some x)).getD (s.line.headD 0)
def pY(s:S)(h:Nat):Nat:=pt O s (tV W s h)
def A0(s:S)(C:List Nat):S:=⟨s.line.filter fun h=>decide (h∉C),s.things.filter fun x=>decide (x∉C.map (tV W s))⟩
def it{α:Type}(f:α->α):Nat->α->α
|0,x=>x
|n+1,x=>it f n (f x)
structure Ok(s:S):Prop where
 nl:s.line.Nodup
 nt:s.things.Nodup
 le:s.line.length<=s.things.length
 row:∀h∈s.line,∀x∈s.things,x∈W h
 inj:∀h k x,O h=some x->O k=some x->h=k
 own:∀h∈s.line,∀x,O h=some x->x∈s.things
structure Cyc(s:S)(C:List Nat):Prop where
 sub:∀h∈C,h∈s.line
 cl:∀h∈C,pY W O s h∈C
 per:∀h∈C,∃k,it (pY W O s) (k+1) h=h
variable{W O}
variable{s:S}
theorem Cyc.it_mem{C:List Nat}(c:Cyc W O s C){h:Nat}(hh:h∈C):∀n,it (pY W O s) n h∈C:=by
 intro n
 induction n generalizing h with
|zero=>exact hh
|succ n ih=>exact ih (c.cl h hh)
theorem Cyc.out{C E:List Nat}(c:Cyc W O s C)(e:Cyc W O s E){h:Nat}(hc:h∈C)(he:h∉E):pY W O s h∉E:=by intro z;obtain⟨k,hk⟩:=c.per h hc;exact he (by rw[<-hk];exact e.it_mem z k)
def less(E C:List Nat):List Nat:=E.filter fun h=>decide (h∉C)
inductive TTC(W:Nat->List Nat)(O:Nat->Option Nat)(a:Nat->Nat):S->Prop where
 |nil {s:S}:s.line=[]->TTC W O a s
 |step {s:S} (C:List Nat):Cyc W O s C->(∀h∈C,a h=tV W s h)->TTC W O a (A0 W s C)->TTC W O a s
end
end Rg
end
section
namespace Rg
end Rg
end
section
namespace Rg
end Rg
end
section
namespace Fq
theorem yU(a:Int)(b:Nat):J2 a b=J2 b (a%(b:Int)):=by
 refine Ot (PX (Kh _ _) ?_) (PX ?_ (LY _ _))
 .rw[Int.emod_def];exact Int.dvd_sub (LY _ _) (Pq (Kh a b) (Od _ _))
 .have h:=Int.mul_ediv_add_emod a b;rw[<-h];exact Int.dvd_add (Pq (LY (b:Int) _) (Od _ _)) (by rw[h];exact Kh _ _)
theorem oW(t:Int){b:Nat}(h:0<b):0<J2 t b:=Nat.pos_of_ne_zero fun z=>by have:=Int.gcd_eq_zero_iff.mp z;omega
def low(t:Int)(b:Nat):Int×Nat:=(t/(J2 t b:Int),b/J2 t b)
def cu(a b:Int×Nat):Int×Nat:=low (a.1*b.2+b.1*a.2) (a.2*b.2)
def Same(a b:Int×Nat):Prop:=a.1*(b.2:Int)=b.1*(a.2:Int)
theorem rG(t:Int){b:Nat}(h:0<b):J2 (low t b).1 ((low t b).2:Nat)=1:=by have:=Int.gcd_ediv_gcd_ediv_gcd (oW t h);unfold low;rw[MP];exact this
theorem k7(t:Int){b:Nat}(h:0<b):0<(low t b).2:=by have h1:J2 t b∣b:=LB.mp (Kh t b);exact Nat.div_pos (NF h h1) (oW t h)
theorem xZ(t:Int)(b:Nat):(low t b).2<=b:=Nat.div_le_self _ _
theorem yP(t:Int)(b:Nat):(low t b).1.natAbs<=t.natAbs:=Int.natAbs_ediv_le_natAbs _ _
theorem oZ(t:Int)(b:Nat):Same (low t b) (t,b):=by
 unfold Same low;have h1:(J2 t b:Int)∣t:=LY t b;have h2:(J2 t b:Int)∣(b:Int):=Kh t b;obtain⟨x,hx⟩:=h1;obtain⟨y,hy⟩:=h2;generalize hg:(J2 t b:Int)=g at hx hy;show t/g*(b:Int)=t*((b/J2 t b:Nat):Int);rw[MP,hg];by_cases z:g=0
 .subst z;rw[PK]at hx hy;rw[hx,hy];simp
 .rw[hx,hy,MH _ z,MH _ z];rw[<-KF,KQ x g]
structure Bd(k:Nat)(a:Int×Nat):Prop where
 pos:0<a.2
 bot:a.2<2^k
 top:a.1.natAbs<2^k
theorem Bd.mono{k l:Nat}{a:Int×Nat}(h:Bd k a)(hl:k<=l):Bd l a:=⟨h.pos,x_ h.bot (K8 (by omega) hl),x_ h.top (K8 (by omega) hl)⟩
theorem Bd.low{k:Nat}{t:Int}{b:Nat}(h:0<b)(h1:b<2^k)(h2:t.natAbs<2^k):Bd k (low t b):=⟨k7 t h,Mq (xZ t b) h1,Mq (yP t b) h2⟩
theorem sF{a b k l:Nat}(h1:a<2^k)(h2:b<2^l):a*b<2^(k+l):=by rw[Nat.pow_add];exact Nat.mul_lt_mul'' h1 h2
theorem mI{k l:Nat}{a b:Int×Nat}(ha:Bd k a)(hb:Bd l b):0<a.2*b.2/\a.2*b.2<2^(k+l):=⟨Nr ha.pos hb.pos,sF ha.bot hb.bot⟩
theorem FC{k l:Nat}{a b:Int×Nat}(ha:Bd k a)(hb:Bd l b):(a.1*b.2+b.1*a.2).natAbs<2^(k+l+1):=by
 have h1:(a.1*(b.2:Int)).natAbs<2^(k+l):=by rw[LS,I_];exact sF ha.top hb.bot
 have h2:(b.1*(a.2:Int)).natAbs<2^(k+l):=by rw[LS,I_,PC k l];exact sF hb.top ha.bot
 have h3:=Int.natAbs_add_le (a.1*(b.2:Int)) (b.1*(a.2:Int));rw[PL];omega
theorem Bd.plus{k l:Nat}{a b:Int×Nat}(ha:Bd k a)(hb:Bd l b):Bd (k+l+1) (cu a b):=by obtain⟨h1,h2⟩:=mI ha hb;exact Bd.low h1 (x_ h2 (K8 (by omega) (by omega))) (FC ha hb)
end Fq
end
namespace Law
open PySem PySem.Spec PyProof.Rows L2 DL
abbrev gv(i:Nat):DL.FE:=fun r=>DL.cz r i
abbrev ci(i:Int):DL.FE:=fun _=>.ok (.int i)
abbrev q0:List DL.Md:=[.sh,.sh,.sh,.sh]
abbrev aY:List DL.Md:=[.sh,.sh,.sh]
abbrev bd:List DL.Md:=[.bw,.bw]
abbrev bc:List DL.Md:=[.ow,.sh,.sh,.sh,.sh,.sh,.sh,.sh,.sh]
abbrev bM:List DL.Md:=[.sh,.sh]
abbrev bT:List DL.Md:=[.bw,.sh,.sh,.sh,.sh,.sh,.sh,.sh,.sh]
abbrev dg:List DL.Md:=[.bw,.bw,.sh,.sh]
abbrev d7:List DL.Md:=[.sh,.sh,.sh,.sh,.sh,.sh,.sh,.sh]
abbrev eV:List DL.Md:=[.sh,.sh,.bw,.sh,.sh,.ow,.sh,.sh,.sh]
abbrev fQ:List DL.Md:=[.bw,.bw,.sh,.sh,.sh]
abbrev fP:List DL.Md:=[.bw,.sh]
abbrev fO:List DL.Md:=[.bw,.bw,.bw,.sh]
abbrev ip:List DL.Md:=[.bw,.bw,.ow,.sh,.sh,.sh,.sh]
abbrev io:List DL.Md:=[.bw,.sh,.sh]
abbrev im:List DL.Md:=[.sh,.bw,.ow,.sh]
abbrev il:List DL.Md:=[.ow,.sh,.sh]
abbrev jm:List DL.Md:=[.bw,.bw,.ow,.sh,.ow,.sh,.sh]
abbrev jl:List DL.Md:=[.sh,.sh,.bw,.sh,.sh,.sh,.sh,.sh,.sh]
abbrev jk:List DL.Md:=[.bw,.bw,.bw,.bw,.ow,.sh,.sh,.sh]
abbrev jj:List DL.Md:=[.sh,.sh,.sh,.sh,.ow,.sh,.sh,.sh]
abbrev nH:List DL.Md:=[.bw,.bw,.bw,.bw,.ow,.sh,.ow,.sh]
abbrev nG:List DL.Md:=[.bw,.bw,.bw,.bw,.sh,.sh,.sh,.sh]
theorem wI{α:Type}(us:List α)(h:us.length=1):∃a0,us=[a0]:=by match us,h with
|[_],_=>exact⟨_,rfl⟩
theorem n9{α:Type}(us:List α)(h:us.length=2):∃a0 a1,us=[a0,a1]:=by match us,h with
|[_,_],_=>exact⟨_,_,rfl⟩
theorem AY{α:Type}(us:List α)(h:us.length=5):∃a0 a1 a2 a3 a4,us=[a0,a1,a2,a3,a4]:=by match us,h with
|[_,_,_,_,_],_=>exact⟨_,_,_,_,_,rfl⟩
def top(i:Nat):Stmt:=MQ.main.body.getD i (.Pass ⟨0,0,0,0⟩)
structure Txt(K:W.Frag)(mg:Str->Option b_):Prop where
 b_abs:mg "abs" = none
 b_range:mg "range" = none
 b_tuple:mg "tuple" = none
 b_enumerate:mg "enumerate" = none
 b_len:mg "len" = none
 b_isinstance:mg "isinstance" = none
 b_bool:mg "bool" = none
 b_int:mg "int" = none
 b_all:mg "all" = none
 b_list:mg "list" = none
 b_any:mg "any" = none
 b_ValueError:mg "ValueError" = none
 b_sum:mg "sum" = none
 b_max:mg "max" = none
 k_MOST_HANDS:∃t,mg "MOST_HANDS" = some (.int 7 t)
 k_NOUGHT:∃a,mg "NOUGHT" = some (.ref a)/\KC K a (.tup [.int 0,.int 1])
 k_ONE:∃a,mg "ONE" = some (.ref a)/\KC K a (.tup [.int 1,.int 1])
def mW:Str->Bool:=fun nm=>(["TradeError","TooMany","NoFraction","NoTable"]:List Str).contains nm
def iO:Str->Option Bool:=fun nm=>if (["TooMany"]:List Str).contains nm=true then some true else if (["TradeError","NoFraction","NoTable"]:List Str).contains nm=true then some false else none
def iP:Str->Option Bool:=fun nm=>if (["TradeError","TooMany","NoFraction","NoTable"]:List Str).contains nm=true then some true else if ([]:List Str).contains nm=true then some false else none
def iN:Str->Option Bool:=fun nm=>if (["NoTable"]:List Str).contains nm=true then some true else if (["TradeError","TooMany","NoFraction"]:List Str).contains nm=true then some false else none
def l8:Str->Bool:=fun nm=>(["NoTable"]:List Str).contains nm
abbrev jJ:Stmt:=BD (top 4)
theorem Ij:FnScope ["self","why"] ["self","why"] (aa jJ):=cJ
theorem Db:∀(kV doc pm:b_)(an:Option Addr)(cdv ct:b_)(us:List b_),us.length=([("self" : Str),"why"]).length->Lm (W.fnOf "__init__" "NoTable.__init__" (aI jJ) (ap jJ) (aa jJ) .none kV doc pm an cdv ct) ⟨us,[]⟩=pure (([("self" : Str),"why"]).zip us):=fun _ _ _ _ _ _ us hl=>by obtain⟨u0,u1,rfl⟩:=n9 us hl;kernel_rfl
theorem EM{P:u_}{w:H_}{K:W.Frag}{mg:Str->Option b_}{C T fI:Addr}{bm:List b_}{fd:JP}(F:Fun K "__init__" "NoTable.__init__" jJ fI fd)(xi:XI K C bm "why")(hm:mg "TradeError" = some (.ref T))(hT:XT K T)(base:Heap):FnOk P w K mg base bP 1 fI fd ["self","why"] (lJ K C "why"):=Ga (k:=0) F Ij xi fun cdv A outer s H E hr=>ib (oN (EF (by rfl) hm hT (d4 (dJ (i:=0) rfl (bL rfl)) (d4 (Cn (dJ (i:=1) rfl (bL rfl)) hr (by decide+kernel)) hZ)))) (rc (EL (dJ (i:=0) rfl (bL rfl)) (dJ (i:=1) rfl (bL rfl))))
abbrev sU:Stmt:=top 26
abbrev Ac:List Str:=["_law_one","_law_other","_law_rest"]
abbrev pC:List Str:=["_law_one","_law_other"]
theorem pF:FnScope Ac pC (aa sU):=cJ
abbrev m5:FQ:=(aS (f2 (gv 1) (ci 0) neD))
abbrev m4:FS:=(af (av aY 2 (f2 (gv 0) (gv 1) aJ)) (af (av aY 0 (gv 1)) (af (av aY 1 (gv 2)) ao)))
def sJ:FS:=(af (eN aY m5 m4 1000) (af (au aY (fC (ag (gv 0) ae) absD)) ao))
def lz:List D->Res D:=fun ds=>outR false (sJ (a7 Ac.length ds))
variable{P:u_}{w:H_}{K:W.Frag}{mg:Str->Option b_}{base:Heap}
theorem GS(T:Txt K mg)(A:DefAt K mg "_law_common" sU):Callee P w K mg base "_law_common" pC [] 1 false bM lz:=
 dF (m':=aY) A pF fun f cdv A outer s H g E hr hu1=>have hu64:=hr.units;(am (yA 1000 Jw (eR hu64 (ai 1) iB) (am (ca 2 pF.nd (db (ai 0) (ai 1)))
   (am (ca 0 pF.nd (v_ 1))
   (am (ca 1 pF.nd (v_ 2))
   ay))))
   (am (bX (wS (by rfl) T.b_abs (bR (ai 0) bW)))
   ay))
abbrev rZ:Stmt:=top 27
abbrev zC:List Str:=["_law_top","_law_bottom","_law_by"]
abbrev ls:List Str:=["_law_top","_law_bottom"]
theorem zU:FnScope zC ls (aa rZ):=cJ
def sA:FS:=(af (av aY 2 (aM (ag (gv 0) (ag (gv 1) ae)) [] lz)) (af (au aY (cw (ag (f2 (gv 0) (gv 2) jW) (ag (f2 (gv 1) (gv 2) jW) ae)))) ao))
def gp:List D->Res D:=fun ds=>outR false (sA (a7 zC.length ds))
theorem Eu(T:Txt K mg)(A:DefAt K mg "_law_low" rZ)(c__law_common:Callee P w K mg base "_law_common" pC [] 1 false bM lz):Callee P w K mg base "_law_low" ls [] 2 false bM gp:=
 dF (m':=aY) A zU fun f cdv A outer s H g E hr hu1=>(am (ca 2 zU.nd (bI c__law_common (aW (v_ 0) (aW (v_ 1) bi))))
   (am (bX (dQ (bg (oR (ai 0) (ai 2)) (bg (oR (ai 1) (ai 2)) cf))))
   ay))
abbrev sx:Stmt:=top 28
abbrev zW:List Str:=["_law_a","_law_b"]
abbrev mY:List Str:=["_law_a","_law_b"]
theorem Iw:FnScope zW mY (aa sx):=cJ
def sr:FS:=(af (au bd (aM (ag (f2 (f2 (f2 (gv 0) (ci 0) az) (f2 (gv 1) (ci 1) az) dy) (f2 (f2 (gv 1) (ci 0) az) (f2 (gv 0) (ci 1) az) dy) addA) (ag (f2 (f2 (gv 0) (ci 1) az) (f2 (gv 1) (ci 1) az) dy) ae)) [] gp)) ao)
def fG:List D->Res D:=fun ds=>outR false (sr (a7 zW.length ds))
theorem EU(T:Txt K mg)(A:DefAt K mg "_law_plus" sx)(c__law_low:Callee P w K mg base "_law_low" ls [] 2 false bM gp):Callee P w K mg base "_law_plus" mY [] 3 false bd fG:=
 dF (m':=bd) A Iw fun f cdv A outer s H g E hr hu1=>(am (bX (bI c__law_low (aW (c7 (bE (jG (xB hu1 (ai 0) iB) (xB hu1 (ai 1) iB))) (bE (jG (xB hu1 (ai 1) iB) (xB hu1 (ai 0) iB)))) (aW (jG (xB hu1 (ai 0) iB) (xB hu1 (ai 1) iB)) bi))))
   ay)
abbrev mT:Stmt:=top 33
abbrev pM:List Str:=["_law_parts_here","_law_n","_law_rows","_law_hand","_law_row_here","_law_part","_law_got"]
abbrev sR:List Str:=["_law_parts_here","_law_n"]
theorem lv:FnScope pM sR (aa mT):=cJ
abbrev Al:FS:=(af (putF jm 4 (f2 (gv 6) (gv 3) az) (aM (ag (f2 (gv 4) (f2 (gv 6) (gv 3) az) az) (ag (gv 5) ae)) [] fG)) ao)
abbrev Am:FS:=(af (av ip 4 (dC 1 [] (di cX (ag (gv 1) ae)) (ax 0) (fun _=>Res.ok true) (cw (ag (ci 0) (ag (ci 1) ae))))) (af (dE jm (aV cg (gv 0)) (ck (aT (ax 5) (aT (ax 6) cj))) Al) (af (d8 "list" jm 2 (ag (fC (ag (gv 4) ae) tupD) ae) appD) ao)))
def sO:FS:=(af (av [.bw,.bw,.sh,.sh,.sh,.sh,.sh] 2 (eG ae)) (af (dE ip (di cX (ag (gv 1) ae)) (ax 3) Am) (af (au ip (fC (ag (gv 2) ae) tupD)) ao)))
def pK:List D->Res D:=fun ds=>outR false (sO (a7 pM.length ds))
theorem Fo(T:Txt K mg)(A:DefAt K mg "_law_mixed" mT)(c__law_plus:Callee P w K mg base "_law_plus" mY [] 3 false bd fG):Callee P w K mg base "_law_mixed" sR [] 4 false bd pK:=
 dF (m':=ip) A lv fun f cdv A outer s H g E hr hu1=>(am (oJ 2 lv.nd (by rfl) (gH rfl) (iZ cf))
   (am (jA Jw rfl (j6 (by rfl) T.b_range (bR (ai 1) bW)) (b5 3 lv.nd) (He (m':=jm) 4 (am (rY 4 (X:=(a9 bP P w K mg base pM "_law_mixed" (aa mT) f cdv A outer s H E).nox) (m:=ip) (N':=["_law_thing"]) (nl:=1) (cap:=[]) lv.nd rfl (by rfl) (by rfl) (g5 (osc:=(aa mT)) (ON:=pM) rfl rfl (by decide+kernel)) (iV.toC (j6 (by rfl) T.b_range (bR (ai 1) bW))) (fun _ _ _ _ _ _=>(b5 0 (show J9 (["_law_thing"]:List Str)by decide+kernel))) (gj (by decide)) (fun _ _ _ _ _ _=>g4) (fun _ _ _ _ _ _=>(dQ (bg gz (bg gz cf)))))
   (am (DX Jw rfl (BC (IS 0)) (iE rfl (dR (b5 5 lv.nd) (dR (b5 6 lv.nd) iC))) (am (lT 4 hu1 rfl (by rfl) (bL rfl) (xB hu1 (ai 6) (ai 3)) (bI c__law_plus (aw (xB hu1 (ai 4) (xB hu1 (ai 6) (ai 3))) (aw (ai 5) bi))))
   ay))
   (am (oi 2 rfl Kg KB KD mR qQ (by rfl) (bL rfl) (bg (j5 (by rfl) T.b_tuple (bR (ai 4) bW)) cf))
   ay))) rfl))
   (am (bX (j5 (by rfl) T.b_tuple (bR (ai 2) bW)))
   ay)))
abbrev sm:Stmt:=top 34
abbrev Ag:List Str:=["_law_table","_law_by","_law_rows","_law_k","_law_shares","_law_row_here","_law_at","_law_share","_law_more"]
abbrev sQ:List Str:=["_law_table","_law_by"]
theorem jM:FnScope Ag sQ (aa sm):=cJ
abbrev sN:FS:=(af (av eV 8 (f2 (ci 1) (f2 (f2 (f2 (gv 1) (f2 (ci 3) (gv 3) bj) addA) (gv 6) addA) (ci 5) aJ) addA)) (af (d8 "list" eV 5 (ag (cw (ag (f2 (f2 (gv 7) (ci 0) az) (gv 8) bj) (ag (f2 (f2 (gv 7) (ci 1) az) (gv 8) bj) ae))) ae) appD) ao))
def pI:ah->Option (List (List D)):=(qu (uQ 2) (qi (ma (dO (gv 0)) (ck (aT (ax 3) (aT (ax 4) cj))) (iI (cY (av jl 5 (eG ae))) (iI (cY (dE eV (dO (gv 4)) (ck (aT (ax 6) (aT (ax 7) cj))) sN)) (iI (e8 5) (fun r w=>some (r,w)))))) Cc))
def pJ:List D->Option (List (List D)):=fun ds=>pI (a7 Ag.length ds)
theorem Fm(T:Txt K mg)(A:DefAt K mg "_law_lists" sm):CalleeR P w K mg base "_law_lists" sQ 1 bM pJ:=by
 refine ES (k:=0) (F:=pI) A jM rfl (fun _ _ _ _ _ _ us hl=>by obtain⟨u0,u1,rfl⟩:=n9 us hl;kernel_rfl) fun f cdv A outer s H g E hr=>?_;have hu1:=jC hr;have hu64:=hr.units;exact(GR (Ej 2 (m:=[.sh,.sh,.sh,.sh,.sh,.sh,.sh,.sh,.sh]) (by decide) jM.nd (by rfl) (gH rfl))
   (Hf (DS Jw rfl (fun _=>(om (by rfl) T.b_enumerate (v_ 0))) (fun _=>(iE rfl (dR (b5 3 jM.nd) (dR (b5 4 jM.nd) iC)))) (rP (j2 (ro:=false) (mb:=jl) (m:=jl) (m':=eV) (fun _=>(oJ 5 jM.nd (by rfl) (gH rfl) (iZ cf))) (by rfl)) (rP (j2 (ro:=false) (mb:=eV) (m:=eV) (m':=eV) (fun _=>(jA Jw rfl (om (by rfl) T.b_enumerate (v_ 4)) (iE rfl (dR (b5 6 jM.nd) (dR (b5 7 jM.nd) iC))) (am (ca 8 jM.nd (c7 iB (bE (db (bE (c7 (bE (c7 (ai 1) (bE (gX iB (ai 3))))) (ai 6))) iB))))
   (am (oi 5 rfl Kg KB KD mR qQ (by rfl) (bL rfl) (bg (dQ (bg (gX (xB hu1 (ai 7) iB) (ai 8)) (bg (gX (xB hu1 (ai 7) iB) (ai 8)) cf))) cf))
   ay)))) (by rfl)) (rP (Ee 5 (by decide) (by rfl) (dP (by decide)) (by rfl) (by rfl) (bL rfl) (by rfl) (bL rfl)) yE))) (by rfl))
   (EX (by rfl) (by rfl) (bL rfl))))
abbrev sI:Stmt:=top 38
abbrev Ak:List Str:=["_law_row_here","_law_n","_law_total","_law_top","_law_bottom"]
abbrev tq:List Str:=["_law_row_here","_law_n"]
theorem nr:FnScope Ak tq (aa sI):=cJ
abbrev nj:FS:=(af (bN fQ (aS (f2 (gv 3) (ci 0) hJ)) (af (au fQ (fun _=>Res.ok (D.bl false))) ao) ao) (af (av fQ 2 (aM (ag (gv 2) (ag (cw (ag (gv 3) (ag (gv 4) ae))) ae)) [] fG)) ao))
def tf:FS:=(af (av fQ 2 (cw (ag (ci 0) (ag (ci 1) ae)))) (af (dE fQ (aV cg (gv 0)) (ck (aT (ax 3) (aT (ax 4) cj))) nj) (af (au fQ (cV (f2 (fC (ag (gv 0) ae) lenD) (gv 1) eqD) (f2 (gv 2) (cw (ag (ci 1) (ag (ci 1) ae))) eqD))) ao)))
def lG:List D->Res D:=fun ds=>outR false (tf (a7 Ak.length ds))
theorem HY(T:Txt K mg)(A:DefAt K mg "_law_row_good" sI)(c__law_plus:Callee P w K mg base "_law_plus" mY [] 3 false bd fG):Callee P w K mg base "_law_row_good" tq [] 4 false bd lG:=
 dF (m':=fQ) A nr fun f cdv A outer s H g E hr hu1=>have hu64:=hr.units;(am (ca 2 nr.nd (dQ (bg gz (bg gz cf))))
   (am (oH Jw rfl (gl (ai 0)) (fun _=>(iE rfl (dR (b5 3 nr.nd) (dR (b5 4 nr.nd) iC)))) (fun _=>(am (ba (ik (ai 3) iB) (am (bX d6)
   ay)
   ay)
   (am (ca 2 nr.nd (bI c__law_plus (aw (ai 2) (aw (bE (dQ (bg (v_ 3) (bg (v_ 4) cf)))) bi))))
   ay))))
   (am (bX (jS (gG hu64 (bE (eF (by rfl) T.b_len (bR (ai 0) bW))) (ai 1)) (kP (gG hu64 (ai 2) (bE (dQ (bg gz (bg gz cf))))))))
   ay)))
abbrev jL:Stmt:=top 39
abbrev lq:List Str:=["_law_rows","_law_n","_law_k","_law_row_here"]
abbrev sD:List Str:=["_law_rows"]
theorem kg:FnScope lq sD (aa jL):=cJ
abbrev lx:FS:=(af (bN q0 (bG (aR (aM (ag (gv 3) (ag (gv 1) ae)) [] lG))) (af (au q0 (cw (ag (fun _=>Res.ok (D.str "row")) (ag (gv 2) ae)))) ao) ao) ao)
abbrev ly:FS:=(af (bN q0 (bG (aR (aM (ag (dC 1 [2] (aV cg (gv 0)) (ax 0) (fun _=>Res.ok true) (f2 (gv 0) (gv 1) az)) (ag (gv 1) ae)) [] lG))) (af (au q0 (cw (ag (fun _=>Res.ok (D.str "column")) (ag (gv 2) ae)))) ao) ao) ao)
def mO:FS:=(af (av q0 1 (fC (ag (gv 0) ae) lenD)) (af (bN q0 (eI (aS (f2 (gv 1) (ci 1) hJ)) (aS (f2 (gv 1) (ci 7) c9))) (af (au q0 (fun _=>Res.ok (D.str "many"))) ao) ao) (af (dE q0 (dO (gv 0)) (ck (aT (ax 2) (aT (ax 3) cj))) lx) (af (dE q0 (di cX (ag (gv 1) ae)) (ax 2) ly) (af (au q0 (fC (ag (dC 1 [] (aV cg (gv 0)) (ax 0) (fun _=>Res.ok true) (fC (ag (dC 2 [] (aV cg (gv 0)) (ck (aT (ax 0) (aT (ax 1) cj))) (fun _=>Res.ok true) (aM (ag (gv 0) (ag (gv 1) ae)) [] gp)) ae) tupD)) ae) tupD)) ao)))))
def lj:List D->Res D:=fun ds=>outR false (mO (a7 lq.length ds))
theorem Et(T:Txt K mg)(A:DefAt K mg "_law_due" jL)(c__law_row_good:Callee P w K mg base "_law_row_good" tq [] 4 false bd lG)(c__law_low:Callee P w K mg base "_law_low" ls [] 2 false bM gp):Callee P w K mg base "_law_due" sD [] 5 false [Md.sh] lj:=
 dF (m':=q0) A kg fun f cdv A outer s H g E hr hu1=>(am (ca 1 kg.nd (eF (by rfl) T.b_len (bR (ai 0) bW)))
   (am (ba (SW.toQ (de (ik (ai 1) iB) (i3 (eU (ai 1) iB)))) (am (bX jT)
   ay)
   ay)
   (am (jA Jw rfl (om (by rfl) T.b_enumerate (v_ 0)) (iE rfl (dR (b5 2 kg.nd) (dR (b5 3 kg.nd) iC))) (am (ba (fq (dq (bE (bI c__law_row_good (aw (ai 3) (aw (ai 1) bi)))))) (am (bX (dQ (bg jT (bg (v_ 2) cf))))
   ay)
   ay)
   ay))
   (am (jA Jw rfl (j6 (by rfl) T.b_range (bR (ai 1) bW)) (b5 2 kg.nd) (am (ba (fq (dq (bE (bI c__law_row_good (aw (SO.toB (i8 (X:=(a9 bP P w K mg base lq "_law_due" (aa jL) f cdv A outer s H E).nox) (N':=["_law_row_here","_law_k"]) (nl:=1) (cap:=[2]) kg.nd rfl (g5 (osc:=(aa jL)) (ON:=lq) rfl rfl (by decide+kernel)) (gl (ai 0)) (fun _ _ _ _ _ _=>(b5 0 (show J9 (["_law_row_here","_law_k"]:List Str)by decide+kernel))) (gj (by decide)) (fun _ _ _ _ _ _=>g4) (fun _ _ _ _ _ _=>(gW hu1 (ai 0) (ai 1))))) (aw (ai 1) bi)))))) (am (bX (dQ (bg jT (bg (v_ 2) cf))))
   ay)
   ay)
   ay))
   (am (bX (j5 (by rfl) T.b_tuple (bR (SO.toB (i8 (X:=(a9 bP P w K mg base lq "_law_due" (aa jL) f cdv A outer s H E).nox) (N':=["_law_row_here"]) (nl:=1) (cap:=[]) kg.nd rfl (g5 (osc:=(aa jL)) (ON:=lq) rfl rfl (by decide+kernel)) (gl (ai 0)) (fun _ _ _ _ _ _=>(b5 0 (show J9 (["_law_row_here"]:List Str)by decide+kernel))) (gj (by decide)) (fun _ _ _ _ _ _=>g4) (fun _ _ _ _ _ _=>(j5 (by rfl) T.b_tuple (bR (SO.toB (i8 (N':=["_law_top","_law_bottom"]) (nl:=2) (cap:=[]) (show J9 (["_law_row_here"]:List Str)by decide+kernel) rfl (Ic (osc:=(aa jL)) (ON:=(["_law_row_here"]:List Str)) rfl rfl (by decide+kernel)) (gl (ai 0)) (fun _ _ _ _ _ _=>(iE rfl (dR (b5 0 (show J9 (["_law_top","_law_bottom"]:List Str)by decide+kernel)) (dR (b5 1 (show J9 (["_law_top","_law_bottom"]:List Str)by decide+kernel)) iC)))) (xV (pe (gj (by decide)) (pe (gj (by decide)) yT))) (fun _ _ _ _ _ _=>g4) (fun _ _ _ _ _ _=>(bI c__law_low (aW (v_ 0) (aW (v_ 1) bi)))))) bW))))) bW)))
   ay)))))
abbrev tF:Stmt:=top 8
abbrev Ax:List Str:=["rows"]
abbrev tU:List Str:=["rows"]
theorem IP:FnScope Ax tU (aa tF):=cJ
def kh:FS:=(af (bN [Md.bw] (eI (aS (f2 (fC (ag (gv 0) ae) lenD) (ci 1) hJ)) (aS (f2 (fC (ag (gv 0) ae) lenD) (ci 7) c9))) (af (ji [Md.bw] "TooMany" (ag (fun _=>Res.ok (D.str "there must be from one to seven rows")) ae)) ao) ao) ao)
def nq:List D->Res D:=fun ds=>outR false (kh (a7 Ax.length ds))
theorem IE(T:Txt K mg)(A:DefAt K mg "refuse_too_many_rows" tF){C_TooMany:Addr}(xc_TooMany:XC K mg "TooMany" C_TooMany)(xn_TooMany:XN K "TooMany" C_TooMany):CalleeX P w K mg base "refuse_too_many_rows" tU [] 1 false [Md.bw] nq:=by
 refine yQ (k:=0) (fs:=kh) (m':=[Md.bw]) A IP rfl (fun _ _ _ _ _ _ us hl=>by obtain⟨u0,rfl⟩:=wI us hl;kernel_rfl) fun f cdv A outer s H g E hr=>?_;have hu1:=jC hr;have hu64:=hr.units;exact(am (ba (SW.toQ (de (ik (bE (eF (by rfl) T.b_len (bR (ai 0) bW))) iB) (i3 (eU (bE (eF (by rfl) T.b_len (bR (ai 0) bW))) (bE (Eh (by rfl) T.k_MOST_HANDS)))))) (am (Ek rfl xc_TooMany xn_TooMany (by rfl) (bg jT cf))
   ay)
   ay)
   ay)
abbrev tw:Stmt:=top 12
abbrev Ar:List Str:=["one","other","rest"]
abbrev tT:List Str:=["one","other"]
theorem pT:FnScope Ar tT (aa tw):=cJ
abbrev IM:FQ:=(aS (f2 (gv 1) (ci 0) neD))
abbrev IL:FS:=(af (av aY 2 (f2 (gv 0) (gv 1) aJ)) (af (av aY 0 (gv 1)) (af (av aY 1 (gv 2)) ao)))
def IJ:FS:=(af (eN aY IM IL 1000) (af (au aY (fC (ag (gv 0) ae) absD)) ao))
def pQ:List D->Res D:=fun ds=>outR false (IJ (a7 Ar.length ds))
theorem Is(T:Txt K mg)(A:DefAt K mg "greatest_divisor" tw):Callee P w K mg base "greatest_divisor" tT [] 1 false bM pQ:=
 dF (m':=aY) A pT fun f cdv A outer s H g E hr hu1=>have hu64:=hr.units;(am (yA 1000 Jw (eR hu64 (ai 1) iB) (am (ca 2 pT.nd (db (ai 0) (ai 1)))
   (am (ca 0 pT.nd (v_ 1))
   (am (ca 1 pT.nd (v_ 2))
   ay))))
   (am (bX (wS (by rfl) T.b_abs (bR (ai 0) bW)))
   ay))
abbrev se:Stmt:=top 7
abbrev zG:List Str:=["value"]
abbrev py:List Str:=["value"]
theorem Ii:FnScope zG py (aa se):=cJ
def HZ:FS:=(af (au [Md.bw] (cV (f1 (gv 0) (dh "int")) (gB (f1 (gv 0) (dh "bool"))))) ao)
def jK:List D->Res D:=fun ds=>outR false (HZ (a7 zG.length ds))
theorem Ex(T:Txt K mg)(A:DefAt K mg "is_whole" se):Callee P w K mg base "is_whole" py [] 1 false [Md.bw] jK:=
 dF (m':=[Md.bw]) A Ii fun f cdv A outer s H g E hr hu1=>(am (bX (jS (iH "int" "int" rfl (yO _) (by rfl) T.b_isinstance (by rfl) T.b_int (ai 0)) (kP (wO (iH "bool" "bool" rfl (yW _) (by rfl) T.b_isinstance (by rfl) T.b_bool (ai 0))))))
   ay)
abbrev sd:Stmt:=top 13
abbrev zF:List Str:=["top","bottom","divisor"]
abbrev pw:List Str:=["top","bottom"]
theorem sv:FnScope zF pw (aa sd):=cJ
def sC:FS:=(af (bN aY (eI (bG (aR (aM (ag (gv 0) ae) [] jK))) (eI (bG (aR (aM (ag (gv 1) ae) [] jK))) (aS (f2 (gv 1) (ci 0) eqD)))) (af (fun _=>Out.stuck) ao) ao) (af (av aY 2 (aM (ag (gv 0) (ag (gv 1) ae)) [] pQ)) (af (bN aY (aS (f2 (gv 1) (ci 0) hJ)) (af (av aY 2 (f1 (gv 2) fR)) ao) ao) (af (au aY (cw (ag (f2 (gv 0) (gv 2) jW) (ag (f2 (gv 1) (gv 2) jW) ae)))) ao))))
def j9:List D->Res D:=fun ds=>outR false (sC (a7 zF.length ds))
theorem Ew(T:Txt K mg)(A:DefAt K mg "fraction" sd)(c_is_whole:Callee P w K mg base "is_whole" py [] 1 false [Md.bw] jK)(c_greatest_divisor:Callee P w K mg base "greatest_divisor" tT [] 1 false bM pQ):Callee P w K mg base "fraction" pw [] 2 false bM j9:=
 dF (m':=aY) A sv fun f cdv A outer s H g E hr hu1=>have hu64:=hr.units;(am (ba (SW.toQ (de (fq (dq (bE (bI c_is_whole (aw (ai 0) bi))))) (de (fq (dq (bE (bI c_is_whole (aw (ai 1) bi))))) (i3 (df hu64 (ai 1) iB))))) (am Ei
   ay)
   ay)
   (am (ca 2 sv.nd (bI c_greatest_divisor (aW (v_ 0) (aW (v_ 1) bi))))
   (am (ba (ik (ai 1) iB) (am (ca 2 sv.nd (qq (ai 2)))
   ay)
   ay)
   (am (bX (dQ (bg (oR (ai 0) (ai 2)) (bg (oR (ai 1) (ai 2)) cf))))
   ay))))
abbrev qV:Stmt:=top 15
abbrev xP:List Str:=["a","b"]
abbrev qO:List Str:=["a","b"]
theorem En:FnScope xP qO (aa qV):=cJ
def qM:FS:=(af (au bd (aM (ag (f2 (f2 (f2 (gv 0) (ci 0) az) (f2 (gv 1) (ci 1) az) dy) (f2 (f2 (gv 1) (ci 0) az) (f2 (gv 0) (ci 1) az) dy) addA) (ag (f2 (f2 (gv 0) (ci 1) az) (f2 (gv 1) (ci 1) az) dy) ae)) [] j9)) ao)
def oE:List D->Res D:=fun ds=>outR false (qM (a7 xP.length ds))
theorem B5(T:Txt K mg)(A:DefAt K mg "plus" qV)(c_fraction:Callee P w K mg base "fraction" pw [] 2 false bM j9):Callee P w K mg base "plus" qO [] 3 false bd oE:=
 dF (m':=bd) A En fun f cdv A outer s H g E hr hu1=>(am (bX (bI c_fraction (aW (c7 (bE (jG (xB hu1 (ai 0) iB) (xB hu1 (ai 1) iB))) (bE (jG (xB hu1 (ai 1) iB) (xB hu1 (ai 0) iB)))) (aW (jG (xB hu1 (ai 0) iB) (xB hu1 (ai 1) iB)) bi))))
   ay)
abbrev rK:Stmt:=top 17
abbrev yt:List Str:=["shares","told","share"]
abbrev oV:List Str:=["shares"]
theorem o9:FnScope yt oV (aa rK):=cJ
abbrev zk:FS:=(af (av io 1 (aM (ag (gv 1) (ag (gv 2) ae)) [] oE)) ao)
def rL:FS:=(af (av io 1 (fun _=>Res.ok (D.tup [D.int 0,D.int 1]))) (af (dE io (aV cg (gv 0)) (ax 2) zk) (af (au io (gv 1)) ao)))
def k6:List D->Res D:=fun ds=>outR false (rL (a7 yt.length ds))
theorem BZ(T:Txt K mg)(A:DefAt K mg "total" rK)(c_plus:Callee P w K mg base "plus" qO [] 3 false bd oE):Callee P w K mg base "total" oV [] 4 false [Md.bw] k6:=
 dF (m':=io) A o9 fun f cdv A outer s H g E hr hu1=>(am (ca 1 o9.nd (oS (by rfl) T.k_NOUGHT))
   (am (oH Jw rfl (gl (ai 0)) (fun _=>(b5 2 o9.nd)) (fun _=>(am (ca 1 o9.nd (bI c_plus (aw (ai 1) (aw (ai 2) bi))))
   ay)))
   (am (bX (v_ 1))
   ay)))
abbrev sy:Stmt:=top 14
abbrev zX:List Str:=["value"]
abbrev su:List Str:=["value"]
theorem Ix:FnScope zX su (aa sy):=cJ
def ss:FS:=(af (bN [Md.bw] (eI (bG (aR (f1 (gv 0) (dh "tuple")))) (aS (f2 (fC (ag (gv 0) ae) lenD) (ci 2) neD))) (af (au [Md.bw] (fun _=>Res.ok (D.bl false))) ao) ao) (af (au [Md.bw] (cV (aM (ag (f2 (gv 0) (ci 0) az) ae) [] jK) (cV (aM (ag (f2 (gv 0) (ci 1) az) ae) [] jK) (f2 (f2 (gv 0) (ci 1) az) (ci 0) c9)))) ao))
def mX:List D->Res D:=fun ds=>outR false (ss (a7 zX.length ds))
theorem EV(T:Txt K mg)(A:DefAt K mg "has_worth" sy)(c_is_whole:Callee P w K mg base "is_whole" py [] 1 false [Md.bw] jK):Callee P w K mg base "has_worth" su [] 2 false [Md.bw] mX:=
 dF (m':=[Md.bw]) A Ix fun f cdv A outer s H g E hr hu1=>have hu64:=hr.units;(am (ba (SW.toQ (de (fq (dq (bE (iH "tuple" "tuple" rfl (lg _) (by rfl) T.b_isinstance (by rfl) T.b_tuple (ai 0))))) (i3 (eR hu64 (bE (eF (by rfl) T.b_len (bR (ai 0) bW))) iB)))) (am (bX d6)
   ay)
   ay)
   (am (bX (jS (bI c_is_whole (aw (xB hu1 (ai 0) iB) bi)) (jS (bI c_is_whole (aw (xB hu1 (ai 0) iB) bi)) (kP (ko (xB hu1 (ai 0) iB) iB)))))
   ay))
abbrev qU:Stmt:=top 16
abbrev xO:List Str:=["a","b"]
abbrev qN:List Str:=["a","b"]
theorem Em:FnScope xO qN (aa qU):=cJ
def qL:FS:=(af (au bd (f2 (f2 (f2 (gv 0) (ci 0) az) (f2 (gv 1) (ci 1) az) dy) (f2 (f2 (gv 1) (ci 0) az) (f2 (gv 0) (ci 1) az) dy) hJ)) ao)
def l5:List D->Res D:=fun ds=>outR false (qL (a7 xO.length ds))
theorem A8(T:Txt K mg)(A:DefAt K mg "less" qU):Callee P w K mg base "less" qN [] 1 false bd l5:=
 dF (m':=bd) A Em fun f cdv A outer s H g E hr hu1=>(am (bX (uI (bE (jG (xB hu1 (ai 0) iB) (xB hu1 (ai 1) iB))) (bE (jG (xB hu1 (ai 1) iB) (xB hu1 (ai 0) iB)))))
   ay)
abbrev kl:Stmt:=top 19
abbrev lF:List Str:=["row","many"]
abbrev tz:List Str:=["row","many"]
theorem tD:FnScope lF tz (aa kl):=cJ
def tJ:FS:=(af (bN bd (eI (bG (aR (f1 (gv 0) (ky "list" "tuple")))) (eI (aS (f2 (fC (ag (gv 0) ae) lenD) (gv 1) neD)) (bG (aR (fC (ag (dC 1 [] (aV cg (gv 0)) (ax 0) (fun _=>Res.ok true) (aM (ag (gv 0) ae) [] mX)) ae) allD))))) (af (au bd (fun _=>Res.ok (D.bl false))) ao) ao) (af (au bd (cV (gB (fC (ag (dC 1 [] (aV cg (gv 0)) (ax 0) (fun _=>Res.ok true) (aM (ag (gv 0) (ag (fun _=>Res.ok (D.tup [D.int 0,D.int 1])) ae)) [] l5)) ae) anyD)) (f2 (aM (ag (gv 0) ae) [] k6) (fun _=>Res.ok (D.tup [D.int 1,D.int 1])) eqD))) ao))
def nk:List D->Res D:=fun ds=>outR false (tJ (a7 lF.length ds))
theorem Iu(T:Txt K mg)(A:DefAt K mg "is_row_of_shares" kl)(c_has_worth:Callee P w K mg base "has_worth" su [] 2 false [Md.bw] mX)(c_total:Callee P w K mg base "total" oV [] 4 false [Md.bw] k6)(c_less:Callee P w K mg base "less" qN [] 1 false bd l5):Callee P w K mg base "is_row_of_shares" tz [] 5 false bd nk:=
 dF (m':=bd) A tD fun f cdv A outer s H g E hr hu1=>have hu64:=hr.units;(am (ba (SW.toQ (de (fq (dq (bE (Du (by rfl) T.b_isinstance (by rfl) T.b_list (by rfl) T.b_tuple (ai 0))))) (de (eR hu64 (bE (eF (by rfl) T.b_len (bR (ai 0) bW))) (ai 1)) (i3 (fq (dq (bE (wT rfl (by rfl) T.b_all (bR (SO.toB (i8 (X:=(a9 bP P w K mg base lF "is_row_of_shares" (aa kl) f cdv A outer s H E).nox) (N':=["share"]) (nl:=1) (cap:=[]) tD.nd rfl (g5 (osc:=(aa kl)) (ON:=lF) rfl rfl (by decide+kernel)) (gl (ai 0)) (fun _ _ _ _ _ _=>(b5 0 (show J9 (["share"]:List Str)by decide+kernel))) (gj (by decide)) (fun _ _ _ _ _ _=>g4) (fun _ _ _ _ _ _=>(bI c_has_worth (aw (ai 0) bi))))) bW))))))))) (am (bX d6)
   ay)
   ay)
   (am (bX (jS (wO (Cf rfl (by rfl) T.b_any (bR (SO.toB (i8 (X:=(a9 bP P w K mg base lF "is_row_of_shares" (aa kl) f cdv A outer s H E).nox) (N':=["share"]) (nl:=1) (cap:=[]) tD.nd rfl (g5 (osc:=(aa kl)) (ON:=lF) rfl rfl (by decide+kernel)) (gl (ai 0)) (fun _ _ _ _ _ _=>(b5 0 (show J9 (["share"]:List Str)by decide+kernel))) (gj (by decide)) (fun _ _ _ _ _ _=>g4) (fun _ _ _ _ _ _=>(bI c_less (aw (ai 0) (aw (bE (oS (by rfl) T.k_NOUGHT)) bi)))))) bW))) (kP (gG hu64 (bE (bI c_total (aw (ai 0) bi))) (bE (oS (by rfl) T.k_ONE))))))
   ay))
abbrev nb:Stmt:=top 21
abbrev pE:List Str:=["rows","place","row"]
abbrev tx:List Str:=["rows"]
theorem m6:FnScope pE tx (aa nb):=cJ
abbrev m8:FS:=(af (bN aY (bG (aR (aM (ag (gv 2) (ag (fC (ag (gv 0) ae) lenD) ae)) [] nk))) (af (au aY (cw (ag (fun _=>Res.ok (D.str "row")) (ag (gv 1) ae)))) ao) ao) ao)
abbrev m9:FS:=(af (bN aY (aS (f2 (aM (ag (dC 1 [1] (aV cg (gv 0)) (ax 0) (fun _=>Res.ok true) (f2 (gv 0) (gv 1) az)) ae) [] k6) (fun _=>Res.ok (D.tup [D.int 1,D.int 1])) neD)) (af (au aY (cw (ag (fun _=>Res.ok (D.str "column")) (ag (gv 1) ae)))) ao) ao) ao)
def lw:FS:=(af (dE aY (dO (gv 0)) (ck (aT (ax 1) (aT (ax 2) cj))) m8) (af (dE aY (di cX (ag (fC (ag (gv 0) ae) lenD) ae)) (ax 1) m9) (af (au aY (fun _=>Res.ok D.non)) ao)))
def ki:List D->Res D:=fun ds=>outR false (lw (a7 pE.length ds))
theorem Hn(T:Txt K mg)(A:DefAt K mg "why_no_table" nb)(c_is_row_of_shares:Callee P w K mg base "is_row_of_shares" tz [] 5 false bd nk)(c_total:Callee P w K mg base "total" oV [] 4 false [Md.bw] k6):Callee P w K mg base "why_no_table" tx [] 6 false [Md.sh] ki:=
 dF (m':=aY) A m6 fun f cdv A outer s H g E hr hu1=>have hu64:=hr.units;(am (jA Jw rfl (om (by rfl) T.b_enumerate (v_ 0)) (iE rfl (dR (b5 1 m6.nd) (dR (b5 2 m6.nd) iC))) (am (ba (fq (dq (bE (bI c_is_row_of_shares (aw (ai 2) (aw (bE (eF (by rfl) T.b_len (bR (ai 0) bW))) bi)))))) (am (bX (dQ (bg jT (bg (v_ 1) cf))))
   ay)
   ay)
   ay))
   (am (jA Jw rfl (j6 (by rfl) T.b_range (bR (bE (eF (by rfl) T.b_len (bR (ai 0) bW))) bW)) (b5 1 m6.nd) (am (ba (eR hu64 (bE (bI c_total (aw (SO.toB (i8 (X:=(a9 bP P w K mg base pE "why_no_table" (aa nb) f cdv A outer s H E).nox) (N':=["row","place"]) (nl:=1) (cap:=[1]) m6.nd rfl (g5 (osc:=(aa nb)) (ON:=pE) rfl rfl (by decide+kernel)) (gl (ai 0)) (fun _ _ _ _ _ _=>(b5 0 (show J9 (["row","place"]:List Str)by decide+kernel))) (gj (by decide)) (fun _ _ _ _ _ _=>g4) (fun _ _ _ _ _ _=>(gW hu1 (ai 0) (ai 1))))) bi))) (bE (oS (by rfl) T.k_ONE))) (am (bX (dQ (bg jT (bg (v_ 1) cf))))
   ay)
   ay)
   ay))
   (am (bX oj)
   ay)))
abbrev m7:Stmt:=top 20
abbrev pO:List Str:=["row"]
abbrev sZ:List Str:=["row"]
theorem As:FnScope pO sZ (aa m7):=cJ
def sY:FS:=(af (au [Md.bw] (fC (ag (dC 2 [] (aV cg (gv 0)) (ck (aT (ax 0) (aT (ax 1) cj))) (fun _=>Res.ok true) (aM (ag (gv 0) (ag (gv 1) ae)) [] j9)) ae) tupD)) ao)
def nu:List D->Res D:=fun ds=>outR false (sY (a7 pO.length ds))
theorem HD(T:Txt K mg)(A:DefAt K mg "in_lowest_terms" m7)(c_fraction:Callee P w K mg base "fraction" pw [] 2 false bM j9):Callee P w K mg base "in_lowest_terms" sZ [] 3 false [Md.bw] nu:=
 dF (m':=[Md.bw]) A As fun f cdv A outer s H g E hr hu1=>(am (bX (j5 (by rfl) T.b_tuple (bR (SO.toB (i8 (X:=(a9 bP P w K mg base pO "in_lowest_terms" (aa m7) f cdv A outer s H E).nox) (N':=["top","bottom"]) (nl:=2) (cap:=[]) As.nd rfl (g5 (osc:=(aa m7)) (ON:=pO) rfl rfl (by decide+kernel)) (gl (ai 0)) (fun _ _ _ _ _ _=>(iE rfl (dR (b5 0 (show J9 (["top","bottom"]:List Str)by decide+kernel)) (dR (b5 1 (show J9 (["top","bottom"]:List Str)by decide+kernel)) iC)))) (xV (pe (gj (by decide)) (pe (gj (by decide)) yT))) (fun _ _ _ _ _ _=>g4) (fun _ _ _ _ _ _=>(bI c_fraction (aW (v_ 0) (aW (v_ 1) bi)))))) bW)))
   ay)
abbrev mV:Stmt:=top 22
abbrev pG:List Str:=["rows","why"]
abbrev sT:List Str:=["rows"]
theorem sM:FnScope pG sT (aa mV):=cJ
def kd:FS:=(af (kU bM (i4 (ag (gv 0) ae) [] nq)) (af (av bM 1 (aM (ag (gv 0) ae) [] ki)) (af (bN bM (aS (f2 (gv 1) (fun _=>Res.ok D.non) gI)) (af (nY bM "NoTable" "why" (ag (gv 1) ae)) ao) ao) (af (au bM (fC (ag (dC 1 [] (aV cg (gv 0)) (ax 0) (fun _=>Res.ok true) (aM (ag (gv 0) ae) [] nu)) ae) tupD)) ao))))
def ke:List D->Res D:=fun ds=>outR false (kd (a7 pG.length ds))
theorem Fs(T:Txt K mg)(A:DefAt K mg "table_of" mV)(c_refuse_too_many_rows_x:CalleeX P w K mg base "refuse_too_many_rows" tU [] 1 false [Md.bw] nq)(c_why_no_table:Callee P w K mg base "why_no_table" tx [] 6 false [Md.sh] ki)(c_in_lowest_terms:Callee P w K mg base "in_lowest_terms" sZ [] 3 false [Md.bw] nu){C_NoTable:Addr}(xt_NoTable:XCG P w K mg base "NoTable" C_NoTable "why" (lJ K C_NoTable "why"))(xn_NoTable:XN K "NoTable" C_NoTable):CalleeX P w K mg base "table_of" sT [] 7 false [Md.sh] ke:=by
 refine yQ (k:=6) (fs:=kd) (m':=bM) A sM rfl (fun _ _ _ _ _ _ us hl=>by obtain⟨u0,rfl⟩:=wI us hl;kernel_rfl) fun f cdv A outer s H g E hr=>?_;have hu1:=jC hr;have hu64:=hr.units;exact(am (DW (yy c_refuse_too_many_rows_x (hr.mono (by decide)) (aw (ai 0) bi)))
   (am (ca 1 sM.nd (bI c_why_no_table (aW (v_ 0) bi)))
   (am (ba (Cb (ai 1) (bE oj)) (am (GK rfl xt_NoTable xn_NoTable (hr.mono (by decide)) (by rfl) (bg (v_ 1) cf))
   ay)
   ay)
   (am (bX (j5 (by rfl) T.b_tuple (bR (SO.toB (i8 (X:=(a9 (kK P w) P w K mg base pG "table_of" (aa mV) f cdv A outer s H E)) (N':=["row"]) (nl:=1) (cap:=[]) sM.nd rfl (g5 (osc:=(aa mV)) (ON:=pG) rfl rfl (by decide+kernel)) (gl (ai 0)) (fun _ _ _ _ _ _=>(b5 0 (show J9 (["row"]:List Str)by decide+kernel))) (gj (by decide)) (fun _ _ _ _ _ _=>g4) (fun _ _ _ _ _ _=>(bI c_in_lowest_terms (aw (ai 0) bi))))) bW)))
   ay))))
abbrev sH:Stmt:=top 40
abbrev Aj:List Str:=["_law_rows","_law_found","_law_caught","e"]
abbrev tj:List Str:=["_law_rows"]
theorem lB:FnScope Aj tj (aa sH):=cJ
def mZ:FS:=(af (av q0 1 (fun _=>Res.ok D.non)) (af (av q0 2 (fun _=>Res.ok D.non)) (af (fJ q0 3 mW (af (av q0 1 (i4 (ag (gv 0) ae) [] ke)) ao) (af (av q0 2 (gv 3)) ao)) (af (bN q0 (bn (aR (f1 (gv 2) (bF iN))) (bn (aR (f1 (gv 2) (bF iP))) (bG (aR (f1 (gv 2) (bF iO)))))) (af (au q0 (f1 (gv 2) (jf l8 "why"))) ao) ao) (af (bN q0 (bn (aR (f1 (gv 2) (bF iO))) (bn (aR (f1 (gv 2) (bF iP))) (bG (aR (f1 (gv 2) (bF iN)))))) (af (au q0 (fun _=>Res.ok (D.str "many"))) ao) ao) (af (au q0 (gv 1)) ao))))))
def kj:List D->Res D:=fun ds=>outR false (mZ (a7 Aj.length ds))
theorem HW(T:Txt K mg)(A:DefAt K mg "_law_asked_of" sH)(c_table_of_x:CalleeX P w K mg base "table_of" sT [] 7 false [Md.sh] ke){C_TradeError:Addr}{bm_TradeError:List b_}(xa_TradeError:XA K C_TradeError bm_TradeError)(xb_TradeError:mg "TradeError" = some (.ref C_TradeError))(hk_TradeError:lQ K C_TradeError mW){C_TooMany:Addr}(xb_TooMany:mg "TooMany" = some (.ref C_TooMany))(ix_TooMany:IsxOk K (.ref C_TooMany) iO)(ix_ValueError:IsxOk K (.type "ValueError") iP){C_NoTable:Addr}(xb_NoTable:mg "NoTable" = some (.ref C_NoTable))(ix_NoTable:IsxOk K (.ref C_NoTable) iN)(at_why:lP K "why" l8):Callee P w K mg base "_law_asked_of" tj [] 8 false [Md.sh] kj:=
 dF (m':=q0) A lB fun f cdv A outer s H g E hr hu1=>(am (ca 1 lB.nd oj)
   (am (ca 2 lB.nd oj)
   (am (BJ (bmT:=bm_TradeError) (m1:=q0) 3 rfl rfl rfl xb_TradeError xa_TradeError.ob xa_TradeError.be hk_TradeError (by rfl) lB.nd (by rfl) (by rfl) (by rfl) (fun _ _=>(am (ca 1 lB.nd (yy c_table_of_x (hr.mono (by decide)) (aW (v_ 0) bi)))
   ay)) (fun _=>(am (ca 2 lB.nd (v_ 3))
   ay)))
   (am (ba (SW.toQ (iG (dq (bE (oh xb_NoTable ix_NoTable (by rfl) (by rfl) T.b_isinstance (ai 2)))) (iG (dq (bE (xC (x := "ValueError") rfl T.b_ValueError ix_ValueError (by rfl) (by rfl) T.b_isinstance (ai 2)))) (kY (fq (dq (bE (oh xb_TooMany ix_TooMany (by rfl) (by rfl) T.b_isinstance (ai 2))))))))) (am (bX (BL at_why (ai 2)))
   ay)
   ay)
   (am (ba (SW.toQ (iG (dq (bE (oh xb_TooMany ix_TooMany (by rfl) (by rfl) T.b_isinstance (ai 2)))) (iG (dq (bE (xC (x := "ValueError") rfl T.b_ValueError ix_ValueError (by rfl) (by rfl) T.b_isinstance (ai 2)))) (kY (fq (dq (bE (oh xb_NoTable ix_NoTable (by rfl) (by rfl) T.b_isinstance (ai 2))))))))) (am (bX jT)
   ay)
   ay)
   (am (bX (v_ 1))
   ay))))))
abbrev sw:Stmt:=top 24
abbrev zV:List Str:=["_law_script","_law_k","_law_cell_here","_law_stirred"]
abbrev pq:List Str:=["_law_script","_law_k"]
theorem pH:FnScope zV pq (aa sw):=cJ
def pk:FS:=(af (av dg 2 (ci 0)) (af (bN dg (aS (f2 (gv 1) (fC (ag (gv 0) ae) lenD) hJ)) (af (av dg 2 (f2 (f2 (gv 0) (gv 1) az) (f2 (ci 10) (ci 60) ir) aJ)) ao) ao) (af (bN dg (bn (aS (f2 (fC (ag (gv 0) ae) lenD) (ci 0) c9)) (aS (f2 (f2 (f2 (gv 0) (ci 0) az) (ci 2) aJ) (ci 0) eqD))) (af (au dg (gv 2)) ao) ao) (af (av dg 3 (f2 (f2 (f2 (f2 (f2 (f2 (f2 (gv 2) (f2 (f2 (ci 7) (gv 1) bj) (gv 1) bj) addA) (f2 (ci 13) (gv 1) bj) addA) (ci 5) addA) (ci 48271) bj) (ci 2147483647) aJ) (ci 69621) bj) (ci 1000000007) aJ)) (af (au dg (f2 (f2 (f2 (f2 (f2 (gv 3) (ci 1) addA) (ci 40692) bj) (ci 2147483629) aJ) (ci 39373) bj) (ci 999999937) aJ)) ao)))))
def dG:List D->Res D:=fun ds=>outR false (pk (a7 zV.length ds))
theorem ET(T:Txt K mg)(A:DefAt K mg "_law_cell" sw):Callee P w K mg base "_law_cell" pq [] 1 false bd dG:=
 dF (m':=dg) A pH fun f cdv A outer s H g E hr hu1=>have hu64:=hr.units;(am (ca 2 pH.nd gz)
   (am (ba (ik (ai 1) (bE (eF (by rfl) T.b_len (bR (ai 0) bW)))) (am (ca 2 pH.nd (db (xB hu1 (ai 0) (ai 1)) (bE (BG iB iB))))
   ay)
   ay)
   (am (ba (SW.toQ (iG (eU (bE (eF (by rfl) T.b_len (bR (ai 0) bW))) iB) (kY (df hu64 (bE (db (xB hu1 (ai 0) iB) iB)) iB)))) (am (bX (v_ 2))
   ay)
   ay)
   (am (ca 3 pH.nd (db (bE (gX (bE (db (bE (gX (bE (c7 (bE (c7 (bE (c7 (ai 2) (bE (gX (bE (gX iB (ai 1))) (ai 1))))) (bE (gX iB (ai 1))))) iB)) iB)) iB)) iB)) iB))
   (am (bX (db (bE (gX (bE (db (bE (gX (bE (c7 (ai 3) iB)) iB)) iB)) iB)) iB))
   ay)))))
abbrev r6:Stmt:=top 25
abbrev zE:List Str:=["_law_cell_here","_law_m","_law_row_here","_law_thing"]
abbrev sE:List Str:=["_law_cell_here","_law_m"]
theorem pr:FnScope zE sE (aa r6):=cJ
abbrev Af:FS:=(af (d8 "list" im 2 (ag (f2 (gv 0) (f2 (gv 3) (ci 1) addA) aJ) (ag (gv 3) ae)) insD) (af (av im 0 (f2 (gv 0) (f2 (gv 3) (ci 1) addA) fm)) ao))
def sB:FS:=(af (av [.sh,.bw,.sh,.sh] 2 (eG ae)) (af (dE im (di cX (ag (gv 1) ae)) (ax 3) Af) (af (au im (fC (ag (gv 2) ae) tupD)) ao)))
def pv:List D->Res D:=fun ds=>outR false (sB (a7 zE.length ds))
theorem Ev(T:Txt K mg)(A:DefAt K mg "_law_row" r6):Callee P w K mg base "_law_row" sE [] 1 false [.sh,.bw] pv:=
 dF (m':=im) A pr fun f cdv A outer s H g E hr hu1=>(am (oJ 2 pr.nd (by rfl) (gH rfl) (iZ cf))
   (am (jA Jw rfl (j6 (by rfl) T.b_range (bR (ai 1) bW)) (b5 3 pr.nd) (am (oi 2 rfl Kg MF PySem.F.type_list_insert Hl C1 (by rfl) (bL rfl) (bg (db (ai 0) (bE (c7 (ai 3) iB))) (bg (v_ 3) cf)))
   (am (ca 0 pr.nd (ja (ai 0) (bE (c7 (ai 3) iB))))
   ay)))
   (am (bX (j5 (by rfl) T.b_tuple (bR (ai 2) bW)))
   ay)))
abbrev mU:Stmt:=top 32
abbrev pN:List Str:=["_law_script","_law_at","_law_n","_law_many","_law_weights","_law_whole","_law_found","_law_k"]
abbrev sS:List Str:=["_law_script","_law_at","_law_n","_law_many"]
theorem na:FnScope pN sS (aa mU):=cJ
abbrev An:FS:=(af (d8 "list" nH 6 (ag (cw (ag (aM (ag (f2 (gv 4) (gv 7) az) (ag (gv 5) ae)) [] gp) (ag (aM (ag (aM (ag (gv 0) (ag (f2 (f2 (gv 1) (f2 (ci 2) (gv 7) bj) addA) (ci 1) addA) ae)) [] dG) (ag (gv 2) ae)) [] pv) ae))) ae) appD) ao)
def sP:FS:=(af (av nG 4 (dC 1 [0,1] (di cX (ag (gv 3) ae)) (ax 0) (fun _=>Res.ok true) (f2 (ci 1) (f2 (aM (ag (gv 1) (ag (f2 (gv 2) (f2 (ci 2) (gv 0) bj) addA) ae)) [] dG) (ci 60) aJ) addA))) (af (av jk 5 (fC (ag (gv 4) ae) sumD)) (af (av jk 6 (eG ae)) (af (dE nH (di cX (ag (gv 3) ae)) (ax 7) An) (af (au jk (gv 6)) ao)))))
def pL:List D->Res D:=fun ds=>outR false (sP (a7 pN.length ds))
theorem Fp(T:Txt K mg)(A:DefAt K mg "_law_parts" mU)(c__law_cell:Callee P w K mg base "_law_cell" pq [] 1 false bd dG)(c__law_row:Callee P w K mg base "_law_row" sE [] 1 false [.sh,.bw] pv)(c__law_low:Callee P w K mg base "_law_low" ls [] 2 false bM gp):Callee P w K mg base "_law_parts" sS [] 3 false [.bw,.bw,.bw,.bw] pL:=
 dF (m':=jk) A na fun f cdv A outer s H g E hr hu1=>(am (rY 4 (X:=(a9 bP P w K mg base pN "_law_parts" (aa mU) f cdv A outer s H E).nox) (m:=nG) (N':=["_law_k","_law_script","_law_at"]) (nl:=1) (cap:=[0,1]) na.nd rfl (by rfl) (by rfl) (g5 (osc:=(aa mU)) (ON:=pN) rfl rfl (by decide+kernel)) (iV.toC (j6 (by rfl) T.b_range (bR (ai 3) bW))) (fun _ _ _ _ _ _=>(b5 0 (show J9 (["_law_k","_law_script","_law_at"]:List Str)by decide+kernel))) (gj (by decide)) (fun _ _ _ _ _ _=>g4) (fun _ _ _ _ _ _=>(c7 iB (bE (db (bE (bI c__law_cell (aw (ai 1) (aw (bE (c7 (ai 2) (bE (gX iB (ai 0))))) bi)))) iB)))))
   (am (ca 5 na.nd (BI rfl (by rfl) T.b_sum (bR (ai 4) bW)))
   (am (oJ 6 na.nd (by rfl) (gH rfl) (iZ cf))
   (am (jA Jw rfl (j6 (by rfl) T.b_range (bR (ai 3) bW)) (b5 7 na.nd) (am (oi 6 rfl Kg KB KD mR qQ (by rfl) (bL rfl) (bg (dQ (bg (bI c__law_low (aW (gW hu1 (ai 4) (ai 7)) (aW (v_ 5) bi))) (bg (bI c__law_row (aW (bI c__law_cell (aw (ai 0) (aw (bE (c7 (bE (c7 (ai 1) (bE (gX iB (ai 7))))) iB)) bi))) (aw (ai 2) bi))) cf))) cf))
   ay))
   (am (qp 6 rfl (bX (v_ 6)))
   ay)))))
abbrev sV:Stmt:=top 35
abbrev Ad:List Str:=["_law_rows","_law_hand","_law_thing","_law_other","_law_both","_law_top","_law_bottom","_law_part","_law_row_here"]
abbrev sK:List Str:=["_law_rows","_law_hand","_law_thing","_law_other","_law_both"]
theorem ng:FnScope Ad sK (aa sV):=cJ
def nh:FM:=(c6 (jx 0 (f2 (f2 (gv 0) (gv 1) az) (gv 2) az) (ck (aT (ax 5) (aT (ax 6) cj)))) (c6 (cY (av bT 7 (aM (ag (f2 (gv 5) (ci 1) addA) (ag (gv 6) ae)) [] gp))) (c6 (eL 0 1 2 (cw (ag (f2 (ci 0) (ci 1) cW) (ag (gv 6) ae)))) (c6 (eL 0 1 3 (aM (ag (f2 (f2 (gv 0) (gv 1) az) (gv 3) az) (ag (gv 7) ae)) [] fG)) (c6 (jP (aR (gv 4)) (gL 0 8 (f2 (f2 (gv 1) (ci 1) addA) (fC (ag (gv 0) ae) lenD) aJ) (iA (dw 0 8 (aM (ag (f2 (gv 8) (gv 2) az) (ag (gv 7) ae)) [] fG) (gv 2)) (iA (dw 0 8 (aM (ag (f2 (gv 8) (gv 3) az) (ag (cw (ag (f2 (ci 0) (f2 (gv 7) (ci 0) az) cW) (ag (f2 (gv 7) (ci 1) az) ae))) ae)) [] fG) (gv 3)) jn))) (fun r w=>some (r,w))) (fZ 0 (af (au bc (gv 0)) ao)))))))
def lA:List (List D)->List D->Res D:=fun w ds=>outR true (nh (none::a7 Ad.tail.length ds) w)
theorem GT(T:Txt K mg)(A:DefAt K mg "_law_handed" sV)(c__law_low:Callee P w K mg base "_law_low" ls [] 2 false bM gp)(c__law_plus:Callee P w K mg base "_law_plus" mY [] 3 false bd fG):CalleeD P w K mg base "_law_handed" sK 4 q0 lA:=by
 refine zc (k:=3) (F:=nh) (m':=bc) A ng rfl (fun _ _ _ _ _ _ us hl=>by obtain⟨u0,u1,u2,u3,u4,rfl⟩:=AY us hl;kernel_rfl) fun f cdv A outer s H g E hr=>?_;have hu1:=jC hr;have hu64:=hr.units;exact(fH (by rfl) (yz (dP (by decide)) (fun _=>(gW hu1 (xB hu1 (ai 0) (ai 1)) (ai 2))) (fun _=>(iE rfl (dR (b5 5 ng.nd) (dR (b5 6 ng.nd) iC)))))
   (fH (by rfl) (j2 (ro:=false) (mb:=bT) (m:=bT) (m':=bT) (fun _=>(ca 7 ng.nd (bI c__law_low (aW (c7 (ai 5) iB) (aW (v_ 6) bi))))) (by rfl))
   (fH (by rfl) (la 1 2 (by rfl) (dP (by decide)) (by rfl) (by rfl) (by rfl) (bL rfl) (by rfl) (bL rfl) (by rfl) (bL rfl) (fun _=>(dQ (bg (kQ iB iB) (bg (v_ 6) cf)))))
   (fH (by rfl) (la 1 3 (by rfl) (dP (by decide)) (by rfl) (by rfl) (by rfl) (bL rfl) (by rfl) (bL rfl) (by rfl) (bL rfl) (fun _=>(bI c__law_plus (aw (xB hu1 (xB hu1 (ai 0) (ai 1)) (ai 3)) (aw (ai 7) bi)))))
   (fH (by rfl) (Cd (fun _=>(dq (ai 4))) (GP (by rfl) (dP (by decide)) (by rfl) ng.nd (by rfl) (bL rfl) (by rfl) (gH rfl) (fun _=>(db (bE (c7 (ai 1) iB)) (bE (eF (by rfl) T.b_len (bR (ai 0) bW))))) (yB (xG (dP (by decide)) (by rfl) (bL rfl) (fun _=>(bI c__law_plus (aw (xB hu1 (ai 8) (ai 2)) (aw (ai 7) bi)))) (fun _=>(v_ 2))) (yB (xG (dP (by decide)) (by rfl) (bL rfl) (fun _=>(bI c__law_plus (aw (xB hu1 (ai 8) (ai 3)) (aw (bE (dQ (bg (kQ iB (xB hu1 (ai 7) iB)) (bg (gW hu1 (ai 7) iB) cf)))) bi)))) (fun _=>(v_ 3))) Dy))) yE)
   (li (am (qR 0 rfl (by rfl) (bL rfl))
   ay) (dP (by decide))))))))
abbrev sW:Stmt:=top 36
abbrev Ae:List Str:=["_law_rows","_law_cell_here","_law_n","_law_hand","_law_thing","_law_other","_law_way","_law_top","_law_bottom"]
abbrev sL:List Str:=["_law_rows","_law_cell_here"]
theorem jN:FnScope Ae sL (aa sW):=cJ
def ni:FM:=(c6 (kR 0 2 (fC (ag (gv 0) ae) lenD)) (c6 (cY (av bT 3 (f2 (gv 1) (gv 2) aJ))) (c6 (cY (av bT 4 (f2 (f2 (gv 1) (ci 7) fm) (gv 2) aJ))) (c6 (cY (av bT 5 (f2 (f2 (f2 (gv 4) (ci 1) addA) (f2 (f2 (gv 1) (ci 49) fm) (fC (ag (ci 1) (ag (f2 (gv 2) (ci 1) cW) ae)) maxD) aJ) addA) (gv 2) aJ))) (c6 (cY (av bT 6 (f2 (f2 (gv 1) (ci 343) fm) (ci 12) aJ))) (jO (bn (aS (f2 (gv 6) (ci 7) c9)) (aS (f2 (gv 2) (ci 1) c9))) (kt (ag (gv 3) (ag (gv 4) (ag (gv 5) (ag (f2 (gv 6) (ci 8) c9) ae)))) lA) (c6 (jx 0 (f2 (f2 (gv 0) (gv 3) az) (gv 4) az) (ck (aT (ax 7) (aT (ax 8) cj)))) (d5 (gq (aS (f2 (gv 6) (ci 0) eqD)) (c6 (eL 0 3 4 (cw (ag (f2 (gv 7) (ci 1) addA) (ag (gv 8) ae)))) (fZ 0 ao)) (gq (aS (f2 (gv 6) (ci 1) eqD)) (c6 (eL 0 3 4 (cw (ag (f2 (gv 7) (ci 1) cW) (ag (gv 8) ae)))) (fZ 0 ao)) (gq (aS (f2 (gv 6) (ci 2) eqD)) (c6 (eL 0 3 4 (f2 (f2 (gv 0) (gv 3) az) (gv 5) az)) (c6 (eL 0 3 5 (cw (ag (gv 7) (ag (gv 8) ae)))) (fZ 0 ao))) (fZ 0 (af (bN bc (aS (f2 (gv 6) (ci 3) eqD)) (af (putF bc 0 (gv 3) (f2 (f2 (gv 0) (gv 3) az) (eG (ag (cw (ag (ci 0) (ag (ci 3) ae))) ae)) addA)) ao) (af (bN bc (aS (f2 (gv 6) (ci 4) eqD)) (af (putF bc 0 (gv 3) (dz (f2 (gv 0) (gv 3) az) (fun _=>Res.ok none) (gT (f1 (ci 1) fR)))) ao) (af (bN bc (aS (f2 (gv 6) (ci 5) eqD)) (af (putF bc 0 (gv 3) (f2 (gv 0) (f2 (f2 (gv 3) (ci 1) addA) (gv 2) aJ) az)) ao) (af (bN bc (aS (f2 (gv 6) (ci 6) eqD)) (af (au bc (f2 (gv 0) (f2 (fun r=>(lM (gv 0) (fun _=>Res.ok none) (gT (ci 1)) r).bind fun d=>match d with|.lst ds=>.ok (.lst ds)|_=>.stuck) (f2 (ci 8) (gv 2) cW) ij) catL)) ao) (af (bN bc (aS (f2 (gv 6) (ci 7) eqD)) (af (au bc (eG ae)) ao) ao) ao)) ao)) ao)) ao)) ao))))) (af (au bc (gv 0)) ao)))))))))
def lu:List (List D)->List D->Res D:=fun w ds=>outR true (ni (none::a7 Ae.tail.length ds) w)
theorem GU(T:Txt K mg)(A:DefAt K mg "_law_spoilt" sW)(c__law_handed:CalleeD P w K mg base "_law_handed" sK 4 q0 lA):CalleeD P w K mg base "_law_spoilt" sL 5 [Md.sh] lu:=by
 refine zc (k:=4) (F:=ni) (m':=bc) A jN rfl (fun _ _ _ _ _ _ us hl=>by obtain⟨u0,u1,rfl⟩:=n9 us hl;kernel_rfl) fun f cdv A outer s H g E hr=>?_;have hu1:=jC hr;have hu64:=hr.units;exact(fH (by rfl) (Ef 2 (by decide) (dP (by decide)) jN.nd (by rfl) (gH rfl) (fun _=>(eF (by rfl) T.b_len (bR (ai 0) bW))))
   (fH (by rfl) (j2 (ro:=false) (mb:=bT) (m:=bT) (m':=bT) (fun _=>(ca 3 jN.nd (db (ai 1) (ai 2)))) (by rfl))
   (fH (by rfl) (j2 (ro:=false) (mb:=bT) (m:=bT) (m':=bT) (fun _=>(ca 4 jN.nd (db (bE (ja (ai 1) iB)) (ai 2)))) (by rfl))
   (fH (by rfl) (j2 (ro:=false) (mb:=bT) (m:=bT) (m':=bT) (fun _=>(ca 5 jN.nd (db (bE (c7 (bE (c7 (ai 4) iB)) (bE (db (bE (ja (ai 1) iB)) (bE (BF rfl (by rfl) T.b_max (bR iB (bR (bE (kQ (ai 2) iB)) bW)))))))) (ai 2)))) (by rfl))
   (fH (by rfl) (j2 (ro:=false) (mb:=bT) (m:=bT) (m':=bT) (fun _=>(ca 6 jN.nd (db (bE (ja (ai 1) iB)) iB))) (by rfl))
   (Fg (fun _=>(SW.toQ (iG (eU (ai 6) iB) (kY (eU (ai 2) iB))))) (oU (Fe (by rfl) (by rfl) (bL rfl) c__law_handed (hr.mono (by decide)) (fun _=>(aW (v_ 3) (aW (v_ 4) (aW (v_ 5) (aW (ko (ai 6) iB) bi)))))))
   (fH (by rfl) (yz (dP (by decide)) (fun _=>(gW hu1 (xB hu1 (ai 0) (ai 3)) (ai 4))) (fun _=>(iE rfl (dR (b5 7 jN.nd) (dR (b5 8 jN.nd) iC)))))
   (yF (og (fun _=>(df hu64 (ai 6) iB)) (fH (by rfl) (la 3 4 (by rfl) (dP (by decide)) (by rfl) (by rfl) (by rfl) (bL rfl) (by rfl) (bL rfl) (by rfl) (bL rfl) (fun _=>(dQ (bg (c7 (ai 7) iB) (bg (v_ 8) cf)))))
   (li ay (dP (by decide))))
   (oU (og (fun _=>(df hu64 (ai 6) iB)) (fH (by rfl) (la 3 4 (by rfl) (dP (by decide)) (by rfl) (by rfl) (by rfl) (bL rfl) (by rfl) (bL rfl) (by rfl) (bL rfl) (fun _=>(dQ (bg (kQ (ai 7) iB) (bg (v_ 8) cf)))))
   (li ay (dP (by decide))))
   (oU (og (fun _=>(df hu64 (ai 6) iB)) (fH (by rfl) (la 3 4 (by rfl) (dP (by decide)) (by rfl) (by rfl) (by rfl) (bL rfl) (by rfl) (bL rfl) (by rfl) (bL rfl) (fun _=>(gW hu1 (xB hu1 (ai 0) (ai 3)) (ai 5))))
   (fH (by rfl) (la 3 5 (by rfl) (dP (by decide)) (by rfl) (by rfl) (by rfl) (bL rfl) (by rfl) (bL rfl) (by rfl) (bL rfl) (fun _=>(dQ (bg (v_ 7) (bg (v_ 8) cf)))))
   (li ay (dP (by decide)))))
   (li (am (ba (df hu64 (ai 6) iB) (am (lT 0 hu1 rfl (by rfl) (bL rfl) (ai 3) (c7 (xB hu1 (ai 0) (ai 3)) (SO.toB (iZ (bg (dQ (bg gz (bg gz cf))) cf)))))
   ay)
   (am (ba (df hu64 (ai 6) iB) (am (lT 0 hu1 rfl (by rfl) (bL rfl) (ai 3) (qt (xB hu1 (ai 0) (ai 3)) ou (ox (bE (qq iB)))))
   ay)
   (am (ba (df hu64 (ai 6) iB) (am (lT 0 hu1 rfl (by rfl) (bL rfl) (ai 3) (gW hu1 (ai 0) (bE (db (bE (c7 (ai 3) iB)) (ai 2)))))
   ay)
   (am (ba (df hu64 (ai 6) iB) (am (xF (A5 (ai 0) (SO.toB (A6 (A7 (ai 0) ou (ox iB)) (bE (kQ iB (ai 2)))))))
   ay)
   (am (ba (df hu64 (ai 6) iB) (am (xF (iZ cf))
   ay)
   ay)
   ay))
   ay))
   ay))
   ay))
   ay) (dP (by decide))))))))
   (am (qR 0 rfl (by rfl) (bL rfl))
   ay)))))))))
abbrev tu:Stmt:=top 37
abbrev Aw:List Str:=["_law_rows","_law_cell_here","_law_hand"]
abbrev tN:List Str:=["_law_rows","_law_cell_here"]
theorem Au:FnScope Aw tN (aa tu):=cJ
def lC:FS:=(af (bN il (bn (aS (f2 (fC (ag (gv 0) ae) lenD) (ci 0) c9)) (aS (f2 (f2 (gv 1) (ci 4) aJ) (ci 0) c9))) (af (av il 2 (f2 (f2 (gv 1) (ci 28) fm) (fC (ag (gv 0) ae) lenD) aJ)) (af (putF il 0 (gv 2) (f2 (eG (ag (f2 (f2 (gv 0) (gv 2) az) (eG (ag (cw (ag (ci 0) (ag (ci 3) ae))) ae)) addA) (ag (dz (f2 (gv 0) (gv 2) az) (fun _=>Res.ok none) (gT (ci 1))) (ag (f2 (eG (ag (cw (ag (f1 (ci 1) fR) (ag (ci 1) ae))) ae)) (dz (f2 (gv 0) (gv 2) az) (gT (ci 1)) (fun _=>Res.ok none)) addA) ae)))) (f2 (f2 (gv 1) (ci 4) aJ) (ci 1) cW) az)) ao)) ao) (af (au il (gv 0)) ao))
def lE:List D->Res D:=fun ds=>outR true (lC (a7 (Aw.tail.length+1) ds))
theorem Ir(T:Txt K mg)(A:DefAt K mg "_law_spoilt_more" tu):CalleeU P w K mg base "_law_spoilt_more" tN 1 [Md.sh] lE:=by
 refine Eo (k:=0) (fs:=lC) (m':=il) A Au rfl (by decide) (fun _ _ _ _ _ _ us hl=>by obtain⟨u0,u1,rfl⟩:=n9 us hl;kernel_rfl) fun f cdv A outer s H g E hr=>?_;have hu1:=jC hr;have hu64:=hr.units;exact(am (ba (SW.toQ (iG (eU (bE (eF (by rfl) T.b_len (bR (ai 0) bW))) iB) (kY (eU (bE (db (ai 1) iB)) iB)))) (am (ca 2 Au.nd (db (bE (ja (ai 1) iB)) (bE (eF (by rfl) T.b_len (bR (ai 0) bW)))))
   (am (lT 0 hu1 rfl (by rfl) (bL rfl) (ai 2) (gW hu1 (SO.toB (iZ (bg (c7 (xB hu1 (ai 0) (ai 2)) (SO.toB (iZ (bg (dQ (bg gz (bg gz cf))) cf)))) (bg (qt (xB hu1 (ai 0) (ai 2)) ou (ox iB)) (bg (c7 (SO.toB (iZ (bg (dQ (bg (qq iB) (bg gz cf))) cf))) (bE (qt (xB hu1 (ai 0) (ai 2)) (ox iB) ou))) cf))))) (bE (kQ (bE (db (ai 1) iB)) iB))))
   ay))
   ay)
   (am (qR 0 rfl (by rfl) (bL rfl))
   ay))
abbrev tt:Stmt:=top 30
abbrev Av:List Str:=["_law_found","_law_one"]
abbrev tK:List Str:=["_law_found"]
theorem At:FnScope Av tK (aa tt):=cJ
abbrev Aq:FS:=(af (bN fP (eI (bG (aR (f1 (gv 1) (dh "int")))) (aR (f1 (gv 1) (dh "bool")))) (af (au fP (fun _=>Res.ok (D.bl false))) ao) ao) ao)
def tH:FS:=(af (bN fP (eI (bG (aR (f1 (gv 0) (dh "tuple")))) (aS (f2 (fC (ag (gv 0) ae) lenD) (ci 2) neD))) (af (au fP (fun _=>Res.ok (D.bl false))) ao) ao) (af (dE fP (aV cg (gv 0)) (ax 1) Aq) (af (au fP (cV (f2 (f2 (gv 0) (ci 1) az) (ci 0) c9) (f2 (aM (ag (f2 (gv 0) (ci 0) az) (ag (f2 (gv 0) (ci 1) az) ae)) [] lz) (ci 1) eqD))) ao)))
def pP:List D->Res D:=fun ds=>outR false (tH (a7 Av.length ds))
theorem Iq(T:Txt K mg)(A:DefAt K mg "_law_is_fraction" tt)(c__law_common:Callee P w K mg base "_law_common" pC [] 1 false bM lz):Callee P w K mg base "_law_is_fraction" tK [] 2 false [Md.bw] pP:=
 dF (m':=fP) A At fun f cdv A outer s H g E hr hu1=>have hu64:=hr.units;(am (ba (SW.toQ (de (fq (dq (bE (iH "tuple" "tuple" rfl (lg _) (by rfl) T.b_isinstance (by rfl) T.b_tuple (ai 0))))) (i3 (eR hu64 (bE (eF (by rfl) T.b_len (bR (ai 0) bW))) iB)))) (am (bX d6)
   ay)
   ay)
   (am (oH Jw rfl (gl (ai 0)) (fun _=>(b5 1 At.nd)) (fun _=>(am (ba (SW.toQ (de (fq (dq (bE (iH "int" "int" rfl (yO _) (by rfl) T.b_isinstance (by rfl) T.b_int (ai 1))))) (i3 (dq (bE (iH "bool" "bool" rfl (yW _) (by rfl) T.b_isinstance (by rfl) T.b_bool (ai 1))))))) (am (bX d6)
   ay)
   ay)
   ay)))
   (am (bX (jS (ko (xB hu1 (ai 0) iB) iB) (kP (gG hu64 (bE (bI c__law_common (aW (gW hu1 (ai 0) iB) (aW (gW hu1 (ai 0) iB) bi)))) iB))))
   ay)))
abbrev nc:Stmt:=top 31
abbrev pS:List Str:=["_law_found","_law_n","_law_m","_law_row_here"]
abbrev tm:List Str:=["_law_found","_law_n","_law_m"]
theorem sX:FnScope pS tm (aa nc):=cJ
abbrev Ai:FS:=(af (bN fO (eI (bG (aR (f1 (gv 3) (dh "tuple")))) (eI (aS (f2 (fC (ag (gv 3) ae) lenD) (gv 2) neD)) (bG (aR (fC (ag (dC 1 [] (aV cg (gv 3)) (ax 0) (fun _=>Res.ok true) (aM (ag (gv 0) ae) [] pP)) ae) allD))))) (af (au fO (fun _=>Res.ok (D.bl false))) ao) ao) ao)
def td:FS:=(af (bN fO (eI (bG (aR (f1 (gv 0) (dh "tuple")))) (aS (f2 (fC (ag (gv 0) ae) lenD) (gv 1) neD))) (af (au fO (fun _=>Res.ok (D.bl false))) ao) ao) (af (dE fO (aV cg (gv 0)) (ax 3) Ai) (af (au fO (fun _=>Res.ok (D.bl true))) ao)))
def pR:List D->Res D:=fun ds=>outR false (td (a7 pS.length ds))
theorem HX(T:Txt K mg)(A:DefAt K mg "_law_is_table" nc)(c__law_is_fraction:Callee P w K mg base "_law_is_fraction" tK [] 2 false [Md.bw] pP):Callee P w K mg base "_law_is_table" tm [] 3 false [.bw,.bw,.bw] pR:=
 dF (m':=fO) A sX fun f cdv A outer s H g E hr hu1=>have hu64:=hr.units;(am (ba (SW.toQ (de (fq (dq (bE (iH "tuple" "tuple" rfl (lg _) (by rfl) T.b_isinstance (by rfl) T.b_tuple (ai 0))))) (i3 (eR hu64 (bE (eF (by rfl) T.b_len (bR (ai 0) bW))) (ai 1))))) (am (bX d6)
   ay)
   ay)
   (am (oH Jw rfl (gl (ai 0)) (fun _=>(b5 3 sX.nd)) (fun _=>(am (ba (SW.toQ (de (fq (dq (bE (iH "tuple" "tuple" rfl (lg _) (by rfl) T.b_isinstance (by rfl) T.b_tuple (ai 3))))) (de (eR hu64 (bE (eF (by rfl) T.b_len (bR (ai 3) bW))) (ai 2)) (i3 (fq (dq (bE (wT rfl (by rfl) T.b_all (bR (SO.toB (i8 (X:=(a9 bP P w K mg base pS "_law_is_table" (aa nc) f cdv A outer s H E).nox) (N':=["_law_one"]) (nl:=1) (cap:=[]) sX.nd rfl (g5 (osc:=(aa nc)) (ON:=pS) rfl rfl (by decide+kernel)) (gl (ai 3)) (fun _ _ _ _ _ _=>(b5 0 (show J9 (["_law_one"]:List Str)by decide+kernel))) (gj (by decide)) (fun _ _ _ _ _ _=>g4) (fun _ _ _ _ _ _=>(bI c__law_is_fraction (aw (ai 0) bi))))) bW))))))))) (am (bX d6)
   ay)
   ay)
   ay)))
   (am (bX d6)
   ay)))
abbrev l7:Stmt:=top 41
abbrev oa:List Str:=["_law_script","_law_n","_law_many","_law_table","_law_rows","_law_handed_in","_law_due_here","_law_found"]
abbrev vX:List Str:=["_law_script"]
theorem iM:FnScope oa vX (aa l7):=cJ
def nS:FS:=(af (av d7 1 (f2 (ci 1) (f2 (aM (ag (gv 0) (ag (ci 1) ae)) [] dG) (ci 7) aJ) addA)) (af (av d7 2 (f2 (ci 1) (f2 (f2 (aM (ag (gv 0) (ag (ci 1) ae)) [] dG) (ci 7) fm) (ci 9) aJ) addA)) (af (av d7 3 (aM (ag (aM (ag (gv 0) (ag (ci 3) (ag (gv 1) (ag (gv 2) ae)))) [] pL) (ag (gv 1) ae)) [] pK)) (lV (mq 4 (ag (gv 3) (ag (aM (ag (gv 0) (ag (ci 2) ae)) [] dG) ae)) pJ) (d5 (gq (aS (f2 (f2 (f2 (aM (ag (gv 0) (ag (ci 1) ae)) [] dG) (ci 63) fm) (ci 4) aJ) (ci 0) c9)) (kn 4 (ag (f2 (aM (ag (gv 0) (ag (ci 2) ae)) [] dG) (ci 5) fm) ae) lu) (fZ 4 ao)) (af (bN jj (aS (f2 (f2 (f2 (aM (ag (gv 0) (ag (ci 1) ae)) [] dG) (ci 63) fm) (ci 4) aJ) (ci 3) eqD)) (af (gF 4 (ag (aM (ag (gv 0) (ag (ci 22) ae)) [] dG) ae) lE) ao) ao) (af (av jj 5 (dC 1 [] (aV cg (gv 4)) (ax 0) (fun _=>Res.ok true) (fC (ag (gv 0) ae) jX))) (af (av [.sh,.sh,.sh,.sh,.sh,.ow,.sh,.sh] 6 (aM (ag (gv 4) ae) [] lj)) (af (av d7 7 (aM (ag (gv 5) ae) [] kj)) (af (bN d7 (bn (aR (f1 (gv 6) (dh "tuple"))) (bn (aS (f2 (fC (ag (gv 6) ae) lenD) (gv 1) eqD)) (bn (aR (f1 (f2 (gv 6) (ci 0) az) (dh "tuple"))) (bG (aR (aM (ag (gv 7) (ag (gv 1) (ag (gv 1) ae))) [] pR)))))) (af (au d7 (fun _=>Res.ok (D.bl false))) ao) ao) (af (au d7 (cV (f2 (gv 7) (gv 6) eqD) (f2 (gv 5) (gv 4) eqD))) ao)))))))))))
def qe:List D->Res D:=fun ds=>outR false (nS (a7 oa.length ds))
theorem Bg(T:Txt K mg){fa:Addr}{fd:JP}(A:Fun K "law" "law" l7 fa fd)(c__law_cell:Callee P w K mg base "_law_cell" pq [] 1 false bd dG)(c__law_parts:Callee P w K mg base "_law_parts" sS [] 3 false [.bw,.bw,.bw,.bw] pL)(c__law_mixed:Callee P w K mg base "_law_mixed" sR [] 4 false bd pK)(c__law_spoilt:CalleeD P w K mg base "_law_spoilt" sL 5 [Md.sh] lu)(c__law_spoilt_more:CalleeU P w K mg base "_law_spoilt_more" tN 1 [Md.sh] lE)(c__law_due:Callee P w K mg base "_law_due" sD [] 5 false [Md.sh] lj)(c__law_asked_of:Callee P w K mg base "_law_asked_of" tj [] 8 false [Md.sh] kj)(c__law_is_table:Callee P w K mg base "_law_is_table" tm [] 3 false [.bw,.bw,.bw] pR)(c__law_lists:CalleeR P w K mg base "_law_lists" sQ 1 bM pJ):FnOk P w K mg base bP 9 fa fd vX (iR K false [Md.sh] qe):=by
 refine xU (k:=8) (fs:=nS) (m':=d7) A iM rfl fun cdv A outer s H g E hr=>?_;have hu1:=jC hr;have hu64:=hr.units;exact(am (ca 1 iM.nd (c7 iB (bE (db (bE (bI c__law_cell (aw (ai 0) (aw iB bi)))) iB))))
   (am (ca 2 iM.nd (c7 iB (bE (db (bE (ja (bE (bI c__law_cell (aw (ai 0) (aw iB bi)))) iB)) iB))))
   (am (ca 3 iM.nd (bI c__law_mixed (aw (bE (bI c__law_parts (aw (ai 0) (aw iB (aw (ai 1) (aw (ai 2) bi)))))) (aw (ai 1) bi))))
   (DC (i:=4) (by rfl) (Hc 4 (m:=d7) (by decide) iM.nd (by rfl) (gH rfl) c__law_lists (hr.mono (by decide)) (aW (v_ 3) (aW (bI c__law_cell (aw (ai 0) (aw iB bi))) bi)))
   (yF (og (fun _=>(eU (bE (db (bE (ja (bE (bI c__law_cell (aw (ai 0) (aw iB bi)))) iB)) iB)) iB)) (oU (Ff (by rfl) (dP (by decide)) iM.nd (by rfl) (gH rfl) (bL rfl) c__law_spoilt (hr.mono (by decide)) (fun _=>(aW (ja (bE (bI c__law_cell (aw (ai 0) (aw iB bi)))) iB) bi))))
   (li ay (dP (by decide))))
   (am (ba (df hu64 (bE (db (bE (ja (bE (bI c__law_cell (aw (ai 0) (aw iB bi)))) iB)) iB)) iB) (am (Dw (by rfl) iM.nd (by rfl) (gH rfl) (bL rfl) c__law_spoilt_more (hr.mono (by decide)) (aW (bI c__law_cell (aw (ai 0) (aw iB bi))) bi))
   ay)
   ay)
   (am (rY 5 (X:=(a9 bP P w K mg base oa "law" (aa l7) fa cdv A outer s H E).nox) (m:=jj) (N':=["_law_row_here"]) (nl:=1) (cap:=[]) iM.nd rfl (by rfl) (by rfl) (g5 (osc:=(aa l7)) (ON:=oa) rfl rfl (by decide+kernel)) (gl (ai 4)) (fun _ _ _ _ _ _=>(b5 0 (show J9 (["_law_row_here"]:List Str)by decide+kernel))) (gj (by decide)) (fun _ _ _ _ _ _=>g4) (fun _ _ _ _ _ _=>(SO.toE (CW (by rfl) T.b_list (bR (ai 0) bW)))))
   (am (qp 4 rfl (ca 6 iM.nd (bI c__law_due (aW (v_ 4) bi))))
   (am (qp 5 rfl (ca 7 iM.nd (bI c__law_asked_of (aW (v_ 5) bi))))
   (am (ba (SW.toQ (iG (dq (bE (iH "tuple" "tuple" rfl (lg _) (by rfl) T.b_isinstance (by rfl) T.b_tuple (ai 6)))) (iG (df hu64 (bE (eF (by rfl) T.b_len (bR (ai 6) bW))) (ai 1)) (iG (dq (bE (iH "tuple" "tuple" rfl (lg _) (by rfl) T.b_isinstance (by rfl) T.b_tuple (xB hu1 (ai 6) iB)))) (kY (fq (dq (bE (bI c__law_is_table (aw (ai 7) (aw (ai 1) (aw (ai 1) bi)))))))))))) (am (bX d6)
   ay)
   ay)
   (am (bX (jS (gG hu64 (ai 7) (ai 6)) (kP (gG hu64 (ai 5) (ai 4)))))
   ay)))))))))))
end Law
namespace Law
open PySem L2 DL
abbrev nD(k:Nat):D:=.int (k:Int)
abbrev LN(l:List Nat):D:=.lst (l.map nD)
abbrev TN(l:List Nat):D:=.tup (l.map nD)
def oD:Option Nat->D
|none=>.non
|some k=>nD k
theorem fL{ds:List D}(h:ds.length<=1000):sz ds=some ds:=BO (JE h (by rw[Jz];decide))
@[simp] theorem addA_int(a b:Int):addA (.int a) (.int b)=some (.int (a+b)):=rfl
theorem k8{a b:Int}(h:fY a b):bj (.int a) (.int b)=some (.int (a*b)):=by rw[bj,intsC_int,if_pos h]
theorem rH{a b:Int}(h:0<b):aJ (.int a) (.int b)=some (.int (a%b)):=by rw[aJ,intsC_int,if_pos h]
theorem F3{a b:Int}(h:gQ a b):fm (.int a) (.int b)=some (.int (a/b)):=by rw[fm,intsC_int,if_pos h]
theorem aE{s1 s2:FS}{r r':ah}(h:s1 r=.nx r'):af s1 s2 r=s2 r':=by unfold af;rw[h]
theorem aX{s1 s2:FS}{r:ah}{d:D}(h:s1 r=.rt d):af s1 s2 r=.rt d:=by unfold af;rw[h]
theorem cb{m:List Md}{i:Nat}{f:FE}{r:ah}{d:D}(h:f r=.ok d):av m i f r=.nx (r.set i (some d)):=by unfold av;rw[h];rfl
theorem b4{m:List Md}{f:FE}{r:ah}{d:D}(h:f r=.ok d):au m f r=.rt d:=by unfold au;rw[h];rfl
theorem vV{m:List Md}{p:FQ}{s1 s2:FS}{r:ah}{b:Bool}(h:p r=.ok b):bN m p s1 s2 r=if b=true then s1 r else s2 r:=by unfold bN;rw[h];rfl
theorem bU{m:List Md}{p:FQ}{s1 s2:FS}{r:ah}(h:p r=.ok true):bN m p s1 s2 r=s1 r:=by rw[vV h,if_pos rfl]
theorem aL{m:List Md}{p:FQ}{s1 s2:FS}{r:ah}(h:p r=.ok false):bN m p s1 s2 r=s2 r:=by rw[vV h,if_neg l_]
theorem dS{fl:ah->Res (List D)}{r:ah}{ds:List D}(h:fl r=.ok ds)(hl:ds.length<=1000):cw fl r=.ok (.tup ds):=by unfold cw;rw[h,bind_ok,fL hl];rfl
theorem i7{fl:ah->Res (List D)}{r:ah}{ds:List D}(h:fl r=.ok ds)(hl:ds.length<=1000):eG fl r=.ok (.lst ds):=by unfold eG;rw[h,bind_ok,fL hl];rfl
theorem rj{ds:List D}{d:D}(h:ds.length<=1000):appD (.lst ds) [d]=some (.lst (ds++[d])):=by show(if ds.length<sizeLine then some (D.lst (ds++[d]))else none)=_;rw[if_pos (by rw[Jz];omega)]
theorem bQ{fl:ah->Res (List D)}{dds zs:List D}{F:List D->Res D}{r:ah}{d:D}(h1:fl r=.ok zs)(h2:F (zs++dds)=.ok d):aM fl dds F r=.ok d:=by unfold aM;rw[h1,bind_ok,h2];rfl
theorem du{f:FE}{k:D->Option D}{r:ah}{a d:D}(h1:f r=.ok a)(h2:k a=some d):f1 f k r=.ok d:=by unfold f1;rw[h1,bind_ok,h2];rfl
theorem ak{f f':FE}{k:D->D->Option D}{r:ah}{a b d:D}(h1:f r=.ok a)(h2:f' r=.ok b)(h3:k a b=some d):f2 f f' k r=.ok d:=by unfold f2;rw[h1,bind_ok,h2,bind_ok,h3];rfl
theorem b3{fl:ah->Res (List D)}{k:List D->Option D}{r:ah}{ds:List D}{d:D}(h1:fl r=.ok ds)(h2:k ds=some d):fC fl k r=.ok d:=by unfold fC;rw[h1,bind_ok,h2];rfl
theorem aj{f:FE}{fl:ah->Res (List D)}{r:ah}{d:D}{ds:List D}(h1:f r=.ok d)(h2:fl r=.ok ds):ag f fl r=.ok (d::ds):=by unfold ag;rw[h1,bind_ok,h2];rfl
theorem aq{r:ah}:ae r=.ok []:=rfl
theorem bV{f:FE}{r:ah}{b:Bool}(h:f r=.ok (.bl b)):aS f r=.ok b:=by unfold aS;rw[h];rfl
theorem cm{f:FE}{r:ah}{d:D}{b:Bool}(h:f r=.ok d)(h2:gD d=some b):aR f r=.ok b:=by unfold aR;rw[h,bind_ok,h2];rfl
theorem dU{p:FQ}{r:ah}{b:Bool}(h:p r=.ok b):bG p r=.ok (! b):=by unfold bG;rw[h];rfl
theorem f8{p q:FQ}{r:ah}(h:p r=.ok true):bn p q r=q r:=by unfold bn;rw[h];rfl
theorem iJ{p q:FQ}{r:ah}(h:p r=.ok false):bn p q r=.ok false:=by unfold bn;rw[h];rfl
theorem kx{p q:FQ}{r:ah}(h:p r=.ok true):eI p q r=.ok true:=by unfold eI;rw[h];rfl
theorem cG{p q:FQ}{r:ah}(h:p r=.ok false):eI p q r=q r:=by unfold eI;rw[h];rfl
theorem kZ{f f':FE}{r:ah}(h:f r=.ok (.bl true)):cV f f' r=f' r:=by unfold cV;rw[h];rfl
theorem xL{f f':FE}{r:ah}(h:f r=.ok (.bl false)):cV f f' r=.ok (.bl false):=by unfold cV;rw[h];rfl
theorem E5{f:FE}{r:ah}{b:Bool}(h:f r=.ok (.bl b)):gB f r=.ok (.bl (! b)):=by unfold gB;rw[h];rfl
theorem dX{m:List Md}{fi:FI}{ft:FT}{b:FS}{r:ah}{ds:List D}(h:fi r=.ok ds):dE m fi ft b r=aF ft b ds r:=by unfold dE;rw[h];rfl
theorem fu{f:FE}{r:ah}{d:D}{ds:List D}(h:f r=.ok d)(h2:cg d=some ds):aV cg f r=.ok ds:=by unfold aV;rw[h,bind_ok,h2];rfl
theorem gA{ft:FT}{b:FS}{r:ah}:aF ft b [] r=.nx r:=by unfold aF;rfl
theorem gi{ft:FT}{b:FS}{r r1 r':ah}{d:D}{ds:List D}(h1:ft d r=some r1)(h2:b r1=.nx r'):aF ft b (d::ds) r=aF ft b ds r':=by
 conv=>lhs;unfold aF
 simp only[h1,h2]
theorem l6{ft:FT}{b:FS}{r r1:ah}{d v:D}{ds:List D}(h1:ft d r=some r1)(h2:b r1=.rt v):aF ft b (d::ds) r=.rt v:=by
 conv=>lhs;unfold aF
 simp only[h1,h2]
theorem E6{m:List Md}{p:FQ}{b:FS}{n:Nat}{r:ah}(h:p r=.ok false):eN m p b (n+1) r=.nx r:=by unfold eN;rw[h];rfl
theorem E7{m:List Md}{p:FQ}{b:FS}{n:Nat}{r r':ah}(h:p r=.ok true)(h2:b r=.nx r'):eN m p b (n+1) r=eN m p b n r':=by
 conv=>lhs;unfold eN
 rw[h,onE_ok,if_pos rfl,h2]
theorem on{T:String}{m:List Md}{i:Nat}{fl:ah->Res (List D)}{mk:D->List D->Option D}{r:ah}{d d':D}{ds:List D}(h1:r[i]? = some (some d))(h2:pV T d=true)(h3:fl r=.ok ds)(h4:mk d ds=some d'):d8 T m i fl mk r=.nx (r.set i (some d')):=by unfold d8;rw[h1];simp only[h2,if_true,h3,onE_ok,h4]
theorem qZ{m:List Md}{i:Nat}{fk fv:FE}{r:ah}{d k v d':D}(h1:r[i]? = some (some d))(h2:fv r=.ok v)(h3:fk r=.ok k)(h4:fM d k v=some d'):DL.putF m i fk fv r=.nx (r.set i (some d')):=by unfold DL.putF;rw[h2,onE_ok];simp only[h1,h3,onE_ok,h4]
theorem Gw{ft:FT}{q:FQ}{fe:FE}{r0:ah}:fy ft q fe r0 []=.ok []:=by unfold fy;rfl
theorem zt{ft:FT}{q:FQ}{fe:FE}{r0:ah}{α:Type}(e:α->D)(keep:α->Bool)(g:α->D):∀(l:List α),(∀a∈l,∃r1,ft (e a) r0=some r1/\q r1=.ok (keep a)/\(keep a=true->fe r1=.ok (g a)))->fy ft q fe r0 (l.map e)=.ok ((l.filter keep).map g)
|[],_=>Gw
|a::l,h=>by
  obtain⟨r1,h1,h2,h3⟩:=h a k_;have ih:=zt (ft:=ft) (q:=q) (fe:=fe) (r0:=r0) e keep g l fun b hb=>h b (h_ _ hb);rw[A_]
  conv=>lhs;unfold fy
  rw[h1,opt_some,bind_ok,h2,bind_ok];cases k:keep a with
 |true=>rw[if_pos rfl,h3 k,bind_ok,ih,bind_ok,KJ,if_pos k];rfl
 |false=>rw[if_neg l_,ih,KJ,if_neg (by rw[k];exact l_)]
theorem Do{nl:Nat}{cap:List Nat}{fi:FI}{ft:FT}{q:FQ}{fe:FE}{r:ah}{α:Type}{l:List α}(e:α->D)(keep:α->Bool)(g:α->D)(h1:fi r=.ok (l.map e))(hl:l.length<=1000)(h:∀a∈l,∃r1,ft (e a) (bp nl cap r)=some r1/\q r1=.ok (keep a)/\(keep a=true->fe r1=.ok (g a))):dC nl cap fi ft q fe r=.ok (.lst ((l.filter keep).map g)):=by unfold dC;rw[h1,bind_ok,fL (by simpa using hl),opt_some,bind_ok,zt e keep g l h,noXL_ok,bind_ok]
theorem lZ(a b:Nat):hJ (nD a) (nD b)=some (.bl (decide (a<b))):=by show some (D.bl (decide ((a:Int)<(b:Int))))=_;simp only[PM]
theorem gU(a b:Nat):c9 (nD a) (nD b)=some (.bl (decide (b<a))):=by show some (D.bl (decide ((b:Int)<(a:Int))))=_;simp only[PM]
theorem i5(a b:Nat):eqD (nD a) (nD b)=some (.bl (decide (a=b))):=by
 unfold eqD;rw[eqB_int];show some (D.bl ((a:Int)==(b:Int)))=_;have:((a:Int)==(b:Int))=decide (a=b):=by rw[JY,beq_iff_eq,decide_eq_true_iff];exact Pr
 rw[this]
theorem lU(a b:Nat):neD (nD a) (nD b)=some (.bl (! decide (a=b))):=by
 unfold neD;rw[eqB_int];show some (D.bl (!((a:Int)==(b:Int))))=_;have:((a:Int)==(b:Int))=decide (a=b):=by rw[JY,beq_iff_eq,decide_eq_true_iff];exact Pr
 rw[this]
theorem dv{B:FS}{n:Nat}{ds:List D}{d:D}(h:B (a7 n ds)=.rt d):outR false (B (a7 n ds))=.ok d:=by rw[h];rfl
@[simp] theorem e_seq(s1 s2:FS)(r:ah):af s1 s2 r=(match s1 r with|.nx r'=>s2 r'|o=>o):=rfl
@[simp] theorem e_skip(r:ah):ao r=.nx r:=rfl
@[simp] theorem e_set(m:List Md)(i:Nat)(f:FE)(r:ah):av m i f r=eY m r (f r) fun d=>.nx (r.set i (some d)):=rfl
@[simp] theorem e_ret(m:List Md)(f:FE)(r:ah):au m f r=eY m r (f r) fun d=>.rt d:=rfl
@[simp] theorem e_if(m:List Md)(p:FQ)(s1 s2:FS)(r:ah):bN m p s1 s2 r=eY m r (p r) fun c=>if c=true then s1 r else s2 r:=rfl
@[simp] theorem e_getV(r:ah)(i:Nat):cz r i=(match r[i]? with|some (some d)=>.ok d|_=>.stuck):=rfl
@[simp] theorem e_f1(f:FE)(k:D->Option D)(r:ah):f1 f k r=(f r).bind fun d=>cn (k d):=rfl
@[simp] theorem e_f2(f f':FE)(k:D->D->Option D)(r:ah):f2 f f' k r=(f r).bind fun a=>(f' r).bind fun b=>cn (k a b):=rfl
@[simp] theorem e_fC(fl:ah->Res (List D))(k:List D->Option D)(r:ah):fC fl k r=(fl r).bind fun ds=>cn (k ds):=rfl
@[simp] theorem e_lN(r:ah):ae r=.ok []:=rfl
@[simp] theorem e_lC(f:FE)(fl:ah->Res (List D))(r:ah):ag f fl r=(f r).bind fun d=>(fl r).bind fun ds=>.ok (d::ds):=rfl
@[simp] theorem e_test(f:FE)(r:ah):aS f r=(f r).bind fun d=>cn (iS d):=rfl
@[simp] theorem e_tru(f:FE)(r:ah):aR f r=(f r).bind fun d=>cn (gD d):=rfl
@[simp] theorem e_not(p:FQ)(r:ah):bG p r=(p r).bind fun c=>.ok (! c):=rfl
@[simp] theorem e_and(p q:FQ)(r:ah):bn p q r=(p r).bind fun c=>if c=true then q r else .ok false:=rfl
@[simp] theorem e_or(p q:FQ)(r:ah):eI p q r=(p r).bind fun c=>if c=true then .ok true else q r:=rfl
@[simp] theorem e_vand(f f':FE)(r:ah):cV f f' r=(f r).bind fun d=>(cn (iS d)).bind fun c=>if c=true then f' r else .ok (.bl false):=rfl
@[simp] theorem e_vor(f f':FE)(r:ah):IT f f' r=(f r).bind fun d=>(cn (iS d)).bind fun c=>if c=true then .ok (.bl true)else f' r:=rfl
@[simp] theorem e_vnot(f:FE)(r:ah):gB f r=(f r).bind fun d=>(cn (iS d)).bind fun c=>.ok (.bl (! c)):=rfl
@[simp] theorem e_fIf(p:FQ)(f f':FE)(r:ah):Jn p f f' r=(p r).bind fun c=>if c=true then f r else f' r:=rfl
@[simp] theorem e_call(fl:ah->Res (List D))(dds:List D)(F:List D->Res D)(r:ah):aM fl dds F r=(fl r).bind fun ds=>lL (F (ds++dds)):=rfl
@[simp] theorem e_asB(b:Bool):iS (.bl b)=some b:=rfl
@[simp] theorem e_truB(b:Bool):gD (.bl b)=some b:=rfl
@[simp] theorem e_truL(ds:List D):gD (.lst ds)=some (! ds.isEmpty):=rfl
@[simp] theorem e_loop(m:List Md)(fi:FI)(ft:FT)(b:FS)(r:ah):dE m fi ft b r=eY m r (fi r) fun ds=>aF ft b ds r:=rfl
@[simp] theorem e_fSeq(k:D->Option (List D))(f:FE)(r:ah):aV k f r=(f r).bind fun d=>cn (k d):=rfl
@[simp] theorem e_asL(ds:List D):cg (.lst ds)=some ds:=rfl
@[simp] theorem e_asT(ds:List D):cg (.tup ds)=some ds:=rfl
@[simp] theorem e_mkT(fl:ah->Res (List D))(r:ah):cw fl r=(fl r).bind fun ds=>(cn (sz ds)).bind fun ds=>.ok (.tup ds):=rfl
@[simp] theorem e_mkL(fl:ah->Res (List D))(r:ah):eG fl r=(fl r).bind fun ds=>(cn (sz ds)).bind fun ds=>.ok (.lst ds):=rfl
@[simp] theorem e_sz0:sz []=some []:=fL (by simp)
@[simp] theorem e_sz1(a:D):sz [a]=some [a]:=fL (by simp)
@[simp] theorem e_sz2(a b:D):sz [a,b]=some [a,b]:=fL (by simp)
@[simp] theorem e_sz3(a b c:D):sz [a,b,c]=some [a,b,c]:=fL (by simp)
@[simp] theorem e_lenL(ds:List D):lenD [.lst ds]=some (.int ds.length):=rfl
@[simp] theorem e_lenT(ds:List D):lenD [.tup ds]=some (.int ds.length):=rfl
@[simp] theorem e_lenK(ds:List (aH×D)):lenD [.dic ds]=some (.int ds.length):=rfl
@[simp] theorem e_tupL(ds:List D):tupD [.lst ds]=some (.tup ds):=rfl
@[simp] theorem e_listL(ds:List D):jX [.lst ds]=some (.lst ds):=rfl
@[simp] theorem e_listT(ds:List D):jX [.tup ds]=some (.lst ds):=rfl
@[simp] theorem e_isNN:AE .non .non=some (.bl true):=rfl
@[simp] theorem e_isLN(ds:List D):AE (.lst ds) .non=some (.bl false):=rfl
@[simp] theorem e_isn1:gI .non .non=some (.bl false):=rfl
@[simp] theorem e_isn2(i:Int):gI (.int i) .non=some (.bl true):=rfl
@[simp] theorem e_isn3(ds:List D):gI (.tup ds) .non=some (.bl true):=rfl
@[simp] theorem e_valsD(kvs:List (aH×D)):BX (.dic kvs)=some (.lst (kvs.map (·.2))):=rfl
theorem lS{ds:List D}{i:Nat}{d:D}(h:ds[i]? = some d):az (.tup ds) (nD i)=some d:=by have hl:i<ds.length:=(f_.mp h).1;show dY ds (i:Int)=some d;unfold dY c8;rw[if_pos (Mw i),if_pos (by omega)];simpa using h
theorem iY{ds:List D}{i:Nat}{d:D}(h:ds[i]? = some d):az (.lst ds) (nD i)=some d:=by have hl:i<ds.length:=(f_.mp h).1;show dY ds (i:Int)=some d;unfold dY c8;rw[if_pos (Mw i),if_pos (by omega)];simpa using h
@[simp] theorem ixA_L0(d:D)(ds:List D):az (.lst (d::ds)) (.int 0)=some d:=iY (i:=0) rfl
@[simp] theorem ixA_T0(d:D)(ds:List D):az (.tup (d::ds)) (.int 0)=some d:=lS (i:=0) rfl
theorem rM{α:Type}(f:α->D)(l:List α):lenD [.tup (l.map f)]=some (nD l.length):=by show some (D.int ((l.map f).length:Int))=_;rw[n_]
theorem j7{α:Type}(f:α->D)(l:List α):lenD [.lst (l.map f)]=some (nD l.length):=by show some (D.int ((l.map f).length:Int))=_;rw[n_]
theorem F0(n:Nat):eqD (nD n) (nD n)=some (.bl true):=by have e:=i5 n n;rw[decide_eq_true rfl]at e;exact e
theorem Cz(n:Nat):eQ 0 n=(q_ n).map nD:=by unfold eQ;refine KH fun i _=>?_;show D.int (0+(i:Int))=D.int (i:Int);rw[Int.zero_add]
theorem D9(j:Int):cX [.int j]=if-(2^62)<=j/\j<2^62 then some (eQ 0 j.toNat)else none:=rfl
theorem i9{n:Nat}(h:n<=1000):cX [nD n]=some ((q_ n).map nD):=by rw[D9,if_pos ⟨by omega,by omega⟩,LM,Cz]
theorem jd{fl:ah->Res (List D)}{k:List D->Option (List D)}{r:ah}{ds es:List D}(h1:fl r=.ok ds)(h2:k ds=some es):di k fl r=.ok es:=by unfold di;rw[h1,bind_ok,h2];rfl
def own(oz:List (Option Nat))(h:Nat):Option Nat:=(oz[h]?).join
def putN(kvs:List (Nat×Nat))(k v:Nat):List (Nat×Nat):=if k∈kvs.map (·.1)then kvs.map fun p=>if p.1=k then(p.1,v)else p else kvs++[(k,v)]
theorem Hs(kvs:List (Nat×Nat))(k v j:Nat):j∈(putN kvs k v).map (·.1)↔j∈kvs.map (·.1)\/j=k:=by
 unfold putN;by_cases h:k∈kvs.map (·.1)
 .rw[if_pos h,Km];have:((fun p:Nat×Nat=>p.1)∘fun p=>if p.1=k then(p.1,v)else p)=fun p=>p.1:=by funext p;simp only[NE];split <;> rfl
  rw[this];constructor
  .exact .inl
  .rintro(z|rfl)
   .exact z
   .exact h
 .rw[if_neg h];simp
theorem FJ{kvs:List (Nat×Nat)}{k v:Nat}{f:Nat->Nat}(h:∀p∈kvs,p.2=f p.1)(hv:v=f k):∀p∈putN kvs k v,p.2=f p.1:=by
 intro p hp;unfold putN at hp;split at hp
 .obtain⟨q,h1,rfl⟩:=JL.mp hp;split
  .rename_i e;simp only;rw[e];exact hv
  .exact h q h1
 .rcases JS.mp hp with z|z
  .exact h p z
  .rw[E_.mp z];exact hv
structure GI(t:Nat->Nat)(kvs:List (Nat×Nat))(L:List Nat):Prop where
 nd:(kvs.map (·.1)).Nodup
 val:∀p∈kvs,p.2=t p.1
 key:∀h,h∈kvs.map (·.1)↔h∈L
theorem D4{kvs:List (Nat×Nat)}{k v:Nat}(h:(kvs.map (·.1)).Nodup):((putN kvs k v).map (·.1)).Nodup:=by
 unfold putN;split
 .rw[Km];have:((fun p:Nat×Nat=>p.1)∘fun p=>if p.1=k then(p.1,v)else p)=fun p=>p.1:=by funext p;simp only[NE];split <;> rfl
  rw[this];exact h
 .rename_i hk;rw[J3];refine List.nodup_append.mpr ⟨h,by simp,fun a ha b hb=>?_⟩;simp at hb
  rintro rfl
  exact hk (hb▸ha)
theorem GI.put{t:Nat->Nat}{kvs:List (Nat×Nat)}{L:List Nat}(g:GI t kvs L)(k:Nat):GI t (putN kvs k (t k)) (L++[k]):=⟨D4 g.nd,FJ g.val rfl,fun h=>by rw[Hs,g.key];simp⟩
theorem GI.len{t:Nat->Nat}{kvs:List (Nat×Nat)}{L line:List Nat}(g:GI t kvs L)(hs:∀h∈L,h∈line):kvs.length<=line.length:=by have:=Rg.zB (m:=line) g.nd fun h hh=>hs h ((g.key h).mp hh);simpa using this
theorem GI.congr{t t':Nat->Nat}{kvs:List (Nat×Nat)}{L:List Nat}(g:GI t kvs L)(h:∀x∈L,t' x=t x):GI t' kvs L:=⟨g.nd,fun p hp=>by rw[g.val p hp,h p.1 ((g.key _).mp (JL.mpr ⟨p,hp,rfl⟩))],g.key⟩
theorem GI.mem{t:Nat->Nat}{kvs:List (Nat×Nat)}{L M:List Nat}(g:GI t kvs L)(h:∀x,x∈L↔x∈M):GI t kvs M:=⟨g.nd,g.val,fun x=>(g.key x).trans (h x)⟩
theorem GI.nil(t:Nat->Nat):GI t [] []:=⟨by simp,fun _ hp=>(nomatch hp),fun h=>by simp⟩
theorem GA{α:Type}(l:List α):l.filter (fun _=>true)=l:=List.filter_eq_self.mpr fun _ _=>rfl
theorem d3{a b:Nat}(h:0<b):aJ (nD a) (nD b)=some (nD (a%b)):=by rw[rH (by omega:(0:Int)<(b:Int))];show some (D.int _)=some (D.int _);rw[Int.natCast_emod]
theorem ia{a b:Nat}(h:0<b)(h2:b<1000):fm (nD a) (nD b)=some (nD (a/b)):=by rw[F3 (⟨by omega,by omega⟩:gQ (a:Int) (b:Int))];show some (D.int _)=some (D.int _);rw[MP]
theorem fF(a b:Nat):addA (nD a) (nD b)=some (nD (a+b)):=by rw[addA_int];show some (D.int _)=some (D.int _);rw[Ng]
section
variable{f f':FE}{r:ah}
theorem kM{b:Int}(h:∃i:Int,f r=.ok (.int i))(h':f' r=.ok (.int b))(hb:0<b):∃c:Nat,f2 f f' aJ r=.ok (nD c):=by obtain⟨i,hi⟩:=h;refine⟨(i%b).toNat,ak hi h' ?_⟩;rw[rH hb];show some (D.int _)=some (D.int _);rw[Mc (Nh _ (by omega))]
theorem AF(h:∃c:Nat,f r=.ok (nD c)):∃i:Int,f r=.ok (.int i):=let⟨c,e⟩:=h;⟨c,e⟩
theorem j3{b:Int}(h:∃i:Int,f r=.ok (.int i))(h':f' r=.ok (.int b))(hb : -(2^64)<b/\b<2^64):∃i:Int,f2 f f' bj r=.ok (.int i):=by obtain⟨i,hi⟩:=h;exact⟨i*b,ak hi h' (k8 (.inr hb))⟩
theorem n5(h:∃i:Int,f r=.ok (.int i))(h':∃i:Int,f' r=.ok (.int i)):∃i:Int,f2 f f' addA r=.ok (.int i):=by obtain⟨i,hi⟩:=h;obtain⟨j,hj⟩:=h';exact⟨i+j,ak hi hj rfl⟩
end
theorem vS{m:List Md}{i:Nat}{f:FE}{s2:FS}{r:ah}(h:∃c:Nat,f r=.ok (nD c))(k:∀c:Nat,∃d:Nat,s2 (r.set i (some (nD c)))=.rt (nD d)):∃d:Nat,af (av m i f) s2 r=.rt (nD d):=by obtain⟨c,hc⟩:=h;obtain⟨d,hd⟩:=k c;exact⟨d,(aE (cb hc)).trans hd⟩
abbrev IN(ns:List Int):D:=.lst (ns.map .int)
theorem mK(ns:List Int)(k:Nat)(hk:k<=1000):∃c:Nat,dG [IN ns,nD k]=.ok (nD c):=by
 suffices h:∃c:Nat,pk (a7 4 [IN ns,nD k])=.rt (nD c)by obtain⟨c,hc⟩:=h;exact⟨c,dv (B:=pk) (n:=4) hc⟩
 unfold pk;have st:af (av dg 2 (ci 0))=af (av dg 2 (fun _=>Res.ok (nD 0))):=rfl;rw[st];refine vS ⟨0,rfl⟩ fun c1=>?_;show ∃d:Nat,af _ _ [some (IN ns),some (nD k),some (nD c1),none]=_;have key:∃c2:Nat,(bN dg (aS (f2 (gv 1) (fC (ag (gv 0) ae) lenD) hJ)) (af (av dg 2 (f2 (f2 (gv 0) (gv 1) az) (f2 (ci 10) (ci 60) ir) aJ)) ao) ao) [some (IN ns),some (nD k),some (nD c1),none]=.nx [some (IN ns),some (nD k),some (nD c2),none]:=by
  have t:=bV (ak (f:=gv 1) (r:=[some (IN ns),some (nD k),some (nD c1),none]) (a:=nD k) rfl (b3 (aj (f:=gv 0) (d:=IN ns) rfl aq) (j7 _ _)) (lZ k ns.length));by_cases hlt:k<ns.length
  .rw[decide_eq_true hlt]at t;have hx:(ns.map D.int)[k]? = some (.int ns[k]):=by rw[s_,m_ hlt];rfl
   have hp:ir (.int 10) (.int 60)=some (.int (10^60)):=by show iF gP _ _ _=_;rw[intsC_int,if_pos (by unfold gP;decide)];rfl
   obtain⟨c2,h2⟩:=kM (f:=f2 (gv 0) (gv 1) az) (f':=f2 (ci 10) (ci 60) ir) (r:=[some (IN ns),some (nD k),some (nD c1),none]) ⟨ns[k],ak (a:=IN ns) (b:=nD k) rfl rfl (iY hx)⟩ (ak rfl rfl hp) (by decide);exact⟨c2,(bU t).trans ((aE (cb h2)).trans rfl)⟩
  .rw[decide_eq_false hlt]at t;exact⟨c1,(aL t).trans rfl⟩
 obtain⟨c2,h2⟩:=key;rw[aE h2];have kq:∃b,(bn (aS (f2 (fC (ag (gv 0) ae) lenD) (ci 0) c9)) (aS (f2 (f2 (f2 (gv 0) (ci 0) az) (ci 2) aJ) (ci 0) eqD))) [some (IN ns),some (nD k),some (nD c2),none]=.ok b:=by have t:=bV (ak (f:=fC (ag (gv 0) ae) lenD) (f':=fun _=>Res.ok (D.int 0)) (r:=[some (IN ns),some (nD k),some (nD c2),none]) (b:=nD 0) (b3 (aj (d:=IN ns) rfl aq) (j7 _ _)) rfl (gU ns.length 0));cases ns with
 |nil=>exact⟨false,iJ t⟩
 |cons a ns=>rw[decide_eq_true (by simp)]at t;obtain⟨c3,h3⟩:=kM (f:=f2 (gv 0) (ci 0) az) (f':=fun _=>Res.ok (D.int 2)) (r:=[some (IN (a::ns)),some (nD k),some (nD c2),none]) ⟨a,ak (a:=IN (a::ns)) (b:=.int 0) rfl rfl (ixA_L0 _ _)⟩ rfl (by decide);exact⟨_,(f8 t).trans (bV (ak h3 (b:=nD 0) rfl (i5 c3 0)))⟩
 obtain⟨b,hb⟩:=kq;cases b with
|true=>exact⟨c2,aX ((bU hb).trans (aX (b4 (d:=nD c2) rfl)))⟩
|false=>rw[aE ((aL (s2:=ao) hb).trans (e_skip _))];refine vS (kM (j3 (AF (kM (j3 (n5 (n5 (n5 ⟨(c2:Int),rfl⟩ (j3 (b:=(k:Int)) (j3 (b:=(k:Int)) ⟨7,rfl⟩ rfl (by omega)) rfl (by omega))) (j3 (b:=(k:Int)) ⟨13,rfl⟩ rfl (by omega))) ⟨5,rfl⟩) rfl (by decide)) rfl (by decide))) rfl (by decide)) rfl (by decide)) fun c3=>?_;obtain⟨c4,h4⟩:=kM (f:=(f2 (f2 (f2 (f2 (gv 3) (ci 1) addA) (ci 40692) bj) (ci 2147483629) aJ) (ci 39373) bj)) (f':=fun _=>Res.ok (D.int 999999937)) (r:=[some (IN ns),some (nD k),some (nD c2),some (nD c3)]) (j3 (AF (kM (j3 (n5 ⟨(c3:Int),rfl⟩ ⟨1,rfl⟩) rfl (by decide)) rfl (by decide))) rfl (by decide)) rfl (by decide);exact⟨c4,aX (b4 h4)⟩
theorem Gc{row:List Nat}{i:Int}{x:Nat}:b9 (row.map nD) i (nD x)=(b9 row i x).map nD:=by unfold b9;rw[n_,J3,A_,Ps,Pt]
theorem GF{row:List Nat}{i:Int}{x:Nat}:(b9 row i x).Perm (x::row):=by unfold b9;refine List.perm_middle.trans ?_;rw[List.take_append_drop]
theorem zw(m:Nat):∀(j i c:Nat)(row:List Nat)(x:Option D),row.Perm (q_ i)->i+j<=60 ->∃(c':Nat)(row':List Nat)(x':Option D),row'.Perm (q_ (i+j))/\aF (ax 3) Af ((Ko i j).map nD) [some (nD c),some (nD m),some (LN row),x]=.nx [some (nD c'),some (nD m),some (LN row'),x']
|0,i,c,row,x,hp,_=>⟨c,row,x,hp,gA⟩
|j+1,i,c,row,x,hp,hl=>by
  have hlen:row.length=i:=by rw[hp.length_eq];simp
  obtain⟨c',row',x',h1,h2⟩:=zw m j (i+1) (c/(i+1)) (b9 row ((c%(i+1):Nat):Int) i) (some (nD i)) (by refine GF.trans ?_;rw[OF];exact(List.Perm.cons i hp).trans (List.perm_append_singleton i _).symm) (by omega);refine⟨c',row',x',by rw[show i+(j+1)=i+1+j by omega];exact h1,?_⟩;rw[<-h2];have hmod:c%(i+1)<i+1:=Kc _ (by omega);refine gi (r1:=[some (nD c),some (nD m),some (LN row),some (nD i)]) rfl ?_;refine(aE (on (d:=LN row) (ds:=[nD (c%(i+1)),nD i]) (d':=LN (b9 row ((c%(i+1):Nat):Int) i)) rfl rfl (aj (ak (a:=nD c) (b:=nD (i+1)) rfl (ak (a:=nD i) (b:=nD 1) rfl rfl (fF i 1)) (d3 (by omega))) (aj (d:=nD i) rfl aq)) ?_)).trans ?_
  .show(if _ then some (D.lst (b9 _ _ _))else none)=_;rw[if_pos ⟨by rw[n_,Jz];omega,by omega,by omega⟩,Gc]
  .exact aE (cb (d:=nD (c/(i+1))) (ak (a:=nD c) (b:=nD (i+1)) rfl (ak (a:=nD i) (b:=nD 1) rfl rfl (fF i 1)) (ia (by omega) (by omega))))
theorem Ec(c m:Nat)(hm:m<=60):∃row:List Nat,row.Perm (q_ m)/\pv [nD c,nD m]=.ok (TN row):=by obtain⟨c',row',x',h1,h2⟩:=zw m m 0 c [] none (by simp) (by omega);rw[Nb]at h1;rw[<-Kz]at h2;refine⟨row',h1,dv (B:=sB) (n:=4) ?_⟩;unfold sB;refine(aE (cb (d:=LN []) (i7 aq (by simp)))).trans ?_;refine(aE ((dX (ds:=(q_ m).map nD) (jd (aj (d:=nD m) rfl aq) (i9 (by omega)))).trans h2)).trans ?_;exact aX (b4 (b3 (aj (d:=LN row') rfl aq) rfl))
end Law
namespace Law
open PySem PyProof.Rows L2 DL
theorem xH{ds:List D}{i:Nat}{v:D}(h:i<ds.length):fM (.lst ds) (nD i) v=some (.lst (ds.set i v)):=by show(c8 ds.length (i:Int)).map _=_;unfold c8;rw[if_pos (Mw i),if_pos (by omega)];simp
theorem g8{nl:Nat}{cap:List Nat}{fi:FI}{ft:FT}{fe:FE}{r:ah}{α:Type}{l:List α}(e:α->D)(g:α->D)(h1:fi r=.ok (l.map e))(hl:l.length<=1000)(h:∀a∈l,∃r1,ft (e a) (bp nl cap r)=some r1/\fe r1=.ok (g a)):dC nl cap fi ft (fun _=>Res.ok true) fe r=.ok (.lst (l.map g)):=by
 have:=Do (q:=fun _=>Res.ok true) e (fun _=>true) g h1 hl fun a ha=>by obtain⟨r1,q1,q2⟩:=h a ha;exact⟨r1,q1,rfl,fun _=>q2⟩
 rw[this,GA]
end Law
section
set_option exponentiation.threshold 3000
namespace Law
open PySem PyProof.Rows L2 DL Fq
abbrev FR(x:Int×Nat):D:=.tup [.int x.1,nD x.2]
abbrev LF(l:List (Int×Nat)):D:=.lst (l.map FR)
abbrev TF(l:List (Int×Nat)):D:=.tup (l.map FR)
theorem Dh:kL=2^2000:=rfl
theorem q9{a k:Nat}(h:a<2^k)(hk:k<=2000):a<kL:=by rw[Dh];exact x_ h (K8 (by omega) hk)
theorem jH{a b:Int}{k l:Nat}(h1:a.natAbs<2^k)(h2:b.natAbs<2^l)(hk:k<=2000)(hl:l<=2000):dy (.int a) (.int b)=some (.int (a*b)):=by rw[dy,intsC_int,if_pos ⟨q9 h1 hk,q9 h2 hl⟩]
theorem oX{a:Int}{b k:Nat}(h0:0<b)(h1:b<2^k)(hk:k<=2000):jW (.int a) (nD b)=some (.int (a/(b:Int))):=by rw[jW,intsC_int,if_pos ⟨by omega,by rw[I_];exact q9 h1 hk⟩]
theorem wJ(b:Nat):neD (nD b) (.int 0)=some (.bl (! decide (b=0))):=lU b 0
theorem F6{m:List Md}:∀(k n:Nat)(a:Int)(b:Nat)(x:Option D),b<2^k->2*k+1<=n ->∃(a':Int)(y:Option D),eN m m5 m4 n [some (.int a),some (nD b),x]=.nx [some (.int a'),some (nD 0),y]/\a'.natAbs=J2 a b:=by
 have z0:∀(n:Nat)(a:Int)(x:Option D),1<=n->∃(a':Int)(y:Option D),eN m m5 m4 n [some (.int a),some (nD 0),x]=.nx [some (.int a'),some (nD 0),y]/\a'.natAbs=J2 a 0:=by
  intro n a x hn;obtain⟨n,rfl⟩:∃k,n=k+1:=⟨n-1,by omega⟩
  exact⟨a,x,E6 (bV (ak (a:=nD 0) (b:=.int 0) rfl rfl (wJ 0))),by simp⟩
 have st:∀(n:Nat)(a:Int)(b:Nat)(x:Option D),0<b->eN m m5 m4 (n+1) [some (.int a),some (nD b),x]=eN m m5 m4 n [some (nD b),some (nD (a%(b:Int)).toNat),some (nD (a%(b:Int)).toNat)]:=by
  intro n a b x hb;have hne:=wJ b;rw[decide_eq_false (by omega)]at hne;refine E7 (bV (ak (a:=nD b) (b:=.int 0) rfl rfl hne)) ?_;refine(aE (cb (d:=nD (a%(b:Int)).toNat) (ak (a:=.int a) (b:=nD b) rfl rfl ?_))).trans ?_
  .rw[rH (by omega)];show some (D.int _)=some (D.int _);rw[Mc (Nh _ (by omega))]
  refine(aE (cb (d:=nD b) rfl)).trans ?_;exact aE (cb (d:=nD (a%(b:Int)).toNat) rfl)
 have hr:∀(a:Int)(b:Nat),0<b->(((a%(b:Int)).toNat:Nat):Int)=a%(b:Int)/\(a%(b:Int)).toNat<b:=by intro a b hb;have h1:=Nh a (show(b:Int)≠0 by omega);have h2:=Int.emod_lt_of_pos a (show(0:Int)<b by omega);exact⟨Mc h1,by omega⟩
 intro k
 induction k with
|zero=>
  intro n a b x hb hn;have:b=0:=by have:(2:Nat)^0=1:=rfl;omega
  subst this;exact z0 n a x (by omega)
|succ k ih=>
  intro n a b x hb hn;by_cases h0:b=0
  .subst h0;exact z0 n a x (by omega)
  .have hbp:0<b:=by omega
   obtain⟨n,rfl⟩:∃j,n=j+2:=⟨n-2,by omega⟩
   obtain⟨r1,r2⟩:=hr a b hbp;have e1:=st (n+1) a b x hbp;generalize(a%(b:Int)).toNat=r at r1 r2 e1;rw[e1,yU a b,<-r1];by_cases hz:r=0
   .subst hz;exact z0 (n+1) b _ (by omega)
   .obtain⟨s1,s2⟩:=hr (b:Int) r (by omega);have e2:=st n (b:Int) r (some (nD r)) (by omega);have hs:((b:Int)%(r:Int)).toNat=b%r:=by omega
    rw[hs]at s1 s2 e2;rw[e2,yU (b:Int) r,<-s1];refine ih n (r:Int) (b%r) _ ?_ (by omega);have h3:b%r<r:=Kc _ (by omega);have h4:b%r<=b-r:=by have:=Nat.mod_eq_sub_mod (show r<=b by omega);rw[this];exact Nat.mod_le _ _
    rw[PL]at hb;omega
theorem sG{a:Int}{b k:Nat}(hb:b<2^k)(hk:k<=499):lz [.int a,nD b]=.ok (nD (J2 a b)):=by obtain⟨a',y,h1,h2⟩:=F6 (m:=aY) k 1000 a b none hb (by omega);refine dv (B:=sJ) (n:=3) ?_;unfold sJ;refine(aE h1).trans (aX (b4 (b3 (aj (d:=.int a') rfl aq) ?_)));show some (D.int (if a'<0 then-a' else a'))=some (D.int _);rw[<-h2];split <;> congr 2 <;> omega
theorem oQ{t:Int}{b k:Nat}(h0:0<b)(hb:b<2^k)(hk:k<=499):gp [.int t,nD b]=.ok (FR (low t b)):=by
 refine dv (B:=sA) (n:=3) ?_;unfold sA;have hg:=oW t h0;have hgb:J2 t b<2^k:=by have h1:J2 t b∣b:=LB.mp (Kh t b);have:=NF h0 h1;omega
 refine(aE (cb (bQ (aj (d:=.int t) rfl (aj (d:=nD b) rfl aq)) (sG hb hk)))).trans ?_;refine aX (b4 (dS (aj (ak (a:=.int t) (b:=nD (J2 t b)) rfl rfl (oX hg hgb (by omega))) (aj (ak (a:=nD b) (b:=nD (J2 t b)) rfl rfl (oX hg hgb (by omega))) aq)) (by simp)))
theorem iL(x:Int×Nat):az (FR x) (.int 0)=some (.int x.1):=rfl
theorem gY(x:Int×Nat):az (FR x) (.int 1)=some (nD x.2):=lS (i:=1) rfl
section
variable{k l:Nat}{a b:Int×Nat}
theorem mS(ha:Bd k a)(hb:Bd l b)(hl:k+l<=498):fG [FR a,FR b]=.ok (FR (cu a b)):=by
 refine dv (B:=sr) (n:=2) ?_;unfold sr;have i0:=iL a;have i1:=gY a;have j0:=iL b;have j1:=gY b;refine aX (b4 (bQ (aj (ak (ak (ak (a:=FR a) rfl rfl i0) (ak (a:=FR b) rfl rfl j1) (jH ha.top (by rw[I_];exact hb.bot) (by omega) (by omega))) (ak (ak (a:=FR b) rfl rfl j0) (ak (a:=FR a) rfl rfl i1) (jH hb.top (by rw[I_];exact ha.bot) (by omega) (by omega))) rfl)
  (aj (d:=nD (a.2*b.2)) (ak (ak (a:=FR a) rfl rfl i1) (ak (a:=FR b) rfl rfl j1) ?_) aq)) ?_))
 .rw[jH (k:=k) (l:=l) (by rw[I_];exact ha.bot) (by rw[I_];exact hb.bot) (by omega) (by omega)];show some (D.int _)=some (D.int _);rw[Kk]
 .exact oQ (mI ha hb).1 (mI ha hb).2 (by omega)
theorem G6(ha:Bd k a)(hc:J2 a.1 (a.2:Nat)=1)(hk:k<=499):pP [FR a]=.ok (.bl true):=by
 refine dv (B:=tH) (n:=2) ?_;unfold tH;refine(aE ((aL ?_).trans (e_skip _))).trans ?_
 .rw[cG (dU (b:=true) (cm (du (a:=FR a) (d:=.bl true) rfl rfl) rfl))];exact bV (ak (a:=nD 2) (b:=nD 2) (b3 (aj (d:=FR a) rfl aq) rfl) rfl (lU 2 2))
 have stp:∀(i:Int),Aq [some (FR a),some (.int i)]=.nx [some (FR a),some (.int i)]:=by intro i;refine aE ((aL ?_).trans (e_skip _));rw[cG (dU (b:=true) (cm (du (a:=.int i) (d:=.bl true) rfl rfl) rfl))];exact cm (du (a:=.int i) (d:=.bl false) rfl rfl) rfl
 refine(aE ((dX (fu (d:=FR a) rfl rfl)).trans ((gi (r1:=[some (FR a),some (.int a.1)]) rfl (stp a.1)).trans ((gi (r1:=[some (FR a),some (nD a.2)]) rfl (stp a.2)).trans gA)))).trans ?_;have hp:=ha.pos;have hg:=gU a.2 0;rw[decide_eq_true hp]at hg;refine aX (b4 ?_);rw[kZ (ak (ak (a:=FR a) rfl rfl (gY a)) (b:=nD 0) rfl hg)];refine ak (a:=nD 1) (b:=nD 1) (bQ (aj (ak (a:=FR a) rfl rfl (iL a)) (aj (ak (a:=FR a) rfl rfl (gY a)) aq)) ?_) rfl (F0 1);have:=sG (a:=a.1) ha.bot hk;rw[hc]at this;exact this
end
def bz(l:List (Int×Nat))(x:Nat):Int×Nat:=(l[x]?).getD (0,1)
theorem kC:Bd 1 ((0:Int),1):=⟨by decide,by decide,by decide⟩
theorem qg{α:Type}(p:α->Bool):∀l:List α,gS (l.map fun x=>D.bl (p x))=some (l.map p)
|[]=>rfl
|x::l=>by show(gS (l.map fun x=>D.bl (p x))).map _=_;rw[qg p l];rfl
theorem vN{α:Type}(p:α->Bool)(l:List α):allD [.lst (l.map fun x=>D.bl (p x))]=some (.bl (l.all p)):=by show(gS (l.map fun x=>D.bl (p x))).map _=_;rw[qg];show some (D.bl ((l.map p).all id))=_;rw[List.all_map];rfl
theorem pf(i:Int):jK [.int i]=.ok (.bl true):=rfl
theorem DR{a:Int}{b k:Nat}(hb:b<2^k)(hk:k<=499):pQ [.int a,nD b]=.ok (nD (J2 a b)):=sG hb hk
theorem Ah{t:Int}{b k:Nat}(h0:0<b)(hb:b<2^k)(hk:k<=499):j9 [.int t,nD b]=.ok (FR (low t b)):=by
 refine dv (B:=sC) (n:=3) ?_;unfold sC;have hg:=oW t h0;have hgb:J2 t b<2^k:=by have h1:J2 t b∣b:=LB.mp (Kh t b);have:=NF h0 h1;omega
 refine(aE ((aL ?_).trans (e_skip _))).trans ?_
 .rw[cG (dU (b:=true) (cm (bQ (aj (d:=.int t) rfl aq) (pf t)) rfl)),cG (dU (b:=true) (cm (bQ (aj (d:=nD b) rfl aq) (pf b)) rfl))];have:=i5 b 0;rw[decide_eq_false (by omega)]at this;exact bV (ak (a:=nD b) (b:=nD 0) rfl rfl this)
 refine(aE (cb (bQ (aj (d:=.int t) rfl (aj (d:=nD b) rfl aq)) (DR hb hk)))).trans ?_;refine(aE ((aL ?_).trans (e_skip _))).trans ?_
 .have:=lZ b 0;rw[decide_eq_false (by omega)]at this;exact bV (ak (a:=nD b) (b:=nD 0) rfl rfl this)
 refine aX (b4 (dS (aj (ak (a:=.int t) (b:=nD (J2 t b)) rfl rfl (oX hg hgb (by omega))) (aj (ak (a:=nD b) (b:=nD (J2 t b)) rfl rfl (oX hg hgb (by omega))) aq)) (by simp)))
end Law
end
section
set_option exponentiation.threshold 3000
namespace Fq
theorem z8{t u:Int}{b d:Nat}(hb:0<b)(hd:0<d)(h:t*(d:Int)=u*(b:Int)):low t b=low u d:=by
 have s1:(low t b).1*(b:Int)=t*((low t b).2:Int):=oZ t b;have s2:(low u d).1*(d:Int)=u*((low u d).2:Int):=oZ u d;have c1:=rG t hb;have c2:=rG u hd;have p1:=k7 t hb;have p2:=k7 u hd;generalize low t b=p at *;generalize low u d=q at *;have hx:p.1*(q.2:Int)=q.1*(p.2:Int):=by
  have hne:((b*d:Nat):Int)≠0:=by have:=Nr hb hd;omega
  refine Mx hne ?_;rw[Kk];have e1:p.1*(q.2:Int)*((b:Int)*(d:Int))=(p.1*(b:Int))*((d:Int)*(q.2:Int)):=by simp only[KF,KQ,Ki]
  have e2:q.1*(p.2:Int)*((b:Int)*(d:Int))=(q.1*(d:Int))*((b:Int)*(p.2:Int)):=by simp only[KF,KQ,Ki]
  rw[e1,e2,s1,s2];have e3:t*(p.2:Int)*((d:Int)*(q.2:Int))=(t*(d:Int))*((p.2:Int)*(q.2:Int)):=by simp only[KF,KQ,Ki]
  have e4:u*(q.2:Int)*((b:Int)*(p.2:Int))=(u*(b:Int))*((p.2:Int)*(q.2:Int)):=by simp only[KF,KQ,Ki]
  rw[e3,e4,h]
 have hab:p.1.natAbs*q.2=q.1.natAbs*p.2:=by have:=congrArg Int.natAbs hx;rw[LS,LS,I_,I_]at this;exact this
 have k1:PY p.2 p.1.natAbs:=by have:Nat.gcd p.1.natAbs p.2=1:=c1;rw[PN]at this;exact this
 have k2:PY q.2 q.1.natAbs:=by have:Nat.gcd q.1.natAbs q.2=1:=c2;rw[PN]at this;exact this
 have d1:p.2∣q.2:=k1.dvd_of_dvd_mul_left (by rw[hab];exact Ou _ _);have d2:q.2∣p.2:=k2.dvd_of_dvd_mul_left (by rw[<-hab];exact Ou _ _);have e:p.2=q.2:=Ot d1 d2;have e':p.1=q.1:=by rw[e]at hx;exact Mx (by omega) hx
 exact PU e' e
theorem uR(t:Int):low t 1=(t,1):=by
 unfold low;have:J2 t (1:Nat)=1:=by show J2 t 1=1;simp
 rw[this];simp
theorem Fj{N:Nat}(hN:0<N)(a b:Int):cu (low a N) (low b N)=low (a+b) N:=by
 have h1:(low a N).1*(N:Int)=a*((low a N).2:Int):=oZ a N;have h2:(low b N).1*(N:Int)=b*((low b N).2:Int):=oZ b N;have p1:=k7 a hN;have p2:=k7 b hN;refine z8 (Nr p1 p2) hN ?_;generalize low a N=p at *;generalize low b N=q at *;rw[Kk,PZ,PZ];have e1:p.1*(q.2:Int)*(N:Int)=(p.1*(N:Int))*(q.2:Int):=by simp only[KF,KQ,Ki]
 have e2:q.1*(p.2:Int)*(N:Int)=(q.1*(N:Int))*(p.2:Int):=by simp only[KF,KQ,Ki]
 rw[e1,e2,h1,h2];simp only[KF,KQ,Ki]
theorem y9{N:Nat}(hN:0<N):∀(l:List Nat)(A:Nat),(l.map fun c:Nat=>low (c:Int) N).foldl cu (low (A:Int) N)=low ((A+l.sum:Nat):Int) N
|[],A=>by simp
|c::l,A=>by rw[A_,L9,Fj hN,<-Ng,y9 hN l,Lo,Nat.add_assoc]
theorem AZ{N:Nat}(hN:0<N):low ((0:Nat):Int) N=(0,1):=by rw[<-uR 0];exact z8 hN (by decide) (by simp)
end Fq
namespace Law
open PySem PyProof.Rows L2 DL Fq
theorem uT{n x:Nat}{f:Nat->D}(h:x<n):az (.lst ((q_ n).map f)) (nD x)=some (f x):=by refine iY ?_;rw[s_,Lh h];rfl
theorem BM{n x:Nat}{v:D}{f:Nat->D}(h:x<n):fM (.lst ((q_ n).map f)) (nD x) v=some (.lst ((q_ n).map fun y=>if y=x then v else f y)):=by
 rw[xH (by simpa using h)];show some (D.lst _)=some (D.lst _);congr 2;refine MB fun i=>?_;by_cases hi:i<n
 .by_cases e:x=i
  .subst e;rw[d_ (by simpa using h),s_,Lh h];simp
  .rw[a_ e,s_,s_,Lh hi];simp[JX e]
 .rw[Nk (by simp;omega),Nk (by simp;omega)]
abbrev TB(tb:Nat->Nat->Int×Nat)(n:Nat):D:=.tup ((q_ n).map fun h=>TF ((q_ n).map (tb h)))
abbrev pD(p:(Int×Nat)×List Nat):D:=.tup [FR p.1,TN p.2]
theorem zh:∀l:List Nat,jb (l.map nD)=some (l.map fun k:Nat=>(k:Int))
|[]=>rfl
|k::l=>by show(jb (l.map nD)).map _=_;rw[zh l];rfl
theorem zy:∀l:List Nat,(l.map fun k:Nat=>(k:Int)).sum=((l.sum:Nat):Int)
|[]=>rfl
|k::l=>by rw[A_,Lo,zy l,Lo,Ng]
theorem BN(l:List Nat):sumD [LN l]=some (nD l.sum):=by show(jb (l.map nD)).map _=_;rw[zh];show some (D.int _)=_;rw[zy]
theorem qW:∀l:List Nat,(∀x∈l,1<=x/\x<=60)->l.sum<=60*l.length/\l.length<=l.sum
|[],_=>by simp
|x::l,h=>by have h1:=h x k_;have:=qW l fun y hy=>h y (h_ _ hy);rw[Lo,G_];omega
def Pp(n:Nat)(p:(Int×Nat)×List Nat):Prop:=Bd 10 p.1/\p.2.Perm (q_ n)
def dA(d:List Nat)(h:Nat):Nat:=(d[h]?).getD 0
theorem AL{d:List Nat}{h:Nat}(hh:h<d.length):az (TN d) (nD h)=some (nD (dA d h)):=by refine lS ?_;rw[s_,m_ hh];unfold dA;rw[m_ hh];rfl
theorem AM{d:List Nat}{h n:Nat}(hp:d.Perm (q_ n))(hh:h<n):h<d.length/\dA d h<n:=by
 have hl:h<d.length:=by rw[hp.length_eq];simpa using hh
 refine⟨hl,?_⟩;unfold dA;rw[m_ hl];exact J7.mp (hp.mem_iff.mp (Lc _))
def nA(ps:List ((Int×Nat)×List Nat))(h x:Nat):List (Int×Nat):=(ps.filter fun p=>decide (dA p.2 h=x)).map (·.1)
def fS(ps:List ((Int×Nat)×List Nat))(h x:Nat)(q:Int×Nat):Int×Nat:=(nA ps h x).foldl cu q
abbrev cH(ps:List ((Int×Nat)×List Nat)):Nat->Nat->Int×Nat:=fun h x=>fS ps h x (0,1)
theorem HC(p:(Int×Nat)×List Nat)(ps:List ((Int×Nat)×List Nat))(h x:Nat)(q:Int×Nat):fS (p::ps) h x q=fS ps h x (if x=dA p.2 h then cu q p.1 else q):=by
 unfold fS nA;rw[KJ];by_cases e:x=dA p.2 h
 .rw[if_pos (by simpa using e.symm),if_pos e];rfl
 .rw[if_neg (by simpa using fun z=>e z.symm),if_neg e]
structure Pts(n:Nat)(ps:List ((Int×Nat)×List Nat)):Prop where
 n1:1<=n
 n7:n<=7
 p1:1<=ps.length
 p12:ps.length<=12
 ok:∀p∈ps,Pp n p
abbrev LP(ps:List ((Int×Nat)×List Nat)):D:=.lst (ps.map pD)
abbrev RL(n:Nat)(q:Nat->Int×Nat):D:=.lst ((q_ n).map fun x=>FR (q x))
theorem za{d0 d1 d2:D}{n h:Nat}(hh:h<n):∀(ps:List ((Int×Nat)×List Nat))(k:Nat)(q:Nat->Int×Nat)(x5 x6:Option D),(∀p∈ps,Pp n p)->(∀x,Bd k (q x))->k+11*ps.length<=498 ->∃(y5 y6:Option D),aF (ck (aT (ax 5) (aT (ax 6) cj))) Al (ps.map pD) [some d0,some d1,some d2,some (nD h),some (RL n q),x5,x6]=.nx [some d0,some d1,some d2,some (nD h),some (RL n fun x=>fS ps h x (q x)),y5,y6]
|[],k,q,x5,x6,_,hq,hk=>⟨x5,x6,gA⟩
|p::ps,k,q,x5,x6,hp,hq,hk=>by
  rw[G_]at hk;obtain⟨b1,b2⟩:=hp p k_;obtain⟨hhl,hg⟩:=AM b2 hh;have hix:=AL hhl;obtain⟨y5,y6,e2⟩:=za (d0:=d0) (d1:=d1) (d2:=d2) hh ps (k+11) (fun y=>if y=dA p.2 h then cu (q y) p.1 else q y) (some (FR p.1)) (some (TN p.2)) (fun r hr=>hp r (h_ _ hr)) (fun x=>by
   show Bd (k+11) (if x=dA p.2 h then _ else _);by_cases e:x=dA p.2 h
   .rw[if_pos e];exact((hq _).plus b1).mono (by omega)
   .rw[if_neg e];exact(hq x).mono (by omega)) (by omega)
  refine⟨y5,y6,?_⟩;have er:(fun x=>fS (p::ps) h x (q x))=fun x=>fS ps h x (if x=dA p.2 h then cu (q x) p.1 else q x):=by funext x;exact HC p ps h x (q x)
  rw[A_,er,<-e2];refine gi (r1:=[some d0,some d1,some d2,some (nD h),some (RL n q),some (FR p.1),some (TN p.2)]) rfl ?_;have es:=BM (n:=n) (f:=fun x=>FR (q x)) (v:=FR (cu (q (dA p.2 h)) p.1)) hg;have ef:((q_ n).map fun y=>if y=dA p.2 h then FR (cu (q (dA p.2 h)) p.1)else FR (q y))=(q_ n).map fun y=>FR (if y=dA p.2 h then cu (q y) p.1 else q y):=by
   refine KH fun y _=>?_;by_cases e:y=dA p.2 h
   .rw[if_pos e,if_pos e,e]
   .rw[if_neg e,if_neg e]
  rw[ef]at es;exact aE (qZ (d:=RL n q) (k:=nD (dA p.2 h)) rfl (bQ (aj (ak (a:=RL n q) rfl (ak (a:=TN p.2) (b:=nD h) rfl rfl hix) (uT hg)) (aj (d:=FR p.1) rfl aq)) (mS (hq _) b1 (by omega))) (ak (a:=TN p.2) (b:=nD h) rfl rfl hix) es)
theorem zb{n:Nat}{ps:List ((Int×Nat)×List Nat)}(P:Pts n ps):∀(j i:Nat)(x3 x4 x5 x6:Option D),i+j=n ->∃(y3 y4 y5 y6:Option D),aF (ax 3) Am ((Ko i j).map nD) [some (LP ps),some (nD n),some (.lst ((q_ i).map fun h=>TF ((q_ n).map (cH ps h)))),x3,x4,x5,x6]=.nx [some (LP ps),some (nD n),some (.lst ((q_ n).map fun h=>TF ((q_ n).map (cH ps h)))),y3,y4,y5,y6]
|0,i,x3,x4,x5,x6,h=>by
  have:i=n:=by omega
  subst this;exact⟨x3,x4,x5,x6,gA⟩
|j+1,i,x3,x4,x5,x6,h=>by
  have hi:i<n:=by omega
  have hn:=P.n7;have h12:=P.p12;obtain⟨y5,y6,e2⟩:=za (d0:=LP ps) (d1:=nD n) (d2:=.lst ((q_ i).map fun h=>TF ((q_ n).map (cH ps h)))) hi ps 1 (fun _=>(0,1)) x5 x6 P.ok (fun _=>kC) (by omega);obtain⟨z3,z4,z5,z6,i2⟩:=zb P j (i+1) (some (nD i)) (some (RL n (cH ps i))) y5 y6 (by omega);refine⟨z3,z4,z5,z6,?_⟩;rw[<-i2,MR,A_];refine gi (r1:=[some (LP ps),some (nD n),some (.lst ((q_ i).map fun h=>TF ((q_ n).map (cH ps h)))),some (nD i),x4,x5,x6]) rfl ?_;refine(aE (cb (d:=RL n fun _=>(0,1)) (g8 (l:=q_ n) nD (fun _=>FR (0,1)) (jd (aj (d:=nD n) rfl aq) (i9 (by omega))) (by simp;omega) fun x _=>⟨[some (nD x)],rfl,dS (aj (d:=.int 0) rfl (aj (d:=.int 1) rfl aq)) (by simp)⟩))).trans ?_;refine(aE ((dX (fu (d:=LP ps) rfl rfl)).trans e2)).trans ?_;rw[show(q_ (i+1)).map (fun h=>TF ((q_ n).map (cH ps h)))=(q_ i).map (fun h=>TF ((q_ n).map (cH ps h)))++[TF ((q_ n).map (cH ps i))]by rw[OF,J3];rfl];refine aE (on (d:=.lst ((q_ i).map fun h=>TF ((q_ n).map (cH ps h)))) (ds:=[TF ((q_ n).map (cH ps i))]) rfl rfl (aj (b3 (aj (d:=RL n (cH ps i)) rfl aq) ?_) aq) (rj (by simp;omega)));rw[e_tupL];show some (D.tup _)=some (D.tup (L7 FR _));rw[Km];rfl
theorem HN{n:Nat}{ps:List ((Int×Nat)×List Nat)}(P:Pts n ps):pK [LP ps,nD n]=.ok (TB (cH ps) n):=by have hn:=P.n7;obtain⟨y3,y4,y5,y6,e2⟩:=zb P n 0 none none none none (by omega);rw[<-Kz]at e2;refine dv (B:=sO) (n:=7) ?_;unfold sO;refine(aE (cb (d:=.lst []) (i7 aq (by simp)))).trans ?_;refine(aE ((dX (jd (aj (d:=nD n) rfl aq) (i9 (by omega)))).trans e2)).trans ?_;exact aX (b4 (b3 (aj (d:=.lst ((q_ n).map fun h=>TF ((q_ n).map (cH ps h)))) rfl aq) rfl))
def wt(S:Nat)(q:Nat×List Nat):(Int×Nat)×List Nat:=(low (q.1:Int) S,q.2)
theorem yK(ns:List Int)(at' n many:Nat){ws:List Nat}(hw:ws.length=many)(hb:∀x∈ws,1<=x/\x<=60)(hs0:0<ws.sum)(hs:ws.sum<=720)(hat:at'<=60)(hn:n<=60):∀(j i:Nat)(qs:List (Nat×List Nat))(x:Option D),i+j=many->many<=12->qs.map (·.1)=ws.take i->(∀q∈qs,q.2.Perm (q_ n)) ->∃(qs':List (Nat×List Nat))(y:Option D),qs'.map (·.1)=ws/\(∀q∈qs',q.2.Perm (q_ n))/\aF (ax 7) An ((Ko i j).map nD) [some (IN ns),some (nD at'),some (nD n),some (nD many),some (LN ws),some (nD ws.sum),some (LP (qs.map (wt ws.sum))),x]=.nx [some (IN ns),some (nD at'),some (nD n),some (nD many),some (LN ws),some (nD ws.sum),some (LP (qs'.map (wt ws.sum))),y]
|0,i,qs,x,h,_,hl,hp=>⟨qs,x,by rw[hl,M_ (by omega)],hp,gA⟩
|j+1,i,qs,x,h,h12,hl,hp=>by
  have hi:i<ws.length:=by omega
  have hwi:=hb ws[i] (Lc _);have hql:qs.length=i:=by have:=congrArg K4 hl;rw[n_,JM]at this;omega
  obtain⟨c,hc⟩:=mK ns (at'+2*i+1) (by omega);obtain⟨row,r1,r2⟩:=Ec c n hn;obtain⟨qs',y,e1,e2,e3⟩:=yK ns at' n many hw hb hs0 hs hat hn j (i+1) (qs++[(ws[i],row)]) (some (nD i)) (by omega) h12 (by rw[J3,hl,List.take_succ_eq_append_getElem hi];rfl) (fun q hq=>by
   rcases JS.mp hq with z|z
   .exact hp q z
   .rw[E_.mp z];exact r1)
  refine⟨qs',y,e1,e2,?_⟩;rw[<-e3,MR,A_];refine gi (r1:=[some (IN ns),some (nD at'),some (nD n),some (nD many),some (LN ws),some (nD ws.sum),some (LP (qs.map (wt ws.sum))),some (nD i)]) rfl ?_;have em:LP ((qs++[(ws[i],row)]).map (wt ws.sum))=D.lst ((qs.map (wt ws.sum)).map pD++[pD (low (ws[i]:Int) ws.sum,row)]):=by show D.lst (L7 pD _)=_;rw[J3,J3];rfl
  rw[em];have m2:bj (.int 2) (nD i)=some (nD (2*i)):=by rw[k8 (.inl ⟨by decide,by decide⟩)];show some (D.int _)=some (D.int _);rw[Kk];rfl
  have hix:az (LN ws) (nD i)=some (.int (ws[i]:Int)):=iY (by rw[s_,m_ hi];rfl);exact aE (on (d:=LP (qs.map (wt ws.sum))) (ds:=[pD (low (ws[i]:Int) ws.sum,row)]) rfl rfl (aj (dS (aj (bQ (aj (ak (a:=LN ws) (b:=nD i) rfl rfl hix) (aj (d:=nD ws.sum) rfl aq)) (oQ (k:=10) hs0 (by show ws.sum<1024;omega) (by omega))) (aj (bQ (aj (bQ (aj (d:=IN ns) rfl (aj (ak (b:=nD 1) (ak (a:=nD at') rfl (ak (b:=nD i) rfl rfl m2) (fF _ _)) rfl (fF _ 1)) aq)) hc) (aj (d:=nD n) rfl aq)) r2) aq)) (by simp)) aq) (rj (by simp;omega)))
theorem Hy(ns:List Int)(at' n many:Nat)(hat:at'<=60)(hn:n<=60)(h1:1<=many)(h12:many<=12):∃qs:List (Nat×List Nat),qs.length=many/\(∀q∈qs,(1<=q.1/\q.1<=60)/\q.2.Perm (q_ n))/\pL [IN ns,nD at',nD n,nD many]=.ok (LP (qs.map (wt (qs.map (·.1)).sum))):=by
 have hc:∀k:Nat,∃c:Nat,k<=60->dG [IN ns,nD (at'+2*k)]=.ok (nD c):=by
  intro k;by_cases hk:k<=60
  .obtain⟨c,hc⟩:=mK ns (at'+2*k) (by omega);exact⟨c,fun _=>hc⟩
  .exact⟨0,fun z=>absurd z hk⟩
 obtain⟨g,hg⟩:=Classical.axiomOfChoice hc;have hb:∀x∈(q_ many).map (fun k=>1+g k%60),1<=x/\x<=60:=fun x hx=>by obtain⟨k,_,rfl⟩:=JL.mp hx;have:=Kc (g k) (show 60>0 by omega);omega
 have hsum:=qW _ hb;have hlen:((q_ many).map fun k=>1+g k%60).length=many:=by simp
 rw[hlen]at hsum;obtain⟨qs,y,e1,e2,e3⟩:=yK ns at' n many hlen hb (by omega) (by omega) hat hn many 0 [] none (by omega) h12 rfl (fun _ h=>by cases h);rw[<-Kz]at e3;refine⟨qs,by have:=congrArg K4 e1;rwa[n_,hlen]at this,fun q hq=>⟨hb q.1 (by rw[<-e1];exact JL.mpr ⟨q,hq,rfl⟩),e2 q hq⟩,dv (B:=sP) (n:=8) ?_⟩;rw[e1];unfold sP;refine(aE (cb (d:=LN ((q_ many).map fun k=>1+g k%60)) ?_)).trans ?_
 .have hcc:=g8 (nl:=1) (cap:=[0,1]) (fi:=di cX (ag (gv 3) ae)) (ft:=ax 0) (fe:=f2 (ci 1) (f2 (aM (ag (gv 1) (ag (f2 (gv 2) (f2 (ci 2) (gv 0) bj) addA) ae)) [] dG) (ci 60) aJ) addA) (r:=[some (IN ns),some (nD at'),some (nD n),some (nD many),none,none,none,none]) (l:=q_ many) nD (fun k=>nD (1+g k%60)) (jd (aj (d:=nD many) rfl aq) (i9 (by omega))) (by simp;omega) fun k hk=>⟨[some (nD k),some (IN ns),some (nD at')],rfl,?_⟩
  .refine hcc.trans ?_;show Res.ok (D.lst _)=Res.ok (D.lst _);rw[Km];rfl
  .have hk':=J7.mp hk;have m2:bj (.int 2) (nD k)=some (nD (2*k)):=by rw[k8 (.inl ⟨by decide,by decide⟩)];show some (D.int _)=some (D.int _);rw[Kk];rfl
   exact ak (a:=nD 1) rfl (ak (b:=nD 60) (bQ (aj (d:=IN ns) rfl (aj (ak (a:=nD at') rfl (ak (b:=nD k) rfl rfl m2) (fF _ _)) aq)) (hg k (by omega))) rfl (d3 (by omega))) (fF 1 _)
 refine(aE (cb (b3 (aj (d:=LN ((q_ many).map fun k=>1+g k%60)) rfl aq) (BN _)))).trans ?_;refine(aE (cb (d:=.lst []) (i7 aq (by simp)))).trans ?_;refine(aE ((dX (jd (aj (d:=nD many) rfl aq) (i9 (by omega)))).trans e3)).trans ?_;exact aX (b4 (d:=LP (qs.map (wt ((q_ many).map fun k=>1+g k%60).sum))) rfl)
def cq(qs:List (Nat×List Nat))(h x:Nat):Nat:=((qs.filter fun q=>decide (dA q.2 h=x)).map (·.1)).sum
theorem Dp(q:Nat×List Nat)(qs:List (Nat×List Nat))(h x:Nat):cq (q::qs) h x=(if dA q.2 h=x then q.1 else 0)+cq qs h x:=by
 unfold cq;rw[KJ];by_cases e:dA q.2 h=x
 .rw[if_pos (by simpa using e),if_pos e,A_,Lo]
 .rw[if_neg (by simpa using e),if_neg e,Nb]
theorem vP:∀(qs:List (Nat×List Nat))(h x:Nat),cq qs h x<=(qs.map (·.1)).sum
|[],h,x=>by simp[cq]
|q::qs,h,x=>by have:=vP qs h x;rw[Dp,A_,Lo];split <;> omega
theorem CO{S:Nat}(hS:0<S)(qs:List (Nat×List Nat))(h x:Nat):cH (qs.map (wt S)) h x=low ((cq qs h x:Nat):Int) S:=by
 show(nA (qs.map (wt S)) h x).foldl cu (0,1)=_;have e:nA (qs.map (wt S)) h x=((qs.filter fun q=>decide (dA q.2 h=x)).map (·.1)).map fun c:Nat=>low (c:Int) S:=by unfold nA;rw[List.filter_map,Km,Km];rfl
 rw[e,<-AZ hS,y9 hS,Nb];rfl
end Law
end
section
set_option exponentiation.threshold 3000
namespace Law
open PySem PyProof.Rows L2 DL Fq
section
variable{k l:Nat}{a b:Int×Nat}
theorem Ha(ha:Bd k a)(hb:Bd l b)(hl:k+l<=498):oE [FR a,FR b]=.ok (FR (cu a b)):=by
 refine dv (B:=qM) (n:=2) ?_;unfold qM;have i0:=iL a;have i1:=gY a;have j0:=iL b;have j1:=gY b;refine aX (b4 (bQ (aj (ak (ak (ak (a:=FR a) rfl rfl i0) (ak (a:=FR b) rfl rfl j1) (jH ha.top (by rw[I_];exact hb.bot) (by omega) (by omega))) (ak (ak (a:=FR b) rfl rfl j0) (ak (a:=FR a) rfl rfl i1) (jH hb.top (by rw[I_];exact ha.bot) (by omega) (by omega))) rfl)
  (aj (d:=nD (a.2*b.2)) (ak (ak (a:=FR a) rfl rfl i1) (ak (a:=FR b) rfl rfl j1) ?_) aq)) ?_))
 .rw[jH (k:=k) (l:=l) (by rw[I_];exact ha.bot) (by rw[I_];exact hb.bot) (by omega) (by omega)];show some (D.int _)=some (D.int _);rw[Kk]
 .exact Ah (mI ha hb).1 (mI ha hb).2 (by omega)
end
theorem xR(p q:Int×Nat):fw (FR p) (FR q)=some (decide (p=q)):=by
 have sh:∀x:Int×Nat,bO 60 (FR x):=fun x=>my.mpr fun e he=>by simp at he;rcases he with rfl|rfl <;> trivial
 rw[rT rfl (sh p) (sh q)];unfold jQ;simp only[aU,zej,K6,L5];congr 1;rw[JY];simp;constructor
 .rintro⟨h1,h2⟩
  exact PU h1 (by omega)
 .rintro rfl
  exact⟨rfl,rfl⟩
theorem xS(p q:Int×Nat):eqD (FR p) (FR q)=some (.bl (decide (p=q))):=by unfold eqD;rw[xR];rfl
theorem CS(p q:Int×Nat):neD (FR p) (FR q)=some (.bl (! decide (p=q))):=by unfold neD;rw[xR];rfl
theorem Bj{α:Type}(p:α->Bool)(l:List α):anyD [.lst (l.map fun x=>D.bl (p x))]=some (.bl (l.any p)):=by show(gS (l.map fun x=>D.bl (p x))).map _=_;rw[qg];show some (D.bl ((l.map p).any id))=_;rw[List.any_map];rfl
theorem jD{f:FE}{r:ah}{d:D}{ds:List D}(h:f r=.ok d)(h2:cg d=some ds):dO f r=.ok (bH 0 ds):=by unfold dO;rw[h,bind_ok,h2];rfl
def fB(row:List (Int×Nat))(n:Nat):Bool:=(row.all fun s=>decide (0<=s.1))&&(decide (row.length=n)&&decide (row.foldl cu (0,1)=(1,1)))
abbrev Rw(row:List (Int×Nat)):Prop:=row.length<=9/\∀s∈row,Bd 54 s
theorem rg_loop{d0 d1:D}:∀(l:List (Int×Nat))(k:Nat)(acc:Int×Nat)(x y:Option D),Bd k acc->(∀s∈l,Bd 54 s)->k+55*l.length<=498 ->((l.all fun s=>decide (0<=s.1))=false/\aF (ck (aT (ax 3) (aT (ax 4) cj))) nj (l.map FR) [some d0,some d1,some (FR acc),x,y]=.rt (.bl false)) \/((l.all fun s=>decide (0<=s.1))=true/\∃x' y',aF (ck (aT (ax 3) (aT (ax 4) cj))) nj (l.map FR) [some d0,some d1,some (FR acc),x,y]=.nx [some d0,some d1,some (FR (l.foldl cu acc)),x',y'])
|[],k,acc,x,y,_,_,_=>.inr ⟨rfl,x,y,gA⟩
|s::l,k,acc,x,y,h1,h2,h3=>by
  rw[G_]at h3;have hs:=h2 s k_;have ht:hJ (.int s.1) (.int 0)=some (.bl (decide (s.1<0))):=rfl;rw[A_,List.all_cons,L9];by_cases hn:s.1<0
  .left;rw[decide_eq_true hn]at ht;refine⟨by rw[decide_eq_false (by omega),Mj],?_⟩;exact l6 (r1:=[some d0,some d1,some (FR acc),some (.int s.1),some (nD s.2)]) rfl (aX ((bU (bV (ak (a:=.int s.1) (b:=.int 0) rfl rfl ht))).trans (aX (b4 rfl))))
  .rw[decide_eq_false hn]at ht;rw[decide_eq_true (by omega:0<=s.1),Lp];have st:aF (ck (aT (ax 3) (aT (ax 4) cj))) nj (FR s::l.map FR) [some d0,some d1,some (FR acc),x,y]=aF (ck (aT (ax 3) (aT (ax 4) cj))) nj (l.map FR) [some d0,some d1,some (FR (cu acc s)),some (.int s.1),some (nD s.2)]:=by refine gi (r1:=[some d0,some d1,some (FR acc),some (.int s.1),some (nD s.2)]) rfl ?_;refine(aE ((aL (bV (ak (a:=.int s.1) (b:=.int 0) rfl rfl ht))).trans (e_skip _))).trans ?_;exact aE (cb (bQ (aj (d:=FR acc) rfl (aj (d:=FR s) (dS (aj (d:=.int s.1) rfl (aj (d:=nD s.2) rfl aq)) (by simp)) aq)) (mS h1 hs (by omega))))
   rw[st];exact rg_loop l (k+55) (cu acc s) _ _ ((h1.plus hs).mono (by omega)) (fun r hr=>h2 r (h_ _ hr)) (by omega)
theorem zL{row:List (Int×Nat)}(h:Rw row)(n:Nat):lG [LF row,nD n]=.ok (.bl (fB row n)):=by
 refine dv (B:=tf) (n:=5) ?_;unfold tf;refine(aE (cb (d:=FR (0,1)) (dS (aj (d:=.int 0) rfl (aj (d:=.int 1) rfl aq)) (by simp)))).trans ?_;unfold fB;rcases rg_loop (d0:=LF row) (d1:=nD n) row 1 (0,1) none none kC h.2 (by have:=h.1;omega)with⟨e1,e2⟩|⟨e1,x',y',e2⟩
 .rw[e1,Mj];exact aX ((dX (fu (d:=LF row) rfl rfl)).trans e2)
 .rw[e1,Lp];refine(aE ((dX (fu (d:=LF row) rfl rfl)).trans e2)).trans (aX (b4 ?_));have hl:=i5 row.length n;cases z:decide (row.length=n)with
 |false=>rw[z]at hl;rw[xL (ak (b:=nD n) (b3 (aj (d:=LF row) rfl aq) (j7 FR row)) rfl hl)];rfl
 |true=>rw[z]at hl;rw[kZ (ak (b:=nD n) (b3 (aj (d:=LF row) rfl aq) (j7 FR row)) rfl hl),Lp];exact ak (a:=FR (row.foldl cu (0,1))) (b:=FR (1,1)) rfl (dS (aj (d:=.int 1) rfl (aj (d:=.int 1) rfl aq)) (by simp)) (xS _ _)
theorem Aa{d0:D}:∀(l:List (Int×Nat))(k:Nat)(acc:Int×Nat)(x:Option D),Bd k acc->(∀q∈l,Bd 54 q)->k+55*l.length<=498 ->∃y,aF (ax 2) zk (l.map FR) [some d0,some (FR acc),x]=.nx [some d0,some (FR (l.foldl cu acc)),y]
|[],k,acc,x,_,_,_=>⟨x,gA⟩
|q::l,k,acc,x,h1,h2,h3=>by rw[G_]at h3;have hq:=h2 q k_;obtain⟨y,ih⟩:=Aa (d0:=d0) l (k+55) (cu acc q) (some (FR q)) ((h1.plus hq).mono (by omega)) (fun r hr=>h2 r (h_ _ hr)) (by omega);refine⟨y,?_⟩;rw[A_,L9,<-ih];refine gi (r1:=[some d0,some (FR acc),some (FR q)]) rfl ?_;exact aE (cb (bQ (aj (d:=FR acc) rfl (aj (d:=FR q) rfl aq)) (Ha h1 hq (by omega))))
theorem zM{l:List (Int×Nat)}(h:Rw l):k6 [LF l]=.ok (FR (l.foldl cu (0,1))):=by obtain⟨y,h⟩:=Aa (d0:=LF l) l 1 (0,1) none kC h.2 (by have:=h.1;omega);refine dv (B:=rL) (n:=3) ?_;unfold rL;refine(aE (cb (d:=FR (0,1)) rfl)).trans ?_;refine(aE ((dX (fu (d:=LF l) rfl rfl)).trans h)).trans ?_;exact aX (b4 (d:=FR (l.foldl cu (0,1))) rfl)
theorem Hb{s:Int×Nat}(h:0<s.2):mX [FR s]=.ok (.bl true):=by
 refine dv (B:=ss) (n:=1) ?_;unfold ss;refine(aE ((aL ?_).trans (e_skip _))).trans ?_
 .rw[cG (dU (b:=true) (cm (du (a:=FR s) (d:=.bl true) rfl rfl) rfl))];exact bV (ak (a:=nD 2) (b:=nD 2) (b3 (aj (d:=FR s) rfl aq) rfl) rfl (lU 2 2))
 have hg:=gU s.2 0;rw[decide_eq_true h]at hg;refine aX (b4 ?_);rw[kZ (bQ (aj (ak (a:=FR s) rfl rfl (iL s)) aq) (pf _)),kZ (bQ (aj (ak (a:=FR s) rfl rfl (gY s)) aq) (pf _))];exact ak (ak (a:=FR s) rfl rfl (gY s)) (b:=nD 0) rfl hg
theorem Hw{s:Int×Nat}(h:Bd 54 s):l5 [FR s,FR (0,1)]=.ok (.bl (decide (s.1<0))):=by refine dv (B:=qL) (n:=2) ?_;unfold qL;have j0:=iL ((0:Int),1);have j1:=gY ((0:Int),1);refine aX (b4 (ak (ak (ak (a:=FR s) rfl rfl (iL s)) (ak (a:=FR (0,1)) rfl rfl j1) (jH h.top (l:=1) (by decide) (by omega) (by omega))) (ak (ak (a:=FR (0,1)) rfl rfl j0) (ak (a:=FR s) rfl rfl (gY s)) (jH (k:=1) (by decide) (by rw[I_];exact h.bot) (by omega) (by omega))) ?_));show some (D.bl (decide (s.1*((1:Nat):Int)<0*(s.2:Int))))=_;rw[PK,Int.natCast_one,PQ]
theorem Hv{row:List (Int×Nat)}(h:Rw row)(n:Nat):nk [LF row,nD n]=.ok (.bl (fB row n)):=by have h9:=h.1;refine dv (B:=tJ) (n:=2) ?_;unfold tJ fB;have hl:=lU row.length n;cases z:decide (row.length=n)with
|false=>rw[z]at hl;rw[Mj,OV];refine aX ((bU ?_).trans (aX (b4 rfl)));rw[cG (dU (b:=true) (cm (du (a:=LF row) (d:=.bl true) rfl rfl) rfl))];exact kx (bV (ak (b:=nD n) (b3 (aj (d:=LF row) rfl aq) (j7 FR row)) rfl hl))
|true=>
  rw[z]at hl;rw[Lp];have w1:=g8 (nl:=1) (cap:=[]) (fi:=aV cg (gv 0)) (ft:=ax 0) (fe:=aM (ag (gv 0) ae) [] mX) (r:=[some (LF row),some (nD n)]) (l:=row) FR (fun _=>D.bl true) (fu (d:=LF row) rfl rfl) (by omega) fun s hs=>⟨[some (FR s)],rfl,bQ (aj (d:=FR s) rfl aq) (Hb (h.2 s hs).pos)⟩
  have w2:=g8 (nl:=1) (cap:=[]) (fi:=aV cg (gv 0)) (ft:=ax 0) (fe:=aM (ag (gv 0) (ag (fun _=>Res.ok (D.tup [D.int 0,D.int 1])) ae)) [] l5) (r:=[some (LF row),some (nD n)]) (l:=row) FR (fun s=>D.bl (decide (s.1<0))) (fu (d:=LF row) rfl rfl) (by omega) fun s hs=>⟨[some (FR s)],rfl,bQ (aj (d:=FR s) rfl (aj (d:=FR (0,1)) rfl aq)) (Hw (h.2 s hs))⟩
  have a1:=vN (fun _:Int×Nat=>true) row;rw[JJ.mpr (fun _ _=>rfl)]at a1;refine(aE ((aL ?_).trans (e_skip _))).trans ?_
  .rw[cG (dU (b:=true) (cm (du (a:=LF row) (d:=.bl true) rfl rfl) rfl)),cG (bV (ak (b:=nD n) (b3 (aj (d:=LF row) rfl aq) (j7 FR row)) rfl hl))];exact dU (b:=true) (cm (d:=.bl true) (b3 (aj w1 aq) a1) rfl)
  have ea:(row.all fun s=>decide (0<=s.1)) = !(row.any fun s=>decide (s.1<0)):=by rw[List.not_any_eq_all_not];congr 1;funext s;rw[JY,decide_eq_true_iff,KZ,decide_eq_false_iff_not];omega
  rw[ea];have a2:=E5 (b3 (aj w2 aq) (Bj (fun s:Int×Nat=>decide (s.1<0)) row));refine aX (b4 ?_);cases y:(row.any fun s=>decide (s.1<0))with
 |true=>rw[y]at a2;exact xL a2
 |false=>rw[y]at a2;refine(kZ a2).trans ?_;exact ak (a:=FR (row.foldl cu (0,1))) (b:=FR (1,1)) (bQ (aj (d:=LF row) rfl aq) (zM h)) rfl (xS _ _)
end Law
end
section
set_option exponentiation.threshold 3000
namespace Law
open PySem PyProof.Rows L2 DL Fq
theorem lf{s1 s2:FS}{r r':ah}{x:D}(h:s1 r=.exc x r'):af s1 s2 r=.exc x r':=by unfold af;rw[h]
theorem re{B:FS}{n:Nat}{ds:List D}{x:D}{r':ah}(h:B (a7 n ds)=.exc x r'):outR false (B (a7 n ds))=.exc x:=by rw[h];rfl
theorem Bv{m:List Md}{f:FE}{r:ah}{d:D}(h:f r=.exc d):kU m f r=.exc d (forget m r):=by unfold kU;rw[h];rfl
theorem yq{m:List Md}{f:FE}{r:ah}{d:D}(h:f r=.ok d):kU m f r=.nx r:=by unfold kU;rw[h];rfl
theorem Fc{m:List Md}{i:Nat}{f:FE}{r:ah}{d:D}(h:f r=.exc d):av m i f r=.exc d (forget m r):=by unfold av;rw[h];rfl
theorem D6{m:List Md}{nm:Str}{fl:ah->Res (List D)}{r:ah}{d:D}(h:fl r=.ok [d]):ji m nm fl r=.exc (xD nm []) (forget m r):=by unfold ji;rw[h,onE_ok];rfl
theorem D7{m:List Md}{nm f n:Str}{i:Int}{fl:ah->Res (List D)}{r:ah}(h:fl r=.ok [.tup [.str n,.int i]])(hs:gE n i):nY m nm f fl r=.exc (xD nm [(f,.tup [.str n,.int i])]) (forget m r):=by unfold nY;rw[h,onE_ok];simp only[if_pos hs]
theorem mM{fl:ah->Res (List D)}{F:List D->Res D}{r:ah}{ds:List D}{x:Res D}(h:fl r=.ok ds)(h2:F (ds++[])=x):i4 fl [] F r=x:=by unfold i4;rw[h];exact h2
theorem E2{m1:List Md}{i:Nat}{h1:Str->Bool}{fb f1:FS}{r r' r2:ah}{nm:Str}{ds:List (Str×D)}(h:fb r=.exc (xD nm ds) r')(hh:h1 nm=true)(hs:f1 (r'.set i (some (xD nm ds)))=.nx r2):fJ m1 i h1 fb f1 r=.nx (r2.set i none):=by unfold fJ;rw[h];show(if h1 nm=true then(match f1 (r'.set i (some (xD nm ds)))with|.nx r2=>Out.nx (r2.set i none)|_=>.stuck)else _)=_;rw[if_pos hh,hs]
theorem DJ{m1:List Md}{i:Nat}{h1:Str->Bool}{fb f1:FS}{r r':ah}(h:fb r=.nx r'):fJ m1 i h1 fb f1 r=.nx (forget m1 r'):=by unfold fJ;rw[h]
theorem Jm{w:Str}{z:Nat}(hw:w = "row"\/w = "column")(hz:z<7):gE w (z:Int):=by
 rcases hw with rfl|rfl <;> (match z,hz with
 |0,_=>exact(by decide+kernel)
 |1,_=>exact(by decide+kernel)
 |2,_=>exact(by decide+kernel)
 |3,_=>exact(by decide+kernel)
 |4,_=>exact(by decide+kernel)
 |5,_=>exact(by decide+kernel)
 |6,_=>exact(by decide+kernel))
abbrev RD(rz:List (List (Int×Nat))):D:=.lst (rz.map LF)
structure Gd(rz:List (List (Int×Nat))):Prop where
 len:rz.length<=8
 ok:∀row∈rz,Rw row
abbrev wD(w:Str)(k:Nat):D:=.tup [.str w,nD k]
theorem rS(i:Nat)(d:D)(ds:List D):bH i (d::ds)=.tup [nD i,d]::bH (i+1) ds:=rfl
section
variable{rz:List (List (Int×Nat))}{n:Nat}
theorem gZ:lenD [RD rz]=some (nD rz.length):=j7 LF rz
theorem rows_loop(hn:rz.length=n):∀(l:List (List (Int×Nat)))(i:Nat)(x y x' y':Option D),(∀row∈l,Rw row)->i+l.length=n ->(∃k,k<n/\aF (ck (aT (ax 2) (aT (ax 3) cj))) lx (bH i (l.map LF)) [some (RD rz),some (nD n),x,y]=.rt (wD "row" k)/\aF (ck (aT (ax 1) (aT (ax 2) cj))) m8 (bH i (l.map LF)) [some (RD rz),x',y']=.rt (wD "row" k)) \/((∀row∈l,fB row n=true)/\∃a b c d,aF (ck (aT (ax 2) (aT (ax 3) cj))) lx (bH i (l.map LF)) [some (RD rz),some (nD n),x,y]=.nx [some (RD rz),some (nD n),a,b]/\aF (ck (aT (ax 1) (aT (ax 2) cj))) m8 (bH i (l.map LF)) [some (RD rz),x',y']=.nx [some (RD rz),c,d])
|[],i,x,y,x',y',_,_=>.inr ⟨fun _ h=>(nomatch h),x,y,x',y',gA,gA⟩
|row::l,i,x,y,x',y',h,hi=>by rw[G_]at hi;have hr:=h row k_;have e1:aM (ag (gv 3) (ag (gv 1) ae)) [] lG [some (RD rz),some (nD n),some (nD i),some (LF row)]=.ok (.bl (fB row n)):=bQ (aj (d:=LF row) rfl (aj (d:=nD n) rfl aq)) (zL hr n);have e2:aM (ag (gv 2) (ag (fC (ag (gv 0) ae) lenD) ae)) [] nk [some (RD rz),some (nD i),some (LF row)]=.ok (.bl (fB row n)):=bQ (aj (d:=LF row) rfl (aj (d:=nD n) (b3 (aj (d:=RD rz) rfl aq) (by rw[gZ,hn])) aq)) (Hv hr n);rw[A_,rS];cases z:fB row n with
 |false=>
   rw[z]at e1 e2;left;refine⟨i,by omega,?_,?_⟩
   .exact l6 (r1:=[some (RD rz),some (nD n),some (nD i),some (LF row)]) rfl (aX ((bU (dU (b:=false) (cm e1 rfl))).trans (aX (b4 (dS (aj (d:=.str "row") rfl (aj (d:=nD i) rfl aq)) (by simp))))))
   .exact l6 (r1:=[some (RD rz),some (nD i),some (LF row)]) rfl (aX ((bU (dU (b:=false) (cm e2 rfl))).trans (aX (b4 (dS (aj (d:=.str "row") rfl (aj (d:=nD i) rfl aq)) (by simp))))))
 |true=>
   rw[z]at e1 e2;have s1:aF (ck (aT (ax 2) (aT (ax 3) cj))) lx (.tup [nD i,LF row]::bH (i+1) (l.map LF)) [some (RD rz),some (nD n),x,y]=aF (ck (aT (ax 2) (aT (ax 3) cj))) lx (bH (i+1) (l.map LF)) [some (RD rz),some (nD n),some (nD i),some (LF row)]:=gi (r1:=[some (RD rz),some (nD n),some (nD i),some (LF row)]) rfl (aE ((aL (dU (b:=true) (cm e1 rfl))).trans (e_skip _)));have s2:aF (ck (aT (ax 1) (aT (ax 2) cj))) m8 (.tup [nD i,LF row]::bH (i+1) (l.map LF)) [some (RD rz),x',y']=aF (ck (aT (ax 1) (aT (ax 2) cj))) m8 (bH (i+1) (l.map LF)) [some (RD rz),some (nD i),some (LF row)]:=gi (r1:=[some (RD rz),some (nD i),some (LF row)]) rfl (aE ((aL (dU (b:=true) (cm e2 rfl))).trans (e_skip _)));rw[s1,s2];rcases rows_loop hn l (i+1) (some (nD i)) (some (LF row)) (some (nD i)) (some (LF row)) (fun r hr=>h r (h_ _ hr)) (by omega)with hh|⟨g,hh⟩
   .exact .inl hh
   .refine .inr ⟨fun r hr=>?_,hh⟩;rcases C_.mp hr with rfl|hr
    .exact z
    .exact g r hr
def col(rz:List (List (Int×Nat)))(k:Nat):List (Int×Nat):=rz.map fun row=>bz row k
theorem rO{row:List (Int×Nat)}{k:Nat}(h:k<row.length):bz row k∈row:=by unfold bz;rw[m_ h];exact Lc _
theorem qS{l:List (Int×Nat)}{x:Nat}(h:x<l.length):az (LF l) (nD x)=some (FR (bz l x)):=by refine iY ?_;rw[s_,m_ h];unfold bz;rw[m_ h];rfl
theorem mG{row:List (Int×Nat)}(h:fB row n=true):row.length=n/\∀s∈row,0<=s.1:=by unfold fB at h;simp only[Jx,JJ,decide_eq_true_eq]at h;exact⟨h.2.1,h.1⟩
theorem Bs(g:Gd rz)(hg:∀row∈rz,fB row n=true){k:Nat}(hk:k<n):Rw (col rz k):=by refine⟨by unfold col;rw[n_];have:=g.len;omega,fun s hs=>?_⟩;obtain⟨row,hr,rfl⟩:=JL.mp hs;exact(g.ok row hr).2 _ (rO (by rw[(mG (hg row hr)).1];exact hk))
theorem FX(hn:rz.length=n)(hg:∀row∈rz,fB row n=true){k:Nat}(hk:k<n):fB (col rz k) n=decide ((col rz k).foldl cu (0,1)=(1,1)):=by
 unfold fB;have h1:((col rz k).all fun s=>decide (0<=s.1))=true:=JJ.mpr fun s hs=>by obtain⟨row,hr,rfl⟩:=JL.mp hs;have:=mG (hg row hr);exact decide_eq_true (this.2 _ (rO (by rw[this.1];exact hk)))
 rw[h1,decide_eq_true (show(col rz k).length=n by unfold col;rw[n_];exact hn),Lp,Lp]
theorem cols_loop(g:Gd rz)(hn:rz.length=n)(hg:∀row∈rz,fB row n=true):∀(j i:Nat)(x y x' y':Option D),i+j=n ->(∃k,k<n/\aF (ax 2) ly ((Ko i j).map nD) [some (RD rz),some (nD n),x,y]=.rt (wD "column" k)/\aF (ax 1) m9 ((Ko i j).map nD) [some (RD rz),x',y']=.rt (wD "column" k)) \/(∃a b c d,aF (ax 2) ly ((Ko i j).map nD) [some (RD rz),some (nD n),x,y]=.nx [some (RD rz),some (nD n),a,b]/\aF (ax 1) m9 ((Ko i j).map nD) [some (RD rz),x',y']=.nx [some (RD rz),c,d])
|0,i,x,y,x',y',_=>.inr ⟨x,y,x',y',gA,gA⟩
|j+1,i,x,y,x',y',hi=>by
  have hin:i<n:=by omega
  have hr:=Bs g hg hin;have h8:=g.len;have em:(rz.map fun row=>FR (bz row i))=(col rz i).map FR:=by unfold col;rw[Km];rfl
  have c1:=g8 (nl:=1) (cap:=[2]) (fi:=aV cg (gv 0)) (ft:=ax 0) (fe:=f2 (gv 0) (gv 1) az) (r:=[some (RD rz),some (nD n),some (nD i),y]) (l:=rz) LF (fun row=>FR (bz row i)) (fu (d:=RD rz) rfl rfl) (by omega) fun row hrow=>⟨[some (LF row),some (nD i)],rfl,ak (a:=LF row) (b:=nD i) rfl rfl (qS (by rw[(mG (hg row hrow)).1];exact hin))⟩
  have c2:=g8 (nl:=1) (cap:=[1]) (fi:=aV cg (gv 0)) (ft:=ax 0) (fe:=f2 (gv 0) (gv 1) az) (r:=[some (RD rz),some (nD i),y']) (l:=rz) LF (fun row=>FR (bz row i)) (fu (d:=RD rz) rfl rfl) (by omega) fun row hrow=>⟨[some (LF row),some (nD i)],rfl,ak (a:=LF row) (b:=nD i) rfl rfl (qS (by rw[(mG (hg row hrow)).1];exact hin))⟩
  rw[em]at c1 c2;have e1:=cm (bQ (aj c1 (aj (f:=gv 1) (d:=nD n) rfl aq)) (zL hr n)) rfl;have e2:=ak (f':=fun _=>Res.ok (D.tup [D.int 1,D.int 1])) (b:=FR (1,1)) (bQ (dds:=[]) (aj c2 aq) (zM hr)) rfl (CS _ _);rw[FX hn hg hin]at e1;rw[MR,A_];cases z:decide ((col rz i).foldl cu (0,1)=(1,1))with
 |false=>
   rw[z]at e1 e2;left;refine⟨i,hin,?_,?_⟩
   .exact l6 (r1:=[some (RD rz),some (nD n),some (nD i),y]) rfl (aX ((bU (dU (b:=false) e1)).trans (aX (b4 (dS (aj (d:=.str "column") rfl (aj (d:=nD i) rfl aq)) (by simp))))))
   .exact l6 (r1:=[some (RD rz),some (nD i),y']) rfl (aX ((bU (bV e2)).trans (aX (b4 (dS (aj (d:=.str "column") rfl (aj (d:=nD i) rfl aq)) (by simp))))))
 |true=>rw[z]at e1 e2;have s1:aF (ax 2) ly (nD i::(Ko (i+1) j).map nD) [some (RD rz),some (nD n),x,y]=aF (ax 2) ly ((Ko (i+1) j).map nD) [some (RD rz),some (nD n),some (nD i),y]:=gi (r1:=[some (RD rz),some (nD n),some (nD i),y]) rfl (aE ((aL (dU (b:=true) e1)).trans (e_skip _)));have s2:aF (ax 1) m9 (nD i::(Ko (i+1) j).map nD) [some (RD rz),x',y']=aF (ax 1) m9 ((Ko (i+1) j).map nD) [some (RD rz),some (nD i),y']:=gi (r1:=[some (RD rz),some (nD i),y']) rfl (aE ((aL (bV e2)).trans (e_skip _)));rw[s1,s2];exact cols_loop g hn hg j (i+1) _ _ _ _ (by omega)
def b8(row:List (Int×Nat)):List (Int×Nat):=row.map fun s=>low s.1 s.2
abbrev bY(rz:List (List (Int×Nat))):D:=.tup (rz.map fun row=>TF (b8 row))
theorem yG{row:List (Int×Nat)}:(row.map fun s=>FR (low s.1 s.2))=(b8 row).map FR:=by unfold b8;rw[Km];rfl
theorem HP{row:List (Int×Nat)}(h:Rw row):nu [LF row]=.ok (TF (b8 row)):=by
 have h9:=h.1;refine dv (B:=sY) (n:=1) ?_;unfold sY;have c:=g8 (nl:=2) (cap:=[]) (fi:=aV cg (gv 0)) (ft:=ck (aT (ax 0) (aT (ax 1) cj))) (fe:=aM (ag (gv 0) (ag (gv 1) ae)) [] j9) (r:=[some (LF row)]) (l:=row) FR (fun s=>FR (low s.1 s.2)) (fu (d:=LF row) rfl rfl) (by omega) fun s hs=>⟨[some (.int s.1),some (nD s.2)],rfl,bQ (aj (d:=.int s.1) rfl (aj (d:=nD s.2) rfl aq)) (Ah (h.2 s hs).pos (h.2 s hs).bot (by omega))⟩
 rw[yG]at c;exact aX (b4 (b3 (aj c aq) (e_tupL _)))
inductive Due(rz:List (List (Int×Nat))):D->Prop where
 |many:Due rz (.str "many")
 |why (w:Str) (k:Nat):w = "row"\/w = "column"->k<7->Due rz (wD w k)
 |tab:1<=rz.length->(∀row∈rz,row.length=rz.length)->Due rz (bY rz)
theorem xW:bF iN (xD "TooMany" [])=some (.bl false):=rfl
theorem C3:bF iO (xD "TooMany" [])=some (.bl true):=rfl
theorem C4:bF iP (xD "TooMany" [])=some (.bl true):=rfl
theorem C6(ds:List (Str×D)):bF iN (xD "NoTable" ds)=some (.bl true):=rfl
theorem C7(ds:List (Str×D)):bF iO (xD "NoTable" ds)=some (.bl false):=rfl
theorem C8(ds:List (Str×D)):bF iP (xD "NoTable" ds)=some (.bl true):=rfl
theorem zm{nm:Str}{ds:List (Str×D)}{d:D}(h:ke [RD rz]=.exc (xD nm ds))(hh:mW nm=true):∀(hd:af (bN q0 (bn (aR (f1 (gv 2) (bF iN))) (bn (aR (f1 (gv 2) (bF iP))) (bG (aR (f1 (gv 2) (bF iO)))))) (af (au q0 (f1 (gv 2) (jf l8 "why"))) ao) ao) (af (bN q0 (bn (aR (f1 (gv 2) (bF iO))) (bn (aR (f1 (gv 2) (bF iP))) (bG (aR (f1 (gv 2) (bF iN)))))) (af (au q0 (fun _=>Res.ok (D.str "many"))) ao) ao) (af (au q0 (gv 1)) ao)) [some (RD rz),some .non,some (xD nm ds),none]=.rt d),kj [RD rz]=.ok d:=by intro hd;refine dv (B:=mZ) (n:=4) ?_;unfold mZ;refine(aE (r':=[some (RD rz),some .non,none,none]) rfl).trans ((aE (r':=[some (RD rz),some .non,some .non,none]) rfl).trans ?_);refine(aE (r':=[some (RD rz),some .non,some (xD nm ds),none]) ?_).trans hd;exact(E2 (nm:=nm) (ds:=ds) (r':=[some (RD rz),some .non,some .non,none]) (r2:=[some (RD rz),some .non,some (xD nm ds),some (xD nm ds)]) (lf (Fc (mM (aj (d:=RD rz) rfl aq) h))) hh rfl).trans rfl
theorem Gi{d:D}(h:ke [RD rz]=.ok d):kj [RD rz]=.ok d:=by
 refine dv (B:=mZ) (n:=4) ?_;unfold mZ;refine(aE (r':=[some (RD rz),some .non,none,none]) rfl).trans ((aE (r':=[some (RD rz),some .non,some .non,none]) rfl).trans ?_);refine(aE (r':=[some (RD rz),some d,some .non,none]) ?_).trans ?_
 .exact(DJ (r':=[some (RD rz),some d,some .non,none]) (aE (cb (mM (aj (d:=RD rz) rfl aq) h)))).trans rfl
 .refine(aE ((aL (iJ (cm (du (a:=.non) (d:=.bl false) rfl rfl) rfl))).trans (e_skip _))).trans ?_;refine(aE ((aL (iJ (cm (du (a:=.non) (d:=.bl false) rfl rfl) rfl))).trans (e_skip _))).trans ?_;exact aX (b4 rfl)
theorem Ie(h:rz.length<1\/7<rz.length):nq [RD rz]=.exc (xD "TooMany" []):=by
 refine re (B:=kh) (n:=1) (r':=forget [Md.bw] [some (RD rz)]) ?_;unfold kh;refine lf ((bU ?_).trans (lf (D6 (d:=.str "there must be from one to seven rows") rfl)));have h1:=bV (ak (f':=fun _=>Res.ok (D.int 1)) (b:=nD 1) (b3 (aj (f:=gv 0) (r:=[some (RD rz)]) (d:=RD rz) rfl aq) gZ) rfl (lZ _ 1));have h2:=bV (ak (f':=fun _=>Res.ok (D.int 7)) (b:=nD 7) (b3 (aj (f:=gv 0) (r:=[some (RD rz)]) (d:=RD rz) rfl aq) gZ) rfl (gU _ 7));by_cases z:rz.length<1
 .rw[decide_eq_true z]at h1;exact kx h1
 .rw[decide_eq_false z]at h1;rw[decide_eq_true (by omega)]at h2;exact(cG h1).trans h2
theorem zJ(h:1<=rz.length)(h7:rz.length<=7):nq [RD rz]=.ok .non:=by
 have h1:=bV (ak (f':=fun _=>Res.ok (D.int 1)) (b:=nD 1) (b3 (aj (f:=gv 0) (r:=[some (RD rz)]) (d:=RD rz) rfl aq) gZ) rfl (lZ _ 1));have h2:=bV (ak (f':=fun _=>Res.ok (D.int 7)) (b:=nD 7) (b3 (aj (f:=gv 0) (r:=[some (RD rz)]) (d:=RD rz) rfl aq) gZ) rfl (gU _ 7));rw[decide_eq_false (by omega)]at h1 h2;show outR false (kh (a7 1 [RD rz]))=_;have:kh (a7 1 [RD rz])=.nx [some (RD rz)]:=by unfold kh;exact aE ((aL ((cG h1).trans h2)).trans (e_skip _))
 rw[this];rfl
theorem Hh{w:Str}{k:Nat}(h1:1<=rz.length)(h7:rz.length<=7)(hw:w = "row"\/w = "column")(hk:k<7)(h:ki [RD rz]=.ok (wD w k)):ke [RD rz]=.exc (xD "NoTable" [("why",wD w k)]):=by refine re (B:=kd) (n:=2) (r':=[some (RD rz),some (wD w k)]) ?_;unfold kd;refine(aE (yq (mM (aj (d:=RD rz) rfl aq) (zJ h1 h7)))).trans ?_;refine(aE (cb (bQ (aj (d:=RD rz) rfl aq) h))).trans ?_;exact lf ((bU (bV (ak (a:=wD w k) (b:=.non) rfl rfl rfl))).trans (lf (D7 (i:=(k:Int)) (aj (d:=wD w k) rfl aq) (Jm hw hk))))
theorem Hi(g:Gd rz)(h1:1<=rz.length)(h7:rz.length<=7)(h:ki [RD rz]=.ok .non):ke [RD rz]=.ok (bY rz):=by
 refine dv (B:=kd) (n:=2) ?_;unfold kd;refine(aE (yq (mM (aj (d:=RD rz) rfl aq) (zJ h1 h7)))).trans ?_;refine(aE (cb (bQ (aj (d:=RD rz) rfl aq) h))).trans ?_;refine(aE ((aL (bV (ak (a:=.non) (b:=.non) rfl rfl rfl))).trans (e_skip _))).trans ?_;have c:=g8 (nl:=1) (cap:=[]) (fi:=aV cg (gv 0)) (ft:=ax 0) (fe:=aM (ag (gv 0) ae) [] nu) (r:=[some (RD rz),some .non]) (l:=rz) LF (fun row=>TF (b8 row)) (fu (d:=RD rz) rfl rfl) (by omega) fun row hr=>⟨[some (LF row)],rfl,bQ (aj (d:=LF row) rfl aq) (HP (g.ok row hr))⟩
 exact aX (b4 (b3 (aj c aq) (e_tupL _)))
theorem vB(g:Gd rz):∃d,Due rz d/\lj [RD rz]=.ok d/\kj [RD rz]=.ok d:=by
 have h8:=g.len;have d0:∀{d:D},mO [some (RD rz),none,none,none]=.rt d->lj [RD rz]=.ok d:=fun h=>dv (B:=mO) (n:=4) h;have s0:(av q0 1 (fC (ag (gv 0) ae) lenD)) [some (RD rz),none,none,none]=.nx [some (RD rz),some (nD rz.length),none,none]:=cb (b3 (aj (d:=RD rz) rfl aq) gZ);have t1:aS (f2 (gv 1) (ci 1) hJ) [some (RD rz),some (nD rz.length),none,none]=.ok (decide (rz.length<1)):=bV (ak (a:=nD rz.length) (b:=nD 1) rfl rfl (lZ _ 1));have t2:aS (f2 (gv 1) (ci 7) c9) [some (RD rz),some (nD rz.length),none,none]=.ok (decide (7<rz.length)):=bV (ak (a:=nD rz.length) (b:=nD 7) rfl rfl (gU _ 7));by_cases z:rz.length<1\/7<rz.length
 .refine⟨.str "many",.many,d0 ?_,zm (nm := "TooMany") (ds:=[]) ?_ rfl ?_⟩
  .unfold mO;refine(aE s0).trans (aX ((bU ?_).trans (aX (b4 rfl))));by_cases z1:rz.length<1
   .rw[decide_eq_true z1]at t1;exact kx t1
   .rw[decide_eq_false z1]at t1;rw[decide_eq_true (by omega)]at t2;exact(cG t1).trans t2
  .exact re (B:=kd) (n:=2) (lf (Bv (mM (aj (d:=RD rz) rfl aq) (Ie z))))
  .refine(aE ((aL (iJ (cm (du (a:=xD "TooMany" []) rfl xW) rfl))).trans (e_skip _))).trans ?_;refine aX ((bU ?_).trans (aX (b4 rfl)));rw[f8 (cm (du (a:=xD "TooMany" []) rfl C3) rfl),f8 (cm (du (a:=xD "TooMany" []) rfl C4) rfl)];exact dU (b:=false) (cm (du (a:=xD "TooMany" []) rfl xW) rfl)
 .have h1:1<=rz.length:=by omega
  have h7:rz.length<=7:=by omega
  rw[decide_eq_false (by omega)]at t1 t2;have d1:∀{d:D},af (dE q0 (dO (gv 0)) (ck (aT (ax 2) (aT (ax 3) cj))) lx) (af (dE q0 (di cX (ag (gv 1) ae)) (ax 2) ly) (af (au q0 (fC (ag (dC 1 [] (aV cg (gv 0)) (ax 0) (fun _=>Res.ok true) (fC (ag (dC 2 [] (aV cg (gv 0)) (ck (aT (ax 0) (aT (ax 1) cj))) (fun _=>Res.ok true) (aM (ag (gv 0) (ag (gv 1) ae)) [] gp)) ae) tupD)) ae) tupD)) ao)) [some (RD rz),some (nD rz.length),none,none]=.rt d->lj [RD rz]=.ok d:=fun h=>d0 (by unfold mO;exact(aE s0).trans ((aE ((aL ((cG t1).trans t2)).trans (e_skip _))).trans h));have w0:∀{d:D},lw [some (RD rz),none,none]=.rt d->ki [RD rz]=.ok d:=fun h=>dv (B:=lw) (n:=3) h;have no:∀{w:Str}{k:Nat},w = "row"\/w = "column"->k<7->ki [RD rz]=.ok (wD w k)->kj [RD rz]=.ok (wD w k):=fun{w k} hw hk h=>by refine zm (nm := "NoTable") (ds:=[("why",wD w k)]) (Hh h1 h7 hw hk h) rfl ?_;refine aX ((bU ?_).trans (aX (b4 (du (a:=xD "NoTable" [("why",wD w k)]) rfl rfl))));rw[f8 (cm (du (a:=xD "NoTable" [("why",wD w k)]) rfl (C6 _)) rfl),f8 (cm (du (a:=xD "NoTable" [("why",wD w k)]) rfl (C8 _)) rfl)];exact dU (b:=false) (cm (du (a:=xD "NoTable" [("why",wD w k)]) rfl (C7 _)) rfl)
  rcases rows_loop (rz:=rz) rfl rz 0 none none none none g.ok (by omega)with⟨k,k1,k2,k3⟩|⟨hg,a,b,c,d,k2,k3⟩
  .refine⟨wD "row" k,.why _ k (.inl rfl) (by omega),d1 (aX ((dX (jD (d:=RD rz) rfl rfl)).trans k2)),no (.inl rfl) (by omega) (w0 ?_)⟩;unfold lw;exact aX ((dX (jD (d:=RD rz) rfl rfl)).trans k3)
  .rcases cols_loop g rfl hg rz.length 0 a b c d (by omega)with⟨k,k1,k4,k5⟩|⟨a',b',c',d',k4,k5⟩
   .rw[<-Kz]at k4 k5;refine⟨wD "column" k,.why _ k (.inr rfl) (by omega),d1 ?_,no (.inr rfl) (by omega) (w0 ?_)⟩
    .exact(aE ((dX (jD (d:=RD rz) rfl rfl)).trans k2)).trans (aX ((dX (jd (aj (d:=nD rz.length) rfl aq) (i9 (by omega)))).trans k4))
    .unfold lw;exact(aE ((dX (jD (d:=RD rz) rfl rfl)).trans k3)).trans (aX ((dX (jd (aj (b3 (aj (d:=RD rz) rfl aq) gZ) aq) (i9 (by omega)))).trans k5))
   .rw[<-Kz]at k4 k5;refine⟨bY rz,.tab h1 fun row hr=>(mG (hg row hr)).1,d1 ?_,Gi (Hi g h1 h7 (w0 ?_))⟩
    .refine(aE ((dX (jD (d:=RD rz) rfl rfl)).trans k2)).trans ((aE ((dX (jd (aj (d:=nD rz.length) rfl aq) (i9 (by omega)))).trans k4)).trans ?_);have c:=g8 (nl:=1) (cap:=[]) (fi:=aV cg (gv 0)) (ft:=ax 0) (fe:=fC (ag (dC 2 [] (aV cg (gv 0)) (ck (aT (ax 0) (aT (ax 1) cj))) (fun _=>Res.ok true) (aM (ag (gv 0) (ag (gv 1) ae)) [] gp)) ae) tupD) (r:=[some (RD rz),some (nD rz.length),a',b']) (l:=rz) LF (fun row=>TF (b8 row)) (fu (d:=RD rz) rfl rfl) (by omega) fun row hr=>⟨[some (LF row)],rfl,by
      have h:=g.ok row hr;have h9:=h.1;have c:=g8 (nl:=2) (cap:=[]) (fi:=aV cg (gv 0)) (ft:=ck (aT (ax 0) (aT (ax 1) cj))) (fe:=aM (ag (gv 0) (ag (gv 1) ae)) [] gp) (r:=[some (LF row)]) (l:=row) FR (fun s=>FR (low s.1 s.2)) (fu (d:=LF row) rfl rfl) (by omega) fun s hs=>⟨[some (.int s.1),some (nD s.2)],rfl,bQ (aj (d:=.int s.1) rfl (aj (d:=nD s.2) rfl aq)) (oQ (h.2 s hs).pos (h.2 s hs).bot (by omega))⟩
      rw[yG]at c;exact b3 (aj c aq) (e_tupL _)⟩
     exact aX (b4 (b3 (aj c aq) (e_tupL _)))
    .unfold lw;refine(aE ((dX (jD (d:=RD rz) rfl rfl)).trans k3)).trans ((aE ((dX (jd (aj (b3 (aj (d:=RD rz) rfl aq) gZ) aq) (i9 (by omega)))).trans k5)).trans ?_);exact aX (b4 rfl)
end
end Law
end
section
set_option exponentiation.threshold 3000
namespace Law
open PySem PyProof.Rows L2 DL Fq
abbrev WF(rz:List (List (Int×Nat))):List (List D):=rz.map fun row=>row.map FR
theorem qH(rz:List (List (Int×Nat))):D.lst ((WF rz).map D.lst)=RD rz:=by rw[Km];rfl
section
variable{f1 f2:cZ}{F:FM}{r r':ah}{w w':List (List D)}{i j:Nat}
theorem bv(h:f1 r w=some (r',w')):c6 f1 F r w=F r' w':=by unfold c6;rw[h]
theorem seq2(h:f1 r w=some (r',w')):iI f1 f2 r w=f2 r' w':=by unfold iI;rw[h];rfl
theorem fU{f:FS}(h:f r=.nx r'):cY f r w=some (r',w):=by unfold cY;rw[h]
theorem AW{q:FQ}(h:q r=.ok true):jP q f1 f2 r w=f1 r w:=by unfold jP;rw[h]
theorem AV{q:FQ}(h:q r=.ok false):jP q f1 f2 r w=f2 r w:=by unfold jP;rw[h]
theorem n6{q:FQ}{F1 F2:FM}(h:q r=.ok true):gq q F1 F2 r w=F1 r w:=by unfold gq;rw[h]
theorem dD{q:FQ}{F1 F2:FM}(h:q r=.ok false):gq q F1 F2 r w=F2 r w:=by unfold gq;rw[h]
theorem jI{s:FS}(h:F r w=.nx r'):d5 F s r w=s r':=by unfold d5;rw[h]
theorem yC{s:FS}{d:D}(h:F r w=.rt d):d5 F s r w=.rt d:=by unfold d5;rw[h]
theorem AX{q:FQ}{F1 F2:FM}{d:D}(h:q r=.ok true)(h1:F1 r w=.rt d):jO q F1 F2 r w=.rt d:=by unfold jO;rw[h];simp only[h1]
theorem iX{q:FQ}{F1 F2:FM}(h:q r=.ok false):jO q F1 F2 r w=F2 r w:=by unfold jO;rw[h]
theorem D8{fl:ah->Res (List D)}{G:List (List D)->List D->Res D}{ds:List D}{d:D}(h:fl r=.ok ds)(h1:G w ds=.ok d):kt fl G r w=.rt d:=by show iK fl G _ r w=_;unfold iK;rw[h];simp only[h1]
theorem E8{f:FE}{d:D}(h:f (cy i r w)=.ok d)(hc:Cln d):kR i j f r w=some (r.set j (some d),w):=by unfold kR;rw[h];simp only[if_pos hc]
theorem yv{f:FE}{ft:FT}{d:D}(h:f (cy i r w)=.ok d)(hc:Cln d)(h2:ft d r=some r'):jx i f ft r w=some (r',w):=by unfold jx;rw[h];simp only[if_pos hc,h2,Ka]
theorem De{ds:List D}(h:r[j]? = some (some (.lst ds)))(hl:w.length<=1000):e8 j r w=some (r.set j none,w++[ds]):=by unfold e8;rw[h];simp only[if_pos (show w.length<sizeLine by rw[Jz];omega)]
theorem F4{ft:FT}{b:cZ}:hX ft b [] r w=some (r,w):=by unfold hX;rfl
theorem GC{ft:FT}{b:cZ}{d:D}{ds:List D}{r1:ah}(h:ft d r=some r1)(h2:b r1 w=some (r',w')):hX ft b (d::ds) r w=hX ft b ds r' w':=by
 conv=>lhs;unfold hX
 rw[h];show(b r1 w).bind _=_;rw[h2];rfl
end
theorem jo(s:Int×Nat):Cln (FR s):=vA s.1 s.2
theorem n8{n k:Nat}(h:k<n):c8 n (k:Int)=some k:=by unfold c8;rw[if_pos (by omega),if_pos (by omega),LM]
def aZ(rz:List (List (Int×Nat)))(h:Nat):List (Int×Nat):=(rz[h]?).getD []
theorem mJ{rz:List (List (Int×Nat))}{h:Nat}(hh:h<rz.length):rz[h]? = some (aZ rz h):=by unfold aZ;rw[m_ hh];rfl
theorem zK{rz:List (List (Int×Nat))}{h:Nat}(hh:h<rz.length):aZ rz h∈rz:=Kd (mJ hh)
theorem wH{rz:List (List (Int×Nat))}{h:Nat}(hh:h<rz.length):az (RD rz) (nD h)=some (LF (aZ rz h)):=iY (by rw[s_,mJ hh];rfl)
def put(rz:List (List (Int×Nat)))(h t:Nat)(s:Int×Nat):List (List (Int×Nat)):=rz.set h ((aZ rz h).set t s)
theorem xM(rz:List (List (Int×Nat)))(h t:Nat)(s:Int×Nat):WF (put rz h t s)=(WF rz).set h (((aZ rz h).map FR).set t (FR s)):=by unfold put;show L7 _ (List.set _ _ _)=_;rw[Oe,Oe]
theorem G4{rz:List (List (Int×Nat))}{h t:Nat}{s:Int×Nat}(hh:h<rz.length)(ht:t<(aZ rz h).length):jZ (WF rz) (h:Int) (t:Int) (FR s)=some (WF (put rz h t s)):=by unfold jZ;rw[n8 (by rw[n_];exact hh)];simp only[Kq];rw[s_,mJ hh];simp only[Ka,Kq];rw[n8 (by rw[n_];exact ht),Ka,xM]
theorem k9{i a b:Nat}{f:FE}{r:ah}{rz:List (List (Int×Nat))}{h t:Nat}{s:Int×Nat}(ha:r[a]? = some (some (nD h)))(hb:r[b]? = some (some (nD t)))(hf:f (r.set i (some (RD rz)))=.ok (FR s))(hh:h<rz.length)(ht:t<(aZ rz h).length):eL i a b f r (WF rz)=some (r,WF (put rz h t s)):=by
 have hf':f (cy i r (WF rz))=.ok (FR s):=by show f (r.set i (some (.lst ((WF rz).map D.lst))))=_;rw[qH];exact hf
 unfold eL;rw[ha,hb,hf'];simp only[if_pos (jo s),G4 hh ht,Ka]
structure Sr(b n:Nat)(rz:List (List (Int×Nat))):Prop where
 len:rz.length=n
 ok:∀row∈rz,row.length=n/\∀s∈row,Bd b s
section
variable{b b' n:Nat}{rz:List (List (Int×Nat))}
theorem Sr.row(S:Sr b n rz){h:Nat}(hh:h<n):(aZ rz h).length=n/\∀s∈aZ rz h,Bd b s:=S.ok _ (zK (by rw[S.len];exact hh))
theorem Sr.cell(S:Sr b n rz){h t:Nat}(hh:h<n)(ht:t<n):Bd b (bz (aZ rz h) t):=(S.row hh).2 _ (rO (by rw[(S.row hh).1];exact ht))
theorem Sr.put(S:Sr b n rz){h t:Nat}{s:Int×Nat}(hh:h<n)(hs:Bd b' s)(hb:b<=b'):Sr b' n (put rz h t s):=by
 refine⟨by unfold Law.put;rw[JD];exact S.len,fun row hr=>?_⟩;unfold Law.put at hr;rcases Lf hr with z|z
 .exact⟨(S.ok row z).1,fun s hs=>((S.ok row z).2 s hs).mono hb⟩
 .subst z;refine⟨by rw[JD];exact(S.row hh).1,fun x hx=>?_⟩;rcases Lf hx with z|z
  .exact((S.row hh).2 x z).mono hb
  .rw[z];exact hs
theorem Sr.ix(S:Sr b n rz){h:Nat}(hh:h<n):az (RD rz) (nD h)=some (LF (aZ rz h)):=wH (by rw[S.len];exact hh)
theorem Sr.at(S:Sr b n rz){h t:Nat}(hh:h<n)(ht:t<n):az (LF (aZ rz h)) (nD t)=some (FR (bz (aZ rz h) t)):=qS (by rw[(S.row hh).1];exact ht)
end
abbrev Ce(q:Int×Nat):Prop:=q.1.natAbs<=720/\0<q.2/\q.2<=720
theorem yY{T d2:D}{x2:Option D}(bq k:Nat):∀(l acc:List (Int×Nat))(j:Nat)(x y z:Option D),(∀q∈l,Ce q)->acc.length+l.length<=1000 ->∃(nw:List (Int×Nat))(x' y' z':Option D),nw.length=l.length/\(∀q∈nw,Bd 12 q)/\aF (ck (aT (ax 6) (aT (ax 7) cj))) sN (bH j (l.map FR)) [some T,some (nD bq),x2,some (nD k),some d2,some (LF acc),x,y,z]=.nx [some T,some (nD bq),x2,some (nD k),some d2,some (LF (acc++nw)),x',y',z']
|[],acc,j,x,y,z,_,_=>⟨[],x,y,z,rfl,fun _ h=>(nomatch h),by rw[JZ];exact gA⟩
|q::l,acc,j,x,y,z,h,hl=>by
  rw[G_]at hl;obtain⟨q1,q2,q3⟩:=h q k_;have hm:(bq+3*k+j)%5<5:=Kc _ (by omega);have hM:1+(bq+3*k+j)%5<=5:=by omega
  have hM1:1<=1+(bq+3*k+j)%5:=by omega
  generalize eM:1+(bq+3*k+j)%5=M at hM hM1;obtain⟨nw,x',y',z',e1,e2,e3⟩:=yY (T:=T) (d2:=d2) (x2:=x2) bq k l (acc++[(q.1*(M:Int),q.2*M)]) (j+1) (some (nD j)) (some (FR q)) (some (nD M)) (fun r hr=>h r (h_ _ hr)) (by simp;omega);refine⟨(q.1*(M:Int),q.2*M)::nw,x',y',z',by simp[e1],fun s hs=>?_,?_⟩
  .rcases C_.mp hs with rfl|hs
   .refine⟨Nr q2 hM1,?_,?_⟩
    .show q.2*M<4096;have:=OY q3 hM;omega
    .show(q.1*(M:Int)).natAbs<4096;rw[LS,I_];have:=OY q1 hM;omega
   .exact e2 s hs
  .rw[A_,rS];have em:LF (acc++[(q.1*(M:Int),q.2*M)])=D.lst (acc.map FR++[FR (q.1*(M:Int),q.2*M)]):=by show D.lst (L7 FR _)=_;rw[J3];rfl
   rw[show acc++(q.1*(M:Int),q.2*M)::nw=(acc++[(q.1*(M:Int),q.2*M)])++nw by simp,<-e3];refine gi (r1:=[some T,some (nD bq),x2,some (nD k),some d2,some (LF acc),some (nD j),some (FR q),z]) rfl ?_;have m3:bj (.int 3) (nD k)=some (nD (3*k)):=by rw[k8 (.inl ⟨by decide,by decide⟩)];show some (D.int _)=some (D.int _);rw[Kk];rfl
   refine(aE (cb (d:=nD M) (ak (a:=nD 1) rfl (ak (b:=nD 5) (ak (ak (a:=nD bq) rfl (ak (b:=nD k) rfl rfl m3) (fF _ _)) (b:=nD j) rfl (fF _ _)) rfl (d3 (by omega))) (by rw[fF,eM])))).trans ?_;have a1:bj (.int q.1) (nD M)=some (.int (q.1*(M:Int))):=k8 (.inr ⟨by omega,by omega⟩);have a2:bj (nD q.2) (nD M)=some (nD (q.2*M)):=by rw[k8 (.inr ⟨by omega,by omega⟩)];show some (D.int _)=some (D.int _);rw[Kk]
   rw[em];exact aE (on (d:=LF acc) (ds:=[FR (q.1*(M:Int),q.2*M)]) rfl rfl (aj (dS (aj (ak (b:=nD M) (ak (a:=FR q) rfl rfl (iL q)) rfl a1) (aj (ak (b:=nD M) (ak (a:=FR q) rfl rfl (gY q)) rfl a2) aq)) (by simp)) aq) (rj (by simp;omega)))
theorem yZ{T:D}(bq n:Nat):∀(l:List (List (Int×Nat)))(i:Nat)(acc:List (List (Int×Nat)))(x3 x4 x6 x7 x8:Option D),(∀row∈l,row.length=n/\∀q∈row,Ce q)->n<=100->acc.length+l.length<=1000->(∀row∈acc,row.length=n/\∀s∈row,Bd 12 s) ->∃(rz:List (List (Int×Nat)))(y3 y4 y6 y7 y8:Option D),rz.length=acc.length+l.length/\(∀row∈rz,row.length=n/\∀s∈row,Bd 12 s) /\hX (ck (aT (ax 3) (aT (ax 4) cj))) (iI (cY (av jl 5 (eG ae))) (iI (cY (dE eV (dO (gv 4)) (ck (aT (ax 6) (aT (ax 7) cj))) sN)) (iI (e8 5) (fun r w=>some (r,w))))) (bH i (l.map TF)) [some T,some (nD bq),none,x3,x4,none,x6,x7,x8] (WF acc)=some ([some T,some (nD bq),none,y3,y4,none,y6,y7,y8],WF rz)
|[],i,acc,x3,x4,x6,x7,x8,_,_,_,ha=>⟨acc,x3,x4,x6,x7,x8,rfl,ha,F4⟩
|row::l,i,acc,x3,x4,x6,x7,x8,h,hn,hl,ha=>by
  rw[G_]at hl;obtain⟨r1,r2⟩:=h row k_;obtain⟨nw,x',y',z',e1,e2,e3⟩:=yY (T:=T) (d2:=TF row) (x2:=none) bq i row [] 0 x6 x7 x8 r2 (by simp;omega);rw[Oz]at e3;obtain⟨rz,y3,y4,y6,y7,y8,f1,f2,f3⟩:=yZ (T:=T) bq n l (i+1) (acc++[nw]) (some (nD i)) (some (TF row)) x' y' z' (fun r hr=>h r (h_ _ hr)) hn (by simp;omega) (fun r hr=>by
   rcases JS.mp hr with z|z
   .exact ha r z
   .rw[E_.mp z];exact⟨by rw[e1,r1],e2⟩)
  refine⟨rz,y3,y4,y6,y7,y8,by rw[f1];simp;omega,f2,?_⟩;rw[A_,rS,<-f3];have ea:WF (acc++[nw])=WF acc++[nw.map FR]:=by show L7 _ _=_;rw[J3];rfl
  rw[ea];refine GC (r1:=[some T,some (nD bq),none,some (nD i),some (TF row),none,x6,x7,x8]) rfl ?_;refine(seq2 (fU (r':=[some T,some (nD bq),none,some (nD i),some (TF row),some (LF []),x6,x7,x8]) (cb (i7 aq (by simp))))).trans ?_;refine(seq2 (fU ((dX (jD (d:=TF row) rfl rfl)).trans e3))).trans ?_;exact seq2 (De (ds:=nw.map FR) rfl (by rw[n_];omega))
theorem Hx{tb:List (List (Int×Nat))}{n:Nat}(bq:Nat)(hl:tb.length=n)(hn:n<=7)(h:∀row∈tb,row.length=n/\∀q∈row,Ce q):∃rz,Sr 12 n rz/\pJ [.tup (tb.map TF),nD bq]=some (WF rz):=by obtain⟨rz,y3,y4,y6,y7,y8,f1,f2,f3⟩:=yZ (T:=.tup (tb.map TF)) bq n tb 0 [] none none none none none h (by omega) (by simp;omega) (fun _ h=>(nomatch h));refine⟨rz,⟨by rw[f1];simp;exact hl,f2⟩,?_⟩;show pI [some (.tup (tb.map TF)),some (nD bq),none,none,none,none,none,none,none]=_;have lp:dO (gv 0) [some (.tup (tb.map TF)),some (nD bq),none,none,none,none,none,none,none]=.ok (bH 0 (tb.map TF)):=jD (d:=.tup (tb.map TF)) rfl rfl;unfold pI qu qi;show Option.bind (ma _ _ _ [some (.tup (tb.map TF)),some (nD bq),none,none,none,none,none,none,none] []) _=_;unfold ma;rw[lp];have f3':=f3;simp only[]at f3' ⊢;rw[show([]:List (List D))=WF []from rfl,f3'];rfl
end Law
end
section
set_option exponentiation.threshold 3000
namespace Law
open PySem PyProof.Rows L2 DL Fq
theorem mD{i:Nat}{r:ah}{rz:List (List (Int×Nat))}:cy i r (WF rz)=r.set i (some (RD rz)):=by show r.set i (some (.lst ((WF rz).map D.lst)))=_;rw[qH]
theorem dB{i:Nat}{s:FS}{r:ah}{rz:List (List (Int×Nat))}:fZ i s r (WF rz)=s (r.set i (some (RD rz))):=by unfold fZ;rw[qH]
theorem yr{rz:List (List (Int×Nat))}{k:Nat}(h:k<rz.length):(WF rz).getD k []=(aZ rz k).map FR:=by rw[z_,s_,mJ h];rfl
theorem putA_ok{i jr k t:Nat}{f fi:FE}{r:ah}{rz:List (List (Int×Nat))}{s:Int×Nat}(hk:k<rz.length)(ht:t<(aZ rz k).length)(hf:f ((r.set i (some (RD rz))).set jr (some (LF (aZ rz k))))=.ok (FR s))(hfi:fi r=.ok (nD t)):dw i jr f fi r (WF rz) k=some (WF (put rz k t s)):=by
 have hf':f (lY i jr r (WF rz) k)=.ok (FR s):=by show f ((cy i r (WF rz)).set jr (some (.lst ((WF rz).getD k []))))=_;rw[mD,yr hk];exact hf
 unfold dw;rw[hf',hfi];simp only[if_pos (jo s)];rw[yr hk,n8 (by rw[n_];exact ht),Ka,xM]
theorem Bk{i jr k:Nat}{fi:FE}{fA:FA}{r:ah}{rz rows':List (List (Int×Nat))}(hi:fi (r.set i (some (RD rz)))=.ok (nD k))(hk:k<rz.length)(hA:fA (r.set jr none) (WF rz) k=some (WF rows')):gL i jr fi fA r (WF rz)=some (r.set jr none,WF rows'):=by unfold gL;rw[mD,hi];simp only[n8 (show k<(WF rz).length by rw[n_];exact hk),Kq,hA,Ka]
section
variable{n:Nat}{rz:List (List (Int×Nat))}
theorem HM(S:Sr 12 n rz)(hn1:1<=n)(hn7:n<=7){h t o:Nat}(bo:Bool)(hh:h<n)(ht:t<n)(ho:o<n):∃rows',Sr 54 n rows'/\lA (WF rz) [nD h,nD t,nD o,.bl bo]=.ok (RD rows'):=by
 have B0:=S.cell hh ht;generalize es:bz (aZ rz h) t=s at B0;have e0:az (LF (aZ rz h)) (nD t)=some (FR s):=by rw[S.at hh ht,es]
 have Bp:Bd 13 (low (s.1+1) s.2):=Bd.low B0.pos (Of B0.bot (by decide)) (by
  have:=B0.top;have h1:(2:Nat)^12=4096:=by decide
  have h2:(2:Nat)^13=8192:=by decide
  omega)
 have ep:gp [.int (s.1+1),nD s.2]=.ok (FR (low (s.1+1) s.2)):=oQ B0.pos B0.bot (by omega);generalize low (s.1+1) s.2=p at Bp ep;have S1:Sr 12 n (put rz h t (-1,s.2)):=S.put hh ⟨B0.pos,B0.bot,by show(1:Nat)<4096;decide⟩ (w_ _);have l0:=S.len;have r0:=(S.row hh).1;have hp1:∀{w':ah->List (List D)->Out},c6 (eL 0 1 2 (cw (ag (f2 (ci 0) (ci 1) cW) (ag (gv 6) ae)))) w' [none,some (nD h),some (nD t),some (nD o),some (.bl bo),some (.int s.1),some (nD s.2),some (FR p),none] (WF rz)=w' [none,some (nD h),some (nD t),some (nD o),some (.bl bo),some (.int s.1),some (nD s.2),some (FR p),none] (WF (put rz h t (-1,s.2))):=bv (k9 rfl rfl (dS (aj (d:=.int (-1)) rfl (aj (d:=nD s.2) rfl aq)) (by simp)) (by omega) (by omega));generalize put rz h t (-1,s.2)=rows1 at S1 hp1;have B1:=S1.cell hh ho;have l1:=S1.len;have r1:=(S1.row hh).1;have S2:Sr 26 n (put rows1 h o (cu (bz (aZ rows1 h) o) p)):=S1.put hh (B1.plus Bp) (by omega);have hp2:∀{w':ah->List (List D)->Out},c6 (eL 0 1 3 (aM (ag (f2 (f2 (gv 0) (gv 1) az) (gv 3) az) (ag (gv 7) ae)) [] fG)) w' [none,some (nD h),some (nD t),some (nD o),some (.bl bo),some (.int s.1),some (nD s.2),some (FR p),none] (WF rows1)=w' [none,some (nD h),some (nD t),some (nD o),some (.bl bo),some (.int s.1),some (nD s.2),some (FR p),none] (WF (put rows1 h o (cu (bz (aZ rows1 h) o) p))):=bv (k9 rfl rfl (bQ (aj (ak (b:=nD o) (ak (a:=RD rows1) (b:=nD h) rfl rfl (S1.ix hh)) rfl (S1.at hh ho)) (aj (d:=FR p) rfl aq)) (mS B1 Bp (by omega))) (by omega) (by omega));generalize put rows1 h o (cu (bz (aZ rows1 h) o) p)=rows2 at S2 hp2;have l2:=S2.len;have fin:∀rows3,Sr 54 n rows3->jP (aR (gv 4)) (gL 0 8 (f2 (f2 (gv 1) (ci 1) addA) (fC (ag (gv 0) ae) lenD) aJ) (iA (dw 0 8 (aM (ag (f2 (gv 8) (gv 2) az) (ag (gv 7) ae)) [] fG) (gv 2)) (iA (dw 0 8 (aM (ag (f2 (gv 8) (gv 3) az) (ag (cw (ag (f2 (ci 0) (f2 (gv 7) (ci 0) az) cW) (ag (f2 (gv 7) (ci 1) az) ae))) ae)) [] fG) (gv 3)) jn))) (fun r w=>some (r,w)) [none,some (nD h),some (nD t),some (nD o),some (.bl bo),some (.int s.1),some (nD s.2),some (FR p),none] (WF rows2)=some ([none,some (nD h),some (nD t),some (nD o),some (.bl bo),some (.int s.1),some (nD s.2),some (FR p),none],WF rows3)->∃rows',Sr 54 n rows'/\lA (WF rz) [nD h,nD t,nD o,.bl bo]=.ok (RD rows'):=by
  intro rows3 S3 e3;refine⟨rows3,S3,?_⟩;show outR true (nh [none,some (nD h),some (nD t),some (nD o),some (.bl bo),none,none,none,none] (WF rz))=_;have:nh [none,some (nD h),some (nD t),some (nD o),some (.bl bo),none,none,none,none] (WF rz)=.rt (RD rows3):=by
   unfold nh;refine(bv (yv (d:=FR s) (r':=[none,some (nD h),some (nD t),some (nD o),some (.bl bo),some (.int s.1),some (nD s.2),none,none]) ?_ (jo s) rfl)).trans ?_
   .rw[mD];exact ak (b:=nD t) (ak (a:=RD rz) (b:=nD h) rfl rfl (S.ix hh)) rfl e0
   refine(bv (fU (cb (bQ (aj (ak (a:=.int s.1) (b:=.int 1) rfl rfl (addA_int _ _)) (aj (d:=nD s.2) rfl aq)) ep)))).trans ?_;refine hp1.trans (hp2.trans ((bv e3).trans (dB.trans ?_)));exact aX (b4 rfl)
  rw[this];rfl
 cases bo with
|false=>exact fin rows2 ⟨S2.len,fun row hr=>⟨(S2.ok row hr).1,fun s hs=>((S2.ok row hr).2 s hs).mono (by omega)⟩⟩ (AV (cm (d:=.bl false) rfl rfl))
|true=>
  have hk:(h+1)%n<n:=Kc _ (by omega);generalize ek:(h+1)%n=k at hk;have B2:=S2.cell hk ht;have S3:Sr 40 n (put rows2 k t (cu (bz (aZ rows2 k) t) p)):=S2.put hk (B2.plus Bp) (by omega);have r2:=(S2.row hk).1;have a1:dw 0 8 (aM (ag (f2 (gv 8) (gv 2) az) (ag (gv 7) ae)) [] fG) (gv 2) [none,some (nD h),some (nD t),some (nD o),some (.bl true),some (.int s.1),some (nD s.2),some (FR p),none] (WF rows2) k=some (WF (put rows2 k t (cu (bz (aZ rows2 k) t) p))):=putA_ok (by omega) (by omega) (bQ (aj (ak (a:=LF (aZ rows2 k)) (b:=nD t) rfl rfl (S2.at hk ht)) (aj (d:=FR p) rfl aq)) (mS B2 Bp (by omega))) rfl;generalize put rows2 k t (cu (bz (aZ rows2 k) t) p)=rows3 at S3 a1;have l3:=S3.len;have r3:=(S3.row hk).1;have B3:=S3.cell hk ho;have Bq:Bd 13 ((0-p.1:Int),p.2):=⟨Bp.pos,Bp.bot,by have:=Bp.top;show(0-p.1).natAbs<2^13;omega⟩
  have S4:Sr 54 n (put rows3 k o (cu (bz (aZ rows3 k) o) (0-p.1,p.2))):=S3.put hk (B3.plus Bq) (by omega);have a2:dw 0 8 (aM (ag (f2 (gv 8) (gv 3) az) (ag (cw (ag (f2 (ci 0) (f2 (gv 7) (ci 0) az) cW) (ag (f2 (gv 7) (ci 1) az) ae))) ae)) [] fG) (gv 3) [none,some (nD h),some (nD t),some (nD o),some (.bl true),some (.int s.1),some (nD s.2),some (FR p),none] (WF rows3) k=some (WF (put rows3 k o (cu (bz (aZ rows3 k) o) (0-p.1,p.2)))):=putA_ok (by omega) (by omega) (bQ (aj (ak (a:=LF (aZ rows3 k)) (b:=nD o) rfl rfl (S3.at hk ho)) (aj (d:=FR (0-p.1,p.2)) (dS (aj (ak (a:=.int 0) rfl (ak (a:=FR p) rfl rfl (iL p)) rfl) (aj (ak (a:=FR p) rfl rfl (gY p)) aq)) (by simp)) aq)) (mS B3 Bq (by omega))) rfl;refine fin _ S4 ((AW (cm (d:=.bl true) rfl rfl)).trans ((Bk (k:=k) ?_ (by omega) ?_).trans rfl))
  .exact ak (b:=nD n) (ak (a:=nD h) (b:=nD 1) rfl rfl (fF h 1)) (b3 (aj (d:=RD rows2) rfl aq) (by rw[gZ,l2])) (by rw[d3 (by omega),ek])
  .show iA _ _ [none,some (nD h),some (nD t),some (nD o),some (.bl true),some (.int s.1),some (nD s.2),some (FR p),none] _ _=_;unfold iA;rw[a1];show(iA _ jn _ _ _)=_;unfold iA;rw[a2];rfl
end
end Law
end
section
set_option exponentiation.threshold 3000
namespace Law
open PySem PyProof.Rows L2 DL Fq
structure Gb(b:Nat)(rz:List (List (Int×Nat))):Prop where
 len:rz.length<=8
 ok:∀row∈rz,row.length<=b/\∀s∈row,Bd 54 s
theorem yn{α β:Type}(f:α->β)(l:List α)(lo hi:Option Int):bf (l.map f) lo hi=(bf l lo hi).map f:=by unfold bf;rw[n_,<-Pt,<-Ps]
theorem rq{α:Type}{l:List α}{lo hi:Option Int}{a:α}(h:a∈bf l lo hi):a∈l:=List.mem_of_mem_drop (List.mem_of_mem_take h)
theorem rp{α:Type}(l:List α)(lo hi:Option Int):(bf l lo hi).length<=l.length:=by unfold bf;rw[JM,K_];omega
theorem Dc{a b:List D}(h:a.length+b.length<=1000):addA (.lst a) (.lst b)=some (.lst (a++b)):=by show(if a.length+b.length<=sizeLine then _ else _)=_;rw[if_pos (by rw[Jz];omega)]
theorem Br{a b:List D}(h:a.length+b.length<=1000):catL (.lst a) (.lst b)=some (.lst (a++b)):=by show(if a.length+b.length<=sizeLine then _ else _)=_;rw[if_pos (by rw[Jz];omega)]
theorem qJ{l:List (Int×Nat)}{lo hi:Option Int}:pX (LF l) lo hi=some (LF (bf l lo hi)):=by show some (D.lst (bf (l.map FR) lo hi))=_;rw[yn]
theorem rC{fa:FE}{fl fh:FP}{r:ah}{d d':D}{lo hi:Option Int}(h1:fa r=.ok d)(h2:fl r=.ok lo)(h3:fh r=.ok hi)(h4:pX d lo hi=some d'):dz fa fl fh r=.ok d':=by unfold dz;rw[h1,bind_ok,h2,bind_ok,h3,bind_ok,h4];rfl
theorem qh{a b:List (Int×Nat)}(h:a.length+b.length<=1000):addA (LF a) (LF b)=some (LF (a++b)):=by rw[Dc (by simpa using h)];show some (D.lst _)=some (D.lst (L7 FR _));rw[J3]
theorem xJ{rz:List (List (Int×Nat))}{h:Nat}{row:List (Int×Nat)}(hh:h<rz.length):fM (RD rz) (nD h) (LF row)=some (RD (rz.set h row)):=by rw[xH (by rw[n_];exact hh)];show some (D.lst _)=some (D.lst (L7 LF _));rw[Oe]
theorem Gb.set{b b':Nat}{rz:List (List (Int×Nat))}(G:Gb b rz)(hb:b<=b'){h:Nat}{row:List (Int×Nat)}(hr:row.length<=b'/\∀s∈row,Bd 54 s):Gb b' (rz.set h row):=by
 refine⟨by rw[JD];exact G.len,fun r hr'=>?_⟩;rcases Lf hr' with z|z
 .have:=G.ok r z;exact⟨by omega,this.2⟩
 .rw[z];exact hr
theorem Sr.gb{b n c:Nat}{rz:List (List (Int×Nat))}(S:Sr b n rz)(hb:b<=54)(hn:n<=8)(hc:n<=c):Gb c rz:=⟨by rw[S.len];exact hn,fun row hr=>⟨by rw[(S.ok row hr).1];exact hc,fun s hs=>((S.ok row hr).2 s hs).mono hb⟩⟩
theorem nM:Bd 54 ((0:Int),3):=⟨by decide,by decide,by decide⟩
theorem vD:Bd 54 ((-1:Int),1):=⟨by decide,by decide,by decide⟩
section
variable{n:Nat}{rz:List (List (Int×Nat))}
theorem HQ(S:Sr 12 n rz)(hn1:1<=n)(hn7:n<=7)(c:Nat):∃rows',Gb 8 rows'/\lu (WF rz) [nD c]=.ok (RD rows'):=by
 have l0:=S.len;have hh:c%n<n:=Kc _ (by omega);have ht:c/7%n<n:=Kc _ (by omega);have hw:c/343%12<12:=Kc _ (by omega);have hmx:∃mx:Nat,0<mx/\maxD [.int 1,.int ((n:Int)-1)]=some (nD mx):=by
  by_cases z:n<=2
  .refine⟨1,by omega,?_⟩;show some (D.int (if ((n:Int)-1)>1 then((n:Int)-1)else 1))=_;rw[if_neg (by omega)];rfl
  .refine⟨n-1,by omega,?_⟩;show some (D.int (if ((n:Int)-1)>1 then((n:Int)-1)else 1))=some (D.int _);rw[if_pos (by omega)];congr 2;omega
 obtain⟨mx,mx0,emx⟩:=hmx;have ho:(c/7%n+1+c/49%mx)%n<n:=Kc _ (by omega);generalize eh:c%n=h at hh;generalize et:c/7%n=t at ht ho;generalize eo:(t+1+c/49%mx)%n=o at ho;generalize ew:c/343%12=w at hw;have hd:∀{d:D},jO (bn (aS (f2 (gv 6) (ci 7) c9)) (aS (f2 (gv 2) (ci 1) c9))) (kt (ag (gv 3) (ag (gv 4) (ag (gv 5) (ag (f2 (gv 6) (ci 8) c9) ae)))) lA) (c6 (jx 0 (f2 (f2 (gv 0) (gv 3) az) (gv 4) az) (ck (aT (ax 7) (aT (ax 8) cj)))) (d5 (gq (aS (f2 (gv 6) (ci 0) eqD)) (c6 (eL 0 3 4 (cw (ag (f2 (gv 7) (ci 1) addA) (ag (gv 8) ae)))) (fZ 0 ao)) (gq (aS (f2 (gv 6) (ci 1) eqD)) (c6 (eL 0 3 4 (cw (ag (f2 (gv 7) (ci 1) cW) (ag (gv 8) ae)))) (fZ 0 ao)) (gq (aS (f2 (gv 6) (ci 2) eqD)) (c6 (eL 0 3 4 (f2 (f2 (gv 0) (gv 3) az) (gv 5) az)) (c6 (eL 0 3 5 (cw (ag (gv 7) (ag (gv 8) ae)))) (fZ 0 ao))) (fZ 0 (af (bN bc (aS (f2 (gv 6) (ci 3) eqD)) (af (putF bc 0 (gv 3) (f2 (f2 (gv 0) (gv 3) az) (eG (ag (cw (ag (ci 0) (ag (ci 3) ae))) ae)) addA)) ao) (af (bN bc (aS (f2 (gv 6) (ci 4) eqD)) (af (putF bc 0 (gv 3) (dz (f2 (gv 0) (gv 3) az) (fun _=>Res.ok none) (gT (f1 (ci 1) fR)))) ao) (af (bN bc (aS (f2 (gv 6) (ci 5) eqD)) (af (putF bc 0 (gv 3) (f2 (gv 0) (f2 (f2 (gv 3) (ci 1) addA) (gv 2) aJ) az)) ao) (af (bN bc (aS (f2 (gv 6) (ci 6) eqD)) (af (au bc (f2 (gv 0) (f2 (fun r=>(lM (gv 0) (fun _=>Res.ok none) (gT (ci 1)) r).bind fun d=>match d with|.lst ds=>.ok (.lst ds)|_=>.stuck) (f2 (ci 8) (gv 2) cW) ij) catL)) ao) (af (bN bc (aS (f2 (gv 6) (ci 7) eqD)) (af (au bc (eG ae)) ao) ao) ao)) ao)) ao)) ao)) ao))))) (af (au bc (gv 0)) ao))) [none,some (nD c),some (nD n),some (nD h),some (nD t),some (nD o),some (nD w),none,none] (WF rz)=.rt d->lu (WF rz) [nD c]=.ok d:=by
  intro d e;show outR true (ni [none,some (nD c),none,none,none,none,none,none,none] (WF rz))=_;have:ni [none,some (nD c),none,none,none,none,none,none,none] (WF rz)=.rt d:=by
   unfold ni;refine(bv (E8 (d:=nD n) ?_ (.int _))).trans ?_
   .rw[mD];exact b3 (aj (d:=RD rz) rfl aq) (by rw[gZ,l0])
   refine(bv (fU (cb (d:=nD h) (ak (a:=nD c) (b:=nD n) rfl rfl (by rw[d3 (by omega),eh]))))).trans ?_;refine(bv (fU (cb (d:=nD t) (ak (b:=nD n) (ak (a:=nD c) (b:=nD 7) rfl rfl (ia (by omega) (by omega))) rfl (by rw[d3 (by omega),et]))))).trans ?_;refine(bv (fU (cb (d:=nD o) (ak (b:=nD n) (ak (ak (a:=nD t) (b:=nD 1) rfl rfl (fF t 1)) (ak (b:=nD mx) (ak (a:=nD c) (b:=nD 49) rfl rfl (ia (by omega) (by omega))) (b3 (aj (d:=.int 1) rfl (aj (d:=.int ((n:Int)-1)) rfl aq)) emx) (d3 mx0)) (fF _ _)) rfl (by rw[d3 (by omega),eo]))))).trans ?_;refine(bv (fU (cb (d:=nD w) (ak (b:=nD 12) (ak (a:=nD c) (b:=nD 343) rfl rfl (ia (by omega) (by omega))) rfl (by rw[d3 (by omega),ew]))))).trans ?_;exact e
  rw[this];rfl
 have g7:=gU w 7;have g1:=gU n 1;by_cases z:7<w/\1<n
 .obtain⟨rows',S',e'⟩:=HM S hn1 hn7 (decide (8<w)) hh ht ho;refine⟨rows',S'.gb (by omega) (by omega) (by omega),hd (AX ?_ (D8 (aj (d:=nD h) rfl (aj (d:=nD t) rfl (aj (d:=nD o) rfl (aj (ak (a:=nD w) (b:=nD 8) rfl rfl (gU w 8)) aq)))) e'))⟩;rw[decide_eq_true z.1]at g7;rw[decide_eq_true z.2]at g1;rw[f8 (bV (ak (a:=nD w) (b:=nD 7) rfl rfl g7))];exact bV (ak (a:=nD n) (b:=nD 1) rfl rfl g1)
 .have hq:bn (aS (f2 (gv 6) (ci 7) c9)) (aS (f2 (gv 2) (ci 1) c9)) [none,some (nD c),some (nD n),some (nD h),some (nD t),some (nD o),some (nD w),none,none]=.ok false:=by
   by_cases z1:7<w
   .rw[decide_eq_true z1]at g7;rw[decide_eq_false (by omega)]at g1;rw[f8 (bV (ak (a:=nD w) (b:=nD 7) rfl rfl g7))];exact bV (ak (a:=nD n) (b:=nD 1) rfl rfl g1)
   .rw[decide_eq_false z1]at g7;exact iJ (bV (ak (a:=nD w) (b:=nD 7) rfl rfl g7))
  have B0:=S.cell hh ht;generalize es:bz (aZ rz h) t=s at B0;have e0:az (LF (aZ rz h)) (nD t)=some (FR s):=by rw[S.at hh ht,es]
  have rl:=(S.row hh).1;have ru:=(S.row hh).2;have hasg:jx 0 (f2 (f2 (gv 0) (gv 3) az) (gv 4) az) (ck (aT (ax 7) (aT (ax 8) cj))) [none,some (nD c),some (nD n),some (nD h),some (nD t),some (nD o),some (nD w),none,none] (WF rz)=some ([none,some (nD c),some (nD n),some (nD h),some (nD t),some (nD o),some (nD w),some (.int s.1),some (nD s.2)],WF rz):=yv (d:=FR s) (by rw[mD];exact ak (b:=nD t) (ak (a:=RD rz) (b:=nD h) rfl rfl (S.ix hh)) rfl e0) (jo s) rfl;have tM:∀k:Nat,aS (f2 (gv 6) (fun _=>Res.ok (D.int (k:Int))) eqD) [none,some (nD c),some (nD n),some (nD h),some (nD t),some (nD o),some (nD w),some (.int s.1),some (nD s.2)]=.ok (decide (w=k)):=fun k=>bV (ak (a:=nD w) (b:=nD k) rfl rfl (i5 _ _));have tR:∀k:Nat,aS (f2 (gv 6) (fun _=>Res.ok (D.int (k:Int))) eqD) [some (RD rz),some (nD c),some (nD n),some (nD h),some (nD t),some (nD o),some (nD w),some (.int s.1),some (nD s.2)]=.ok (decide (w=k)):=fun k=>bV (ak (a:=nD w) (b:=nD k) rfl rfl (i5 _ _));have b1:(2:Nat)^12=4096:=by decide
  have b2:(2:Nat)^13=8192:=by decide
  have bt:=B0.top;have st:∀{rows':List (List (Int×Nat))}{r:ah},r=[some (RD rows'),some (nD c),some (nD n),some (nD h),some (nD t),some (nD o),some (nD w),some (.int s.1),some (nD s.2)]->af (au bc (gv 0)) ao r=.rt (RD rows'):=fun e=>by rw[e];exact aX (b4 rfl)
  have m0:=tM 0;have m1:=tM 1;have m2:=tM 2;have q3:=tR 3;have q4:=tR 4;have q5:=tR 5;have q6:=tR 6;have q7:=tR 7;by_cases w0:w=0
  .rw[decide_eq_true w0]at m0;have S':Sr 13 n (put rz h t (s.1+1,s.2)):=S.put hh ⟨B0.pos,Of B0.bot (by decide),by show(s.1+1).natAbs<2^13;omega⟩ (by omega);exact⟨_,S'.gb (by omega) (by omega) (by omega),hd ((iX hq).trans ((bv hasg).trans ((jI ((n6 m0).trans ((bv (k9 (s:=(s.1+1,s.2)) rfl rfl (dS (aj (ak (a:=.int s.1) (b:=.int 1) rfl rfl (addA_int _ _)) (aj (d:=nD s.2) rfl aq)) (by simp)) (by omega) (by omega))).trans dB))).trans (st rfl))))⟩
  rw[decide_eq_false w0]at m0;by_cases w1:w=1
  .rw[decide_eq_true w1]at m1;have S':Sr 13 n (put rz h t (s.1-1,s.2)):=S.put hh ⟨B0.pos,Of B0.bot (by decide),by show(s.1-1).natAbs<2^13;omega⟩ (by omega);exact⟨_,S'.gb (by omega) (by omega) (by omega),hd ((iX hq).trans ((bv hasg).trans ((jI ((dD m0).trans ((n6 m1).trans ((bv (k9 (s:=(s.1-1,s.2)) rfl rfl (dS (aj (d:=.int (s.1-1)) (ak (a:=.int s.1) (b:=.int 1) rfl rfl rfl) (aj (d:=nD s.2) rfl aq)) (by simp)) (by omega) (by omega))).trans dB)))).trans (st rfl))))⟩
  rw[decide_eq_false w1]at m1;by_cases w2:w=2
  .rw[decide_eq_true w2]at m2;have S1:Sr 12 n (put rz h t (bz (aZ rz h) o)):=S.put hh (S.cell hh ho) (by omega);have S':Sr 12 n (put (put rz h t (bz (aZ rz h) o)) h o s):=S1.put hh B0 (by omega);have l1:=S1.len;have r1:=(S1.row hh).1;exact⟨_,S'.gb (by omega) (by omega) (by omega),hd ((iX hq).trans ((bv hasg).trans ((jI ((dD m0).trans ((dD m1).trans ((n6 m2).trans ((bv (k9 rfl rfl (ak (b:=nD o) (ak (a:=RD rz) (b:=nD h) rfl rfl (S.ix hh)) rfl (S.at hh ho)) (by omega) (by omega))).trans ((bv (k9 (s:=s) rfl rfl (dS (aj (d:=.int s.1) rfl (aj (d:=nD s.2) rfl aq)) (by simp)) (by omega) (by omega))).trans dB)))))).trans (st rfl))))⟩
  rw[decide_eq_false w2]at m2;have G:=S.gb (c:=8) (by omega) (by omega) (by omega);have hput:∀{row:List (Int×Nat)}{fv:FE},fv [some (RD rz),some (nD c),some (nD n),some (nD h),some (nD t),some (nD o),some (nD w),some (.int s.1),some (nD s.2)]=.ok (LF row)->putF bc 0 (gv 3) fv [some (RD rz),some (nD c),some (nD n),some (nD h),some (nD t),some (nD o),some (nD w),some (.int s.1),some (nD s.2)]=.nx [some (RD (rz.set h row)),some (nD c),some (nD n),some (nD h),some (nD t),some (nD o),some (nD w),some (.int s.1),some (nD s.2)]:=fun e=>qZ (d:=RD rz) (k:=nD h) rfl e rfl (xJ (by omega));have hrow:f2 (gv 0) (gv 3) az [some (RD rz),some (nD c),some (nD n),some (nD h),some (nD t),some (nD o),some (nD w),some (.int s.1),some (nD s.2)]=.ok (LF (aZ rz h)):=ak (a:=RD rz) (b:=nD h) rfl rfl (S.ix hh);have ru':∀s∈aZ rz h,Bd 54 s:=fun s hs=>(ru s hs).mono (by omega);by_cases w3:w=3
  .rw[decide_eq_true w3]at q3;refine⟨rz.set h (aZ rz h++[(0,3)]),G.set (w_ _) ⟨by simp;omega,fun s hs=>?_⟩,hd ((iX hq).trans ((bv hasg).trans ((jI ((dD m0).trans ((dD m1).trans ((dD m2).trans (dB.trans (aE ((bU q3).trans (aE (hput (ak (b:=LF [(0,3)]) hrow (i7 (aj (dS (aj (d:=.int 0) rfl (aj (d:=.int 3) rfl aq)) (by simp)) aq) (by simp)) (qh (by simp;omega)))))))))))).trans (st rfl))))⟩;rcases JS.mp hs with z|z
   .exact ru' s z
   .rw[E_.mp z];exact nM
  rw[decide_eq_false w3]at q3;by_cases w4:w=4
  .rw[decide_eq_true w4]at q4;exact⟨rz.set h (bf (aZ rz h) none (some (-1))),G.set (w_ _) ⟨by have:=rp (aZ rz h) none (some (-1));omega,fun s hs=>ru' s (rq hs)⟩,hd ((iX hq).trans ((bv hasg).trans ((jI ((dD m0).trans ((dD m1).trans ((dD m2).trans (dB.trans (aE ((aL q3).trans (aE ((bU q4).trans (aE (hput (rC hrow rfl rfl qJ)))))))))))).trans (st rfl))))⟩
  rw[decide_eq_false w4]at q4;by_cases w5:w=5
  .rw[decide_eq_true w5]at q5;have hk:(h+1)%n<n:=Kc _ (by omega);exact⟨rz.set h (aZ rz ((h+1)%n)),G.set (w_ _) ⟨by rw[(S.row hk).1];omega,fun s hs=>((S.row hk).2 s hs).mono (by omega)⟩,hd ((iX hq).trans ((bv hasg).trans ((jI ((dD m0).trans ((dD m1).trans ((dD m2).trans (dB.trans (aE ((aL q3).trans (aE ((aL q4).trans (aE ((bU q5).trans (aE (hput (ak (a:=RD rz) rfl (ak (b:=nD n) (ak (a:=nD h) (b:=nD 1) rfl rfl (fF h 1)) rfl (d3 (by omega))) (S.ix hk))))))))))))))).trans (st rfl))))⟩
  rw[decide_eq_false w5]at q5;by_cases w6:w=6
  .rw[decide_eq_true w6]at q6;have e1:bf (rz.map LF) none (some 1)=[LF (aZ rz 0)]:=by
    rw[yn]
    match rz,l0 with
   |[],l0=>exact absurd l0 (by simp;omega)
   |r::rs,_=>
     have:bf (r::rs) none (some 1)=[r]:=by
      unfold bf;have h1:HT.sIx (r::rs).length 0 none=0:=rfl;have h2:HT.sIx (r::rs).length (r::rs).length (some 1)=1:=by show _=1;simp[HT.sIx]
      rw[h1,h2];rfl
     rw[this];rfl
   have e2:ij (.lst [LF (aZ rz 0)]) (.int (8-(n:Int)))=some (.lst (t_ (8-n) (LF (aZ rz 0)))):=by
    have hz:(8-(n:Int)).toNat=8-n:=by omega
    show(if-(2^62)<=(8-(n:Int))/\(8-(n:Int))<2^62/\_ then _ else _)=_;rw[if_pos ⟨by omega,by omega,by rw[hz,Jz];simp;omega⟩,hz];congr 2;have:∀k:Nat,(t_ k [LF (aZ rz 0)]).flatten=t_ k (LF (aZ rz 0)):=fun k=>by induction k with
    |zero=>rfl
    |succ k ih=>rw[JN,Kf,ih,JN];rfl
    exact this _
   have e3:catL (RD rz) (.lst (t_ (8-n) (LF (aZ rz 0))))=some (RD (rz++t_ (8-n) (aZ rz 0))):=by rw[Br (by simp;omega)];show some (D.lst _)=some (D.lst (L7 LF _));rw[J3,List.map_replicate]
   refine⟨rz++t_ (8-n) (aZ rz 0),⟨by simp;omega,fun row hr=>?_⟩,hd ((iX hq).trans ((bv hasg).trans (yC ((dD m0).trans ((dD m1).trans ((dD m2).trans (dB.trans ?_)))))))⟩
   .rcases JS.mp hr with z|z
    .exact G.ok row z
    .rw[(NP.mp z).2];exact⟨by rw[(S.row (h:=0) (by omega)).1];omega,fun s hs=>((S.row (h:=0) (by omega)).2 s hs).mono (by omega)⟩
   .refine aX ((aL q3).trans (aX ((aL q4).trans (aX ((aL q5).trans (aX ((bU q6).trans (aX (b4 (ak (a:=RD rz) rfl (ak (a:=.lst [LF (aZ rz 0)]) (b:=.int (8-(n:Int))) ?_ rfl e2) e3))))))))));show((lM (gv 0) (fun _=>Res.ok none) (gT (ci 1)) [some (RD rz),some (nD c),some (nD n),some (nD h),some (nD t),some (nD o),some (nD w),some (.int s.1),some (nD s.2)]).bind _)=_;have:lM (gv 0) (fun _=>Res.ok none) (gT (ci 1)) [some (RD rz),some (nD c),some (nD n),some (nD h),some (nD t),some (nD o),some (nD w),some (.int s.1),some (nD s.2)]=.ok (.lst [LF (aZ rz 0)]):=by rw[<-e1];rfl
    rw[this];rfl
  rw[decide_eq_false w6]at q6;by_cases w7:w=7
  .rw[decide_eq_true w7]at q7;refine⟨[],⟨by simp,fun _ h=>(nomatch h)⟩,hd ((iX hq).trans ((bv hasg).trans (yC ((dD m0).trans ((dD m1).trans ((dD m2).trans (dB.trans ?_)))))))⟩;exact aX ((aL q3).trans (aX ((aL q4).trans (aX ((aL q5).trans (aX ((aL q6).trans (aX ((bU q7).trans (aX (b4 (i7 aq (by simp)))))))))))))
  rw[decide_eq_false w7]at q7;refine⟨rz,G,hd ((iX hq).trans ((bv hasg).trans ((jI (r':=[some (RD rz),some (nD c),some (nD n),some (nD h),some (nD t),some (nD o),some (nD w),some (.int s.1),some (nD s.2)]) ((dD m0).trans ((dD m1).trans ((dD m2).trans (dB.trans ?_))))).trans (st rfl))))⟩;exact aE ((aL q3).trans (aE ((aL q4).trans (aE ((aL q5).trans (aE ((aL q6).trans (aE ((aL q7).trans (e_skip _))))))))))
end
end Law
end
section
set_option exponentiation.threshold 3000
namespace Law
open PySem PyProof.Rows L2 DL Fq
section
variable{n:Nat}{rz:List (List (Int×Nat))}
theorem Gb.mono{b b':Nat}(G:Gb b rz)(h:b<=b'):Gb b' rz:=⟨G.len,fun row hr=>⟨JE (G.ok row hr).1 h,(G.ok row hr).2⟩⟩
theorem G9(G:Gb 8 rz)(c:Nat):∃rows',Gb 9 rows'/\lE [RD rz,nD c]=.ok (RD rows'):=by
 have h8:=G.len;have fin:∀{rows':List (List (Int×Nat))},lC [some (RD rz),some (nD c),none]=.rt (RD rows')->lE [RD rz,nD c]=.ok (RD rows'):=fun{rows'} e=>by show outR true (lC [some (RD rz),some (nD c),none])=_;rw[e];rfl
 have t1:aS (f2 (fC (ag (gv 0) ae) lenD) (ci 0) c9) [some (RD rz),some (nD c),none]=.ok (decide (0<rz.length)):=bV (ak (b:=nD 0) (b3 (aj (d:=RD rz) rfl aq) gZ) rfl (gU _ 0));have t2:aS (f2 (f2 (gv 1) (ci 4) aJ) (ci 0) c9) [some (RD rz),some (nD c),none]=.ok (decide (0<c%4)):=bV (ak (b:=nD 0) (ak (a:=nD c) (b:=nD 4) rfl rfl (d3 (by omega))) rfl (gU _ 0));by_cases z:0<rz.length/\0<c%4
 .rw[decide_eq_true z.1]at t1;rw[decide_eq_true z.2]at t2;have hh:c/28%rz.length<rz.length:=Kc _ z.1;generalize eh:c/28%rz.length=h at hh;obtain⟨g1,g2⟩:=G.ok _ (zK hh);have ix:f2 (gv 0) (gv 2) az [some (RD rz),some (nD c),some (nD h)]=.ok (LF (aZ rz h)):=ak (a:=RD rz) (b:=nD h) rfl rfl (wH hh);have A:f2 (f2 (gv 0) (gv 2) az) (eG (ag (cw (ag (ci 0) (ag (ci 3) ae))) ae)) addA [some (RD rz),some (nD c),some (nD h)]=.ok (LF (aZ rz h++[(0,3)])):=ak (b:=LF [(0,3)]) ix (i7 (aj (dS (aj (d:=.int 0) rfl (aj (d:=.int 3) rfl aq)) (by simp)) aq) (by simp)) (qh (by simp;omega));have B:dz (f2 (gv 0) (gv 2) az) (fun _=>Res.ok none) (gT (ci 1)) [some (RD rz),some (nD c),some (nD h)]=.ok (LF (bf (aZ rz h) none (some 1))):=rC ix rfl rfl qJ;have C0:dz (f2 (gv 0) (gv 2) az) (gT (ci 1)) (fun _=>Res.ok none) [some (RD rz),some (nD c),some (nD h)]=.ok (LF (bf (aZ rz h) (some 1) none)):=rC ix rfl rfl qJ;have lc:=rp (aZ rz h) (some 1) none;have lb:=rp (aZ rz h) none (some 1);have C:f2 (eG (ag (cw (ag (f1 (ci 1) fR) (ag (ci 1) ae))) ae)) (dz (f2 (gv 0) (gv 2) az) (gT (ci 1)) (fun _=>Res.ok none)) addA [some (RD rz),some (nD c),some (nD h)]=.ok (LF ([(-1,1)]++bf (aZ rz h) (some 1) none)):=ak (a:=LF [(-1,1)]) (i7 (aj (dS (aj (d:=.int (-1)) rfl (aj (d:=.int 1) rfl aq)) (by simp)) aq) (by simp)) C0 (qh (by simp;omega));have hs:cW (nD (c%4)) (.int 1)=some (nD (c%4-1)):=by show some (D.int _)=some (D.int _);congr 2;omega
  have h3:c%4<4:=Kc _ (by omega);have hp:∃row:List (Int×Nat),(row.length<=9/\∀s∈row,Bd 54 s)/\az (.lst [LF (aZ rz h++[(0,3)]),LF (bf (aZ rz h) none (some 1)),LF ([(-1,1)]++bf (aZ rz h) (some 1) none)]) (nD (c%4-1))=some (LF row):=by
   have hk:c%4-1<3:=by omega
   generalize c%4-1=k at hk ⊢
   match k,hk with
  |0,_=>
    refine⟨_,⟨by simp;omega,fun s hs=>?_⟩,iY rfl⟩;rcases JS.mp hs with z|z
    .exact g2 s z
    .rw[E_.mp z];exact nM
  |1,_=>exact⟨_,⟨by omega,fun s hs=>g2 s (rq hs)⟩,iY rfl⟩
  |2,_=>
    refine⟨_,⟨by simp;omega,fun s hs=>?_⟩,iY rfl⟩;rcases JS.mp hs with z|z
    .rw[E_.mp z];exact vD
    .exact g2 s (rq z)
  obtain⟨row,r1,r2⟩:=hp;refine⟨rz.set h row,G.set (by omega) r1,fin ?_⟩;unfold lC;refine(aE (r':=[some (RD (rz.set h row)),some (nD c),some (nD h)]) ((bU ((f8 t1).trans t2)).trans ?_)).trans (aX (b4 rfl));refine(aE (cb (d:=nD h) (ak (ak (a:=nD c) (b:=nD 28) rfl rfl (ia (by omega) (by omega))) (b3 (aj (d:=RD rz) rfl aq) gZ) (by rw[d3 z.1,eh])))).trans ?_;exact aE (qZ (d:=RD rz) (k:=nD h) rfl (ak (i7 (aj A (aj B (aj C aq))) (by simp)) (ak (b:=.int 1) (ak (a:=nD c) (b:=nD 4) rfl rfl (d3 (by omega))) rfl hs) r2) rfl (xJ hh))
 .refine⟨rz,G.mono (by omega),fin ?_⟩;have t:bn (aS (f2 (fC (ag (gv 0) ae) lenD) (ci 0) c9)) (aS (f2 (f2 (gv 1) (ci 4) aJ) (ci 0) c9)) [some (RD rz),some (nD c),none]=.ok false:=by
   by_cases z1:0<rz.length
   .rw[decide_eq_true z1]at t1;rw[decide_eq_false (by omega)]at t2;exact(f8 t1).trans t2
   .rw[decide_eq_false z1]at t1;exact iJ t1
  unfold lC;exact(aE ((aL t).trans (e_skip _))).trans (aX (b4 rfl))
theorem Gb.gd(G:Gb 9 rz):Gd rz:=⟨G.len,G.ok⟩
end
def Nm:Nat->D->Prop
|_,.int _=>True
|k+1,.tup ds=>∀d∈ds,Nm k d
|k+1,.lst ds=>∀d∈ds,Nm k d
|_,_=>False
theorem rV{k:Nat}(ih:∀d,Nm k d->K6 (aU d) (aU d)=true):∀ds:List D,(∀d∈ds,Nm k d)->L5 (zej ds) (zej ds)=true
|[],_=>by simp[zej,L5]
|d::ds,h=>by have h1:=ih d (h d k_);have h2:=rV ih ds fun x hx=>h x (h_ _ hx);simp only[zej,L5,h1,h2,Bool.and_self]
theorem CT:∀(k:Nat)(d:D),Nm k d->K6 (aU d) (aU d)=true:=by
 intro k
 induction k with
|zero=>intro d h;cases d <;> simp_all [Nm,aU,K6]
|succ k ih=>intro d h;cases d with
 |int i=>simp[aU,K6]
 |tup ds=>simp only[aU,K6];exact rV ih ds h
 |lst ds=>simp only[aU,K6];exact rV ih ds h
 |_=>simp[Nm]at h
theorem wV:∀(k:Nat)(d:D),Nm k d->bO k d:=by
 intro k
 induction k with
|zero=>intro d h;cases d <;> simp_all [Nm,bO]
|succ k ih=>intro d h;cases d with
 |int i=>trivial
 |tup ds=>exact my.mpr fun x hx=>ih x (h x hx)
 |lst ds=>exact rh.mpr fun x hx=>ih x (h x hx)
 |_=>simp[Nm]at h
theorem wU{d:D}(h:Nm 60 d)(hs:jU d d=false):eqD d d=some (.bl true):=by unfold eqD;rw[rT hs (wV 60 d h) (wV 60 d h)];unfold jQ;rw[CT 60 d h];rfl
theorem wK{k:Nat}(q:Int×Nat):Nm (k+1) (FR q):=by intro d hd;simp at hd;rcases hd with rfl|rfl <;> (cases k <;> trivial)
theorem A3(rz:List (List (Int×Nat))):Nm 60 (RD rz):=by intro d hd;obtain⟨h,_,rfl⟩:=JL.mp hd;intro e he;obtain⟨q,_,rfl⟩:=JL.mp he;exact wK q
theorem CU(rz:List (List (Int×Nat))):Nm 60 (bY rz):=by intro d hd;obtain⟨h,_,rfl⟩:=JL.mp hd;intro e he;obtain⟨q,_,rfl⟩:=JL.mp he;exact wK q
theorem Dr{w:Str}{z:Nat}(hw:w = "row"\/w = "column"):eqD (.tup [.str w,nD z]) (.tup [.str w,nD z])=some (.bl true):=by
 have s1:bO 59 (.str w):=by
  rcases hw with rfl|rfl
  .exact(show N_ "row" = true by kernel_rfl)
  .exact(show N_ "column" = true by kernel_rfl)
 have sh:bO 60 (.tup [.str w,nD z]):=my.mpr fun d hd=>by
  rcases C_.mp hd with e|e
  .rw[e];exact s1
  .rw[E_.mp e];trivial
 unfold eqD;rw[rT rfl sh sh];unfold jQ;simp only[aU,zej,K6,L5];simp
theorem Dq{rz:List (List (Int×Nat))}{d:D}(h:Due rz d):eqD d d=some (.bl true):=by cases h with
|many=>unfold eqD;rfl
|why w k hw hk=>exact Dr hw
|tab h1 h2=>exact wU (CU rz) rfl
section
variable{rz:List (List (Int×Nat))}
theorem Hz(G:Gd rz)(h:∀row∈rz,row.length=rz.length):pR [bY rz,nD rz.length,nD rz.length]=.ok (.bl true):=by
 have h8:=G.len;refine dv (B:=td) (n:=4) ?_;unfold td;have hlen:lenD [bY rz]=some (nD rz.length):=by rw[rM]
 have hne:=lU rz.length rz.length;rw[decide_eq_true rfl]at hne;refine(aE ((aL ?_).trans (e_skip _))).trans ?_
 .rw[cG (dU (b:=true) (cm (du (a:=bY rz) (d:=.bl true) rfl rfl) rfl))];exact bV (ak (b:=nD rz.length) (b3 (aj (d:=bY rz) rfl aq) hlen) rfl hne)
 have lp:∀(l:List (List (Int×Nat)))(y:Option D),(∀row∈l,row∈rz)->∃y',aF (ax 3) Ai (l.map fun row=>TF (b8 row)) [some (bY rz),some (nD rz.length),some (nD rz.length),y]=.nx [some (bY rz),some (nD rz.length),some (nD rz.length),y']:=by
  intro l
  induction l with
 |nil=>exact fun y _=>⟨y,gA⟩
 |cons row l ih=>
   intro y hl;obtain⟨y',e⟩:=ih (some (TF (b8 row))) fun z hz=>hl z (h_ _ hz);refine⟨y',?_⟩;have hr:=hl row k_;have gr:=G.ok row hr;have g9:=gr.1;rw[A_,<-e];refine gi (r1:=[some (bY rz),some (nD rz.length),some (nD rz.length),some (TF (b8 row))]) rfl ?_;refine aE ((aL ?_).trans (e_skip _));have ll:(b8 row).length=rz.length:=by unfold b8;rw[n_];exact h row hr
   have hlr:lenD [TF (b8 row)]=some (nD rz.length):=by rw[rM,ll]
   rw[cG (dU (b:=true) (cm (du (a:=TF (b8 row)) (d:=.bl true) rfl rfl) rfl)),cG (bV (ak (b:=nD rz.length) (b3 (aj (d:=TF (b8 row)) rfl aq) hlr) rfl hne))];refine dU (b:=true) (cm (d:=.bl true) (b3 (aj (g8 (l:=b8 row) FR (fun _=>.bl true) (fu (d:=TF (b8 row)) rfl rfl) (by omega) fun q hq=>⟨[some (FR q)],rfl,?_⟩) aq) ?_) rfl)
   .obtain⟨s,hs,rfl⟩:=JL.mp hq;have bs:=gr.2 s hs;exact bQ (aj (d:=FR (low s.1 s.2)) rfl aq) (G6 (Bd.low bs.pos bs.bot bs.top) (rG _ bs.pos) (by omega))
   .have:=vN (fun _:Int×Nat=>true) (b8 row);rw[JJ.mpr (fun _ _=>rfl)]at this;exact this
 obtain⟨y',e⟩:=lp rz none fun _ h=>h;refine(aE ((dX (fu (d:=bY rz) rfl rfl)).trans e)).trans ?_;exact aX (b4 rfl)
end
end Law
end
section
set_option exponentiation.threshold 3000
namespace Law
open PySem PyProof.Rows L2 DL Fq
theorem Ep{i:Nat}{fl:ah->Res (List D)}{G:List D->Option (List (List D))}{F:FM}{r:ah}{ds:List D}{w:List (List D)}(h1:fl r=.ok ds)(h2:G ds=some w):lV (mq i fl G) F r=F (r.set i none) w:=by unfold lV mq;rw[h1];simp only[h2,Ka]
theorem E9{i:Nat}{fl:ah->Res (List D)}{G:List (List D)->List D->Res D}{r:ah}{w:List (List D)}{ds es:List D}(h1:fl r=.ok ds)(h2:G w ds=.ok (.lst es)):kn i fl G r w=.nx (r.set i (some (.lst es))):=by show iK fl G _ r w=_;unfold iK;rw[h1];simp only[h2]
theorem Fa{i:Nat}{fl:ah->Res (List D)}{G:List D->Res D}{r:ah}{d0:D}{ds es:List D}(h0:r[i]? = some (some d0))(h1:fl r=.ok ds)(h2:G (d0::ds)=.ok (.lst es)):gF i fl G r=.nx (r.set i (some (.lst es))):=by unfold gF;rw[h0,h1];simp only[h2]
theorem main(ns:List Int)(_:ns.length<=63):qe [.lst (ns.map .int)]=.ok (.bl true):=by
 obtain⟨c1,h1⟩:=mK ns 1 (by omega);obtain⟨c2,h2⟩:=mK ns 2 (by omega);obtain⟨c3,h3⟩:=mK ns 22 (by omega);have hn7:c1%7<7:=Kc _ (by omega);have hm9:c1/7%9<9:=Kc _ (by omega);obtain⟨qs,s1,s2,s3⟩:=Hy ns 3 (1+c1%7) (1+c1/7%9) (by omega) (by omega) (by omega) (by omega);generalize hn:1+c1%7=n at s2 s3;generalize hm:1+c1/7%9=m at s1 s3;have hsum:=qW (qs.map (·.1)) fun x hx=>by obtain⟨q,hq,rfl⟩:=JL.mp hx;exact(s2 q hq).1
 rw[n_,s1]at hsum;have hS:0<(qs.map (·.1)).sum:=by omega
 have hS7:(qs.map (·.1)).sum<=540:=by omega
 have mc:=fun h x=>CO hS qs h x;have cl:=fun h x=>vP qs h x;generalize eS:(qs.map (·.1)).sum=W at hS hS7 mc cl s3;have P:Pts n (qs.map (wt W)):=⟨by omega,by omega,by rw[n_];omega,by rw[n_];omega,fun p hp=>by obtain⟨q,hq,rfl⟩:=JL.mp hp;have:=s2 q hq;exact⟨Bd.low hS (by show W<1024;omega) (by rw[I_];show q.1<1024;omega),this.2⟩⟩
 have hmix:=HN P;have etb:TB (cH (qs.map (wt W))) n=.tup (((q_ n).map fun h=>(q_ n).map fun x=>low ((cq qs h x:Nat):Int) W).map TF):=by rw[Km];exact congrArg D.tup (KH fun h _=>congrArg (fun l=>TF l) (KH fun x _=>mc h x))
 rw[etb]at hmix;obtain⟨rz,S,e⟩:=Hx (tb:=(q_ n).map fun h=>(q_ n).map fun x=>low ((cq qs h x:Nat):Int) W) (n:=n) c2 (by simp) (by omega) fun row hr=>by obtain⟨h,_,rfl⟩:=JL.mp hr;refine⟨by simp,fun q hq=>?_⟩;obtain⟨x,_,rfl⟩:=JL.mp hq;have t1:=yP ((cq qs h x:Nat):Int) W;have t2:=xZ ((cq qs h x:Nat):Int) W;have t3:=cl h x;rw[I_]at t1;exact⟨by omega,k7 _ hS,by omega⟩
 generalize D.tup (((q_ n).map fun h=>(q_ n).map fun x=>low ((cq qs h x:Nat):Int) W).map TF)=T at hmix e;have k1:∀{r:ah},r[0]? = some (some (IN ns))->aM (ag (gv 0) (ag (ci 1) ae)) [] dG r=.ok (nD c1):=fun{r} hr=>bQ (aj (d:=IN ns) (by show cz r 0=_;unfold cz;rw[hr]) (aj (d:=nD 1) rfl aq)) h1;have k2:∀{r:ah},r[0]? = some (some (IN ns))->aM (ag (gv 0) (ag (ci 2) ae)) [] dG r=.ok (nD c2):=fun{r} hr=>bQ (aj (d:=IN ns) (by show cz r 0=_;unfold cz;rw[hr]) (aj (d:=nD 2) rfl aq)) h2;have k3:∀{r:ah},r[0]? = some (some (IN ns))->aM (ag (gv 0) (ag (ci 22) ae)) [] dG r=.ok (nD c3):=fun{r} hr=>bQ (aj (d:=IN ns) (by show cz r 0=_;unfold cz;rw[hr]) (aj (d:=nD 22) rfl aq)) h3;refine dv (B:=nS) (n:=8) ?_;unfold nS;refine(aE (cb (d:=nD n) (ak (a:=nD 1) rfl (ak (b:=nD 7) (k1 rfl) rfl (d3 (by omega))) (by rw[fF,hn])))).trans ?_;refine(aE (cb (d:=nD m) (ak (a:=nD 1) rfl (ak (b:=nD 9) (ak (b:=nD 7) (k1 rfl) rfl (ia (by omega) (by omega))) rfl (d3 (by omega))) (by rw[fF,hm])))).trans ?_;refine(aE (cb (d:=T) (bQ (aj (bQ (aj (d:=IN ns) rfl (aj (d:=nD 3) rfl (aj (d:=nD n) rfl (aj (d:=nD m) rfl aq)))) s3) (aj (d:=nD n) rfl aq)) hmix))).trans ?_;refine(Ep (aj (d:=T) rfl (aj (k2 rfl) aq)) e).trans ?_;obtain⟨rows1,G1,e1⟩:∃rows1,Gb 8 rows1/\gq (aS (f2 (f2 (f2 (aM (ag (gv 0) (ag (ci 1) ae)) [] dG) (ci 63) fm) (ci 4) aJ) (ci 0) c9)) (kn 4 (ag (f2 (aM (ag (gv 0) (ag (ci 2) ae)) [] dG) (ci 5) fm) ae) lu) (fZ 4 ao) [some (IN ns),some (nD n),some (nD m),some T,none,none,none,none] (WF rz)=.nx [some (IN ns),some (nD n),some (nD m),some T,some (RD rows1),none,none,none]:=by
  have t0:=gU (c1/63%4) 0;by_cases z:0<c1/63%4
  .rw[decide_eq_true z]at t0;obtain⟨rows1,G1,e1⟩:=HQ S (by omega) (by omega) (c2/5);exact⟨rows1,G1,(n6 (bV (ak (b:=nD 0) (ak (b:=nD 4) (ak (b:=nD 63) (k1 rfl) rfl (ia (by omega) (by omega))) rfl (d3 (by omega))) rfl t0))).trans (E9 (aj (ak (b:=nD 5) (k2 rfl) rfl (ia (by omega) (by omega))) aq) e1)⟩
  .rw[decide_eq_false z]at t0;exact⟨rz,S.gb (by omega) (by omega) (by omega),(dD (bV (ak (b:=nD 0) (ak (b:=nD 4) (ak (b:=nD 63) (k1 rfl) rfl (ia (by omega) (by omega))) rfl (d3 (by omega))) rfl t0))).trans (dB.trans rfl)⟩
 refine(jI e1).trans ?_;obtain⟨rows2,G2,e2⟩:∃rows2,Gb 9 rows2/\bN jj (aS (f2 (f2 (f2 (aM (ag (gv 0) (ag (ci 1) ae)) [] dG) (ci 63) fm) (ci 4) aJ) (ci 3) eqD)) (af (gF 4 (ag (aM (ag (gv 0) (ag (ci 22) ae)) [] dG) ae) lE) ao) ao [some (IN ns),some (nD n),some (nD m),some T,some (RD rows1),none,none,none]=.nx [some (IN ns),some (nD n),some (nD m),some T,some (RD rows2),none,none,none]:=by
  have t0:=i5 (c1/63%4) 3;by_cases z:c1/63%4=3
  .rw[decide_eq_true z]at t0;obtain⟨rows2,G2,e2⟩:=G9 G1 c3;exact⟨rows2,G2,(bU (bV (ak (b:=nD 3) (ak (b:=nD 4) (ak (b:=nD 63) (k1 rfl) rfl (ia (by omega) (by omega))) rfl (d3 (by omega))) rfl t0))).trans (aE (Fa rfl (aj (k3 rfl) aq) e2))⟩
  .rw[decide_eq_false z]at t0;exact⟨rows1,G1.mono (by omega),(aL (bV (ak (b:=nD 3) (ak (b:=nD 4) (ak (b:=nD 63) (k1 rfl) rfl (ia (by omega) (by omega))) rfl (d3 (by omega))) rfl t0))).trans (e_skip _)⟩
 refine(aE e2).trans ?_;have h8:=G2.len;obtain⟨d,D1,D2,D3⟩:=vB G2.gd;have hcp:=g8 (nl:=1) (cap:=[]) (fi:=aV cg (gv 4)) (ft:=ax 0) (fe:=fC (ag (gv 0) ae) jX) (r:=[some (IN ns),some (nD n),some (nD m),some T,some (RD rows2),none,none,none]) (l:=rows2) LF LF (fu (d:=RD rows2) rfl rfl) (by omega) fun row _=>⟨[some (LF row)],rfl,b3 (aj (d:=LF row) rfl aq) (e_listL _)⟩
 refine(aE (cb hcp)).trans ?_;refine(aE (cb (bQ (aj (d:=RD rows2) rfl aq) D2))).trans ?_;refine(aE (cb (bQ (aj (d:=RD rows2) rfl aq) D3))).trans ?_;refine(aE ((aL ?_).trans (e_skip _))).trans ?_
 .cases D1 with
 |many=>exact iJ (cm (du (a:=.str "many") (d:=.bl false) rfl rfl) rfl)
 |why w k hw hk=>refine(f8 (cm (du (a:=wD w k) (d:=.bl true) rfl rfl) rfl)).trans ?_;have t:=bV (ak (f:=fC (ag (gv 6) ae) lenD) (f':=gv 1) (r:=[some (IN ns),some (nD n),some (nD m),some T,some (RD rows2),some (RD rows2),some (wD w k),some (wD w k)]) (a:=nD 2) (b:=nD n) (b3 (aj (d:=wD w k) rfl aq) rfl) rfl (i5 2 n));cases z:decide (2=n)with
  |false=>rw[z]at t;exact iJ t
  |true=>rw[z]at t;refine(f8 t).trans (iJ (cm (d:=.bl false) (du (a:=.str w) (ak (a:=wD w k) (b:=nD 0) rfl rfl (lS (i:=0) rfl)) rfl) rfl))
 |tab g1 g2=>
   refine(f8 (cm (du (a:=bY rows2) (d:=.bl true) rfl rfl) rfl)).trans ?_;have t:=bV (ak (f:=fC (ag (gv 6) ae) lenD) (f':=gv 1) (r:=[some (IN ns),some (nD n),some (nD m),some T,some (RD rows2),some (RD rows2),some (bY rows2),some (bY rows2)]) (a:=nD rows2.length) (b:=nD n) (b3 (aj (d:=bY rows2) rfl aq) (by rw[rM])) rfl (i5 rows2.length n));by_cases z:rows2.length=n
   .rw[decide_eq_true z]at t;refine(f8 t).trans ?_;have i0:az (bY rows2) (nD 0)=some (TF (b8 (aZ rows2 0))):=lS (by rw[s_,mJ (by omega)];rfl);refine(f8 (cm (d:=.bl true) (du (ak (a:=bY rows2) (b:=nD 0) rfl rfl i0) rfl) rfl)).trans ?_;have tb:=Hz G2.gd g2;rw[z]at tb;exact dU (b:=true) (cm (bQ (aj (d:=bY rows2) rfl (aj (d:=nD n) rfl (aj (d:=nD n) rfl aq))) tb) rfl)
   .rw[decide_eq_false z]at t;exact iJ t
 refine aX (b4 ?_);rw[kZ (ak (a:=d) (b:=d) rfl rfl (Dq D1))];exact ak (a:=RD rows2) (b:=RD rows2) rfl rfl (wU (A3 _) rfl)
end Law
end
open PySem PySem.W PyProof.Rows
namespace Law
abbrev IQ:List PySem.Str:=["TradeError","TooMany","NoFraction","NoTable"]
open PySem PySem.Spec PyProof.Rows L2 DL
theorem uO{P:u_}{w:H_}{K:W.Frag}{h:Heap}{mg:Str->Option b_}(KX:K.In h)(G:h.Ns Jt mg){cA cB cC cD:Addr}{bA bB bC bD:List b_}{nD:Addr}{fD:Addr}{ocD kVD docD pmD cdvD ctD:b_}{odD anD:Option Addr}{oslD:Array (Option b_)}{L:DL.QL}(aA:W.nsIn K Jt "TradeError" = some (some (.ref cA)))(aB:W.nsIn K Jt "TooMany" = some (some (.ref cB)))(aC:W.nsIn K Jt "NoFraction" = some (some (.ref cC)))(aD:W.nsIn K Jt "NoTable" = some (some (.ref cD)))(oA:DL.dL K cA=some (bA,(F_ "TradeError")))(beA:bA.contains (Value.type "BaseException")=true)(boA:bA.contains (Value.type "object")=true)(gaA:W.findIn K (.ref cA) "__getattribute__" = some (some (.builtin "BaseException.__getattribute__")))(gnA:W.findIn K (.ref cA) "__getattr__" = some (none))(gcA:W.findIn K (.ref cA) "__class__" = some (some (.builtin "object.__class__")))(unA:DL.gC K "TradeError" cA=true)(oB:DL.dL K cB=some (bB,(F_ "TooMany")))(beB:bB.contains (Value.type "BaseException")=true)(boB:bB.contains (Value.type "object")=true)(gaB:W.findIn K (.ref cB) "__getattribute__" = some (some (.builtin "BaseException.__getattribute__")))(gnB:W.findIn K (.ref cB) "__getattr__" = some (none))(gcB:W.findIn K (.ref cB) "__class__" = some (some (.builtin "object.__class__")))(unB:DL.gC K "TooMany" cB=true)(oC:DL.dL K cC=some (bC,(F_ "NoFraction")))(beC:bC.contains (Value.type "BaseException")=true)(boC:bC.contains (Value.type "object")=true)(gaC:W.findIn K (.ref cC) "__getattribute__" = some (some (.builtin "BaseException.__getattribute__")))(gnC:W.findIn K (.ref cC) "__getattr__" = some (none))(gcC:W.findIn K (.ref cC) "__class__" = some (some (.builtin "object.__class__")))(unC:DL.gC K "NoFraction" cC=true)(oD:DL.dL K cD=some (bD,(F_ "NoTable")))(beD:bD.contains (Value.type "BaseException")=true)(boD:bD.contains (Value.type "object")=true)(gaD:W.findIn K (.ref cD) "__getattribute__" = some (some (.builtin "BaseException.__getattribute__")))(gnD:W.findIn K (.ref cD) "__getattr__" = some (none))(gcD:W.findIn K (.ref cD) "__class__" = some (some (.builtin "object.__class__")))(unD:DL.gC K "NoTable" cD=true)(gg:W.specialIn K (.builtin "object.__class__") "__get__" = some (some (.builtin "getset_descriptor.__get__")))(gt:W.takesIn K (.builtin "object.__class__")=some true)(hL:L=[((F_ "TradeError"),cA,bA),((F_ "TooMany"),cB,bB),((F_ "NoFraction"),cC,bC),((F_ "NoTable"),cD,bD)])(eB:W.excIn K cB DL.dM "ValueError.__new__" = true)(nsD:DL.uP K cD=some nD)(zD:DL.gy K cD nD=true)(g0D:W.findIn K (.ref cD) "__setattr__" = some (some (.builtin "object.__setattr__")))(g1D:W.findIn K (.ref cD) "why" = some none)(spA:W.specialIn K (.ref cA) "__getattribute__" = some (some (.builtin "type.__getattribute__")))(rdA:W.readsIn K cA (.type "type")=true)(fnA:W.findCls K (.ref cA) (.type "type") "__init__" = some (.val (.builtin "ValueError.__init__")))(iD:W.nsIn K nD "__init__" = some (some (.ref fD)))(kpD:W.keepIn K (.ref cD)=true)(lD:K.lookup fD=some ⟨ocD,odD,.func (W.fnOf "__init__" "NoTable.__init__" (L2.aI Law.jJ) (L2.ap Law.jJ) (L2.aa Law.jJ) .none kVD docD pmD anD cdvD ctD),oslD⟩)(cdD:W.codeIn K cdvD "NoTable.__init__" = true)(kkD:W.keepIn K (.ref fD)=true)(fcD:W.typeIn K (.ref fD)=some (.type "function"))(hAA:(Value.ref cA::bA).contains (.ref cA)=true)(hAB:(Value.ref cB::bB).contains (.ref cA)=true)(hAC:(Value.ref cC::bC).contains (.ref cA)=true)(hAD:(Value.ref cD::bD).contains (.ref cA)=true)(nnB:W.kitOne K (.type "NoneType") (.ref cB)=some false)(kB:(P1 L fun q=>W.kitOne K (.ref q.2.1) (.ref cB)==Law.iO q.1)=true)(nn_ValueError:W.kitOne K (.type "NoneType") (.type "ValueError")=some false)(k_ValueError:(P1 L fun q=>W.kitOne K (.ref q.2.1) (.type "ValueError")==Law.iP q.1)=true)(nnD:W.kitOne K (.type "NoneType") (.ref cD)=some false)(kD:(P1 L fun q=>W.kitOne K (.ref q.2.1) (.ref cD)==Law.iN q.1)=true):∃(C_TradeError:Addr)(C_TooMany:Addr)(C_NoFraction:Addr)(C_NoTable:Addr)(bm_TradeError:List b_)(bm_TooMany:List b_)(bm_NoFraction:List b_)(bm_NoTable:List b_),(XC K mg "TooMany" C_TooMany)/\(XN K "TooMany" C_TooMany)/\(∀base,XCG P w K mg base "NoTable" C_NoTable "why" (lJ K C_NoTable "why"))/\(XN K "NoTable" C_NoTable)/\(XA K C_TradeError bm_TradeError)/\(mg "TradeError" = some (.ref C_TradeError))/\(lQ K C_TradeError mW)/\(mg "TooMany" = some (.ref C_TooMany))/\(IsxOk K (.ref C_TooMany) iO)/\(IsxOk K (.type "ValueError") iP)/\(mg "NoTable" = some (.ref C_NoTable))/\(IsxOk K (.ref C_NoTable) iN)/\(lP K "why" l8):=by
 have qA:=(DL.nR oA beA boA gaA gnA gcA gg gt unA)
 have qB:=(DL.nR oB beB boB gaB gnB gcB gg gt unB)
 have qC:=(DL.nR oC beC boC gaC gnC gcC gg gt unC)
 have qD:=(DL.nR oD beD boD gaD gnD gcD gg gt unD)
 subst hL;have hN:L7 (·.1) [((F_ "TradeError"),cA,bA),((F_ "TooMany"),cB,bB),((F_ "NoFraction"),cC,bC),((F_ "NoTable"),cD,bD)]=Law.IQ:=rfl;have hf:DL.gR (fun q:Str×Addr×List b_=>DL.CF K q.1 q.2.1 q.2.2) [((F_ "TradeError"),cA,bA),((F_ "TooMany"),cB,bB),((F_ "NoFraction"),cC,bC),((F_ "NoTable"),cD,bD)]:=⟨qA,qB,qC,qD,trivial⟩
 exact⟨cA,cB,cC,cD,bA,bB,bC,bD,DL.Ba KX G aB eB,qB.xn,DL.Bh KX G aD kpD zD oD (DL.qd zD oD g0D g1D) iD (L2.fT lD cdD kkD) fcD Law.Db (Law.EM (L2.fT lD cdD kkD) (DL.qd zD oD g0D g1D) (W.mg_of KX G aA) ⟨spA,rdA,fnA⟩),qD.xn,qA.xa,W.mg_of KX G aA,DL.Bc [((F_ "TradeError"),cA,bA),((F_ "TooMany"),cB,bB),((F_ "NoFraction"),cC,bC),((F_ "NoTable"),cD,bD)] (by intro q hq;simp only[C_,LZ,or_false]at hq;rcases hq with rfl|rfl|rfl|rfl <;> first|exact⟨qA,hAA⟩|exact⟨qB,hAB⟩|exact⟨qC,hAC⟩|exact⟨qD,hAD⟩) (fun nm h=>by have h2:=Ku.mp h;simp only[C_,LZ,or_false]at h2;rcases h2 with rfl|rfl|rfl|rfl <;> simp),W.mg_of KX G aB,DL.qc hN hf nnB kB,DL.qc hN hf nn_ValueError k_ValueError,W.mg_of KX G aD,DL.qc hN hf nnD kD,DL.Bb [((F_ "NoTable"),cD,bD)] (by intro q hq;simp only[C_,LZ,or_false]at hq;rcases hq with rfl <;> first|exact⟨qD,(DL.qd zD oD g0D g1D)⟩) (fun nm h=>by have h2:=Ku.mp h;simp only[C_,LZ,or_false]at h2;rcases h2 with rfl <;> simp)⟩
end Law
abbrev P0:=MS.prog
namespace PySem.W.Fast
def tw11158349385260681088:=0
def tw1976594284876366210:=0
def tw10627021625156044293:=0
def tw3602405072925593025:=0
def tw4101050232348199885:=0
end PySem.W.Fast
set_option maxRecDepth 100000 in
set_option maxHeartbeats 0 in
theorem PySem.Challenge.cw_ringtrade_k32_tables_made_holds : PySem.Challenge.rw_ringtrade_k32_tables_made.Holds := by
 w_on; o_law; k_head; (case hw=>w_witness2)
 k_fill
 refine DL.A9 (l:=PySem.Challenge.rw_ringtrade_k32_tables_made) (k:=9) (x := "_law_script") (F:=Law.qe) rfl rfl ⟨rfl,by decide,by decide,rfl⟩ (fun w h Y=>PySem.W.kIn_of Y) Law.main ?C
 intro w mg fa h KX G hmg
 have T:Law.Txt (L2.aQ KX) mg:=by
  dsimp only [L2.aQ]
  refine ⟨?ul,?um,?un,?uo,?up,?uq,?ur,?ut,?uu,?uv,?uw,?ux,?uy,?uz,?u0,?u1,?u2⟩
  case ul|um|un|uo|up|uq|ur|ut|uu|uv|uw|ux|uy|uz=>(refine' PySem.W.mg_none_of KX G ?_; k_is)
  case u0=>(refine' DL.Be KX G ?z; case z=>k_is)
  case u1=>(refine' DL.vM KX G ?u3 ?u4; (case u3=>k_is); (case u4=>k_is))
  case u2=>(refine' DL.vM KX G ?u5 ?u6; (case u5=>k_is); (case u6=>k_is))
 obtain ⟨uc,ub,u7,ua,uf,u8,u9,va,vb,vc,vd,ve,vf,vg,vh,vi,vj,vk,vl,vm,vn⟩:∃ (uc:Addr) (ub:Addr) (u7:Addr) (ua:Addr) (uf:List Value) (u8:List Value) (u9:List Value) (va:List Value),(DL.XC (L2.aQ KX) mg "TooMany" ub)∧(DL.XN (L2.aQ KX) "TooMany" ub)∧(∀ base,DL.XCG PySem.Challenge.rw_ringtrade_k32_tables_made.prog w (L2.aQ KX) mg base "NoTable" ua "why" (DL.lJ (L2.aQ KX) ua "why"))∧(DL.XN (L2.aQ KX) "NoTable" ua)∧(DL.XA (L2.aQ KX) uc uf)∧(mg "TradeError" = some (.ref uc))∧(DL.lQ (L2.aQ KX) uc Law.mW)∧(mg "TooMany" = some (.ref ub))∧(DL.IsxOk (L2.aQ KX) (.ref ub) Law.iO)∧(DL.IsxOk (L2.aQ KX) (.type "ValueError") Law.iP)∧(mg "NoTable" = some (.ref ua))∧(DL.IsxOk (L2.aQ KX) (.ref ua) Law.iN)∧(DL.lP (L2.aQ KX) "why" Law.l8):=by
  dsimp only [L2.aQ]
  refine' Law.uO KX G ?vo ?vp ?vq ?vr ?vs ?vt ?vu ?vv ?vw ?vx ?vy ?vz ?v0 ?v1 ?v2 ?v3 ?v4 ?v5 ?v6 ?v7 ?v8 ?v9 ?wa ?wb ?wc ?wd ?we ?wf ?wg ?wh ?wi ?wj ?gg ?gt ?hL ?wk ?wl ?wm ?wn ?wo ?wp ?wq ?wr ?ws ?wt ?wu ?wv ?ww ?wx ?wy ?wz ?w0 ?w1 ?w2 ?w3 ?w4 ?w5 ?w6 ?w7
  case vo|vp|vq|vr=>k_is
  case vs=>exact rfl
  case vt|vu=>decide +kernel
  case vv|vw|vx=>k_is
  case vy=>kernel_rfl
  case vz=>exact rfl
  case v0|v1=>decide +kernel
  case v2|v3|v4=>k_is
  case v5=>kernel_rfl
  case v6=>exact rfl
  case v7|v8=>decide +kernel
  case v9|wa|wb=>k_is
  case wc=>kernel_rfl
  case wd=>exact rfl
  case we|wf=>decide +kernel
  case wg|wh|wi=>k_is
  case wj=>kernel_rfl
  case gg|gt=>k_is
  case hL=>exact rfl
  case wk=>kernel_rfl
  case wl=>exact rfl
  case wm=>kernel_rfl
  case wn|wo|wp=>k_is
  case wq|wr=>kernel_rfl
  case ws|wt|wu|wv|ww|wx=>k_is
  case wy|wz|w0|w1=>decide +kernel
  case w2|w3|w4|w5|w6|w7=>kernel_rfl
 have w8:DL.DefAt (L2.aQ KX) mg "_law_common" Law.sU:=by
  dsimp only [L2.aQ]
  refine' DL.cK KX G ?a ?l ?c ?k
  case a|l|c|k=>k_is
 have w9:DL.DefAt (L2.aQ KX) mg "_law_low" Law.rZ:=by
  dsimp only [L2.aQ]
  refine' DL.cK KX G ?a ?l ?c ?k
  case a|l|c|k=>k_is
 have xa:DL.DefAt (L2.aQ KX) mg "_law_plus" Law.sx:=by
  dsimp only [L2.aQ]
  refine' DL.cK KX G ?a ?l ?c ?k
  case a|l|c|k=>k_is
 have xb:DL.DefAt (L2.aQ KX) mg "_law_mixed" Law.mT:=by
  dsimp only [L2.aQ]
  refine' DL.cK KX G ?a ?l ?c ?k
  case a|l|c|k=>k_is
 have xc:DL.DefAt (L2.aQ KX) mg "_law_lists" Law.sm:=by
  dsimp only [L2.aQ]
  refine' DL.cK KX G ?a ?l ?c ?k
  case a|l|c|k=>k_is
 have xd:DL.DefAt (L2.aQ KX) mg "_law_row_good" Law.sI:=by
  dsimp only [L2.aQ]
  refine' DL.cK KX G ?a ?l ?c ?k
  case a|l|c|k=>k_is
 have xe:DL.DefAt (L2.aQ KX) mg "_law_due" Law.jL:=by
  dsimp only [L2.aQ]
  refine' DL.cK KX G ?a ?l ?c ?k
  case a|l|c|k=>k_is
 have xf:DL.DefAt (L2.aQ KX) mg "refuse_too_many_rows" Law.tF:=by
  dsimp only [L2.aQ]
  refine' DL.cK KX G ?a ?l ?c ?k
  case a|l|c|k=>k_is
 have xg:DL.DefAt (L2.aQ KX) mg "greatest_divisor" Law.tw:=by
  dsimp only [L2.aQ]
  refine' DL.cK KX G ?a ?l ?c ?k
  case a|l|c|k=>k_is
 have xh:DL.DefAt (L2.aQ KX) mg "is_whole" Law.se:=by
  dsimp only [L2.aQ]
  refine' DL.cK KX G ?a ?l ?c ?k
  case a|l|c|k=>k_is
 have xi:DL.DefAt (L2.aQ KX) mg "fraction" Law.sd:=by
  dsimp only [L2.aQ]
  refine' DL.cK KX G ?a ?l ?c ?k
  case a|l|c|k=>k_is
 have xj:DL.DefAt (L2.aQ KX) mg "plus" Law.qV:=by
  dsimp only [L2.aQ]
  refine' DL.cK KX G ?a ?l ?c ?k
  case a|l|c|k=>k_is
 have xk:DL.DefAt (L2.aQ KX) mg "total" Law.rK:=by
  dsimp only [L2.aQ]
  refine' DL.cK KX G ?a ?l ?c ?k
  case a|l|c|k=>k_is
 have xl:DL.DefAt (L2.aQ KX) mg "has_worth" Law.sy:=by
  dsimp only [L2.aQ]
  refine' DL.cK KX G ?a ?l ?c ?k
  case a|l|c|k=>k_is
 have xm:DL.DefAt (L2.aQ KX) mg "less" Law.qU:=by
  dsimp only [L2.aQ]
  refine' DL.cK KX G ?a ?l ?c ?k
  case a|l|c|k=>k_is
 have xn:DL.DefAt (L2.aQ KX) mg "is_row_of_shares" Law.kl:=by
  dsimp only [L2.aQ]
  refine' DL.cK KX G ?a ?l ?c ?k
  case a|l|c|k=>k_is
 have xo:DL.DefAt (L2.aQ KX) mg "why_no_table" Law.nb:=by
  dsimp only [L2.aQ]
  refine' DL.cK KX G ?a ?l ?c ?k
  case a|l|c|k=>k_is
 have xp:DL.DefAt (L2.aQ KX) mg "in_lowest_terms" Law.m7:=by
  dsimp only [L2.aQ]
  refine' DL.cK KX G ?a ?l ?c ?k
  case a|l|c|k=>k_is
 have xq:DL.DefAt (L2.aQ KX) mg "table_of" Law.mV:=by
  dsimp only [L2.aQ]
  refine' DL.cK KX G ?a ?l ?c ?k
  case a|l|c|k=>k_is
 have xr:DL.DefAt (L2.aQ KX) mg "_law_asked_of" Law.sH:=by
  dsimp only [L2.aQ]
  refine' DL.cK KX G ?a ?l ?c ?k
  case a|l|c|k=>k_is
 have xs:DL.DefAt (L2.aQ KX) mg "_law_cell" Law.sw:=by
  dsimp only [L2.aQ]
  refine' DL.cK KX G ?a ?l ?c ?k
  case a|l|c|k=>k_is
 have xt:DL.DefAt (L2.aQ KX) mg "_law_row" Law.r6:=by
  dsimp only [L2.aQ]
  refine' DL.cK KX G ?a ?l ?c ?k
  case a|l|c|k=>k_is
 have xu:DL.DefAt (L2.aQ KX) mg "_law_parts" Law.mU:=by
  dsimp only [L2.aQ]
  refine' DL.cK KX G ?a ?l ?c ?k
  case a|l|c|k=>k_is
 have xv:DL.DefAt (L2.aQ KX) mg "_law_handed" Law.sV:=by
  dsimp only [L2.aQ]
  refine' DL.cK KX G ?a ?l ?c ?k
  case a|l|c|k=>k_is
 have xw:DL.DefAt (L2.aQ KX) mg "_law_spoilt" Law.sW:=by
  dsimp only [L2.aQ]
  refine' DL.cK KX G ?a ?l ?c ?k
  case a|l|c|k=>k_is
 have xx:DL.DefAt (L2.aQ KX) mg "_law_spoilt_more" Law.tu:=by
  dsimp only [L2.aQ]
  refine' DL.cK KX G ?a ?l ?c ?k
  case a|l|c|k=>k_is
 have xy:DL.DefAt (L2.aQ KX) mg "_law_is_fraction" Law.tt:=by
  dsimp only [L2.aQ]
  refine' DL.cK KX G ?a ?l ?c ?k
  case a|l|c|k=>k_is
 have xz:DL.DefAt (L2.aQ KX) mg "_law_is_table" Law.nc:=by
  dsimp only [L2.aQ]
  refine' DL.cK KX G ?a ?l ?c ?k
  case a|l|c|k=>k_is
 have x0:DL.DefAt (L2.aQ KX) mg "law" Law.l7:=by
  dsimp only [L2.aQ]
  refine' DL.cK KX G ?a ?l ?c ?k
  case a|l|c|k=>k_is
 refine DL.Bf hmg x0 (fun _ _ _ _ _ _ us hl=>match us,hl with | [_],_=>rfl) fun f fd Fn base=>?_
 have ug:=Law.GS (P:=P0) (w:=w) (base:=base) T w8
 have ud:=Law.Eu (P:=P0) (w:=w) (base:=base) T w9 ug
 have ue:=Law.EU (P:=P0) (w:=w) (base:=base) T xa ud
 have x1:=Law.Fo (P:=P0) (w:=w) (base:=base) T xb ue
 have x2:=Law.Fm (P:=P0) (w:=w) (base:=base) T xc
 have x3:=Law.HY (P:=P0) (w:=w) (base:=base) T xd ue
 have x4:=Law.Et (P:=P0) (w:=w) (base:=base) T xe x3 ud
 have x5:=Law.IE (P:=P0) (w:=w) (base:=base) T xf vb vc
 have x6:=Law.Is (P:=P0) (w:=w) (base:=base) T xg
 have uh:=Law.Ex (P:=P0) (w:=w) (base:=base) T xh
 have ui:=Law.Ew (P:=P0) (w:=w) (base:=base) T xi uh x6
 have x7:=Law.B5 (P:=P0) (w:=w) (base:=base) T xj ui
 have uj:=Law.BZ (P:=P0) (w:=w) (base:=base) T xk x7
 have x8:=Law.EV (P:=P0) (w:=w) (base:=base) T xl uh
 have x9:=Law.A8 (P:=P0) (w:=w) (base:=base) T xm
 have ya:=Law.Iu (P:=P0) (w:=w) (base:=base) T xn x8 uj x9
 have yb:=Law.Hn (P:=P0) (w:=w) (base:=base) T xo ya uj
 have yc:=Law.HD (P:=P0) (w:=w) (base:=base) T xp ui
 have yd:=Law.Fs (P:=P0) (w:=w) (base:=base) T xq x5 yb yc (vd base) ve
 have ye:=Law.HW (P:=P0) (w:=w) (base:=base) T xr yd vf vg vh vi vj vk vl vm vn
 have uk:=Law.ET (P:=P0) (w:=w) (base:=base) T xs
 have yf:=Law.Ev (P:=P0) (w:=w) (base:=base) T xt
 have yg:=Law.Fp (P:=P0) (w:=w) (base:=base) T xu uk yf ud
 have yh:=Law.GT (P:=P0) (w:=w) (base:=base) T xv ud ue
 have yi:=Law.GU (P:=P0) (w:=w) (base:=base) T xw yh
 have yj:=Law.Ir (P:=P0) (w:=w) (base:=base) T xx
 have yk:=Law.Iq (P:=P0) (w:=w) (base:=base) T xy ug
 have yl:=Law.HX (P:=P0) (w:=w) (base:=base) T xz yk
 exact Law.Bg T Fn uk yg x1 yi yj x4 ye yl x2
end
