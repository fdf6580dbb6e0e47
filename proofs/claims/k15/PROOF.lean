import PyProof.Rows.All
import Wide.All
import OpenK.AllK
import PySem.Challenge.RW_goneday_k15_by_reckonings
open PySem.Str renaming ofString->Ng,ofString->Ni
open PySem.W renaming Frag->Nh,mg_none_of->N1,nsIn->N5,emptyDict->O4,fnOf->Pa,findIn->Py,instObj->PJ,keepIn->PQ,mg_of->Qq,codeIn->Q6,cellsFrom_some->Rg,methodObj->RY,hasDictIn->RZ,plainGet->Si,takerIn->SG,makesIn->SH,lookIn->SW,callWith_K->TN,isFn->TQ,plainOver->Ub,handedIn->Ut,OpenLaw->UG,WalkO->US
open List renaming length_map->Nj,map_cons->Nq,mem_cons->Ny,getElem?_eq_some_iff->Nz,size_toArray->NA,mem_map->NC,length_cons->NF,replicate->NG,take_of_length_le->NI,getElem?_map->NK,map->NM,getElem?_eq_getElem->NN,map_map->NO,mem_append->NQ,mem_filter->NR,length_take->NS,mem_of_getElem?->NT,mem_singleton->NU,getElem?_set_ne->NV,mem_cons_of_mem->NY,lookup_cons->N2,append_nil->N4,getElem?_set_self->N7,map_append->N8,length_filter_le->Oa,mem_cons_self->Ob,length_append->Oc,not_mem_nil->Oe,pairwise_cons->Og,pairwise_map->Oj,mem_append_right->Ol,length_drop->Oo,filter_cons->Ow,take_succ->Ox,getElem?_append_right->Oy,range->OA,map_nil->OD,pairwise_iff_getElem->OF,getElem_mem->OP,getElem?_append_left->OQ,getElem_of_mem->OS,take_append_drop->OV,length_nil->OW,nodup_cons->OX,getElem?_cons_succ->OZ,filter_sublist->O6,foldl_cons->O7,nil_append->O8,find?_cons->O9,any_cons->Pc,pairwise_append->Pe,mem_of_mem_take->Pf,append_assoc->Ph,filterMap_cons->Pl,replicate_succ->Pn,getD_eq_getElem?_getD->Pr,length_replicate->Pz,drop_eq_getElem_cons->PD,all_eq_true->PV,ext_getElem->PX,cons_append->PZ,getElem?_eq_none->P6,take_sublist->Qb,flatten_cons->Qc,mem_of_mem_drop->Qh,getElem?_replicate->Qo,getElem?_cons_zero->Qp,mem_filterMap->Qs,set_cons_succ->Qv,lookup->Qw,drop_eq_nil_of_le->Qy,length_range->Qz,getElem_take->QC,perm_append_comm->QE,getElem_inj->QH,foldl->QI,any_eq_true->QJ,Nodup->QM,getElem?_of_mem->QN,flatMap_append->QR,range_succ->QU,mem_of_find?_eq_some->QX,set_cons_zero->Q2,length_filterMap_le->Q4,mem_range->Q5,drop_zero->Q8,getElem_drop->Rc,getElem?_nil->Rf,map_take->Rj,length_singleton->Rn,mem_append_left->Rr,eq_nil_of_length_eq_zero->RC,take_zero->RF,filter_append->RK,length_eraseIdx_of_lt->RS,perm_ext_iff_of_nodup->RX,nodup_append->R8,filterMap_cons_some->Sw,eraseIdx_cons_succ->Sy,pairwise_singleton->SE,filter_cons_of_pos->SF,of_mem_zip->SI,drop_of_length_le->SO,pairwise_lt_range->SS,filter->SV,drop_drop->S4,filterMap_append->Ta,eq_nil_or_concat->Tb,concat_eq_append->Tc,contains_iff_mem->Te,mem_of_mem_head?->Tf,reverse_reverse->Tp,getLast?_concat->Tq,all_cons->Tu,map_congr_left->Tw,reverse_append->Tz,length_pos_iff->TF,filterMap_map->TR,getElem?_drop->TU,find?_eq_none->TX,toArray->T1,all_nil->T3,any_nil->T4,filter_filter->T5,getElem_range->T8,mem_replicate->T9,getElem?_inj->Ud,foldl_append->Ui,ext_getElem?->Uj,drop_sublist->Ul,length->Uq,not_lt->Ur,le_antisymm->Ux,map_snd_zip->UA,mem_flatMap->UB,forIn_cons->UD,find?_some->UI,forIn_nil->UN,lt_trans->UW,sum_cons->UY,map_drop->UZ,take_add->U0,Pairwise->U3
open PySem.PyData renaming str->Nl,int->Nn,strOk->Nw,tuple->ND,eqv->NJ,canLay0->NW,list->Od,canLayAll0->OJ,depth->PM,bool->P1,eqvAll->Qa,none->Qx,depthAll->QV
open PySem.Heap renaming get?_push_of_some->Nm,lt_size->NB,get?_push_size->NH,get?_update_self->OT,get?_update_other->Pq,SameBut->PK,size_push->Ql,get?_update_ne->Tx,get?_push_ne->Ue,ExtBut->Vi
open Nat renaming le_refl->Np,ne_of_lt->NL,le_trans->NP,zero_le->N9,lt_of_lt_of_le->Of,lt_succ_of_lt->OI,le_of_lt->Po,lt_succ_self->Pw,lt_or_ge->PL,le_of_not_lt->PR,lt_irrefl->P7,le_succ->Qj,reduceAdd->QP,reduceSub->QQ,ne_of_gt->QZ,mul_le_mul->Q7,lt_trans->Ru,add_zero->Rx,sub_self->Ry,eq_zero_or_pos->RI,le_of_succ_le->R4,zero_add->Sq,reduceLT->Sr,reduceLeDiff->Sv,mul_le_mul_right->Tr,add_mul->Us,min_le_right->Uu,add_assoc->U1,le_of_eq->U7,one_mul->Vj
open PySem renaming Spec->Nr,Scope->NZ,boot_len->ON,mem_of_lookup->Pm,Fin->SJ,Within->TJ,call->UE
open Bool renaming false_ne_true->Nt,and_eq_true->Oq,false_eq_true->OO,or_eq_true->PN,true_and->P9,eq_iff_iff->Qt,not_eq_true'->QA,or_false->QO,true_eq_false->Q3,false_or->Ri,false_and->RE,not_false->S9,not_true->Tt,and_true->Tv,and_comm->U2
open Array renaming length_toList->Nu,toList_append->Oz,getD_eq_getD_getElem?->OH,getElem?_toList->OU,toList_push->Pj,perm_iff_toList_perm->Pu,getD->Qf,getElem?_eq_getElem->Qg,toList_inj->QK,toList_reverse->Rv,size_setIfInBounds->Sn,size_eq_zero_iff->SR,getElem?_eq_none->SU,mem_toList_iff->Tg,toList_modify->TC,size_extract->T2,toList_map->Uy,toList_zip->Uz,toList->U6
open PySem.NameKind renaming free->Nv,globalImplicit->N3,free->OL,cell->Rh
open PySem.ScopeKind renaming function->Nx
open PySem.Value renaming ref->N0,int->Pk,none->PH,bool->P0,str->Qi,type->Qr,isInt_shape->Ua,isInt->Um,isStrOf->UR,bytes->Vb,float->Vc
open PySem.Obj renaming mapSeq->N6,data_mapFields->Pb,isFreed_of_fields->QD,cls_mapFields->R9,putSet->Sd,mapFields->UU
open PySem.Heap.SameBut renaming update->Oh
open Option.some renaming inj->Oi,injEq->O5
open PySem.SeqAt renaming shaped->Om,canLay_of_shaped->OB,EqAt->Vk
open List.cons renaming injEq->Ot,inj->Rk
open Int renaming le_trans->Ou,eq_ofNat_of_zero_le->OY,toNat_natCast->Pg,le_of_lt->P4,le_refl->Qk,fdiv_eq_ediv_of_nonneg->RN,fmod_eq_emod_of_nonneg->RO,reduceNeg->RV,reducePow->RW,reduceLT->Ss,reduceLE->Su,le_antisymm->SK,emod_lt_of_pos->T7,lt_trichotomy->Uk,not_lt->UK,emod_nonneg->UM,zero_add->Va,mul_one->Ve
open PySem.PassesOwn renaming never->Ov
open Sum renaming inr->OC,inl->Sf
open True renaming intro->OE
open PyProof.Rows renaming boot_sorted->OG,slot_tuple_getitem->PF,boot_min->QF,callWith_type1->QG,boot_max->Rq,bubble->RD,boot_sum->S8,entry_tuple_getitem->Uw,args_tuple_getitem->UC
open PySem.SetTable renaming below->OM,grown->PY,orStandIn->TY,sizeAbove->TZ,layClean->Ug,relaid->UJ,laid->UT,slot->UX
open PySem.Builtin.Int renaming intBits->OR
open False renaming elim->O3
open PySem.Around renaming under_plainId->Pd,under->TK
open PySem.PyData.str renaming injEq->Px
open PySem.PyData.tuple renaming injEq->PB
open PyProof.Rows.F renaming plain_set_update_loop->P2,entry_set_update_loop->Q1
open ForInStep renaming yield->P5,done->RG
open PySem.Builtin.List renaming listFitsIndex->P8,listTooLong->Qn,listUpdate->Ra,listLengthHint->RH,listExtendWith->RJ,listSameRef->Sk
open PySem.Builtin.Slice renaming slicePlaces->Qe,sliceAdjust->QS,sliceApplied->RQ,sliceFields->U5
open PySem.Builtin.Tuple renaming tupleExact->Qm,tupleItemsOf->RR
open PySem.W.WData renaming int->Qu,weightAll->QT,list->Sb,layableAll->Uv,weight->U8
open PySem.SetTable.below renaming go->QB
open PySem.PyData.int renaming injEq->QL
open PySem.Calls renaming call_function_entry->QW,Name_function_global->RM,callWith_builtin->SN,evalArgs_plain->Th,spliced_cons->TM,spliced_nil->Uc
open PySem.W.KasT renaming kasWp_bind->QY
open Option renaming isSome_iff_exists->Q0,join_some->Rl,join_none->Rm,map_some->Rz,map_none->RB,isSome_map->R7,getD_none->Sj,isSome_some->TV,isSome->U4,bind->Vh
open PySem.F renaming plainAttrs_list->Q9,slot_dict_get->Ro,plain_extend_loop->Se,slot_list_insert->Sm,args_dict_get_2->Sx,plain_list_iadd->Sz,entry_dict_get->SQ,plain_set_new->SY,slot_set_iter->S0
open PySem.PyData.list renaming injEq->Rb
open Or renaming inr->Rt,inl->SX
open PySem.Paired renaming length->RL,snoc->Vg
open Prod.mk renaming injEq->RU
open PySem.PyData.bool renaming injEq->Sa
open Nat.succ renaming inj->So
open PySem.Builtin.Dict renaming updateFrom->SD
open PyProof renaming noPylong_small->SM
open List.Pairwise renaming sublist->Td
open PySem.Walks renaming list->Ti
open PySem.SeqAt.RcAt renaming tuple_str->Tj
open PySem.SeqAt.EqAt renaming str_tuple->Tn,str_int->TH,int_str->Vl,str_str->Vo
open PyProof.Rows.SortSt renaming mk'->To
open Function renaming comp->Ts
open PySem.Code renaming isFrame->TL,frames->Vf
open PySem.Expr renaming Call->T6,Subscript->UO,List->UQ
open PySem.SetTable.probe renaming go->Uh
open Sum.inr renaming inj->Uo
open PySem.Heap.DictOf renaming new->UH
open Array.Perm renaming refl->UL
open PyProof.Rows.IsTup renaming new->UP
open Prod renaming snd->U9
open PySem.CmpOp renaming NotIn->Vd
open PySem.Flow renaming next->Vm
open PySem.Heap.IsSliceOf renaming new->Vn
open PySem renaming PyData->Vv,Value->Vw,wpAny_bind->Vx,Addr->Vy,Shared->Vz,wpAny_pure->VA,model->VB,wpAny->VC,Expr->VE,sizeLine->VG,starEach->VH,Program->VL,FuncData->VN,World->VP,Heap->VQ,mainGlobals->VR,Around->VS,Stmt->VT,bootBuiltins->VW,foldedSetIterable->VX,wpAny_holding->VY,compareOp->VZ,wpAny_newObj_type->V0,backTo->V1,wpAny_mono->V3,swapsWith->V5,sizeLine_eq->V6,wpAny_call_entry->V7,wpAny_truthy_bool->V8,cLine->V9,behindInMarks->Wa,cellsFrom->Wb,Scope->We,wpAny_callSpecial?_slot->Wf,NameKind->Wg,sysModules->Wh,wpAny_rule->Wi,attributeBase->Wj,wpAny_loadPart'->Wl,SetTable->Wm,codeAny_builtin->Wn,wpAny_passesOwn->Wr,Keyword->Ws,wpAny_setState_of->Wu,call_meets->Wv,codeAny->Ww,codeAny_mono->Wx,wpAny_askSetting->Wy,wpAny_setEntries_of->Wz,wpAny_newList->WA,plainId_quiet->WB,pyNext->WC,wpAny_Call_Name_kw->WD,tupleKind_room_in1->WE,scanBound->WH,binaryOp->WJ,rawInt->WK,getItem->WL,wpAny_typeOf->WM,wpAny_setField->WN,wpAny_attempt->WO,sliceBounds->WQ,keywordEach->WR,DictEntry->WT,intKind->WV,holding->WW,assignEach->WX,typeIs_str->WY,setNext->WZ,wpAny_pyIter_list->W0,subscripted->W3,swapsWithSole->W6,swappedStores->W7,relayAll->W8,PassesOwn->Xa,builtinLookup_eq_fast->Xc,wpAny_execs_nil->Xd,letOwnedTupleGo->Xe,wpAny_ite_split->Xf,backToKw->Xh,wpAny_fieldsOf->Xj,firstArgMember->Xk,wpAny_of_eq->Xm,unsupported->Xn,tupleKind->Xo,pickOrder->Xq,wpAny_standAt->Xr,GenState->Xs,wpAny_comprehension_free->Xt,wpAny_isInstance->Xu
open PyProof.Rows renaming arrOf->VD,Keyed->VF,wpS_bind->VI,wpS_pure->VJ,pendingOf->VM,SortSt->VO,seqObj->VU,wpS_forRange->V2,IntsAre->V4,wpS_mono->Wc,oneType'->Wk,failedOf->Wo,elem'->Wq,listUpdate_at->Wt,get?_update_seq->WG,wpS_modify->WI,wpS_get->WS,setArr->WU,envOfC->W2,seqEpoch_at->W4,AllBare->W9,entry_list_sort->Xg,slot_list_sort->Xi,wpS_lift->Xl,assignInOrder_cons->Xp
open PySem.W renaming kia_one->Xb
theorem cp{p:Prop}[Decidable p](h:decide p=true:=by decide+kernel):p:=of_decide_eq_true h
theorem Vp{p:Prop}(h:p:=by decide):p:=h
theorem Vq{p:Prop}(h:p:=by omega):p:=h
theorem Vu{p:Prop}(h:p:=by simp):p:=h
theorem Vr{c:Prop}{h:Decidable c}(k:¬c){α:Sort u}{t e:α}:ite c t e=e:=if_neg k
theorem Vs{c:Prop}{h:Decidable c}(k:c){α:Sort u}{t e:α}:ite c t e=t:=if_pos k
abbrev Xv:=PySem.NameKind.local
set_option compiler.extract_closed false
def rzS:="↓u5 ↓u7 ↓u9 ↓va ↓vb ↓uF ↓uG ↓vF ↓vG ↓vH ↓vI ↓vJ ↓vK ↓uH ↓uI ↓uJ ↓uK ↓uL ↓uM ↓uN ↓uO ↓uP ↓uQ ↓uR ↓uS ↓uT ↓uU ↓uV ↓uW ↓uX fF oA iS oB jw oC oE oK j7 oh dC dJ dI oU l6 oV oW iW pq pj dL lY lV jr gR fE ie om oo oq ot ox oy iR uD uE oX pz mq l8 l9 oY oZ pb pd pf mh pA pB pE iV oM oN oO mw pY pP pQ my pU pR pN pZ p7 p5 p8 p9 qa jF qc qf qg qi qj qu qw qx kC qE qH qB qC qD qI qJ qL qN qO qT rH qU qV ja qY mS qZ q5 qX rg uA uB uC ne_eq um uo ur uu uw uk ke kg oT jx oJ oI oH iU gu d8 jU lL jj Nq OD NF OW NG PZ O8 N4 QP QQ Rx Sq Ry Qp OZ Rf Q2 Qv O5 exists_eq_left' exists_eq_left exists_and_left exists_and_right Rl Rm Sl.v.injEq Sl.o.injEq Sl.k.injEq QL Sa Px PB Rb Ot and_true true_and Sr Sv exists_const decide_eq_true_eq Ss Su RV RW QA decide_eq_false_iff_not and_assoc or_true true_or ↓reduceIte if_true if_false OO Q3 not_true_eq_false not_false_eq_true Tt S9 ite_true ite_false eq_self exists_eq reduceCtorEq false_and and_false or_false false_or exists_false Rz RB j5 Tu T3 Pc T4 Tv QO P9 Ri d9 dN mi iY pF iu iw pH beq_self_eq_true gA tZ pG cZ sizeLine_eq"
def rzT (n : String) : Lean.MacroM (Lean.TSyntax `tactic) := do
 let ts : Array (Lean.TSyntax `Lean.Parser.Tactic.simpLemma) <- ((n.splitOn " ").toArray).mapM λs =>do
  if s.startsWith "↓" then
   let i := Lean.mkIdent (s.drop 1).toString.toName
   `(Lean.Parser.Tactic.simpLemma| ↓ $i:ident)
  else
   let i := Lean.mkIdent s.toName
   `(Lean.Parser.Tactic.simpLemma| $i:ident)
 `(tactic| simp only [$ts,*])
local macro_rules|`(command|def $i:declId $s:optDeclSig $v:declVal)=>`(command|noncomputable def $i:declId $s:optDeclSig $v:declVal)|`(command|abbrev $i:declId $s:optDeclSig $v:declVal)=>`(command|noncomputable abbrev $i:declId $s:optDeclSig $v:declVal)
noncomputable section
set_option Elab.async false
set_option linter.all false
set_option maxRecDepth 100000
set_option maxHeartbeats 0
set_option genSizeOf false
namespace L2
open PySem PySem.Spec PyProof.Rows
abbrev ai:=Sum Int Str
def jP:ai->Vw->Bool
 | .inl k,v=>Um k v
 | .inr x,v=>UR x v
def EX(w:VP):ai->Int
 | .inl k=>hashInt k
 | .inr x=>hashStr w x
theorem fT:∀{k:ai}{v:Vw},jP k v=true->(∃i t,k=Sf i/\v=Pk i t)\/(∃x t,k=OC x/\v=Qi x t)
 | .inl i,v,h=>by
  obtain⟨t,e⟩:=Ua (k:=i) (v:=v) h;exact .inl ⟨i,t,rfl,e⟩
 | .inr x,v,h=>by
  obtain⟨t,e⟩:=Value.isStrOf_shape (x:=x) (v:=v) h;exact .inr ⟨x,t,rfl,e⟩
theorem EY(i:Int)(t:Tok):jP (.inl i) (.int i t)=true:=by simp [jP,Um]
theorem EZ(x:Str)(t:Tok):jP (.inr x) (.str x t)=true:=by simp [jP,UR]
theorem E1(a b:Int):decide ((Sf a:ai)=Sf b)=(a==b):=by
 by_cases e:a=b
 ·subst e;simp
 ·have h:¬(Sf a:ai)=Sf b:=λq=>e (Sf.inj q);rw [decide_eq_false h];exact(beq_eq_false_iff_ne.mpr e).symm
theorem E3(a b:Str):decide ((OC a:ai)=OC b)=decide (a=b):=by
 by_cases e:a=b
 ·subst e;simp
 ·have h:¬(OC a:ai)=OC b:=λq=>e (Uo q);rw [decide_eq_false h,decide_eq_false e]
theorem E4(a:Int)(b:Str):decide ((Sf a:ai)=OC b)=false:=decide_eq_false (λq=>nomatch q)
theorem E5(a:Str)(b:Int):decide ((OC a:ai)=Sf b)=false:=decide_eq_false (λq=>nomatch q)
def bZ(prog:VL)(w:VP):PySem.KeyKind prog w ai where
 is:=jP
 hash:=EX w
 inj:=λv a b ha hb=>by
  rcases fT ha with⟨i,t,rfl,rfl⟩ | ⟨x,t,rfl,rfl⟩
  ·rcases fT hb with⟨j,u,rfl,e⟩ | ⟨y,u,rfl,e⟩
   ·injection e with e1 _;rw [e1]
   ·exact nomatch e
  ·rcases fT hb with⟨j,u,rfl,e⟩ | ⟨y,u,rfl,e⟩
   ·exact nomatch e
   ·injection e with e1 _;rw [e1]
 byValue:=λk v h=>by
  rcases fT h with⟨i,t,rfl,rfl⟩ | ⟨x,t,rfl,rfl⟩ <;> rfl
 pyHash:=λhv h=>by
  rcases fT hv with⟨i,t,rfl,rfl⟩ | ⟨x,t,rfl,rfl⟩
  ·exact wpAny_pyHash_int h
  ·exact wpAny_pyHash_str h
 eqBool:=λhu hv h=>by
  rcases fT hu with⟨i,t,rfl,rfl⟩ | ⟨x,t,rfl,rfl⟩
  ·rcases fT hv with⟨j,u,rfl,rfl⟩ | ⟨y,u,rfl,rfl⟩
   ·rw [E1] at h;exact wpAny_eqBool_int h
   ·rw [E4] at h;exact Vl i t y u _ _ _ _ h
  ·rcases fT hv with⟨j,u,rfl,rfl⟩ | ⟨y,u,rfl,rfl⟩
   ·rw [E5] at h;exact TH x t j u _ _ _ _ h
   ·rw [E3] at h;exact wpAny_eqBool_str h
 «strs»:=λk x t v h=>by
  rcases fT h with⟨i,u,rfl,e⟩ | ⟨y,u,rfl,e⟩
  ·exact nomatch e
  ·injection e with e1 _
   subst e1;cases v <;> rfl
theorem E6(prog:VL)(w:VP)(i:Int)(t:Tok):(bZ prog w).is (.inl i) (.int i t)=true:=EY i t
theorem E7(prog:VL)(w:VP)(x:Str)(t:Tok):(bZ prog w).is (.inr x) (.str x t)=true:=EZ x t
inductive V where
 | non | bl (b:Bool) | int (i:Int) | str (x:Str) | byt (b:Array UInt8) | flt (b:UInt64) | ref (a:Vy) | ty (n:String)
 deriving DecidableEq
def aD:V->Vw->Prop
 | .non,u=>u=PH
 | .bl b,u=>u=P0 b
 | .int i,u=>∃t,u=Pk i t
 | .str x,u=>∃t,u=Qi x t
 | .byt b,u=>∃t,u=Vb b t
 | .flt b,u=>∃t,u=Vc b t
 | .ref a,u=>u=N0 a
 | .ty n,u=>u=Qr n
abbrev aC:List V->List Vw->Prop:=Paired aD
theorem aC.length{xs:List V}{us:List Vw}(r:aC xs us):xs.length=us.length:=RL r
theorem aC.get:∀{xs:List V}{us:List Vw}{i:Nat}{x:V},aC xs us->xs[i]?=some x->∃u,us[i]?=some u/\aD x u
 | _,_,_,_,.nil,e=>by simp at e
 | _,_,0,_,.cons r _,e=>by simp at e;subst e;exact⟨_,rfl,r⟩
 | _,_,i+1,x,.cons _ t,e=>by
  obtain⟨u,h1,h2⟩:=aC.get (i:=i) (x:=x) t (by simpa using e);exact⟨u,by simpa using h1,h2⟩
theorem aC.set{x:V}{u:Vw}(r:aD x u):∀{xs:List V}{us:List Vw}(i:Nat),aC xs us->aC (xs.set i x) (us.set i u)
 | _,_,_,.nil=>.nil
 | _,_,0,.cons _ t=>.cons r t
 | _,_,i+1,.cons q t=>.cons q (aC.set r i t)
theorem aC.append:∀{xs ys:List V}{us ws:List Vw},aC xs us->aC ys ws->aC (xs++ys) (us++ws)
 | _,_,_,_,.nil,s=>s
 | _,_,_,_,.cons r t,s=>.cons r (aC.append t s)
theorem aC.take:∀{xs:List V}{us:List Vw}(n:Nat),aC xs us->aC (xs.take n) (us.take n)
 | _,_,0,_=>.nil
 | _,_,_+1,.nil=>.nil
 | _,_,n+1,.cons r t=>.cons r (aC.take n t)
theorem aC.drop:∀{xs:List V}{us:List Vw}(n:Nat),aC xs us->aC (xs.drop n) (us.drop n)
 | _,_,0,r=>r
 | _,_,_+1,.nil=>.nil
 | _,_,n+1,.cons _ t=>aC.drop n t
def eJ:Option V->Option Vw->Prop
 | some v,some u=>aD v u
 | none,none=>True
 | _,_=>False
def KV{κ:Type}:List (κ×V)->List (κ×Vw)->Prop:=Paired λ(p:κ×V) (q:κ×Vw)=>p.1=q.1/\aD p.2 q.2
def kV:ai->V
 | .inl i=>.int i
 | .inr x=>.str x
inductive HO where
 | lst (xs:List V)
 | tup (xs:List V)
 | dK (kvs:List (ai×V)) | dT (kvs:List (List ai×V))
 | set (S:Int->Bool) (n:Nat)
 | ins (C dx:Vy) (fs:List (Str×V))
 | own (x:Vy)
 | xd (fs:List (Str×V))
 | met (f x:Vy)
 | rng (lo hi:Int)
 | frz (o:Obj) (u:HO)
 | tbl (ps:Array Vw)
 | ext (φ:VQ->Prop)
abbrev Hp:=Vy->Option HO
def ak(H:Hp)(a:Vy)(o:HO):Hp:=λb=>if b=a then some o else H b
theorem aW{H:Hp}{a:Vy}{o:HO}:ak H a o a=some o:=by unfold ak;rw [Vs rfl]
theorem aE{H:Hp}{a b:Vy}{o:HO}(h:b≠a):ak H a o b=H b:=by unfold ak;rw [Vr h]
theorem E8{H:Hp}{a:Vy}{o u:HO}:ak (ak H a o) a u=ak H a u:=by
 funext b;unfold ak;split <;> rfl
theorem E9{H:Hp}{a b:Vy}{o u:HO}(h:H a=some o)(h':H b=some u)(d:o≠u):a≠b:=by
 intro e;subst e;rw [h] at h';exact d (Oi h')
theorem cT{H:Hp}{a b:Vy}{o:HO}(h:H a=some o)(h':H b=none):a≠b:=by
 intro e;subst e;rw [h] at h';cases h'
section
variable (P:VL) (w:VP)
def bV(H:Hp)(h:VQ)(a:Vy):HO->Prop
 | .lst xs=>xs.length<=VG/\∃(its:List Vw)(n:Nat),aC xs its/\h.get? a=some {cls:= .type "list",data:= .seq its.toArray n}
 | .tup xs=>xs.length<=VG/\∃its:List Vw,aC xs its/\IsTup h a its.toArray
 | .dK kvs=>kvs.length<=VG/\(a==Wh)=false/\∃vs,KV kvs vs/\h.DictOf (bZ P w) a vs
 | .dT kvs=>kvs.length<=VG/\(a==Wh)=false/\∃xs:List (List ai×Vy×Vw),
  Paired (λ(p:List ai×V) (q:List ai×Vy×Vw)=>p.1=q.1/\H q.2.1=some (.tup (p.1.map kV))/\aD p.2 q.2.2) kvs xs/\
  ∃o es ep,h.get? a=some o/\o.ExactDict/\o.data= .dict es ep/\es.toList=xs.map (entryOfKey (Xo (bZ P w)))/\(xs.map (·.1)).Nodup
 | .set S n=>h.SetOf (WV P w) a S n
 | .ins C dx fs=>H dx=some (.own a)/\fs.length<=1000/\dx≠a/\h.get? a=some (PJ C dx)/\
  ∃mA,h.Ns1 dx mA/\(∀f,eJ (fs.lookup f) (mA f))/\TJ mA (fs.map (·.1))
 | .own _=>∃o,h.get? a=some o
 | .xd fs=>∃mA,h.Ns1 a mA/\∀f,eJ (fs.lookup f) (mA f)
 | .rng lo hi=>∃t u v,h.get? a=some {cls:= .type "range",data:= .fields #[.int lo t,.int hi u,.int 1 v]}
 | .frz o u=>h.get? a=some o/\bV H h a u
 | .tbl ps=>h.get? a=some {cls:= .none,data:= .fields ps}
 | .met f x=>h.get? a=some (RY (.ref f) (.ref x))
 | .ext φ=>φ h/\(∃o,h.get? a=some o)/\∀h1 h2:VQ,φ h1->(∀o,h1.get? a=some o->h2.get? a=some o)->φ h2
def bP(H:Hp)(h:VQ):Prop:=∀a o,H a=some o->bV P w H h a o
end
section
variable {P:VL} {w:VP} {H H':Hp} {h h':VQ} {a:Vy} {o:HO}
theorem bV.lt(x:bV P w H h a o):a < h.objs.size:=by
 cases o with
 | lst xs=>obtain⟨_,_,_,_,e⟩:=x;exact NB e
 | tup xs=>obtain⟨_,_,_,p⟩:=x;exact p.lt
 | dK kvs=>obtain⟨_,_,_,_,o,_,_,e,_⟩:=x;exact NB e
 | dT kvs=>obtain⟨_,_,_,_,o,_,_,e,_⟩:=x;exact NB e
 | set S n=>obtain⟨o,_,_,_,e,_⟩:=x;exact NB e
 | ins C dx fs=>obtain⟨_,_,_,e,_⟩:=x;exact NB e
 | own y=>obtain⟨_,e⟩:=x;exact NB e
 | xd fs=>obtain⟨_,⟨_,_,_,e,_⟩,_⟩:=x;exact NB e
 | rng lo hi=>obtain⟨_,_,_,e⟩:=x;exact NB e
 | frz ob u=>obtain⟨e,_⟩:=x;exact NB e
 | tbl ps=>exact NB (show h.get? a=some _ from x)
 | met f y=>exact NB (show h.get? a=some _ from x)
 | ext φ=>obtain⟨_,⟨_,e⟩,_⟩:=x;exact NB e
theorem Paired.mapP{α β:Type}{F G:α->β->Prop}:∀{l₁:List α}{l₂:List β},Paired F l₁ l₂->(∀a b,F a b->G a b)->Paired G l₁ l₂
 | _,_,.nil,_=>.nil
 | _,_,.cons r t,f=>.cons (f _ _ r) (Paired.mapP t f)
theorem bV.stay(x:bV P w H h a o)(k:∀b u,(b=a\/H b=some (.own a))->h.get? b=some u->h'.get? b=some u)
 (ho:∀b,H b=some (.own a)->H' b=some (.own a))(ht:∀b xs,H b=some (.tup xs)->H' b=some (.tup xs)):bV P w H' h' a o:=by
 induction o with
 | lst xs=>obtain⟨z,its,n,r,e⟩:=x;exact⟨z,its,n,r,k _ _ (.inl rfl) e⟩
 | tup xs=>obtain⟨z,its,r,ob,e,c⟩:=x;exact⟨z,its,r,ob,k _ _ (.inl rfl) e,c⟩
 | dK kvs=>obtain⟨z,y,vs,r,ob,es,ep,e,c⟩:=x;exact⟨z,y,vs,r,ob,es,ep,k _ _ (.inl rfl) e,c⟩
 | dT kvs=>
  obtain⟨z,y,xs,r,ob,es,ep,e,c⟩:=x;exact⟨z,y,xs,Paired.mapP r λp q z=>⟨z.1,ht _ _ z.2.1,z.2.2⟩,ob,es,ep,k _ _ (.inl rfl) e,c⟩
 | set S n=>obtain⟨ob,es,ep,t,e,c⟩:=x;exact⟨ob,es,ep,t,k _ _ (.inl rfl) e,c⟩
 | ins C dx fs=>
  obtain⟨d,z,ne,e,mA,⟨od,es,ep,e2,c⟩,r⟩:=x;exact⟨ho _ d,z,ne,k _ _ (.inl rfl) e,mA,⟨od,es,ep,k _ _ (.inr d) e2,c⟩,r⟩
 | own y=>obtain⟨ob,e⟩:=x;exact⟨ob,k _ _ (.inl rfl) e⟩
 | xd fs=>obtain⟨mA,⟨od,es,ep,e,c⟩,r⟩:=x;exact⟨mA,⟨od,es,ep,k _ _ (.inl rfl) e,c⟩,r⟩
 | rng lo hi=>obtain⟨t,u,v,e⟩:=x;exact⟨t,u,v,k _ _ (.inl rfl) e⟩
 | frz ob u ih=>obtain⟨e,q⟩:=x;exact⟨k _ _ (.inl rfl) e,ih q⟩
 | tbl ps=>
  have e:h.get? a=some {cls:= .none,data:= .fields ps}:=x;show h'.get? a=some {cls:= .none,data:= .fields ps};exact k a _ (.inl rfl) e
 | met f y=>
  have e:h.get? a=some (RY (.ref f) (.ref y)):=x;show h'.get? a=some (RY (.ref f) (.ref y));exact k a _ (.inl rfl) e
 | ext φ=>obtain⟨p,⟨o,e⟩,st⟩:=x;exact⟨st _ _ p λo q=>k _ _ (.inl rfl) q,⟨o,k _ _ (.inl rfl) e⟩,st⟩
theorem bP.lt(x:bP P w H h)(e:H a=some o):a < h.objs.size:=(x a o e).lt
theorem bP.fresh(x:bP P w H h)(e:h.objs.size<=a):H a=none:=by
 cases q:H a with
 | none=>rfl
 | some u=>exact absurd (Of (x.lt q) e) (P7 _)
theorem bP.kept(x:bP P w H h)(k:∀b u,h.get? b=some u->h'.get? b=some u):bP P w H h':=λa o e=>
 (x a o e).stay (λb u _ q=>k b u q) (λ_ q=>q) λ_ _ q=>q
theorem bP.laid(x:bP P w H h)(k:∀b u,h.get? b=some u->h'.get? b=some u)(hp:h.objs.size<=a)(new:bV P w (ak H a o) h' a o):bP P w (ak H a o) h':=λb u e=>by
 have hn:=x.fresh hp;by_cases hb:b=a
 ·subst hb;rw [aW] at e;cases e;exact new
 ·rw [aE hb] at e;exact(x b u e).stay (λc v _ q=>k c v q) (λc q=>by rw [aE (cT q hn)];exact q) λc xs q=>by rw [aE (cT q hn)];exact q
end
def Rd(H:Hp)(a:Vy)(u:HO):Prop:=H a=some u\/∃o,H a=some (.frz o u)
theorem Rd.ok{P:VL}{w:VP}{H:Hp}{h:VQ}{a:Vy}{u:HO}(r:Rd H a u)(x:bP P w H h):bV P w H h a u:=by
 rcases r with r | ⟨o,r⟩
 ·exact x a u r
 ·obtain⟨_,q⟩:=x a _ r;exact q
def jQ:Option HO->Prop
 | some (.lst _)=>True
 | some (.dK _)=>True
 | some (.dT _)=>True
 | some (.set _ _)=>True
 | some (.ins _ _ _)=>True
 | some (.ext _)=>True
 | _=>False
section
variable {P:VL} {w:VP} {H:Hp} {h h':VQ} {x e:Vy} {o':HO}
theorem bP.write(ok:bP P w H h)(mu:jQ (H x))(he:e=x\/H e=some (.own x))(k:∀b u,b≠e->h.get? b=some u->h'.get? b=some u)(heo:∃u,h'.get? e=some u)
 (new:bV P w (ak H x o') h' x o'):bP P w (ak H x o') h':=λb u q=>by
 have nown:∀c y,H c=some (.own y)->c≠x:=λc y r z=>by subst z;rw [r] at mu;exact mu
 have ntup:∀c xs,H c=some (.tup xs)->c≠x:=λc xs r z=>by subst z;rw [r] at mu;exact mu
 by_cases hb:b=x
 ·subst hb;rw [aW] at q;cases q;exact new
 ·rw [aE hb] at q;by_cases hbe:b=e
  ·have q':H b=some (.own x):=by
    rcases he with z | z
    ·exact absurd (hbe.trans z) hb
    ·rw [hbe];exact z
   rw [q] at q';cases q';obtain⟨v,hv⟩:=heo;exact⟨v,by rw [hbe];exact hv⟩
  ·refine(ok b u q).stay (λc v hc r=>k c v ?_ r) (λc r=>by rw [aE (nown c b r)];exact r) λc xs r=>by rw [aE (ntup c xs r)];exact r
   rcases hc with rfl | hc
   ·exact hbe
   ·rintro rfl;rcases he with z | z
    ·exact nown c b hc z
    ·rw [hc] at z;cases z;exact hb rfl
end
structure Un (fs ex:List Vy) (H H':Hp) (h h':VQ):Prop where
 keep:∀b o,h.get? b=some o->H b=none->b ∉ fs->b ∉ ex->h'.get? b=some o
 slot:∀b o,h.get? b=some o->H b=none->b∈fs->b ∉ ex->∃sl,h'.get? b=some {o with slots:=sl}
 free:∀b o,h.get? b=some o->H b=none->b ∉ ex->H' b=none
 there:∀b o,h.get? b=some o->b ∉ ex->∃o',h'.get? b=some o'
 tups:∀b xs,H b=some (.tup xs)->H' b=some (.tup xs)
 frzs:∀b o u,H b=some (.frz o u)->H' b=some (.frz o u)
 tbls:∀b ps,H b=some (.tbl ps)->∃more,H' b=some (.tbl (ps++more))
section
variable {fs fs' ex ex':List Vy} {H H1 H2:Hp} {h h1 h2 h':VQ} {a x e:Vy} {o:HO}
theorem Un.any(u:Un fs ex H H1 h h1){b:Vy}{ob:Obj}(q:h.get? b=some ob)(n:H b=none)(hx:b ∉ ex):∃sl,h1.get? b=some {ob with slots:=sl}:=by
 by_cases hb:b∈fs
 ·exact u.slot b ob q n hb hx
 ·exact⟨ob.slots,u.keep b ob q n hb hx⟩
theorem Un.kept(k:∀b u,h.get? b=some u->h'.get? b=some u):Un fs ex H H h h':=
 ⟨λb ob q _ _ _=>k b ob q,λb ob q _ _ _=>⟨ob.slots,k b ob q⟩,λ_ _ _ n _=>n,λb ob q _=>⟨ob,k b ob q⟩,λ_ _ q=>q,λ_ _ _ q=>q,λ_ ps q=>⟨#[],by rw [q];simp⟩⟩
theorem Un.refl:Un fs ex H H h h:=Un.kept λ_ _ q=>q
theorem Un.laid(k:∀b u,h.get? b=some u->h'.get? b=some u)(hp:h.objs.size<=a)(hn:H a=none):Un fs ex H (ak H a o) h h' where
 keep:=λb u q _ _ _=>k b u q
 slot:=λb u q _ _ _=>⟨u.slots,k b u q⟩
 free:=λb u q n _=>by rw [aE (NL (Of (NB q) hp))];exact n
 there:=λb u q _=>⟨u,k b u q⟩
 tups:=λb xs q=>by rw [aE (cT q hn)];exact q
 frzs:=λb u xs q=>by rw [aE (cT q hn)];exact q
 tbls:=λb ps q=>⟨#[],by rw [aE (cT q hn),q];simp⟩
theorem Un.write(mu:jQ (H x))(he:e=x\/H e=some (.own x))(k:∀b u,b≠e->h.get? b=some u->h'.get? b=some u)(heo:∃u,h'.get? e=some u):Un fs ex H (ak H x o) h h':=by
 have hx:∀b,H b=none->b≠x:=λb n z=>by subst z;rw [n] at mu;exact mu
 have hb:∀b,H b=none->b≠e:=λb n z=>by
  subst z;rcases he with r | r
  ·exact hx b n r
  ·rw [n] at r;cases r
 have hm:∀b u,H b=some u->¬jQ (some u)->b≠x:=λb u q nm z=>by subst z;rw [q] at mu;exact nm mu
 refine⟨λb u q n _ _=>k b u (hb b n) q,λb u q n _ _=>⟨u.slots,k b u (hb b n) q⟩,λb u q n _=>by rw [aE (hx b n)];exact n,λb u q _=>?_,
  λb xs q=>by rw [aE (hm b _ q λz=>z)];exact q,λb u xs q=>by rw [aE (hm b _ q λz=>z)];exact q,λb ps q=>⟨#[],by rw [aE (hm b _ q λz=>z),q];simp⟩⟩
 by_cases hbe:b=e
 ·subst hbe;exact heo
 ·exact⟨u,k b u hbe q⟩
end
def trk(h:VQ)(H:Hp):List Vy:=(OA h.objs.size).filter λa=>(H a).isSome
def hG(h:VQ)(H:Hp):VQ:=PySem.W.hideAll h (trk h H)
theorem Fb(h:VQ)(H:Hp):(hG h H).objs.size=h.objs.size:=PySem.W.hideAll_size _ _
theorem Fc{h:VQ}{H:Hp}{b:Vy}{o:Obj}(e:h.get? b=some o)(n:H b=none):(hG h H).get? b=some o:=
 PySem.W.hideAll_get _ e λhm=>by
  have q:(H b).isSome=true:=(NR.mp hm).2;rw [n] at q;simp at q
theorem Fd{h:VQ}{H:Hp}{b:Vy}{o:Obj}(e:(hG h H).get? b=some o):h.get? b=some o/\H b=none:=by
 have e':h.get? b=some o:=PySem.W.of_hideAll (trk h H) e;refine⟨e',?_⟩;cases q:H b with
 | none=>rfl
 | some x=>
  have hm:b∈trk h H:=NR.mpr ⟨Q5.mpr (NB e'),by simp [q]⟩;have z:(hG h H).get? b=none:=PySem.W.hideAll_none (trk h H) hm;rw [z] at e;cases e
def Fe(g h:VQ)(L:Vy):List (Vy×Obj):=(OA h.objs.size).filterMap λa=>if a=L\/(g.get? a).isSome=true then none else(h.get? a).map λo=>(a,o)
def rest(g h:VQ)(L d:Vy):List (Vy×Obj):=(Fe g h L).filter λp=>decide (p.1≠d)
structure Mod (K:Nh) (mg:Str->Option Vw) (base:VQ):Prop where
 kin:K.In base
 glob:base.Ns VR mg
 blt:∃mb,base.Ns builtinsNs mb/\∀x:Str,x≠"__name__"->mb x=VW x
 nolimit:base.NoLimit
structure Cx where
 prog:VL
 w:VP
 K:Nh
 mg:Str->Option Vw
 base:VQ
 A:VS
 N:List Str
 s₀:Vz
 H₀:Hp
 env:Env
 outer:List Env
 stack:List Env
 ex:List Vy
 fn:Str->Bool
 calm:Bool
 pn:List (Vy×Obj)
 xe:Vw->Vz->Prop
def fk(l:List Env):List Vy:=l.filterMap (·.frame)
abbrev Cx.fs(X:Cx):List Vy:=fk X.outer
def lC(sc:We)(x:Str):Prop:=sc.names.lookup x=some .local\/sc.names.lookup x=some .cell\/sc.names.lookup x=some .free
def gJ(sc:We)(x:Str):Prop:=sc.names.lookup x=some .local\/sc.names.lookup x=some .cell
def Ff(env:Env)(h:VQ)(m:Str->Option Vw)(x:Str)(u:Vw):Prop:=
 (env.kindOf x=some .local/\m x=some u)\/((env.kindOf x=some .cell\/env.kindOf x=some .free)/\∃c,env.cells.lookup x=some c/\h.IsCell c (some u))
structure Cx.Ok (X:Cx):Prop where
 mod:Mod X.K X.mg X.base
 kind:X.env.scope.kind= .function
 glob:X.env.globals=VR
 blt:X.env.builtins=builtinsNs
 above:X.s₀.heap.objs.size<=X.env.locals
 inj:∀x y c,X.env.cells.lookup x=some c->X.env.cells.lookup y=some c->x=y
 has:∀x,(X.env.kindOf x=some .cell\/X.env.kindOf x=some .free)->∃c,X.env.cells.lookup x=some c
 cab:∀x c,X.fn x=true->X.env.cells.lookup x=some c->X.s₀.heap.objs.size<=c
 hd:X.calm=true->X.A.handled=none
 frames:X.A.frames=some X.stack
 stk:X.stack=X.outer\/(X.stack=X.env::X.outer/\X.env.frame=some X.env.locals)
 exf:∀b∈X.ex,b≠X.env.locals/\∀x c,X.env.cells.lookup x=some c->c≠b
 bs:∀b o,X.base.get? b=some o->X.s₀.heap.get? b=some o/\X.H₀ b=none
 bsz:X.base.objs.size<=X.s₀.heap.objs.size
 noex:∀b o,X.base.get? b=some o->b ∉ X.ex
 exfs:∀b∈X.ex,b ∉ X.fs
 funs:X.s₀.heap.FunFrames X.base X.outer
 frf:∀b∈X.fs,X.H₀ b=none
structure af (X:Cx) (Xw:List (Vy×Obj)) (σ:List (Option V)) (H:Hp) (s:Vz):Prop where
 ok:X.Ok
 os:s.os=X.s₀.os
 bare:W9 s.gens
 base:Un X.fs X.ex X.H₀ H X.s₀.heap s.heap
 loc:∃m,s.heap.Ns X.env.locals m/\∀(i:Nat)(x:Str)(v:V),X.N[i]?=some x->σ[i]?=some (some v)->lC X.env.scope x->∃u,aD v u/\Ff X.env s.heap m x u
 cell:∀x c,X.env.cells.lookup x=some c->∃v,s.heap.IsCell c v
 free:H X.env.locals=none
 freeC:∀x c,X.env.cells.lookup x=some c->H c=none
 pin:∀p∈X.pn++Xw,s.heap.get? p.1=some p.2/\H p.1=none/\p.1≠X.env.locals/\p.1 ∉ X.fs/\∀v,p.2.data≠ .cell v
 hok:bP X.prog X.w H s.heap
 len:σ.length=X.N.length
section
variable {X:Cx} {Xw:List (Vy×Obj)} {σ:List (Option V)} {H H':Hp} {s:Vz} {h':VQ}
theorem Cx.Ok.nofr(ok:X.Ok){b:Vy}{o:Obj}(e:X.base.get? b=some o):b ∉ X.fs:=λhb=>by
 have:=(ok.funs.mem hb).1;rw [e] at this;cases this
theorem af.bs(I:af X Xw σ H s):∀b o,X.base.get? b=some o->s.heap.get? b=some o/\H b=none:=λb o e=>
 ⟨I.base.keep b o (I.ok.bs b o e).1 (I.ok.bs b o e).2 (I.ok.nofr e) (I.ok.noex b o e),I.base.free b o (I.ok.bs b o e).1 (I.ok.bs b o e).2 (I.ok.noex b o e)⟩
theorem af.bk(I:af X Xw σ H s):∀b o,X.base.get? b=some o->s.heap.get? b=some o:=λb o e=>(I.bs b o e).1
theorem af.mod(I:af X Xw σ H s):Mod X.K X.mg X.base:=I.ok.mod
theorem af.kIn(I:af X Xw σ H s):X.K.In s.heap:=I.ok.mod.kin.keeps I.bk
theorem af.fr(I:af X Xw σ H s):∃m,Fr X.base X.env.locals s.heap m:=
 let ⟨m,hn,_⟩:=I.loc
 ⟨m,hn,I.bk,NP I.ok.bsz I.ok.above⟩
theorem af.lt(I:af X Xw σ H s):X.env.locals < s.heap.objs.size:=let ⟨_,hn,_⟩:=I.loc;hn.lt
theorem af.sz(I:af X Xw σ H s):X.s₀.heap.objs.size<=s.heap.objs.size:=NP I.ok.above (Po I.lt)
theorem af.nofs(I:af X Xw σ H s){a:Vy}(h:s.heap.objs.size<=a):a ∉ X.fs:=λhb=>by
 obtain⟨_,o,ho,_⟩:=I.ok.funs.mem hb;exact absurd (Of (NB ho) (NP I.sz h)) (P7 _)
theorem af.cne(I:af X Xw σ H s):∀x c,X.env.cells.lookup x=some c->c≠X.env.locals:=λx c e z=>by
 obtain⟨v,o,ho,hd⟩:=I.cell x c e;obtain⟨m,⟨o',es,ep,ho',hd',_⟩,_⟩:=I.loc;rw [z,ho'] at ho;cases ho;rw [hd'] at hd;cases hd
theorem af.funs(I:af X Xw σ H s):s.heap.FunFrames X.base X.outer:=by
 have all:∀(l:List Env),(∀b∈fk l,b∈X.fs)->X.s₀.heap.FunFrames X.base l->s.heap.FunFrames X.base l:=by
  intro l
  induction l with
  | nil=>intro _ _;trivial
  | cons env r ih=>
   intro hs hl;obtain⟨hk,⟨L,o,hf,hn,ho,hd⟩,hr⟩:=hl;have hL:L∈X.fs:=hs L (by unfold fk;rw [Pl,hf];exact Ob);obtain⟨sl,e⟩:=I.base.slot L o ho (I.ok.frf L hL) hL λz=>I.ok.exfs L z hL;exact⟨hk,⟨L,_,hf,hn,e,hd⟩,ih (λb hb=>hs b (by unfold fk;rw [Pl,hf];exact NY _ hb)) hr⟩
 exact all X.outer (λ_ hb=>hb) I.ok.funs
theorem af.stack(I:af X Xw σ H s):s.heap.FunFrames X.base X.stack:=by
 rcases I.ok.stk with e | ⟨e,hf⟩
 ·rw [e];exact I.funs
 ·rw [e];obtain⟨m,hn,_⟩:=I.loc;refine .cons (by rw [I.ok.kind];decide) hf hn ?_ I.funs;exact Heap.get?_none_of_le (NP I.ok.bsz I.ok.above)
theorem af.stkSub(I:af X Xw σ H s):∀b∈fk X.stack,b∈X.env.locals::X.fs:=λb hb=>by
 rcases I.ok.stk with e | ⟨e,hf⟩
 ·rw [e] at hb;exact NY _ hb
 ·rw [e] at hb;unfold fk at hb;rw [Pl,hf] at hb;exact hb
theorem af.stkFree(I:af X Xw σ H s):∀b∈fk X.stack,H b=none:=λb hb=>by
 rcases Ny.mp (I.stkSub b hb) with e | hb
 ·rw [e];exact I.free
 ·obtain⟨_,o,ho,_⟩:=I.ok.funs.mem hb;exact I.base.free b o ho (I.ok.frf b hb) λz=>I.ok.exfs b z hb
theorem af.step{g':Array Xs}{t':Nat}{d':Drawn}{ch:List Vy}(I:af X Xw σ H s)
 (hch:∀b∈ch,(b∈X.ex\/X.s₀.heap.objs.size<=b)/\b≠X.env.locals/\(∀x c,X.env.cells.lookup x=some c->c≠b)/\∀p∈X.pn++Xw,p.1≠b)
 (keep:∀b o,b≠X.env.locals->b ∉ X.fs->b ∉ ch->s.heap.get? b=some o->H b=none->h'.get? b=some o)
 (slot:∀b o,b≠X.env.locals->b∈X.fs->b ∉ ch->s.heap.get? b=some o->H b=none->∃sl,h'.get? b=some {o with slots:=sl})(free:∀b o,b ∉ ch->s.heap.get? b=some o->H b=none->H' b=none)
 (there:∀b o,b ∉ ch->s.heap.get? b=some o->∃o',h'.get? b=some o')
 (tups:∀b xs,H b=some (.tup xs)->H' b=some (.tup xs))(frzs:∀b o u,H b=some (.frz o u)->H' b=some (.frz o u))(tbls:∀b ps,H b=some (.tbl ps)->∃more,H' b=some (.tbl (ps++more)))
 (ns:∀m,s.heap.Ns X.env.locals m->h'.Ns X.env.locals m)(hok:bP X.prog X.w H' h')(hg:W9 g'):
 af X Xw σ H' {s with heap:=h',gens:=g',drawn:=d',toks:=t'}:=by
 have neL:∀b o,X.s₀.heap.get? b=some o->b≠X.env.locals:=λb o e=>NL (Of (NB e) I.ok.above);have neC:∀b o,X.s₀.heap.get? b=some o->b ∉ X.ex->b ∉ ch:=λb o e hx hb=>by
  rcases(hch b hb).1 with z | z
  ·exact hx z
  ·exact absurd (Of (NB e) z) (P7 _)
 have cellK:∀x c,X.env.cells.lookup x=some c->∀v,s.heap.IsCell c v->h'.IsCell c v:=λx c e v uu1=>by
  obtain⟨o,ho,hd⟩:=uu1;have nch:c ∉ ch:=λz=>(hch c z).2.2.1 x c e rfl;by_cases hc:c∈X.fs
  ·obtain⟨sl,q⟩:=slot c o (I.cne x c e) hc nch ho (I.freeC x c e);exact⟨_,q,hd⟩
  ·exact⟨o,keep c o (I.cne x c e) hc nch ho (I.freeC x c e),hd⟩
 refine⟨I.ok,I.os,hg,⟨λb o e n hb hx=>?_,λb o e n hb hx=>?_,λb o e n hx=>?_,λb o e hx=>?_,λb xs e=>tups b xs (I.base.tups b xs e),λb o xs e=>frzs b o xs (I.base.frzs b o xs e),λb ps e=>?_⟩,?_,λx c e=>?_,?_,λx c e=>?_,λp hp=>?_,hok,I.len⟩
 ·exact keep b o (neL b o e) hb (neC b o e hx) (I.base.keep b o e n hb hx) (I.base.free b o e n hx)
 ·obtain⟨sl,e1⟩:=I.base.slot b o e n hb hx;obtain⟨sl',e2⟩:=slot b _ (neL b o e) hb (neC b o e hx) e1 (I.base.free b o e n hx);exact⟨sl',e2⟩
 ·obtain⟨o',e1⟩:=I.base.there b o e hx;exact free b o' (neC b o e hx) e1 (I.base.free b o e n hx)
 ·obtain⟨o',e1⟩:=I.base.there b o e hx;exact there b o' (neC b o e hx) e1
 ·obtain⟨m1,e1⟩:=I.base.tbls b ps e;obtain⟨m2,e2⟩:=tbls b _ e1;exact⟨m1++m2,by rw [e2,Array.append_assoc]⟩
 ·obtain⟨m,hn,hl⟩:=I.loc;refine⟨m,ns m hn,λi x v e1 e2 e3=>?_⟩;obtain⟨u,r,l⟩:=hl i x v e1 e2 e3;refine⟨u,r,?_⟩;rcases l with l | ⟨k,c,e,z⟩
  ·exact .inl l
  ·exact .inr ⟨k,c,e,cellK x c e _ z⟩
 ·obtain⟨v,z⟩:=I.cell x c e;exact⟨v,cellK x c e v z⟩
 ·obtain⟨m,⟨o,_,_,ho,_⟩,_⟩:=I.loc;exact free _ o (λz=>(hch _ z).2.1 rfl) ho I.free
 ·obtain⟨v,o,ho,hd⟩:=I.cell x c e;exact free c o (λz=>(hch c z).2.2.1 x c e rfl) ho (I.freeC x c e)
 ·obtain⟨e,n,ne,nf,d⟩:=I.pin p hp;have nch:p.1 ∉ ch:=λz=>(hch p.1 z).2.2.2 p hp rfl;exact⟨keep p.1 p.2 ne nf nch e n,free p.1 p.2 nch e n,ne,nf,d⟩
theorem af.un{t':Nat}(I:af X Xw σ H s)(u:Un X.fs [] H H' s.heap h')(hok:bP X.prog X.w H' h'):af X Xw σ H' {s with heap:=h',toks:=t'}:=by
 obtain⟨m,⟨o,es,ep,ho,r⟩,_⟩:=id I.loc;obtain⟨sl,hL⟩:=u.any ho I.free Vu;exact I.step (g':=s.gens) (d':=s.drawn) (ch:=[]) (λ_ z=>nomatch z) (λb o _ hb _ e n=>u.keep b o e n hb Vu) (λb o _ hb _ e n=>u.slot b o e n hb Vu) (λb o _ e n=>u.free b o e n Vu) (λb o _ e=>u.there b o e Vu) u.tups u.frzs u.tbls (λm' hm=>by
  obtain⟨o',es',ep',ho',r'⟩:=hm;rw [ho] at ho';cases ho';exact⟨_,es',ep',hL,r'⟩) hok I.bare
theorem af.call{g':Array Xs}{t':Nat}{d':Drawn}{ch:List Vy}(I:af X Xw σ H s)(u:Un (fk X.stack) ch H H' s.heap h')(hok:bP X.prog X.w H' h')(hg:W9 g')
 (hch:∀b∈ch,(b∈X.ex\/X.s₀.heap.objs.size<=b)/\b≠X.env.locals/\(∀x c,X.env.cells.lookup x=some c->c≠b)/\∀p∈X.pn++Xw,p.1≠b):
 af X Xw σ H' {s with heap:=h',gens:=g',drawn:=d',toks:=t'}:=by
 obtain⟨m,⟨o,es,ep,ho,r⟩,_⟩:=id I.loc;obtain⟨sl,hL⟩:=u.any ho I.free λz=>(hch _ z).2.1 rfl;exact I.step (ch:=ch) hch (λb o hL hb hc e n=>u.keep b o e n (λz=>(Ny.mp (I.stkSub b z)).elim hL hb) hc) (λb o _ _ hc e n=>u.any e n hc) (λb o hc e n=>u.free b o e n hc) (λb o hc e=>u.there b o e hc) u.tups u.frzs u.tbls (λm' hm=>by
  obtain⟨o',es',ep',ho',r'⟩:=hm;rw [ho] at ho';cases ho';exact⟨_,es',ep',hL,r'⟩) hok hg
theorem af.turned{t':Nat}{it:Vy}(I:af X Xw σ H s)(k:∀b o,b≠it->s.heap.get? b=some o->h'.get? b=some o)(hn:H it=none)(hL:it≠X.env.locals)
 (h1:it∈X.ex\/X.s₀.heap.objs.size<=it)(h2:∀x c,X.env.cells.lookup x=some c->c≠it)(h3:∀p∈X.pn++Xw,p.1≠it):af X Xw σ H {s with heap:=h',toks:=t'}:=by
 have nit:∀b u,H b=some u->b≠it:=λb u e z=>by rw [z,hn] at e;cases e
 refine I.step (g':=s.gens) (d':=s.drawn) (ch:=[it]) (λb hb=>?_) (λb o _ _ hc e _=>k b o (λz=>hc (by simp [z])) e) (λb o _ _ hc e _=>⟨o.slots,k b o (λz=>hc (by simp [z])) e⟩) (λ_ _ _ _ n=>n)
  (λb o hc e=>⟨o,k b o (λz=>hc (by simp [z])) e⟩) (λ_ _ e=>e) (λ_ _ _ e=>e) (λb ps e=>⟨#[],by rw [e];simp⟩) (λm hm=>?_) (λb u e=>?_) I.bare
 ·have e:b=it:=by simpa using hb
  subst e;exact⟨h1,hL,h2,h3⟩
 ·obtain⟨o,es,ep,ho,r⟩:=hm;exact⟨o,es,ep,k _ o (Ne.symm hL) ho,r⟩
 ·refine(I.hok b u e).stay (λc v hc q=>k c v ?_ q) (λ_ q=>q) λ_ _ q=>q;rcases hc with z | z
  ·rw [z];exact nit b u e
  ·exact nit c _ z
theorem af.tok(I:af X Xw σ H s)(t:Nat):af X Xw σ H {s with toks:=t}:=I.un (h':=s.heap) (t':=t) Un.refl I.hok
theorem af.kept{t':Nat}(I:af X Xw σ H s)(k:∀b u,s.heap.get? b=some u->h'.get? b=some u):af X Xw σ H {s with heap:=h',toks:=t'}:=I.un (Un.kept k) (I.hok.kept k)
theorem af.laid{a:Vy}{o:HO}{t':Nat}(I:af X Xw σ H s)(k:∀b u,s.heap.get? b=some u->h'.get? b=some u)(hp:s.heap.objs.size<=a)(new:bV X.prog X.w (ak H a o) h' a o):
 af X Xw σ (ak H a o) {s with heap:=h',toks:=t'}:=I.un (Un.laid k hp (I.hok.fresh hp)) (I.hok.laid k hp new)
theorem af.write{x e:Vy}{o:HO}{t':Nat}(I:af X Xw σ H s)(mu:jQ (H x))(he:e=x\/H e=some (.own x))(k:∀b u,b≠e->s.heap.get? b=some u->h'.get? b=some u)(heo:∃u,h'.get? e=some u)
 (new:bV X.prog X.w (ak H x o) h' x o):af X Xw σ (ak H x o) {s with heap:=h',toks:=t'}:=I.un (Un.write mu he k heo) (I.hok.write mu he k heo new)
theorem af.weak{σ':List (Option V)}(I:af X Xw σ H s)(hl:σ'.length=σ.length)(w:∀(i:Nat) v,σ'[i]?=some (some v)->σ[i]?=some (some v)):af X Xw σ' H s:=
 ⟨I.ok,I.os,I.bare,I.base,let ⟨m,hn,hl'⟩:=I.loc;⟨m,hn,λi x v e1 e2 e3=>hl' i x v e1 (w i v e2) e3⟩,I.cell,I.free,I.freeC,I.pin,I.hok,hl.trans I.len⟩
theorem af.pins_of{pins':List (Vy×Obj)}(I:af X Xw σ H s)(h:∀p∈pins',s.heap.get? p.1=some p.2/\H p.1=none/\p.1≠X.env.locals/\p.1 ∉ X.fs/\∀v,p.2.data≠ .cell v):af X pins' σ H s:=
 ⟨I.ok,I.os,I.bare,I.base,I.loc,I.cell,I.free,I.freeC,λp hp=>(NQ.mp hp).elim (λz=>I.pin p (Rr _ z)) (h p),I.hok,I.len⟩
theorem xw{N:List Str}(hN:N.Nodup){i j:Nat}{x:Str}(a:N[i]?=some x)(b:N[j]?=some x):i=j:=by
 obtain⟨h1,e1⟩:=Nz.mp a;obtain⟨h2,e2⟩:=Nz.mp b;exact(QH hN).mp (e1.trans e2.symm)
theorem xx{M:Model}{A:VS}{E:Vw->Vz->Prop}{i:Nat}{x:Str}{v:V}{u:Vw}{Q:Unit->Vz->Prop}(I:af X Xw σ H s)(hN:X.N.Nodup)(hi:X.N[i]?=some x)(hx:gJ X.env.scope x)(r:aD v u)
 (h:∀s',af X Xw (σ.set i (some v)) H s'->(∃a,PK a s.heap s'.heap/\(a=X.env.locals\/X.env.cells.lookup x=some a))->Q () s')(hf:X.fn x=true\/X.env.scope.names.lookup x=some .local:=by first | exact .inl rfl | exact .inr rfl | assumption):VC M A (storeName X.env x u) Q E s:=by
 obtain⟨m,hn,hl⟩:=id I.loc;have hcls:(X.env.scope.kind== .class || (X.env.scope.kind== .module && X.env.locals !=X.env.globals))=false:=by rw [I.ok.kind];rfl
 have hiσ:i < σ.length:=by rw [I.len];exact(Nz.mp hi).1
 have cne:=I.cne;have tracked:∀{a:Vy}{h':VQ},(∃o,s.heap.get? a=some o/\H a=none)->PK a s.heap h'->bP X.prog X.w H h':=λ{a h'} ha hs b ob e=>by
  obtain⟨_,_,hfree⟩:=ha;refine(I.hok b ob e).stay (λc w' hc q=>(hs.2 c ?_).trans q) (λ_ q=>q) λ_ _ q=>q;rintro rfl;rcases hc with rfl | hc
  ·rw [hfree] at e;cases e
  ·rw [hfree] at hc;cases hc
 rcases hx with hk | hk
 ·refine wpAny_storeName_local hk hn (λh' hn' hs=>?_) hcls;obtain⟨oL,_,_,hoL,_⟩:=id hn;refine h _ ⟨I.ok,I.os,I.bare,⟨λb o e n hb hx=>?_,λb o e n hb hx=>?_,I.base.free,λb o e hx=>?_,I.base.tups,I.base.frzs,I.base.tbls⟩,⟨_,hn',λj y v' e1 e2 e3=>?_⟩,λy c e=>?_,I.free,I.freeC,λp hp=>?_,tracked ⟨oL,hoL,I.free⟩ hs,by simpa using I.len⟩ ⟨_,hs,.inl rfl⟩
  ·exact(hs.2 b (NL (Of (NB e) I.ok.above))).trans (I.base.keep b o e n hb hx)
  ·obtain⟨sl,e1⟩:=I.base.slot b o e n hb hx;exact⟨sl,(hs.2 b (NL (Of (NB e) I.ok.above))).trans e1⟩
  ·obtain⟨o',e1⟩:=I.base.there b o e hx;exact⟨o',(hs.2 b (NL (Of (NB e) I.ok.above))).trans e1⟩
  ·by_cases hj:j=i
   ·subst hj;rw [hi] at e1;cases e1;rw [N7 hiσ] at e2;cases e2;exact⟨u,r,.inl ⟨hk,Vu⟩⟩
   ·rw [NV (Ne.symm hj)] at e2;obtain⟨u',r',q⟩:=hl j y v' e1 e2 e3;refine⟨u',r',?_⟩;rcases q with⟨k,e⟩ | ⟨k,c,e,z⟩
    ·refine .inl ⟨k,?_⟩;have:y≠x:=λe=>hj (xw hN e1 (e▸hi));simp [this,e]
    ·exact .inr ⟨k,c,e,z.sameBut hs (cne y c e)⟩
  ·obtain⟨w',z⟩:=I.cell y c e;exact⟨w',z.sameBut hs (cne y c e)⟩
  ·obtain⟨e,n,ne,nf,d⟩:=I.pin p hp;exact⟨(hs.2 p.1 ne).trans e,n,ne,nf,d⟩
 ·have hfn:X.fn x=true:=by
   rcases hf with z | z
   ·exact z
   ·rw [z] at hk;cases hk
  obtain⟨c,hc⟩:=I.ok.has x (.inl hk);obtain⟨w',z⟩:=I.cell x c hc;refine wpAny_storeName_cell I.ok.kind hk hc z (λh' hc' hs=>?_);obtain⟨oc,hoc,hocd⟩:=id z;refine h {s with heap:=h'} ⟨I.ok,I.os,I.bare,⟨λb o e n hb hx=>?_,λb o e n hb hx=>?_,I.base.free,λb o e hx=>?_,I.base.tups,I.base.frzs,I.base.tbls⟩,⟨m,hn.sameBut hs (Ne.symm (cne x c hc)),λj y v' e1 e2 e3=>?_⟩,λy c' e=>?_,I.free,I.freeC,λp hp=>?_,tracked ⟨oc,hoc,I.freeC x c hc⟩ hs,by simpa using I.len⟩ ⟨c,hs,.inr hc⟩
  ·exact(hs.2 b (NL (Of (NB e) (I.ok.cab x c hfn hc)))).trans (I.base.keep b o e n hb hx)
  ·obtain⟨sl,e1⟩:=I.base.slot b o e n hb hx;exact⟨sl,(hs.2 b (NL (Of (NB e) (I.ok.cab x c hfn hc)))).trans e1⟩
  ·obtain⟨o',e1⟩:=I.base.there b o e hx;exact⟨o',(hs.2 b (NL (Of (NB e) (I.ok.cab x c hfn hc)))).trans e1⟩
  ·by_cases hj:j=i
   ·subst hj;rw [hi] at e1;cases e1;rw [N7 hiσ] at e2;cases e2;exact⟨u,r,.inr ⟨.inl hk,c,hc,hc'⟩⟩
   ·rw [NV (Ne.symm hj)] at e2;obtain⟨u',r',q⟩:=hl j y v' e1 e2 e3;refine⟨u',r',?_⟩;rcases q with q | ⟨k,c',e,z'⟩
    ·exact .inl q
    ·refine .inr ⟨k,c',e,z'.sameBut hs ?_⟩;rintro rfl;exact hj (xw hN e1 (I.ok.inj _ _ _ e hc▸hi))
  ·by_cases hcc:c'=c
   ·subst hcc;exact⟨_,hc'⟩
   ·obtain⟨w2,z2⟩:=I.cell y c' e;exact⟨w2,z2.sameBut hs hcc⟩
  ·obtain⟨e,n,ne,nf,d⟩:=I.pin p hp;refine⟨(hs.2 p.1 ?_).trans e,n,ne,nf,d⟩;intro q;rw [q,hoc] at e;have q':oc=p.2:=Oi e;exact d w' (by rw [<-q'];exact hocd)
theorem nA{M:Model}{A:VS}{E:Vw->Vz->Prop}{i:Nat}{x:Str}{v:V}{u:Vw}{Q:Unit->Vz->Prop}(I:af X Xw σ H s)(hN:X.N.Nodup)(hi:X.N[i]?=some x)(hx:gJ X.env.scope x)(r:aD v u)
 (h:∀s',af X Xw (σ.set i (some v)) H s'->Q () s')(hf:X.fn x=true\/X.env.scope.names.lookup x=some .local:=by first | exact .inl rfl | exact .inr rfl | assumption):VC M A (storeName X.env x u) Q E s:=
 xx I hN hi hx r (λs' I' _=>h s' I') hf
theorem af.call'{s':Vz}{ch:List Vy}(I:af X Xw σ H s)(ho:s'.os=s.os)(u:Un (fk X.stack) ch H H' s.heap s'.heap)(hok:bP X.prog X.w H' s'.heap)(hg:W9 s'.gens)
 (hch:∀b∈ch,(b∈X.ex\/X.s₀.heap.objs.size<=b)/\b≠X.env.locals/\(∀x c,X.env.cells.lookup x=some c->c≠b)/\∀p∈X.pn++Xw,p.1≠b):af X Xw σ H' s':=by
 obtain⟨h',g',d',t',o'⟩:=s';have e:o'=s.os:=ho;subst e;exact I.call (g':=g') (t':=t') (d':=d') u hok hg hch
end
abbrev XK:=Vw->Option Vy->Hp->Prop
abbrev St:=List (Option V)
abbrev VK:=V->Hp->Prop
abbrev TE:=St->Hp->VK->Prop
abbrev TT:=St->Hp->(Bool->Hp->Prop)->Prop
abbrev TA:=St->Hp->(List V->Hp->Prop)->Prop
structure hJ where
 nx:St->Hp->Prop
 rt:VK
 bk:St->Hp->Prop:=λ_ _=>False
 ct:St->Hp->Prop:=λ_ _=>False
abbrev TS:=hJ->St->Hp->Prop
inductive EP (X:Cx) (Xw:List (Vy×Obj)) (σ:St) (Q:VK) (u:Vw) (s':Vz):Prop
 | mk (v:V) (H':Hp):af X Xw σ H' s'->aD v u->Q v H'->EP X Xw σ Q u s'
inductive TP (X:Cx) (Xw:List (Vy×Obj)) (σ:St) (Q:Bool->Hp->Prop) (b:Bool) (s':Vz):Prop
 | mk (H':Hp):af X Xw σ H' s'->Q b H'->TP X Xw σ Q b s'
inductive AP (X:Cx) (Xw:List (Vy×Obj)) (σ:St) (Q:List V->Hp->Prop) (us:List Vw) (s':Vz):Prop
 | mk (vs:List V) (H':Hp):af X Xw σ H' s'->aC vs us->Q vs H'->AP X Xw σ Q us s'
def SP(X:Cx)(Xw:List (Vy×Obj))(D:hJ)(f:Flow)(s':Vz):Prop:=
 match f with
 | .next=>∃σ' H',af X Xw σ' H' s'/\D.nx σ' H'
 | .brk=>∃σ' H',af X Xw σ' H' s'/\D.bk σ' H'
 | .cont=>∃σ' H',af X Xw σ' H' s'/\D.ct σ' H'
 | .ret u=>∃v σ' H',af X Xw σ' H' s'/\aD v u/\D.rt v H'
def PE(X:Cx)(e:VE)(t:TE):Prop:=
 ∀(Xw:List (Vy×Obj))(s:Vz)(σ:St)(H:Hp)(Q:VK),af X Xw σ H s->t σ H Q->VC (VB X.prog X.w) X.A (eval e X.env) (EP X Xw σ Q) X.xe s
def PT(X:Cx)(e:VE)(t:TT):Prop:=
 ∀(Xw:List (Vy×Obj))(s:Vz)(σ:St)(H:Hp)(Q:Bool->Hp->Prop),af X Xw σ H s->t σ H Q->VC (VB X.prog X.w) X.A (isTrue e X.env (eval e X.env)) (TP X Xw σ Q) X.xe s
def PW(X:Cx)(e:VE)(t:TT):Prop:=
 ∀(whole:Sem Vw)(Xw:List (Vy×Obj))(s:Vz)(σ:St)(H:Hp)(Q:Bool->Hp->Prop),af X Xw σ H s->t σ H Q->VC (VB X.prog X.w) X.A (isTrue e X.env whole) (TP X Xw σ Q) X.xe s
theorem PW.pt{X:Cx}{e:VE}{t:TT}(h:PW X e t):PT X e t:=h _
def PA(X:Cx)(es:List VE)(t:TA):Prop:=
 ∀(pos:Pos)(Xw:List (Vy×Obj))(s:Vz)(σ:St)(H:Hp)(Q:List V->Hp->Prop),af X Xw σ H s->t σ H Q->VC (VB X.prog X.w) X.A (spliced (V1 pos (VH es X.env))) (AP X Xw σ Q) X.xe s
def PS(X:Cx)(st:VT)(t:TS):Prop:=
 ∀(Xw:List (Vy×Obj))(s:Vz)(σ:St)(H:Hp)(D:hJ),af X Xw σ H s->t D σ H->VC (VB X.prog X.w) X.A (exec st X.env) (SP X Xw D) X.xe s
def bK(X:Cx)(st:List VT)(t:TS):Prop:=
 ∀(Xw:List (Vy×Obj))(s:Vz)(σ:St)(H:Hp)(D:hJ),af X Xw σ H s->t D σ H->VC (VB X.prog X.w) X.A (execs st X.env) (SP X Xw D) X.xe s
theorem aA{α:Type}{t:Sem α}{Q Q':α->Vz->Prop}{M:Model}{A:VS}{E:Vw->Vz->Prop}{s:Vz}(h:VC M A t Q E s)(hQ:∀a s,Q a s->Q' a s):VC M A t Q' E s:=V3 h hQ λ_ _ x=>x
section
variable {X:Cx}
theorem Nb{a b:VE}{ta tb:TE}(ha:PE X a ta)(hb:PE X b tb){Xw:List (Vy×Obj)}{s:Vz}{σ:St}{H:Hp}{R:V->V->Hp->Prop}(I:af X Xw σ H s)(h:ta σ H λx H1=>tb σ H1 λy H2=>R x y H2)
 {α:Type}{Q:α->Vz->Prop}{f:Vw->Vw->Sem α}
 (hf:∀v u s2 x y H2,af X Xw σ H2 s2->aD x v->aD y u->R x y H2->VC (VB X.prog X.w) X.A (f v u) Q X.xe s2):
 VC (VB X.prog X.w) X.A (eval a X.env) (λv s₁=>VC (VB X.prog X.w) X.A (eval b X.env) (λu s₂=>VC (VB X.prog X.w) X.A (f v u) Q X.xe s₂) X.xe s₁) X.xe s:=by
 refine aA (ha Xw s σ H _ I h) λv s1 ⟨x,H1,I1,r1,q1⟩=>?_;refine aA (hb Xw s1 σ H1 _ I1 q1) λu s2 ⟨y,H2,I2,r2,q2⟩=>?_;exact hf v u s2 x y H2 I2 r1 r2 q2
def eL(i:Nat):TE:=λσ H Q=>∃v,σ[i]?=some (some v)/\Q v H
def tC(v:V):TE:=λ_ H Q=>Q v H
theorem sQ{i:Nat}{x:Str}{pos:Pos}(hN:X.N[i]?=some x)(hv:lC X.env.scope x)(hd:(x==("__debug__":Str))=false:=by decide)(hcd:(x==("__classdict__":Str))=false:=by decide):PE X (.Name x pos) (eL i):=by
 intro Xw s σ H Q I h;obtain⟨v,e,h⟩:=h;obtain⟨m,hn,hl⟩:=I.loc;obtain⟨u,r,l⟩:=hl i x v hN e hv;have fin:EP X Xw σ Q u s:=⟨v,H,I,r,h⟩;rcases l with⟨hk,hm⟩ | ⟨hk,c,hc,hcell⟩
 ·exact wpAny_Name (wpAny_loadName_local I.ok.kind hk hn hm fin) hd
 ·rcases hk with hk | hk
  ·exact wpAny_Name (wpAny_loadName_cell I.ok.kind hk hc hcell fin) hd
  ·exact wpAny_Name (wpAny_loadName_free I.ok.kind hk hc hcell fin hcd) hd
theorem aR{i j pos}:PE X (.Constant (.int i) j pos) (tC (.int i)):=λ_ _ _ H _ I h=>wpAny_Constant_int ⟨.int i,H,I.tok _,⟨_,rfl⟩,h⟩
theorem Fg{b j pos}:PE X (.Constant (.bool b) j pos) (tC (.bl b)):=λ_ _ _ H _ I h=>Constant_bool ⟨.bl b,H,I,rfl,h⟩
theorem Fh{j pos}:PE X (.Constant .none j pos) (tC .non):=λ_ _ _ H _ I h=>Constant_none ⟨.non,H,I,rfl,h⟩
theorem sR{x j pos}:PE X (.Constant (.str x) j pos) (tC (.str x)):=λ_ _ _ H _ I h=>Calls.Constant_str ⟨.str x,H,I.tok _,⟨_,rfl⟩,h⟩
def Gl(X:Cx)(x:Str):Prop:=X.env.kindOf x=some .globalImplicit
theorem nB{E:Vw->Vz->Prop}{Xw:List (Vy×Obj)}{s:Vz}{σ:St}{H:Hp}{x:Str}{u:Vw}{pos:Pos}{Q:Vw->Vz->Prop}(I:af X Xw σ H s)(hg:Gl X x)(hm:X.mg x=some u)(h:Q u s)
 (hd:(x==("__debug__":Str))=false:=by decide):VC (VB X.prog X.w) X.A (eval (.Name x pos) X.env) Q E s:=
 RM I.ok.kind hg (Calls.loadGlobal_global (by rw [I.ok.glob];exact I.mod.glob.keeps I.bk) hm h) hd
theorem jR{E:Vw->Vz->Prop}{Xw:List (Vy×Obj)}{s:Vz}{σ:St}{H:Hp}{x:Str}{u:Vw}{pos:Pos}{Q:Vw->Vz->Prop}(I:af X Xw σ H s)(hg:Gl X x)(hm:X.mg x=none)(hv:VW x=some u)(h:Q u s)
 (hn:x≠"__name__":=by decide)(hd:(x==("__debug__":Str))=false:=by decide):VC (VB X.prog X.w) X.A (eval (.Name x pos) X.env) Q E s:=by
 obtain⟨mb,h1,h2⟩:=I.mod.blt;exact RM I.ok.kind hg (Calls.loadGlobal_builtin (by rw [I.ok.glob];exact I.mod.glob.keeps I.bk) hm (by rw [I.ok.blt];exact h1.keeps I.bk) ((h2 x hn).trans hv) h) hd
theorem jS{x:Str}{v:V}{u:Vw}{pos:Pos}(hg:Gl X x)(hm:X.mg x=some u)(r:aD v u)(hd:(x==("__debug__":Str))=false:=by decide):PE X (.Name x pos) (tC v):=
 λ_ _ _ H _ I h=>nB I hg hm ⟨v,H,I,r,h⟩ hd
theorem iL{x:Str}{v:V}{u:Vw}{pos:Pos}(hg:Gl X x)(hm:X.mg x=none)(hv:VW x=some u)(r:aD v u)(hn:x≠"__name__":=by decide)(hd:(x==("__debug__":Str))=false:=by decide):PE X (.Name x pos) (tC v):=
 λ_ _ _ H _ I h=>jR I hg hm hv ⟨v,H,I,r,h⟩ hn hd
variable {a b:VE} {ta tb:TE} {pos:Pos}
def PC(X:Cx)(op:CmpOp)(a b:VE)(t:TE):Prop:=
 ∀(Xw:List (Vy×Obj))(s:Vz)(σ:St)(H:Hp)(Q:VK),af X Xw σ H s->t σ H Q->
  VC (VB X.prog X.w) X.A (eval a X.env) (λv s₁=>VC (VB X.prog X.w) X.A (eval b X.env) (λu s₂=>VC (VB X.prog X.w) X.A (VZ op v u) (EP X Xw σ Q) X.xe s₂) X.xe s₁) X.xe s
theorem Fi(b:VE){op:CmpOp}(h:op≠ .In)(h2:op≠ .NotIn):Wa op b=false:=by
 have e1:(op==CmpOp.In)=false:=by cases op <;> first | rfl | exact absurd rfl h
 have e2:(op==Vd)=false:=by cases op <;> first | rfl | exact absurd rfl h2
 cases b <;> simp [Wa,e1,e2]
def tB(t:TE):TT:=λσ H Q=>t σ H λx H1=>∃c,x= .bl c/\Q c H1
theorem sS{op:CmpOp}{t:TE}(h:PC X op a b t)(h1:Wa op b=false:=by first | exact Fi _ Vp Vp | rfl):PT X (.Compare a [op] [b] pos) (tB t):=by
 intro Xw s σ H Q I hw;refine wpAny_isTrue_Compare1 (aA (h Xw s σ H _ I hw) λv s1 h1=>aA h1 λu s2 h2=>aA h2 λc s3 ⟨x,H1,I1,r1,q1⟩=>?_) h1;obtain⟨d,rfl,q⟩:=q1;cases r1;exact V8 ⟨H1,I1,q⟩
theorem xy{e:VE}{t:TE}(h:PE X e t)(he:∀whole,isTrue e X.env whole=(do let v<-whole;standAt e.pos;WW [v] (truthy v)):=by intro _;rfl):PT X e (tB t):=by
 intro Xw s σ H Q I hw;refine isTrue_plain (aA (h Xw s σ H _ I hw) λv s1 ⟨x,H1,I1,r1,q1⟩=>?_) (he _);obtain⟨d,rfl,q⟩:=q1;cases r1;exact V8 ⟨H1,I1,q⟩
variable {tA tB':TT} {rest:List VE}
def xA(t u:TT):TT:=λσ H Q=>t σ H λc H1=>if c=true then u σ H1 Q else Q false H1
def xB(t u:TT):TT:=λσ H Q=>t σ H λc H1=>if c=true then Q true H1 else u σ H1 Q
def xC(t:TT):TT:=λσ H Q=>t σ H λc H1=>Q (!c) H1
theorem xD(ha:PT X a tA):PW X (.BoolOp .And [a] pos) tA:=by
 intro wh Xw s σ H Q I h;refine isTrue_and (aA (ha Xw s σ H Q I h) λc s1 e=>?_);cases c with
 | true=>exact isTrue_and_nil e
 | false=>exact e
theorem xE(ha:PT X a tA):PW X (.BoolOp .Or [a] pos) tA:=by
 intro wh Xw s σ H Q I h;refine isTrue_or (aA (ha Xw s σ H Q I h) λc s1 e=>?_);cases c with
 | false=>exact isTrue_or_nil e
 | true=>exact e
theorem xF(ha:PT X a tA)(hb:PW X (.BoolOp .And (b::rest) pos) tB'):PW X (.BoolOp .And (a::b::rest) pos) (xA tA tB'):=by
 intro wh Xw s σ H Q I h;refine isTrue_and (aA (ha Xw s σ H _ I h) λc s1 ⟨H1,I1,q1⟩=>?_);cases c with
 | true=>exact hb wh Xw s1 σ H1 Q I1 q1
 | false=>exact⟨H1,I1,q1⟩
theorem xG(ha:PT X a tA)(hb:PW X (.BoolOp .Or (b::rest) pos) tB'):PW X (.BoolOp .Or (a::b::rest) pos) (xB tA tB'):=by
 intro wh Xw s σ H Q I h;refine isTrue_or (aA (ha Xw s σ H _ I h) λc s1 ⟨H1,I1,q1⟩=>?_);cases c with
 | true=>exact⟨H1,I1,q1⟩
 | false=>exact hb wh Xw s1 σ H1 Q I1 q1
theorem Fj(ha:PT X a tA):PT X (.UnaryOp .Not a pos) (xC tA):=by
 intro Xw s σ H Q I h;exact isTrue_not (aA (ha Xw s σ H (λc H1=>Q (!c) H1) I h) λc s1 uu8=>by obtain⟨H1,I1,q⟩:=uu8;exact⟨H1,I1,q⟩)
def xH(ta tb:TE):TE:=λσ H Q=>ta σ H λx H1=>∃c,x= .bl c/\if c=true then tb σ H1 Q else Q (.bl false) H1
def xI(ta tb:TE):TE:=λσ H Q=>ta σ H λx H1=>∃c,x= .bl c/\if c=true then Q (.bl true) H1 else tb σ H1 Q
def xJ(ta:TE):TE:=λσ H Q=>ta σ H λx H1=>∃c,x= .bl c/\Q (.bl (!c)) H1
theorem sT{op}{t:TE}(h:PE X a t):PE X (.BoolOp op [a] pos) t:=λXw s σ H Q I hw=>BoolOp_one (h Xw s σ H Q I hw)
theorem xK(ha:PE X a ta)(hb:PE X (.BoolOp .And (b::rest) pos) tb):PE X (.BoolOp .And (a::b::rest) pos) (xH ta tb):=by
 intro Xw s σ H Q I h;refine BoolOp_and (aA (ha Xw s σ H _ I h) λv s1 ⟨x,H1,I1,r1,q1⟩=>?_);obtain⟨c,rfl,q1⟩:=q1;cases r1;refine V8 ?_;cases c with
 | true=>exact hb Xw s1 σ H1 Q I1 q1
 | false=>exact⟨.bl false,H1,I1,rfl,q1⟩
theorem xM(ha:PE X a ta)(hb:PE X (.BoolOp .Or (b::rest) pos) tb):PE X (.BoolOp .Or (a::b::rest) pos) (xI ta tb):=by
 intro Xw s σ H Q I h;refine BoolOp_or (aA (ha Xw s σ H _ I h) λv s1 ⟨x,H1,I1,r1,q1⟩=>?_);obtain⟨c,rfl,q1⟩:=q1;cases r1;refine V8 ?_;cases c with
 | false=>exact hb Xw s1 σ H1 Q I1 q1
 | true=>exact⟨.bl true,H1,I1,rfl,q1⟩
theorem Fl(ha:PE X a ta):PE X (.UnaryOp .Not a pos) (xJ ta):=by
 intro Xw s σ H Q I h;refine UnaryOp_ (aA (ha Xw s σ H _ I h) λv s1 ⟨x,H1,I1,r1,q1⟩=>?_);obtain⟨c,rfl,q1⟩:=q1;cases r1;exact not_of (V8 ⟨.bl (!c),H1,I1,rfl,q1⟩)
def xN(t:TT)(ta tb:TE):TE:=λσ H Q=>t σ H λc H1=>if c=true then ta σ H1 Q else tb σ H1 Q
theorem xO{c:VE}(hc:PT X c tA)(ha:PE X a ta)(hb:PE X b tb):PE X (.IfExp c a b pos) (xN tA ta tb):=by
 intro Xw s σ H Q I h;refine wpAny_IfExp (aA (hc Xw s σ H _ I h) λd s1 ⟨H1,I1,q1⟩=>?_);cases d with
 | true=>exact ha Xw s1 σ H1 Q I1 q1
 | false=>exact hb Xw s1 σ H1 Q I1 q1
end
def aL(K:Nh)(H:Hp)(a:Vy)(xs:List V):Prop:=
 Rd H a (.lst xs)\/
  ∃(o:Obj)(its:Array Vw)(n:Nat),K.lookup a=some o/\o.cls= .type "list"/\o.dict=none/\o.data= .seq its n/\its.size<=VG/\aC xs its.toList
def br(K:Nh)(H:Hp)(a:Vy)(xs:List V):Prop:=
 Rd H a (.tup xs)\/
  ∃(o:Obj)(its:Array Vw)(n:Nat),K.lookup a=some o/\o.cls= .type "tuple"/\o.data= .seq its n/\its.size<=VG/\aC xs its.toList
def Fm:Vw->Option V
 | .none=>some .non
 | .bool b=>some (.bl b)
 | .int i _=>some (.int i)
 | .str x _=>some (.str x)
 | .bytes b _=>some (.byt b)
 | .float b _=>some (.flt b)
 | .ref a=>some (.ref a)
 | .type n=>some (.ty n)
 | _=>none
theorem aD.abs{x:V}{u:Vw}(r:aD x u):Fm u=some x:=by
 cases x with
 | non=>cases r;rfl
 | bl _=>cases r;rfl
 | int _=>obtain⟨t,rfl⟩:=r;rfl
 | str _=>obtain⟨t,rfl⟩:=r;rfl
 | byt _=>obtain⟨t,rfl⟩:=r;rfl
 | flt _=>obtain⟨t,rfl⟩:=r;rfl
 | ref _=>cases r;rfl
 | ty _=>cases r;rfl
theorem aD.inj{x y:V}{u:Vw}(r:aD x u)(q:aD y u):x=y:=Oi (r.abs.symm.trans q.abs)
theorem aC.inj:∀{xs ys:List V}{us:List Vw},aC xs us->aC ys us->xs=ys
 | _,_,_,.nil,.nil=>rfl
 | _,_,_,.cons r t,.cons r' t'=>by rw [r.inj r',aC.inj t t']
section
variable {X:Cx} {Xw:List (Vy×Obj)} {σ:St} {H:Hp} {s:Vz} {a:Vy} {xs ys:List V}
theorem aL.of{K:Nh}(h:H a=some (.lst xs)):aL K H a xs:= .inl (.inl h)
theorem br.of{K:Nh}(h:H a=some (.tup xs)):br K H a xs:= .inl (.inl h)
theorem af.list(I:af X Xw σ H s)(h:aL X.K H a xs):∃its:List Vw,aC xs its/\PlainL s.heap a its.toArray/\xs.length<=VG:=by
 rcases h with h | ⟨o,its,n,hk,hc,hd,hs,hz,r⟩
 ·obtain⟨z,its,n,r,e⟩:=h.ok I.hok;exact⟨its,r,⟨_,n,e,rfl,rfl,rfl⟩,z⟩
 ·refine⟨its.toList,r,⟨o,n,I.kIn a o hk,hc,hd,by simpa using hs⟩,?_⟩;have e:=r.length;simp only [Nu] at e;omega
theorem af.tuple(I:af X Xw σ H s)(h:br X.K H a xs):∃its:List Vw,aC xs its/\IsTup s.heap a its.toArray/\xs.length<=VG:=by
 rcases h with h | ⟨o,its,n,hk,hc,hs,hz,r⟩
 ·obtain⟨z,its,r,p⟩:=h.ok I.hok;exact⟨its,r,p,z⟩
 ·refine⟨its.toList,r,⟨o,I.kIn a o hk,hc,n,by simpa using hs⟩,?_⟩;have e:=r.length;simp only [Nu] at e;omega
theorem af.list_inj(I:af X Xw σ H s)(h:aL X.K H a xs)(h':aL X.K H a ys):xs=ys:=by
 obtain⟨its,r,⟨o,n,e,_,_,d⟩,_⟩:=I.list h;obtain⟨its',r',⟨o',n',e',_,_,d'⟩,_⟩:=I.list h';rw [e] at e';cases e';rw [d] at d';injection d' with d1 _
 have:its=its':=by simpa using congrArg U6 d1
 subst this;exact r.inj r'
theorem af.tuple_inj(I:af X Xw σ H s)(h:br X.K H a xs)(h':br X.K H a ys):xs=ys:=by
 obtain⟨its,r,⟨o,e,_,n,d⟩,_⟩:=I.tuple h;obtain⟨its',r',⟨o',e',_,n',d'⟩,_⟩:=I.tuple h';rw [e] at e';cases e';rw [d] at d';injection d' with d1 _
 have:its=its':=by simpa using congrArg U6 d1
 subst this;exact r.inj r'
end
abbrev Cx.wish(X:Cx)(E:Vw->Vz->Prop):Cx:={X with xe:=E}
abbrev Cx.nox(X:Cx):Cx:=X.wish λ_ _=>False
theorem Cx.Ok.wish{X:Cx}(ok:X.Ok)(E:Vw->Vz->Prop):(X.wish E).Ok:=
 ⟨ok.mod,ok.kind,ok.glob,ok.blt,ok.above,ok.inj,ok.has,ok.cab,ok.hd,ok.frames,ok.stk,ok.exf,ok.bs,ok.bsz,ok.noex,ok.exfs,ok.funs,ok.frf⟩
theorem Cx.Ok.unwish{X:Cx}{E:Vw->Vz->Prop}(ok:(X.wish E).Ok):X.Ok:=
 ⟨ok.mod,ok.kind,ok.glob,ok.blt,ok.above,ok.inj,ok.has,ok.cab,ok.hd,ok.frames,ok.stk,ok.exf,ok.bs,ok.bsz,ok.noex,ok.exfs,ok.funs,ok.frf⟩
section
variable {X:Cx} {Xw:List (Vy×Obj)} {σ:St} {H:Hp} {s:Vz} {E:Vw->Vz->Prop}
theorem af.wish(I:af X Xw σ H s)(E:Vw->Vz->Prop):af (X.wish E) Xw σ H s:=⟨I.ok.wish E,I.os,I.bare,I.base,I.loc,I.cell,I.free,I.freeC,I.pin,I.hok,I.len⟩
theorem af.unwish(I:af (X.wish E) Xw σ H s):af X Xw σ H s:=⟨I.ok.unwish,I.os,I.bare,I.base,I.loc,I.cell,I.free,I.freeC,I.pin,I.hok,I.len⟩
theorem SP.unwish{D:hJ}{f:Flow}{s':Vz}(h:SP (X.wish E) Xw D f s'):SP X Xw D f s':=by
 cases f with
 | next=>obtain⟨σ',H',I,q⟩:=h;exact⟨σ',H',I.unwish,q⟩
 | brk=>obtain⟨σ',H',I,q⟩:=h;exact⟨σ',H',I.unwish,q⟩
 | cont=>obtain⟨σ',H',I,q⟩:=h;exact⟨σ',H',I.unwish,q⟩
 | ret u=>obtain⟨v,σ',H',I,r,q⟩:=h;exact⟨v,σ',H',I.unwish,r,q⟩
theorem bK.nox{st:List VT}{t:TS}(h:bK X.nox st t):bK X st t:=λXw s σ H D I hw=>
 V3 (h Xw s σ H D (I.wish _) hw) (λ_ _ q=>q.unwish) λ_ _ z=>O3 z
end
section
variable {X:Cx} {st:VT} {rest:List VT} {t u:TS} {e:VE} {te:TE} {pos:Pos}
def xP:TS:=λD σ H=>D.nx σ H
def xQ(t u:TS):TS:=λD σ H=>t {D with nx:=u D} σ H
theorem jh:bK X [] xP:=λ_ _ σ H _ I h=>Xd ⟨σ,H,I,h⟩
theorem cx(h1:PS X st t)(h2:bK X rest u):bK X (st::rest) (xQ t u):=by
 intro Xw s σ H D I h;refine wpAny_execs_cons (aA (h1 Xw s σ H {D with nx:=u D} I h) λf s1 q=>?_);cases f with
 | next=>
  obtain⟨σ',H',I',q⟩:=q;exact h2 Xw s1 σ' H' D I' q
 | ret v=>exact q
 | brk=>exact q
 | cont=>exact q
theorem dF(h1:PS X st t):bK X [st] t:=by
 intro Xw s σ H D I h;refine wpAny_execs_cons (aA (h1 Xw s σ H D I h) λf s1 q=>?_);cases f with
 | next=>exact Xd q
 | ret v=>exact q
 | brk=>exact q
 | cont=>exact q
theorem af.quiet{Xw:List (Vy×Obj)}{σ:St}{H:Hp}{s:Vz}(I:af X Xw σ H s):interactive X.env=false:=by simp [interactive,I.ok.kind]
def xR(te:TE):TS:=λD σ H=>te σ H λ_ H1=>D.nx σ H1
theorem sU(he:PE X e te)(hs:V5 e none pos.line X.env=pure false:=by rfl):PS X (.Expr e pos) (xR te):=by
 intro Xw s σ H D I h;exact wpAny_Expr_any (aA (he Xw s σ H _ I h) λv s1 uu13=>by obtain⟨x,H1,I1,r1,q1⟩:=uu13;exact⟨σ,H1,I1,q1⟩) I.quiet hs
def xS(te:TE):TS:=λD σ H=>te σ H D.rt
theorem d3(he:PE X e te):PS X (.Return (some e) pos) (xS te):=by
 intro Xw s σ H D I h;exact wpAny_Return_some (aA (he Xw s σ H _ I h) λv s1 uu14=>by obtain⟨x,H1,I1,r1,q1⟩:=uu14;exact⟨x,σ,H1,I1,r1,q1⟩)
def xT(c:TT)(t u:TS):TS:=λD σ H=>c σ H λb H1=>if b=true then t D σ H1 else u D σ H1
theorem ji{c:VE}{a b:List VT}{tc:TT}(hc:PT X c tc)(ha:bK X a t)(hb:bK X b u):PS X (.If c a b pos) (xT tc t u):=by
 intro Xw s σ H D I h;refine wpAny_If (aA (hc Xw s σ H _ I h) λd s1 ⟨H1,I1,q1⟩=>?_);cases d with
 | true=>exact ha Xw s1 σ H1 D I1 q1
 | false=>exact hb Xw s1 σ H1 D I1 q1
def Fo:TS:=λ_ _ _=>False
theorem Fp:PS X st Fo:=λ_ _ _ _ _ _ h=>h.elim
end
abbrev TG:=V->St->Hp->(St->Hp->Prop)->Prop
abbrev gK:=List V->St->Hp->(St->Hp->Prop)->Prop
def PG(X:Cx)(target:VE)(t:TG):Prop:=
 ∀(Xw:List (Vy×Obj))(s:Vz)(σ:St)(H:Hp)(v:V)(u:Vw)(Q:St->Hp->Prop),af X Xw σ H s->aD v u->t v σ H Q->
  VC (VB X.prog X.w) X.A (assign target X.env u) (λ_ s'=>∃σ' H',af X Xw σ' H' s'/\Q σ' H') X.xe s
def nE(X:Cx)(ts:List VE)(t:gK):Prop:=
 ∀(Xw:List (Vy×Obj))(s:Vz)(σ:St)(H:Hp)(vs:List V)(us:List Vw)(Q:St->Hp->Prop),af X Xw σ H s->aC vs us->t vs σ H Q->
  VC (VB X.prog X.w) X.A (assignInOrder ((WX ts X.env).map (·.2)) us) (λ_ s'=>∃σ' H',af X Xw σ' H' s'/\Q σ' H') X.xe s
abbrev sV:=V->V->V->Hp->(Hp->Prop)->Prop
def xU(X:Cx)(t:sV):Prop:=
 ∀(Xw:List (Vy×Obj))(s:Vz)(σ:St)(H:Hp)(o i v:V)(ov iv u:Vw)(Q:Hp->Prop),af X Xw σ H s->aD o ov->aD i iv->aD v u->t o i v H Q->
  VC (VB X.prog X.w) X.A (setItem ov iv u) (λ_ s'=>∃H',af X Xw σ H' s'/\Q H') X.xe s
section
variable {X:Cx} {pos:Pos}
def gL(i:Nat):TG:=λv σ H Q=>Q (σ.set i (some v)) H
theorem aN{i:Nat}{x:Str}(hN:X.N.Nodup)(hi:X.N[i]?=some x)(hx:gJ X.env.scope x)(hf:X.fn x=true\/X.env.scope.names.lookup x=some .local:=by first | exact .inl rfl | exact .inr rfl | assumption):PG X (.Name x pos) (gL i):=by
 intro Xw s σ H v u Q I r h;exact wpAny_assign_Name (nA I hN hi hx r (λs' I'=>⟨_,H,I',h⟩) hf)
def nF:gK:=λvs σ H Q=>vs=[]/\Q σ H
def lE(t:TG)(u:gK):gK:=λvs σ H Q=>∃v r,vs=v::r/\t v σ H λσ' H'=>u r σ' H' Q
theorem iM:nE X [] nF:=by
 intro Xw s σ H vs us Q I r h;obtain⟨e,h⟩:=h;subst e;cases r;exact assignInOrder_nil ⟨σ,H,I,h⟩
theorem dG{e:VE}{es:List VE}{t:TG}{u:gK}(h1:PG X e t)(h2:nE X es u)
 (hs:(WX (e::es) X.env).map (·.2)=assign e X.env::(WX es X.env).map (·.2):=by rfl):nE X (e::es) (lE t u):=by
 intro Xw s σ H vs us Q I r h;obtain⟨v,vr,e1,h⟩:=h;subst e1;cases r with
 | cons r rr=>
  rw [hs];refine Xp (aA (h1 Xw s σ H _ _ _ I r h) λ_ s1 ⟨σ1,H1,I1,q1⟩=>?_);exact h2 Xw s1 σ1 H1 _ _ Q I1 rr q1
def nG(K:Nh)(n:Nat)(t:gK):TG:=λv σ H Q=>∃a xs,v= .ref a/\br K H a xs/\xs.length=n/\t xs σ H Q
theorem iN{es:List VE}{k:Nat}{t:gK}{n:Nat}(hc:X.calm=true)(h:nE X es t)
 (hn:(WX es X.env).length=n:=by rfl)(hst:(WX es X.env).findIdx? (·.1)=none:=by rfl):PG X (.Tuple es k pos) (nG X.K n t):=by
 intro Xw s σ H v u Q I r hw;obtain⟨a,xs,e1,hq,hl,hw⟩:=hw;subst e1;cases r;obtain⟨its,rv,ht,hz⟩:=I.tuple hq;refine assign_Tuple_tuple (I.ok.hd hc) ht (by simp [hn,<-hl,rv.length]) hst λh' hx=>?_;have I1:af X Xw σ H {s with heap:=h'}:=I.kept (t':=s.toks) λb o e=>hx b o (NL (NB e)) e;exact h Xw _ σ H xs _ Q I1 (by simpa using rv) hw
def xV(to ti:TE)(t:sV):TG:=λv σ H Q=>to σ H λo H1=>ti σ H1 λi H2=>t o i v H2 λH3=>Q σ H3
theorem sW{o i:VE}{to ti:TE}{t:sV}(ho:PE X o to)(hi:PE X i ti)(hs:xU X t)
 (ha:∀v,assign (.Subscript o i pos) X.env v=(do
   let ov<-WW [v] (eval o X.env)
   let iv<-WW [v,ov] (eval i X.env)
   standAt pos
   WW [v,ov,iv] (setItem ov iv v)
   release [v,ov,iv] []):=by intro _;rfl):PG X (.Subscript o i pos) (xV to ti t):=by
 intro Xw s σ H v u Q I r h;rw [ha];refine Vx (VY (aA (ho Xw s σ H _ I h) λov s1 ⟨x,H1,I1,r1,q1⟩=>?_));refine Vx (VY (aA (hi Xw s1 σ H1 _ I1 q1) λiv s2 ⟨y,H2,I2,r2,q2⟩=>?_));refine Vx (Xr (Vx (VY (aA (hs Xw s2 σ H2 x y v ov iv u _ I2 r1 r2 r q2) λ_ s3 ⟨H3,I3,q3⟩=>?_))));exact wpAny_release ⟨σ,H3,I3,q3⟩
def lF(te:TE)(g:TG):TS:=λD σ H=>te σ H λx H1=>g x σ H1 D.nx
theorem nH{tg e:VE}{te:TE}{g:TG}(he:PE X e te)(hg:PG X tg g)(hs:W6 [tg] e pos.line X.env=pure false:=by rfl)(hw:W7 [tg] e X.env=pure none:=by rfl)
 (h1:(WX [tg] X.env).map (·.2)=[assign tg X.env]:=by rfl):PS X (.Assign [tg] e pos) (lF te g):=by
 intro Xw s σ H D I h;refine wpAny_Assign_stores (aA (he Xw s σ H _ I h) λv s1 ⟨x,H1,I1,r1,q1⟩=>?_) hs hw;rw [h1];exact aA (hg Xw s1 σ H1 x v _ I1 r1 q1) λ_ s2 q=>q
theorem cY{i:Nat}{x:Str}{e:VE}{te:TE}{pos':Pos}(hN:X.N.Nodup)(hi:X.N[i]?=some x)(hx:gJ X.env.scope x)(he:PE X e te)(hs:V5 e (some (.Name x pos')) pos.line X.env=pure false:=by rfl)(hf:X.fn x=true\/X.env.scope.names.lookup x=some .local:=by first | exact .inl rfl | exact .inr rfl | assumption):
 PS X (.Assign [.Name x pos'] e pos) (lF te (gL i)):=by
 intro Xw s σ H D I h;refine wpAny_Assign_Name (aA (he Xw s σ H _ I h) λv s1 ⟨y,H1,I1,r1,q1⟩=>?_) hs;exact nA I1 hN hi hx r1 (λs2 I2=>⟨_,H1,I2,q1⟩) hf
def xW(i j:Nat)(ta:TA):TS:=λD σ H=>ta σ H λvs H1=>∃v w,vs=[v,w]/\D.nx ((σ.set i (some v)).set j (some w)) H1
theorem xX{i j:Nat}{x y:Str}{a b:VE}{ta:TA}{px py pt:Pos}{kt k2 pt2}(hc:X.calm=true)(hN:X.N.Nodup)(hi:X.N[i]?=some x)(hj:X.N[j]?=some y)(hij:i≠j)
 (hx:X.env.scope.names.lookup x=some .local)(hy:X.env.scope.names.lookup y=some .local)(ha:PA X [a,b] ta)
 (hw:W7 [.Tuple [.Name x px,.Name y py] kt pt] (.Tuple [a,b] k2 pt2) X.env=pure (some [x,y]))
 (hs:W6 [.Tuple [.Name x px,.Name y py] kt pt] (.Tuple [a,b] k2 pt2) pos.line X.env=pure false:=by rfl):
 PS X (.Assign [.Tuple [.Name x px,.Name y py] kt pt] (.Tuple [a,b] k2 pt2) pos) (xW i j ta):=by
 intro Xw s σ H D I h;rw [exec_Assign_arm];refine Vx (Xr ?_);rw [hs];refine Vx (VA ?_);rw [Vr Vp];refine Vx (Tuple_ (aA (ha _ Xw s σ H _ I h) λus s1 ⟨vs,H1,I1,r1,q1⟩=>?_));obtain⟨v,w,e1,q1⟩:=q1;subst e1;obtain⟨u1,u2,rfl,rv,rw'⟩:∃u1 u2,us=[u1,u2]/\aD v u1/\aD w u2:=by
  cases r1 with
  | cons p q=>
   cases q with
   | cons p' q'=>
    cases q';exact⟨_,_,rfl,p,p'⟩
 refine V0 ?_ (by show 2<=VG;decide);have I2:af X Xw σ H1 {s1 with heap:=s1.heap.push {cls:= .type "tuple",data:= .seq [u1,u2].toArray}}:=I1.kept (t':=s1.toks) λb o e=>Nm _ e;rw [hw];refine Vx (VA ?_);show VC (VB X.prog X.w) X.A (do rule "assign.swapped-stores";let items<-unpackItems (.ref s1.heap.objs.size) 2 none;assignInOrder [λv=>bindName X.env y v,λv=>bindName X.env x v] items.reverse;pure Vm) _ _ _;refine Vx (Wi (Vx (unpackItems_tuple (items:=#[u1,u2]) (I.ok.hd hc) (UP s1.heap _) λh' hx'=>?_)));have I3:=I2.kept (h':=h') (t':=s1.toks) λb o e=>hx' b o (NL (NB e)) e;show VC _ _ (assignInOrder [λv=>bindName X.env y v,λv=>bindName X.env x v] [u2,u1] >>=λ_=>pure Vm) _ _ _;refine Vx (Xp (wpAny_bindName (nA I3 hN hj (.inl hy) rw' (λs2 I4=>?_) (.inr hy))));refine Xp (wpAny_bindName (nA I4 hN hi (.inl hx) rv (λs3 I5=>assignInOrder_nil (VA ?_)) (.inr hx)));rw [List.set_comm _ _ (Ne.symm hij)] at I5;exact⟨_,H1,I5,q1⟩
def Fq(c:TT)(tb:TS):TS:=λD σ H=>∃W:Nat->St->Hp->Prop,(∃m,W m σ H)/\∀m σ H,W m σ H->
 c σ H λb H1=>if b=true then ∃N:St->Hp->Prop,(∀σ' H',N σ' H'->∃m',m' < m/\W m' σ' H')/\tb {D with nx:=N,ct:=N,bk:=D.nx} σ H1 else D.nx σ H1
theorem xY{c:VE}{body:List VT}{tc:TT}{tb:TS}(hp:Xa (VB X.prog X.w) X.A X.env X.xe)(hc:PT X c tc)(hb:bK X body tb):PS X (.While c body [] pos) (Fq tc tb):=by
 intro Xw s σ H D I h;obtain⟨W,⟨m0,w0⟩,turn⟩:=h;refine wpAny_While (codeAny_whileLoop (λn s'=>∃σ' H',af X Xw σ' H' s'/\W n σ' H') ?_ m0 ⟨σ,H,I,w0⟩);rintro n s1 ⟨σ1,H1,I1,w1⟩;refine Wr hp (aA (hc Xw s1 σ1 H1 _ I1 (turn n σ1 H1 w1)) λb s2 ⟨H2,I2,q2⟩=>?_);cases b with
 | true=>
  obtain⟨N,hN,q2⟩:=q2;rw [Vs rfl];refine Wr hp (aA (hb Xw s2 σ1 H2 _ I2 q2) λf s3 q3=>?_);cases f with
  | next=>
   obtain⟨σ3,H3,I3,n3⟩:=q3;obtain⟨m',hm,w3⟩:=hN σ3 H3 n3;exact⟨m',hm,σ3,H3,I3,w3⟩
  | cont=>
   obtain⟨σ3,H3,I3,n3⟩:=q3;obtain⟨m',hm,w3⟩:=hN σ3 H3 n3;exact⟨m',hm,σ3,H3,I3,w3⟩
  | brk=>exact q3
  | ret v=>exact q3
 | false=>
  rw [Vr Nt];exact Xd ⟨σ1,H2,I2,q2⟩
end
structure It where
 go:Nat->Hp->Prop
 yld:Nat->Hp->V->Hp->Prop
 stop:Nat->Hp->Prop
def fU(X:Cx)(Xw:List (Vy×Obj))(H:Hp)(b:Vy):Prop:=
 H b=none/\b≠X.env.locals/\b ∉ X.fs/\(b∈X.ex\/X.s₀.heap.objs.size<=b)/\(∀x c,X.env.cells.lookup x=some c->c≠b)/\∀p∈X.pn++Xw,p.1≠b
theorem af.fpOk{X:Cx}{Xw:List (Vy×Obj)}{σ:St}{H H':Hp}{s:Vz}{b:Vy}(I:af X Xw σ H s)(hb:s.heap.objs.size<=b)(hn:H' b=none):fU X Xw H' b:=by
 refine⟨hn,QZ (Of I.lt hb),I.nofs hb,.inr (NP I.sz hb),λx c e z=>?_,λp hp z=>?_⟩
 ·obtain⟨v,q⟩:=I.cell x c e;exact absurd (Of q.lt (by rw [z];exact hb)) (P7 _)
 ·exact absurd (Of (NB (I.pin p hp).1) (by rw [z];exact hb)) (P7 _)
structure lG (P:VL) (w:VP) (K:Nh) (tg:VE) (J:It) (fp:List Vy) (it:Vy) (tn:Nat->VQ->Prop):Prop where
 mem:it∈fp
 obj:∀i h,tn i h->∀b∈fp,∃o,h.get? b=some o/\∀v,o.data≠ .cell v
 keep:∀i h h',tn i h->(∀b∈fp,∀o,h.get? b=some o->h'.get? b=some o)->tn i h'
 item:∀(X:Cx),X.prog=P->X.w=w->X.K=K->X.calm=true->∀(i:Nat)(Xw:List (Vy×Obj))(s:Vz)(σ:St)(H:Hp)(E:Vw->Vz->Prop),af X Xw σ H s->(∀b∈fp,fU X Xw H b)->tn i s.heap->J.go i H->
  VC (VB P w) X.A (WC (.ref it)) (λr s1=>∃u,r=some u/\
   VC (VB P w) X.A (Xe tg (.ref it) u) (λ_ s2=>∃x H',af X Xw σ H' s2/\aD x u/\J.yld i H x H'/\tn (i+1) s2.heap/\∀b∈fp,H' b=none) E s1) E s
 done:∀(X:Cx),X.prog=P->X.w=w->X.K=K->X.calm=true->∀(i:Nat)(Xw:List (Vy×Obj))(s:Vz)(σ:St)(H:Hp)(E:Vw->Vz->Prop),af X Xw σ H s->(∀b∈fp,fU X Xw H b)->tn i s.heap->J.stop i H->
  VC (VB P w) X.A (WC (.ref it)) (λr s1=>r=none/\af X Xw σ H s1) E s
 self:∀(A:VS)(i:Nat)(s:Vz)(Q:Vw->Vz->Prop)(E:Vw->Vz->Prop),tn i s.heap->Q (.ref it) s->VC (VB P w) A (pyIter (.ref it)) Q E s
abbrev TI:=St->Hp->(It->Hp->Prop)->Prop
def xZ(X:Cx)(Xw:List (Vy×Obj))(σ:St)(tg:VE)(R:It->Hp->Prop)(itv:Vw)(s2:Vz):Prop:=
 ∃(it:Vy)(fp:List Vy)(tn:Nat->VQ->Prop)(J:It)(H':Hp),itv= .ref it/\af X Xw σ H' s2/\lG X.prog X.w X.K tg J fp it tn/\tn 0 s2.heap/\(∀b∈fp,fU X Xw H' b)/\R J H'
def PI(X:Cx)(tg iter:VE)(wi:TI):Prop:=
 ∀(Xw:List (Vy×Obj))(s:Vz)(σ:St)(H:Hp)(R:It->Hp->Prop),af X Xw σ H s->wi σ H R->
  VC (VB X.prog X.w) X.A (eval iter X.env) (λv s1=>VC (VB X.prog X.w) X.A (pyIter v) (xZ X Xw σ tg R) X.xe s1) X.xe s
theorem nI{M:Model}{A:VS}{E:Vw->Vz->Prop}{s:Vz}{tg:VE}{it:Vy}{u:Vw}{o:Obj}{n:String}{vs:Array Vw}{Q:Unit->Vz->Prop}(ho:s.heap.get? it=some o)(hc:o.cls= .type n)(hd:o.data= .fields vs)
 (hn:["enumerate","zip","dict_itemiterator","dict_reverseitemiterator","odict_iterator","itertools.zip_longest","itertools.pairwise"].contains n=false)(hQ:Q () s):VC M A (Xe tg (.ref it) u) Q E s:=by
 unfold Xe;cases tg <;> first
  | exact VA hQ
  | (cases u <;> first
      | exact VA hQ
      | (refine Vx (wpAny_load ho ?_)
         rw [hc,hd];show VC M A (if (["enumerate","zip","dict_itemiterator","dict_reverseitemiterator","odict_iterator","itertools.zip_longest","itertools.pairwise"].contains n && vs[0]?==some (WK _))=true then _ else _) Q E s;rw [Vr (by intro h;rw [hn,RE] at h;cases h)];exact VA hQ))
def lH(K:Nh)(a:Vy):It:=
 ⟨λi H=>∃xs x,aL K H a xs/\xs[i]?=some x,λi H x H'=>H'=H/\∀xs,aL K H a xs->xs[i]?=some x,λi H=>∃xs,aL K H a xs/\xs.length<=i⟩
def lI(K:Nh)(a:Vy):It:=
 ⟨λi H=>∃xs x,br K H a xs/\xs[i]?=some x,λi H x H'=>H'=H/\∀xs,br K H a xs->xs[i]?=some x,λi H=>∃xs,br K H a xs/\xs.length<=i⟩
def gM(lo:Int)(n:Nat):It:=⟨λi _=>i < n,λi H x H'=>H'=H/\x= .int (lo+i),λi _=>n<=i⟩
theorem Fs{P:VL}{w:VP}{K:Nh}{tg:VE}(a it:Vy):lG P w K tg (lH K a) [it] it (λi h=>h.IsListIter it a i) where
 mem:=Vu
 obj:=λi h st b hb=>by
  have e:b=it:=by simpa using hb
  subst e;obtain⟨o,e,c,d⟩:=st;exact⟨o,e,λv z=>by rw [d] at z;cases z⟩
 keep:=λi h h' st k=>st.at λo e=>k it Vu o e
 item:=by
  intro X hP hw hK hc i Xw s σ H E I hf st hg;subst hP hw hK;obtain⟨xs,x,hq,hx⟩:=hg;obtain⟨its,rv,p,hz⟩:=I.list hq;obtain⟨u,hu,ru⟩:=rv.get hx;obtain⟨f0,f1,f2,f3,f4,f5⟩:=hf it Vu;refine wpAny_pyNext_list_item st p.isList (x:=u) (by simpa using hu) λh' st' sb=>?_;have I1:af X Xw σ H {s with heap:=h'}:=I.turned (t':=s.toks) (λb o hb e=>(sb.2 b hb).trans e) f0 f1 f3 f4 f5;obtain⟨o,e,c,d⟩:=id st';exact⟨u,rfl,nI (s:={s with heap:=h'}) e c d Vp ⟨x,H,I1,ru,⟨rfl,λys hy=>by rw [I.list_inj hy hq];exact hx⟩,st',λb hb=>(hf b hb).1⟩⟩
 done:=by
  intro X hP hw hK hc i Xw s σ H E I hf st hg;subst hP hw hK;obtain⟨xs,hq,hx⟩:=hg;obtain⟨its,rv,p,hz⟩:=I.list hq;obtain⟨f0,f1,f2,f3,f4,f5⟩:=hf it Vu;have hl:=rv.length;exact wpAny_pyNext_list_end (I.ok.hd hc) st p.isList (by simp;omega) λh' eb=>⟨rfl,I.turned (t':=s.toks) (λb o hb e=>eb b o hb e) f0 f1 f3 f4 f5⟩
 self:=λ_ _ _ _ _ st h=>wpAny_pyIter_listiter st h
theorem Ft{P:VL}{w:VP}{K:Nh}{tg:VE}(a it:Vy):lG P w K tg (lI K a) [it] it (λi h=>h.IsTupleIter it a i) where
 mem:=Vu
 obj:=λi h st b hb=>by
  have e:b=it:=by simpa using hb
  subst e;obtain⟨o,e,c,d⟩:=st;exact⟨o,e,λv z=>by rw [d] at z;cases z⟩
 keep:=λi h h' st k=>st.at λo e=>k it Vu o e
 item:=by
  intro X hP hw hK hc i Xw s σ H E I hf st hg;subst hP hw hK;obtain⟨xs,x,hq,hx⟩:=hg;obtain⟨its,rv,p,hz⟩:=I.tuple hq;obtain⟨u,hu,ru⟩:=rv.get hx;obtain⟨f0,f1,f2,f3,f4,f5⟩:=hf it Vu;refine wpAny_pyNext_tuple_item st (show s.heap.IsTuple a its.toArray from p) (x:=u) (by simpa using hu) λh' st' sb=>?_;have I1:af X Xw σ H {s with heap:=h'}:=I.turned (t':=s.toks) (λb o hb e=>(sb.2 b hb).trans e) f0 f1 f3 f4 f5;obtain⟨o,e,c,d⟩:=id st';exact⟨u,rfl,nI (s:={s with heap:=h'}) e c d Vp ⟨x,H,I1,ru,⟨rfl,λys hy=>by rw [I.tuple_inj hy hq];exact hx⟩,st',λb hb=>(hf b hb).1⟩⟩
 done:=by
  intro X hP hw hK hc i Xw s σ H E I hf st hg;subst hP hw hK;obtain⟨xs,hq,hx⟩:=hg;obtain⟨its,rv,p,hz⟩:=I.tuple hq;obtain⟨f0,f1,f2,f3,f4,f5⟩:=hf it Vu;have hl:=rv.length;exact wpAny_pyNext_tuple_end (I.ok.hd hc) st (show s.heap.IsTuple a its.toArray from p) (by simp;omega) λh' eb=>⟨rfl,I.turned (t':=s.toks) (λb o hb e=>eb b o hb e) f0 f1 f3 f4 f5⟩
 self:=λ_ _ _ _ _ st h=>wpAny_pyIter_tupleiter st h
theorem Fv{P:VL}{w:VP}{K:Nh}{tg:VE}(it:Vy)(lo:Int)(n:Nat):lG P w K tg (gM lo n) [it] it (λi h=>IsRangeIter h it (lo+(i:Nat)*1) ((n:Int) - (i:Nat)) 1) where
 mem:=Vu
 obj:=λi h st b hb=>by
  have e:b=it:=by simpa using hb
  subst e;exact⟨_,st,λv z=>by
   have z':Data.fields _=Data.cell v:=z;cases z'⟩
 keep:=λi h h' st k=>k it Vu _ st
 item:=by
  intro X hP hw hK hc i Xw s σ H E I hf st hg;subst hP hw hK;obtain⟨f0,f1,f2,f3,f4,f5⟩:=hf it Vu;have W:=Walks.range (prog:=X.prog) (w:=X.w) (I.ok.hd hc) it lo 1 n;refine W.item i s _ _ hg st λv h' tk hv st' kk=>?_;obtain⟨t,rfl⟩:=hv;have I1:af X Xw σ H {s with heap:=h',toks:=tk}:=I.turned (λb o hb e=>kk b o (by simpa using hb) e) f0 f1 f3 f4 f5;refine⟨_,rfl,nI (s:={s with heap:=h',toks:=tk}) (n:="range_iterator") st' rfl rfl Vp ⟨.int (lo+i),H,I1,⟨t,?_⟩,⟨rfl,rfl⟩,st',λb hb=>(hf b hb).1⟩⟩;rw [Ve]
 done:=by
  intro X hP hw hK hc i Xw s σ H E I hf st hg;subst hP hw hK;obtain⟨f0,f1,f2,f3,f4,f5⟩:=hf it Vu;exact wpAny_pyNext_range_end (I.ok.hd hc) st (by have:n<=i:=hg;omega) λh' eb=>⟨rfl,I.turned (t':=s.toks) (λb o hb e=>eb b o hb e) f0 f1 f3 f4 f5⟩
 self:=λ_ _ _ _ _ st h=>wpAny_pyIter_rangeiter st h
section
variable {X:Cx} {tg:VE}
def sX(K:Nh)(tl:TE):TI:=λσ H R=>tl σ H λx H1=>∃a,x= .ref a/\(∃xs,aL K H1 a xs)/\R (lH K a) H1
def sY(K:Nh)(tl:TE):TI:=λσ H R=>tl σ H λx H1=>∃a,x= .ref a/\(∃xs,br K H1 a xs)/\R (lI K a) H1
theorem sZ{l:VE}{tl:TE}(hl:PE X l tl):PI X tg l (sX X.K tl):=by
 intro Xw s σ H R I h;refine aA (hl Xw s σ H _ I h) λv s1 ⟨x,H1,I1,r1,q1⟩=>?_;obtain⟨a,e,⟨xs,hq⟩,q⟩:=q1;subst e;cases r1;obtain⟨its,rv,p,hz⟩:=I1.list hq;refine W0 p.isList ?_;refine⟨s1.heap.objs.size,[s1.heap.objs.size],_,_,H1,rfl,I1.kept (t':=s1.toks) λb o e=>Nm _ e,Fs a _,⟨_,NH _ rfl,rfl,rfl⟩,λb hb=>?_,q⟩;have e:b=s1.heap.objs.size:=by simpa using hb
 subst e;exact I1.fpOk (Np _) (I1.hok.fresh (Np _))
theorem tf{l:VE}{tl:TE}(hl:PE X l tl):PI X tg l (sY X.K tl):=by
 intro Xw s σ H R I h;refine aA (hl Xw s σ H _ I h) λv s1 ⟨x,H1,I1,r1,q1⟩=>?_;obtain⟨a,e,⟨xs,hq⟩,q⟩:=q1;subst e;cases r1;obtain⟨its,rv,p,hz⟩:=I1.tuple hq;refine wpAny_pyIter_tuple (show s1.heap.IsTuple a its.toArray from p) ?_;refine⟨s1.heap.objs.size,[s1.heap.objs.size],_,_,H1,rfl,I1.kept (t':=s1.toks) λb o e=>Nm _ e,Ft a _,⟨_,NH _ rfl,rfl,rfl⟩,λb hb=>?_,q⟩;have e:b=s1.heap.objs.size:=by simpa using hb
 subst e;exact I1.fpOk (Np _) (I1.hok.fresh (Np _))
theorem x4{Xw:List (Vy×Obj)}{σ:St}{H:Hp}{s:Vz}{R:It->Hp->Prop}{E:Vw->Vz->Prop}{lo hi:Int}{t u v:Tok}{tk:Nat}(I:af X Xw σ H s)(h1:-(2 ^ 62)<=lo)(h2:lo < 2 ^ 62)(h3:-(2 ^ 62)<=hi)(h4:hi < 2 ^ 62)
 (q:R (gM lo (hi - lo).toNat) H):VC (VB X.prog X.w) X.A (pyIter (.ref s.heap.objs.size)) (xZ X Xw σ tg R) E {s with heap:=s.heap.push {cls:= .type "range",data:= .fields #[.int lo t,.int hi u,.int 1 v]},toks:=tk}:=by
 refine wpAny_pyIter_range (IsRange.new ..) (small_one h1 h2 h3 h4) ?_;have I1:af X Xw σ H {s with heap:=s.heap.push {cls:= .type "range",data:= .fields #[.int lo t,.int hi u,.int 1 v]},toks:=tk}:=I.kept λb o e=>Nm _ e;refine⟨(s.heap.push {cls:= .type "range",data:= .fields #[.int lo t,.int hi u,.int 1 v]}).objs.size,[(s.heap.push {cls:= .type "range",data:= .fields #[.int lo t,.int hi u,.int 1 v]}).objs.size],_,_,H,rfl,
  I1.kept (t':=tk) λb o e=>Nm _ e,Fv _ lo (hi - lo).toNat,?_,λb hb=>?_,q⟩
 ·have e1:lo+((0:Nat):Int)*1=lo:=Vu
  have e2:(((hi - lo).toNat:Nat):Int) - ((0:Nat):Int)=Builtin.Range.rangeSize lo hi 1:=by rw [rangeSize_one];split <;> omega
  show IsRangeIter _ _ (lo+((0:Nat):Int)*1) ((((hi - lo).toNat:Nat):Int) - ((0:Nat):Int)) 1;rw [e1,e2];exact NH _ rfl
 ·have e:b=(s.heap.push {cls:= .type "range",data:= .fields #[.int lo t,.int hi u,.int 1 v]}).objs.size:=by simpa using hb
  subst e;exact I1.fpOk (Np _) (I1.hok.fresh (Np _))
def tj(ta:TA):TI:=λσ H R=>ta σ H λvs H1=>∃j:Int,vs=[.int j]/\-(2 ^ 62)<=j/\j < 2 ^ 62/\R (gM 0 j.toNat) H1
def tm(ta:TA):TI:=λσ H R=>ta σ H λvs H1=>∃i j:Int,vs=[.int i,.int j]/\(-(2 ^ 62)<=i/\i < 2 ^ 62/\-(2 ^ 62)<=j/\j < 2 ^ 62)/\R (gM i (j - i).toNat) H1
theorem x5{a:VE}{ta:TA}{p pos:Pos}(hg:Gl X "range")(hm:X.mg "range"=none)(ha:PA X [a] ta)(hs:VH [a] X.env=[(false,eval a X.env)]:=by rfl):PI X tg (.Call (.Name "range" p) [a] [] pos) (tj ta):=by
 intro Xw s σ H R I h;refine Call_ (jR I hg hm boot_range (QG (aA (ha pos Xw s σ H _ I h) λus s1 ⟨vs,H1,I1,r1,q1⟩=>?_) hs rfl));obtain⟨j,e,q1,q2,q⟩:=q1;subst e;cases r1 with
 | cons r rr=>
  cases rr;obtain⟨t,rfl⟩:=r;exact call_range_1 (x4 I1 Vq Vq q1 q2 (by simpa using q))
theorem x6{a b:VE}{ta:TA}{p pos:Pos}(hg:Gl X "range")(hm:X.mg "range"=none)(ha:PA X [a,b] ta)(hs:VH [a,b] X.env=[(false,eval a X.env),(false,eval b X.env)]:=by rfl)(hs2:VH [b] X.env=[(false,eval b X.env)]:=by rfl):
 PI X tg (.Call (.Name "range" p) [a,b] [] pos) (tm ta):=by
 intro Xw s σ H R I h;refine Call_ (jR I hg hm boot_range (QG (aA (ha pos Xw s σ H _ I h) λus s1 ⟨vs,H1,I1,r1,q1⟩=>?_) (by rw [hs,hs2]) (by rw [hs2];rfl)));obtain⟨i,j,e,⟨q1,q2,q3,q4⟩,q⟩:=q1;subst e;cases r1 with
 | cons r rr=>
  cases rr with
  | cons r' rr=>
   cases rr;obtain⟨t,rfl⟩:=r;obtain⟨t',rfl⟩:=r';exact call_range_2 (x4 I1 q1 q2 q3 q4 q)
def lJ(wi:TI)(g:TG)(tb:TS):TS:=λD σ H=>wi σ H λJ H1=>∃W:Nat->Nat->St->Hp->Prop,(∃m,W 0 m σ H1)/\∀i m σ H,W i m σ H->
 (J.stop i H/\D.nx σ H)\/(J.go i H/\∃N:St->Hp->Prop,(∀σ' H',N σ' H'->∃m',m' < m/\W (i+1) m' σ' H')/\∀x H',J.yld i H x H'->g x σ H' λσ2 H2=>tb {D with nx:=N,ct:=N,bk:=D.nx} σ2 H2)
def lK(fp:List Vy)(h:VQ):List (Vy×Obj):=fp.filterMap λb=>(h.get? b).map λo=>(b,o)
theorem nJ{fp:List Vy}{h:VQ}{b:Vy}{o:Obj}(hb:b∈fp)(e:h.get? b=some o):(b,o)∈lK fp h:=Qs.mpr ⟨b,hb,by rw [e];rfl⟩
theorem Fw{fp:List Vy}{h:VQ}{p:Vy×Obj}(hp:p∈lK fp h):p.1∈fp/\h.get? p.1=some p.2:=by
 obtain⟨b,hb,e⟩:=Qs.mp hp;cases q:h.get? b with
 | none=>rw [q] at e;cases e
 | some o=>
  rw [q] at e;have e':(b,o)=p:=Oi e;subst e';exact⟨hb,q⟩
theorem af.pinned{Xw:List (Vy×Obj)}{σ:St}{H:Hp}{s:Vz}{fp:List Vy}(I:af X Xw σ H s)(hf:∀b∈fp,fU X Xw H b)(ho:∀b∈fp,∃o,s.heap.get? b=some o/\∀v,o.data≠ .cell v):af X (Xw++lK fp s.heap) σ H s:=
 I.pins_of λp hp=>(NQ.mp hp).elim (λz=>I.pin p (Ol _ z)) λz=>by
  obtain⟨hb,e⟩:=Fw z;obtain⟨f0,f1,f2,_⟩:=hf p.1 hb;obtain⟨o,e',d⟩:=ho p.1 hb;rw [e] at e';cases e';exact⟨e,f0,f1,f2,d⟩
theorem af.unpinned{Xw pl:List (Vy×Obj)}{σ:St}{H:Hp}{s:Vz}(I:af X (Xw++pl) σ H s):af X Xw σ H s:=I.pins_of λp hp=>I.pin p (Ol _ (Rr _ hp))
theorem nK{iter:VE}{body:List VT}{wi:TI}{g:TG}{tb:TS}{pos:Pos}(hp:Xa (VB X.prog X.w) X.A X.env X.xe)(hc:X.calm=true)(hi:PI X tg iter wi)(hg:PG X tg g)(hb:bK X body tb)
 (hs:∀x,VX iter X.env x=pure x:=by intro _;rfl):PS X (.For tg iter body [] pos) (lJ wi g tb):=by
 intro Xw s σ H D I h;refine wpAny_For (aA (hi Xw s σ H _ I h) λv s1 h1=>aA h1 λitv s2 h2=>?_) hs;obtain⟨it,fp,tn,J,H2,e,I2,T,st2,f2,W,⟨m0,w0⟩,turn⟩:=h2;subst e;have stat:∀{H':Hp},(∀b∈fp,H' b=none)->∀b∈fp,fU X Xw H' b:=λhn b hb=>⟨hn b hb,(f2 b hb).2⟩;refine codeAny_forLoop_any (λn s'=>∃i σ' H',af X Xw σ' H' s'/\tn i s'.heap/\(∀b∈fp,H' b=none)/\W i n σ' H') ?_ m0 ⟨0,σ,H2,I2,st2,λb hb=>(f2 b hb).1,w0⟩;rintro n s3 ⟨i,σ3,H3,I3,st3,fr3,w3⟩;rcases turn i n σ3 H3 w3 with⟨stop,qn⟩ | ⟨go,N,hN,step⟩
 ·refine Wr hp (aA (T.done X rfl rfl rfl hc i Xw s3 σ3 H3 X.xe I3 (stat fr3) st3 stop) λr s4 ⟨hr,I4⟩=>?_);subst hr;exact Xd ⟨σ3,H3,I4,qn⟩
 ·refine Wr hp (aA (T.item X rfl rfl rfl hc i Xw s3 σ3 H3 X.xe I3 (stat fr3) st3 go) λr s4 ⟨u,hr,h4⟩=>?_);subst hr;refine Wr hp (aA h4 λ_ s5 ⟨x,H5,I5,r5,y5,st5,fr5⟩=>?_);have I5':=I5.pinned (stat fr5) (T.obj _ _ st5);refine Wr hp (aA (hg _ s5 σ3 H5 x u _ I5' r5 (step x H5 y5)) λ_ s6 ⟨σ6,H6,I6,q6⟩=>?_);refine Wr hp (aA (hb _ s6 σ6 H6 _ I6 q6) λf s7 q7=>?_);have again:∀{σ7:St}{H7:Hp},af X (Xw++lK fp s5.heap) σ7 H7 s7->N σ7 H7->∃m,m < n/\∃i σ' H',af X Xw σ' H' s7/\tn i s7.heap/\(∀b∈fp,H' b=none)/\W i m σ' H':=λ{σ7 H7} I7 n7=>by
   obtain⟨m',hm,w7⟩:=hN σ7 H7 n7;refine⟨m',hm,i+1,σ7,H7,I7.unpinned,T.keep _ _ _ st5 λb hb o e=>(I7.pin (b,o) (Ol _ (Ol _ (nJ hb e)))).1,λb hb=>?_,w7⟩;obtain⟨o,e,d⟩:=T.obj _ _ st5 b hb;exact(I7.pin (b,o) (Ol _ (Ol _ (nJ hb e)))).2.1
  cases f with
  | next=>obtain⟨σ7,H7,I7,n7⟩:=q7;exact again I7 n7
  | cont=>obtain⟨σ7,H7,I7,n7⟩:=q7;exact again I7 n7
  | brk=>obtain⟨σ7,H7,I7,q7⟩:=q7;exact⟨σ7,H7,I7.unpinned,q7⟩
  | ret v=>obtain⟨x7,σ7,H7,I7,r7,q7⟩:=q7;exact⟨x7,σ7,H7,I7.unpinned,r7,q7⟩
end
abbrev R2:=V->V->Hp->VK->Prop
def bQ(X:Cx)(f:Vw->Vw->Sem Vw)(r:R2):Prop:=
 ∀(Xw:List (Vy×Obj))(s:Vz)(σ:St)(H:Hp)(x y:V)(v u:Vw)(Q:VK),af X Xw σ H s->aD x v->aD y u->r x y H Q->
  VC (VB X.prog X.w) X.A (f v u) (EP X Xw σ Q) X.xe s
def tq(X:Cx)(f:Vw->Sem Vw)(r:V->Hp->VK->Prop):Prop:=
 ∀(Xw:List (Vy×Obj))(s:Vz)(σ:St)(H:Hp)(x:V)(v:Vw)(Q:VK),af X Xw σ H s->aD x v->r x H Q->
  VC (VB X.prog X.w) X.A (f v) (EP X Xw σ Q) X.xe s
def cD(X:Cx)(f:Vw)(r:List V->Hp->VK->Prop):Prop:=
 ∀(Xw:List (Vy×Obj))(s:Vz)(σ:St)(H:Hp)(xs:List V)(us:List Vw)(Q:VK),af X Xw σ H s->aC xs us->r xs H Q->
  VC (VB X.prog X.w) X.A (call f us) (EP X Xw σ Q) X.xe s
def Fx(X:Cx)(r:V->Hp->(Bool->Hp->Prop)->Prop):Prop:=
 ∀(Xw:List (Vy×Obj))(s:Vz)(σ:St)(H:Hp)(x:V)(v:Vw)(Q:Bool->Hp->Prop),af X Xw σ H s->aD x v->r x H Q->
  VC (VB X.prog X.w) X.A (truthy v) (TP X Xw σ Q) X.xe s
def jT(r:R2)(ta tb:TE):TE:=λσ H Q=>ta σ H λx H1=>tb σ H1 λy H2=>r x y H2 Q
def x8(r:V->Hp->VK->Prop)(ta:TE):TE:=λσ H Q=>ta σ H λx H1=>r x H1 Q
def rI(C:Int->Int->Prop)(g:Int->Int->V):R2:=λx y H Q=>∃i j,x= .int i/\y= .int j/\C i j/\Q (g i j) H
def fV(g:Int->Int->V):R2:=λx y H Q=>∃i j,x= .int i/\y= .int j/\Q (g i j) H
def rU(g:Int->V):V->Hp->VK->Prop:=λx H Q=>∃i,x= .int i/\Q (g i) H
section
variable {X:Cx} {a b c:VE} {ta tb tc:TE} {pos:Pos}
theorem tu(ha:PE X a ta)(hb:PE X b tb){Xw:List (Vy×Obj)}{s:Vz}{σ:St}{H:Hp}{R:V->V->Hp->Prop}(I:af X Xw σ H s)
 (h:ta σ H λx H1=>tb σ H1 λy H2=>R x y H2){Q:Vw->Vz->Prop}{f:Vw->Vw->Sem Vw}
 (hf:∀v u s2 x y H2,af X Xw σ H2 s2->aD x v->aD y u->R x y H2->VC (VB X.prog X.w) X.A (f v u) Q X.xe s2):
 VC (VB X.prog X.w) X.A (eval a X.env) (λv s₁=>VC (VB X.prog X.w) X.A (eval b X.env) (λu s₂=>VC (VB X.prog X.w) X.A (f v u) Q X.xe s₂) X.xe s₁) X.xe s:=by
 refine aA (ha Xw s σ H _ I h) λv s1 ⟨x,H1,I1,r1,q1⟩=>?_;refine aA (hb Xw s1 σ H1 _ I1 q1) λu s2 ⟨y,H2,I2,r2,q2⟩=>?_;exact hf v u s2 x y H2 I2 r1 r2 q2
theorem aZ{op:Operator}{r:R2}(ho:bQ X (WJ op) r)(ha:PE X a ta)(hb:PE X b tb):PE X (.BinOp a op b pos) (jT r ta tb):=by
 intro Xw s σ H Q I h;exact wpAny_BinOp (tu ha hb I h λv u s2 x y H2 I2 rx ry q=>ho Xw s2 σ H2 x y v u Q I2 rx ry q)
theorem Fy{op:UnaryOp}{r:V->Hp->VK->Prop}(ho:tq X (unaryOp op) r)(ha:PE X a ta):PE X (.UnaryOp op a pos) (x8 r ta):=by
 intro Xw s σ H Q I h;exact UnaryOp_ (aA (ha Xw s σ H _ I h) λv s1 uu34=>by obtain⟨x,H1,I1,r1,q1⟩:=uu34;exact ho Xw s1 σ H1 x v Q I1 r1 q1)
theorem nL{f:Vw->Vw->Sem Vw}{C:Int->Int->Prop}{g:Int->Int->Int}
 (rule:∀(i j:Int) (t u:Tok) (s:Vz) (Q:Vw->Vz->Prop) (E:Vw->Vz->Prop),C i j->Q (.int (g i j) s.toks) {s with toks:=s.toks+1}->VC (VB X.prog X.w) X.A (f (.int i t) (.int j u)) Q E s):
 bQ X f (rI C λi j=>.int (g i j)):=by
 intro Xw s σ H x y v u Q I rx ry h;obtain⟨i,j,rfl,rfl,hc,q⟩:=h;obtain⟨t,rfl⟩:=rx;obtain⟨t',rfl⟩:=ry;exact rule i j t t' s _ _ hc ⟨.int (g i j),H,I.tok _,⟨_,rfl⟩,q⟩
theorem x9{f:Vw->Vw->Sem Vw}{g:Int->Int->Int}
 (rule:∀(i j:Int) (t u:Tok) (s:Vz) (Q:Vw->Vz->Prop) (E:Vw->Vz->Prop),Q (.int (g i j) s.toks) {s with toks:=s.toks+1}->VC (VB X.prog X.w) X.A (f (.int i t) (.int j u)) Q E s):
 bQ X f (fV λi j=>.int (g i j)):=by
 intro Xw s σ H x y v u Q I rx ry h;obtain⟨i,j,rfl,rfl,q⟩:=h;obtain⟨t,rfl⟩:=rx;obtain⟨t',rfl⟩:=ry;exact rule i j t t' s _ _ ⟨.int (g i j),H,I.tok _,⟨_,rfl⟩,q⟩
theorem nM{f:Vw->Vw->Sem Vw}{g:Int->Int->Bool}
 (rule:∀(i j:Int) (t u:Tok) (s:Vz) (Q:Vw->Vz->Prop) (E:Vw->Vz->Prop),Q (.bool (g i j)) s->VC (VB X.prog X.w) X.A (f (.int i t) (.int j u)) Q E s):
 bQ X f (fV λi j=>.bl (g i j)):=by
 intro Xw s σ H x y v u Q I rx ry h;obtain⟨i,j,rfl,rfl,q⟩:=h;obtain⟨t,rfl⟩:=rx;obtain⟨t',rfl⟩:=ry;exact rule i j t t' s _ _ ⟨.bl (g i j),H,I,rfl,q⟩
def jU(i j:Int):Prop:=0 < j/\j < 1073741824
def lL(i j:Int):Prop:=0<=j/\j<=1000000/\i.natAbs < 2 ^ 64
def jj(i j:Int):Prop:=(-(2 ^ 64) < i/\i < 2 ^ 64)\/(-(2 ^ 64) < j/\j < 2 ^ 64)
theorem jj.ok{i j:Int}(h:jj i j):IntMulOk i j:=by
 rcases h with⟨h1,h2⟩ | ⟨h1,h2⟩
 ·exact .of_left (intBits_le_64 h1 h2)
 ·exact .of_right (intBits_le_64 h1 h2)
theorem bt:bQ X (WJ .Add) (fV λi j=>.int (i+j)):=x9 λ_ _ _ _ _ _ _ q=>add_int q
theorem cM:bQ X (WJ .Sub) (fV λi j=>.int (i - j)):=x9 λ_ _ _ _ _ _ _ q=>sub_int q
theorem eM:bQ X (WJ .Mult) (rI jj λi j=>.int (i*j)):=nL λ_ _ _ _ _ _ _ hc q=>mul_int q hc.ok
theorem fW:bQ X (WJ .FloorDiv) (rI jU λi j=>.int (i / j)):=nL λi j _ _ _ _ _ hc q=>by
 have h1:(0:Int) < j:=hc.1;have h2:j < 1073741824:=hc.2;exact floordiv_int Vq (by rw [RN i Vq];exact q) (.inl (SM Vq))
theorem d4:bQ X (WJ .Mod) (rI (λ_ j=>0 < j) λi j=>.int (i % j)):=nL λi j _ _ _ _ _ hc q=>by
 have h1:(0:Int) < j:=hc;exact mod_int' Vq (by rw [RO i Vq];exact q)
theorem Fz:bQ X (WJ .Pow) (rI lL λi j=>.int (i ^ j.toNat)):=nL λ_ _ _ _ _ _ _ hc q=>pow_int_small hc.1 hc.2.1 hc.2.2 q
theorem FA{f:Vw->Sem Vw}{g:Int->Int}
 (rule:∀(i:Int) (t:Tok) (s:Vz) (Q:Vw->Vz->Prop) (E:Vw->Vz->Prop),Q (.int (g i) s.toks) {s with toks:=s.toks+1}->VC (VB X.prog X.w) X.A (f (.int i t)) Q E s):
 tq X f (rU λi=>.int (g i)):=by
 intro Xw s σ H x v Q I rx h;obtain⟨i,rfl,q⟩:=h;obtain⟨t,rfl⟩:=rx;exact rule i t s _ _ ⟨.int (g i),H,I.tok _,⟨_,rfl⟩,q⟩
theorem FC:tq X (unaryOp .USub) (rU λi=>.int (-i)):=FA λ_ _ _ _ _ q=>neg_int q
end
def jk:V->V->Bool
 | .non,.non=>true | .non,.int _=>true | .int _,.non=>true | .non,.bl _=>true | .bl _,.non=>true | .non,.str _=>true | .str _,.non=>true
 | .int _,.int _=>true | .bl _,.bl _=>true | .str _,.str _=>true | .byt _,.byt _=>true
 | .int _,.str _=>true | .str _,.int _=>true | .bl _,.str _=>true | .str _,.bl _=>true
 | _,_=>false
def yE:R2:=λx y H Q=>jk x y=true/\Q (.bl (decide (x=y))) H
def yF:R2:=λx y H Q=>jk x y=true/\Q (.bl (!decide (x=y))) H
theorem yG{i j:Int}:decide (V.int i=V.int j)=(i==j):=by
 rw [Qt];simp
theorem yH{i j:Bool}:decide (V.bl i=V.bl j)=(i==j):=by
 rw [Qt];simp
theorem yI{i j:Str}:decide (V.str i=V.str j)=(i==j):=by
 rw [Qt];simp
theorem yJ{i j:Array UInt8}:decide (V.byt i=V.byt j)=(i.toList==j.toList):=by
 rw [Qt];cases i;cases j;simp
section
variable {X:Cx} {a b c:VE} {ta tb tc:TE} {pos:Pos}
theorem bD{Xw:List (Vy×Obj)}{σ:St}{H:Hp}{s:Vz}{Q:VK}{k k':Bool}(I:af X Xw σ H s)(q:Q (.bl k) H)(e:k=k'):EP X Xw σ Q (.bool k') s:=by
 subst e;exact⟨.bl k,H,I,rfl,q⟩
theorem lM:bQ X (VZ .Eq) yE:=by
 intro Xw s σ H x y v u Q I rx ry h;obtain⟨hs,q⟩:=h;cases x with
 | non=>
  cases rx;cases y with
  | non=>cases ry;exact PySem.EqNone.eq_none_none (bD I q Vu)
  | bl j=>cases ry;exact PySem.EqNone.eq_none_bool (bD I q Vu)
  | int j=>obtain⟨t',rfl⟩:=ry;exact PySem.EqNone.eq_none_int (bD I q Vu)
  | str j=>obtain⟨t',rfl⟩:=ry;exact PySem.EqNone.eq_none_str (bD I q Vu)
  | _=>exact absurd (show false=true from hs) Nt
 | bl i=>
  cases rx;cases y with
  | non=>cases ry;exact PySem.EqNone.eq_bool_none (bD I q Vu)
  | bl j=>cases ry;exact eq_bool (bD I q yH)
  | str j=>obtain⟨t',rfl⟩:=ry;exact PySem.EqMixed.eq_bool_str (bD I q Vu)
  | _=>exact absurd (show false=true from hs) Nt
 | int i=>
  obtain⟨t,rfl⟩:=rx;cases y with
  | non=>cases ry;exact PySem.EqNone.eq_int_none (bD I q Vu)
  | int j=>obtain⟨t',rfl⟩:=ry;exact eq_int (bD I q yG)
  | str j=>obtain⟨t',rfl⟩:=ry;exact PySem.EqMixed.eq_int_str (bD I q Vu)
  | _=>exact absurd (show false=true from hs) Nt
 | str i=>
  obtain⟨t,rfl⟩:=rx;cases y with
  | non=>cases ry;exact PySem.EqNone.eq_str_none (bD I q Vu)
  | bl j=>cases ry;exact PySem.EqMixed.eq_str_bool (bD I q Vu)
  | int j=>obtain⟨t',rfl⟩:=ry;exact PySem.EqMixed.eq_str_int (bD I q Vu)
  | str j=>obtain⟨t',rfl⟩:=ry;exact eq_str (bD I q yI)
  | _=>exact absurd (show false=true from hs) Nt
 | byt i=>
  obtain⟨t,rfl⟩:=rx;cases y with
  | byt j=>obtain⟨t',rfl⟩:=ry;exact PySem.W.eq_bytes (bD I q yJ)
  | _=>exact absurd (show false=true from hs) Nt
 | _=>cases y <;> exact absurd (show false=true from hs) Nt
theorem FD:bQ X (VZ .NotEq) yF:=by
 intro Xw s σ H x y v u Q I rx ry h;obtain⟨hs,q⟩:=h;cases x with
 | non=>
  cases rx;cases y with
  | non=>cases ry;exact PySem.EqNone.ne_none_none (bD I q Vu)
  | bl j=>cases ry;exact PySem.EqNone.ne_none_bool (bD I q Vu)
  | int j=>obtain⟨t',rfl⟩:=ry;exact PySem.EqNone.ne_none_int (bD I q Vu)
  | str j=>obtain⟨t',rfl⟩:=ry;exact PySem.EqNone.ne_none_str (bD I q Vu)
  | _=>exact absurd (show false=true from hs) Nt
 | bl i=>
  cases rx;cases y with
  | non=>cases ry;exact PySem.EqNone.ne_bool_none (bD I q Vu)
  | bl j=>cases ry;exact ne_bool (bD I q (congrArg not yH))
  | str j=>obtain⟨t',rfl⟩:=ry;exact PySem.EqMixed.ne_bool_str (bD I q Vu)
  | _=>exact absurd (show false=true from hs) Nt
 | int i=>
  obtain⟨t,rfl⟩:=rx;cases y with
  | non=>cases ry;exact PySem.EqNone.ne_int_none (bD I q Vu)
  | int j=>obtain⟨t',rfl⟩:=ry;exact ne_int (bD I q (congrArg not yG))
  | str j=>obtain⟨t',rfl⟩:=ry;exact PySem.EqMixed.ne_int_str (bD I q Vu)
  | _=>exact absurd (show false=true from hs) Nt
 | str i=>
  obtain⟨t,rfl⟩:=rx;cases y with
  | non=>cases ry;exact PySem.EqNone.ne_str_none (bD I q Vu)
  | bl j=>cases ry;exact PySem.EqMixed.ne_str_bool (bD I q Vu)
  | int j=>obtain⟨t',rfl⟩:=ry;exact PySem.EqMixed.ne_str_int (bD I q Vu)
  | str j=>obtain⟨t',rfl⟩:=ry;exact ne_str (bD I q (congrArg not yI))
  | _=>exact absurd (show false=true from hs) Nt
 | byt i=>
  obtain⟨t,rfl⟩:=rx;cases y with
  | byt j=>obtain⟨t',rfl⟩:=ry;exact PySem.W.ne_bytes (bD I q (congrArg not yJ))
  | _=>exact absurd (show false=true from hs) Nt
 | _=>cases y <;> exact absurd (show false=true from hs) Nt
theorem nN:bQ X (VZ .Lt) (fV λi j=>.bl (decide (i < j))):=nM λ_ _ _ _ _ _ _ q=>lt_int q
theorem fX:bQ X (VZ .LtE) (fV λi j=>.bl (decide (i<=j))):=nM λ_ _ _ _ _ _ _ q=>le_int q
theorem lN:bQ X (VZ .Gt) (fV λi j=>.bl (decide (j < i))):=nM λ_ _ _ _ _ _ _ q=>gt_int q
theorem tw:bQ X (VZ .GtE) (fV λi j=>.bl (decide (j<=i))):=nM λ_ _ _ _ _ _ _ q=>ge_int q
theorem jV:bQ X (VZ .Is) (λx y H Q=>y= .non/\Q (.bl (decide (x= .non))) H):=by
 intro Xw s σ H x y v u Q I rx ry h;obtain⟨rfl,q⟩:=h;cases ry;refine is_none_gen (bD I q ?_);cases x <;> first
  | (cases rx;rfl)
  | (obtain⟨t,rfl⟩:=rx;rfl)
theorem nO:bQ X (VZ .IsNot) (λx y H Q=>y= .non/\Q (.bl (!decide (x= .non))) H):=by
 intro Xw s σ H x y v u Q I rx ry h;obtain⟨rfl,q⟩:=h;cases ry;refine isnot_none_gen (bD I q ?_);cases x <;> first
  | (cases rx;rfl)
  | (obtain⟨t,rfl⟩:=rx;rfl)
theorem au(b:VE){op:CmpOp}(h:op≠ .In:=by decide)(h2:op≠ .NotIn:=by decide):Wa op b=false:=by
 have e1:(op==CmpOp.In)=false:=by cases op <;> first | rfl | exact absurd rfl h
 have e2:(op==Vd)=false:=by cases op <;> first | rfl | exact absurd rfl h2
 cases b <;> simp [Wa,e1,e2]
theorem nP{op:CmpOp}{r:R2}(ho:bQ X (VZ op) r)(ha:PE X a ta)(hb:PE X b tb)(hm:Wa op b=false):PE X (.Compare a [op] [b] pos) (jT r ta tb):=by
 intro Xw s σ H Q I h;exact wpAny_Compare1 (tu ha hb I h λv u s2 x y H2 I2 rx ry q=>ho Xw s2 σ H2 x y v u Q I2 rx ry q) hm
def yK(t:TE):TT:=λσ H Q=>t σ H λx H'=>∃k,x= .bl k/\Q k H'
theorem gN{op:CmpOp}{r:R2}(ho:bQ X (VZ op) r)(ha:PE X a ta)(hb:PE X b tb)(hm:Wa op b=false):PT X (.Compare a [op] [b] pos) (yK (jT r ta tb)):=by
 intro Xw s σ H Q I h;refine wpAny_isTrue_Compare1 (aA (ha Xw s σ H _ I h) λv s1 ⟨x,H1,I1,r1,q1⟩=>aA (hb Xw s1 σ H1 _ I1 q1) λu s2 ⟨y,H2,I2,r2,q2⟩=>
  aA (ho Xw s2 σ H2 x y v u _ I2 r1 r2 q2) λc s3 ⟨z,H3,I3,r3,k,e,q3⟩=>?_) hm
 subst e;cases r3;exact V8 ⟨H3,I3,q3⟩
def yL(K:Nh)(x:V)(H:Hp)(k:Bool):Prop:=
 match x with
 | .non=>k=false
 | .bl b=>k=b
 | .int i=>k=(i !=0)
 | .str y=>y.length<=VG/\k=((y.length:Int) !=0)
 | .byt y=>y.size<=VG/\k=((y.size:Int) !=0)
 | .ref p=>(∃xs,aL K H p xs/\k=!xs.isEmpty)\/(∃xs,br K H p xs/\k=!xs.isEmpty)\/∃kvs,H p=some (.dK kvs)/\k=!kvs.isEmpty
 | _=>False
theorem FF{κ:Type}{kvs:List (κ×V)}{vs:List (κ×Vw)}(r:KV kvs vs):(!vs.isEmpty)=!kvs.isEmpty:=by
 cases r <;> rfl
theorem yM{xs:List V}{its:List Vw}(r:aC xs its):(!its.toArray.isEmpty)=!xs.isEmpty:=by
 cases r <;> simp
theorem jl:(VG:Nat) < 2 ^ 63:=by rw [V6];decide
theorem FG:Fx X (λx H Q=>∃k,yL X.K x H k/\Q k H):=by
 intro Xw s σ H x v Q I rx h;obtain⟨k,e,q⟩:=h;have hl:=jl;have hs:VG=16777216:=V6;cases x with
 | non=>
  cases rx;have e':k=false:=e;subst e';exact truthy_none ⟨H,I,q⟩
 | bl b=>
  cases rx;have e':k=b:=e;subst e';exact V8 ⟨H,I,q⟩
 | int i=>
  obtain⟨t,rfl⟩:=rx;have e':k=(i !=0):=e;subst e';exact PySem.P.truthy_int ⟨H,I,q⟩
 | str y=>
  obtain⟨t,rfl⟩:=rx;obtain⟨hy,e'⟩:y.length<=VG/\k=((y.length:Int) !=0):=e;subst e';exact PySem.P.truthy_str Vq ⟨H,I.tok _,q⟩
 | byt y=>
  obtain⟨t,rfl⟩:=rx;obtain⟨hy,e'⟩:y.size<=VG/\k=((y.size:Int) !=0):=e;subst e';exact PySem.W.truthy_bytes Vq ⟨H,I.tok _,q⟩
 | ref p=>
  cases rx;have e':(∃xs,aL X.K H p xs/\k=!xs.isEmpty)\/(∃xs,br X.K H p xs/\k=!xs.isEmpty)\/∃kvs,H p=some (.dK kvs)/\k=!kvs.isEmpty:=e;rcases e' with⟨xs,hx,e'⟩ | ⟨xs,hx,e'⟩ | ⟨kvs,hx,e'⟩
  ·subst e';obtain⟨its,r,pl,hz⟩:=I.list hx;have hlen:=r.length;exact wpAny_truthy_list pl.isList (by simp only [NA];omega) ⟨H,I.tok _,by rw [yM r];exact q⟩
  ·subst e';obtain⟨its,r,pl,hz⟩:=I.tuple hx;have hlen:=r.length;exact truthy_tuple pl (by simp only [NA];omega) ⟨H,I.tok _,by rw [yM r];exact q⟩
  ·subst e';obtain⟨hz,hS,vs,r,m⟩:kvs.length<=VG/\(p==Wh)=false/\∃vs,KV kvs vs/\s.heap.DictOf (bZ X.prog X.w) p vs:=I.hok p _ hx;have hlen:kvs.length=vs.length:=RL r;exact wpAny_truthy_dict hS m Vq ⟨H,I.tok _,by rw [FF r];exact q⟩
 | _=>exact(show False from e).elim
theorem FH(ha:PE X a ta)(he:∀whole,isTrue a X.env whole=(do let v<-whole;standAt a.pos;WW [v] (truthy v))):
 PT X a (λσ H Q=>ta σ H λx H'=>∃k,yL X.K x H' k/\Q k H'):=by
 intro Xw s σ H Q I h;exact isTrue_plain (aA (ha Xw s σ H _ I h) λv s1 uu38=>by obtain⟨x,H1,I1,r1,q1⟩:=uu38;exact FG Xw s1 σ H1 x v Q I1 r1 q1) (he _)
theorem yN:bQ X (WJ .Add) (λx y H Q=>∃i j,x= .str i/\y= .str j/\i.length+j.length<=VG/\Q (.str (i++j)) H):=by
 intro Xw s σ H x y v u Q I rx ry h;obtain⟨i,j,rfl,rfl,hz,q⟩:=h;obtain⟨t,rfl⟩:=rx;obtain⟨t',rfl⟩:=ry;exact add_str (λt' tk=>⟨.str (i++j),H,I.tok _,⟨_,rfl⟩,q⟩) hz
theorem cH{x:V}{us:List Vw}(r:aC [x] us):∃u,us=[u]/\aD x u:=by
 cases r with
 | cons r1 r2=>cases r2;exact⟨_,rfl,r1⟩
theorem nQ{x y:V}{us:List Vw}(r:aC [x,y] us):∃u w',us=[u,w']/\aD x u/\aD y w':=by
 cases r with
 | cons r1 r2=>
  cases r2 with
  | cons r3 r4=>cases r4;exact⟨_,_,rfl,r1,r3⟩
theorem FI:cD X (.builtin "abs") (λxs H Q=>∃i,xs=[.int i]/\Q (.int (if i < 0 then -i else i)) H):=by
 intro Xw s σ H xs us Q I r h;obtain⟨i,rfl,q⟩:=h;obtain⟨u,rfl,t,rfl⟩:=cH r;exact call_abs_int λu tk=>⟨.int (if i < 0 then -i else i),H,I.tok _,⟨_,rfl⟩,q⟩
theorem yO(hc:X.calm=true):cD X (.builtin "max") (λxs H Q=>∃i j,xs=[.int i,.int j]/\Q (.int (if j > i then j else i)) H):=by
 intro Xw s σ H xs us Q I r h;obtain⟨i,j,rfl,q⟩:=h;obtain⟨u,w',rfl,⟨t,rfl⟩,⟨t',rfl⟩⟩:=nQ r;refine max_two_ints (I.ok.hd hc) λh' tk k=>⟨_,H,I.kept k,?_,q⟩;by_cases hj:j > i
 ·rw [Vs hj,Vs hj];exact⟨_,rfl⟩
 ·rw [Vr hj,Vr hj];exact⟨_,rfl⟩
theorem tD(hc:X.calm=true):cD X (.builtin "min") (λxs H Q=>∃i j,xs=[.int i,.int j]/\Q (.int (if j < i then j else i)) H):=by
 intro Xw s σ H xs us Q I r h;obtain⟨i,j,rfl,q⟩:=h;obtain⟨u,w',rfl,⟨t,rfl⟩,⟨t',rfl⟩⟩:=nQ r;refine min_two_ints (I.ok.hd hc) λh' tk k=>⟨_,H,I.kept k,?_,q⟩;by_cases hj:j < i
 ·rw [Vs hj,Vs hj];exact⟨_,rfl⟩
 ·rw [Vr hj,Vr hj];exact⟨_,rfl⟩
theorem nR:cD X (.type "int") (λxs H Q=>(∃i,xs=[.int i]/\Q (.int i) H)\/∃k,xs=[.bl k]/\Q (.int (if k then 1 else 0)) H):=by
 intro Xw s σ H xs us Q I r h;rcases h with⟨i,rfl,q⟩ | ⟨k,rfl,q⟩
 ·obtain⟨u,rfl,t,rfl⟩:=cH r;exact call_int_int ⟨.int i,H,I,⟨_,rfl⟩,q⟩
 ·obtain⟨u,rfl,r1⟩:=cH r;cases r1;exact call_int_bool ⟨.int (if k then 1 else 0),H,I.tok _,⟨_,rfl⟩,q⟩
theorem FJ:cD X (.builtin "divmod") (λxs H Q=>∃i j,xs=[.int i,.int j]/\jU i j/\∀p,H p=none->Q (.ref p) (ak H p (.tup [.int (i / j),.int (i % j)]))):=by
 intro Xw s σ H xs us Q I r h;obtain⟨i,j,rfl,⟨h1,h2⟩,q⟩:=h;obtain⟨u,w',rfl,⟨t,rfl⟩,⟨t',rfl⟩⟩:=nQ r;refine divmod_int Vq ?_ (.inl (SM Vq));rw [RN i Vq,RO i Vq];have hn:H s.heap.objs.size=none:=I.hok.fresh (Np _);refine⟨.ref s.heap.objs.size,_,?_,rfl,q _ hn⟩;refine I.laid (λb o e=>Nm _ e) (Np _) ⟨by simp only [NF,OW];rw [V6];decide,[.int (i / j) s.toks,.int (i % j) (s.toks+1)],.cons ⟨_,rfl⟩ (.cons ⟨_,rfl⟩ .nil),?_⟩;exact⟨_,NH s.heap rfl,rfl,0,rfl⟩
end
structure jW (h:VQ) (x dx C:Vy) (mA:Str->Option Vw):Prop where
 obj:h.get? x=some (PJ C dx)
 ns:h.Ns1 dx mA
 ne:dx≠x
theorem FK{h:VQ}{dx:Vy}{mA:Str->Option Vw}(n:h.Ns1 dx mA):∃od,h.get? dx=some od/\∀name,SW name od=some (mA name):=by
 obtain⟨o,es,ep,ho,hd,hk,_,hm⟩:=n;refine⟨o,ho,λname=>?_⟩;have e:=hm name;unfold nsFind findBy at e;rw [<-Array.find?_toList] at e;unfold SW;rw [hd];dsimp only;split
 ·rename_i y q;rw [q] at e;exact congrArg some e
 ·rename_i q;rw [q] at e;have a:es.toList.any (·.refKey)=false:=by
   rw [List.any_eq_false];intro y hy;obtain⟨z,t,hkey⟩:=hk y (Tg.mp hy);simp [DictEntry.refKey,hkey]
  have a':¬es.toList.any (·.refKey)=true:=by rw [a];exact Nt
  rw [Vr a'];exact congrArg some e
theorem jW.look{h:VQ}{x dx C:Vy}{mA:Str->Option Vw}(I:jW h x dx C mA):∃od,PySem.W.InstAt h x (PJ C dx) C (some od)/\∀name,SW name od=some (mA name):=
 let ⟨od,ho,hl⟩:=FK I.ns
 ⟨od,⟨I.obj,rfl,rfl,ho⟩,hl⟩
section
variable {prog:VL} {w:VP} {A:VS} {E:Vw->Vz->Prop} {s:Vz} {K:Nh} {x dx C f:Vy} {mA:Str->Option Vw} {name:Str} {v:Vw}
theorem FL{expr:Bool}{Q:Vw->Vz->Prop}(X:K.In s.heap)(I:jW s.heap x dx C mA)(hg:Si K C name=true)(hh:RZ K C=true)
 (ha:Py K (.ref C) name=some none)(hv:mA name=some v)(hv':Ut v=true)(h:Q v {s with toks:=s.toks+1}):
 VC (VB prog w) A (getAttr (.ref x) name expr) Q E s:=by
 obtain⟨od,J,hl⟩:=I.look;exact PySem.W.get_value X J (PySem.W.plainGet_of hg).1 (PySem.W.findObj_own hh ha rfl (by rw [hl,hv])) hv' h
theorem FN{ns:List Str}{Q:Unit->Vz->Prop}(X:K.In s.heap)(I:jW s.heap x dx C mA)
 (hs:Py K (.ref C) "__setattr__"=some (some (.builtin "object.__setattr__")))(hp:Ub K C=true)(ht:SG K C name=some none)(hh:RZ K C=true)
 (hw:TJ mA ns)(hsz:ns.length<=VG)
 (h:∀h',jW h' x dx C (λy=>if y=name then some v else mA y)->PK dx s.heap h'->Q () {s with heap:=h',toks:=s.toks+2}):
 VC (VB prog w) A (setAttr (.ref x) name v) Q E s:=by
 obtain⟨od,J,hl⟩:=I.look;refine PySem.W.set_plain X J hs (PySem.W.osa_open (s:={s with toks:=s.toks+1}) (r:=none) X J hp ht λb=>?_);obtain⟨cd,hc,hd'⟩:=PySem.W.any_some hh;have hx:s.heap.get? x=some ⟨.ref C,some dx,.plain,#[]⟩:=I.obj;refine Vx (VA (Vx (Vx (wpAny_loadPart hx (Vx (PySem.W.Looks.here (s:={s with toks:=s.toks+1}) (PySem.W.looks_clsIn X hc) ?_))))));rw [hd'];refine VA (a:=some dx) (Vx (VA (Vx ?_)));refine wpAny_nsSet1 (s:={s with toks:=s.toks+1}) I.ns λh' hn2 hs2=>?_;obtain⟨oD,esD,epD,hoD,hdD,hcD⟩:=hn2.count (TJ.cons name v hw);refine Vx (wpAny_lookBehind hoD (by rw [hdD];exact pastItsLine_dict (NP hcD (by rw [NF];omega))) ?_);exact VA (h _ ⟨(hs2.2 _ (Ne.symm I.ne)).trans I.obj,hn2,I.ne⟩ hs2)
theorem FO{R:Result->Vz->Prop}{vs:List Vw}{kw:List (Str×Vw)}(X:K.In s.heap)(hm:SH K C=true)
 (hi:Py K (.ref C) "__init__"=some (some (.ref f)))(hf:PySem.W.typeIn K (.ref f)=some (.type "function"))
 (h:Ww (VB prog w) (A.under (.builtin "type.__call__" ⟨.ref C::vs,kw⟩)) (.call (.ref f) ⟨.ref (s.heap.objs.size+1)::vs,kw⟩) (PySem.W.InitBack (s.heap.objs.size+1) R)
   {s with heap:=(s.heap.push O4).push (PJ C s.heap.objs.size)}):
 Ww (VB prog w) A (.call (.ref C) ⟨vs,kw⟩) R s:=by
 obtain⟨hh,g,d,t,os⟩:=s;exact PySem.W.make_core (PySem.W.makes_of X hm) (PySem.W.looks_findIn X hi) (λself=>PySem.W.bind_fn X self hf) (.inl rfl) h
end
def dH(f:Str)(v:V):List (Str×V)->List (Str×V)
 | []=>[(f,v)]
 | (g,x)::r=>if g=f then(g,v)::r else(g,x)::dH f v r
theorem yP(f g:Str)(v:V):∀fs:List (Str×V),(dH f v fs).lookup g=if g=f then some v else fs.lookup g
 | []=>by
  show Qw g [(f,v)]=_;by_cases h:g=f
  ·have hb:(g==f)=true:=beq_iff_eq.mpr h;simp only [Qw,hb,Vs h]
  ·have hb:(g==f)=false:=beq_eq_false_iff_ne.mpr h;simp only [Qw,hb,Vr h]
 | (k,x)::r=>by
  have ih:=yP f g v r;rw [show dH f v ((k,x)::r)=(if k=f then(k,v)::r else(k,x)::dH f v r) from rfl];by_cases hk:k=f
  ·rw [Vs hk];by_cases h:g=k
   ·have hb:(g==k)=true:=beq_iff_eq.mpr h;simp only [Qw,hb,Vs (h.trans hk)]
   ·have hb:(g==k)=false:=beq_eq_false_iff_ne.mpr h;simp only [Qw,hb,Vr (λe:g=f=>h (e.trans hk.symm))]
  ·rw [Vr hk];by_cases h:g=k
   ·have hb:(g==k)=true:=beq_iff_eq.mpr h;simp only [Qw,hb,Vr (λe:g=f=>hk (h.symm.trans e))]
   ·have hb:(g==k)=false:=beq_eq_false_iff_ne.mpr h;simp only [Qw,hb];exact ih
theorem tE(f:Str)(v:V):∀fs:List (Str×V),f∈(dH f v fs).map (·.1)/\∀g,g∈fs.map (·.1)->g∈(dH f v fs).map (·.1)
 | []=>⟨by simp [dH],λg h=>by simp at h⟩
 | (k,x)::r=>by
  obtain⟨i1,i2⟩:=tE f v r;rw [show dH f v ((k,x)::r)=(if k=f then(k,v)::r else(k,x)::dH f v r) from rfl];by_cases hk:k=f
  ·rw [Vs hk];subst hk;exact⟨Vu,λg h=>by simpa using h⟩
  ·rw [Vr hk];refine⟨?_,λg h=>?_⟩
   ·rw [Nq];exact NY _ i1
   ·rw [Nq] at h⊢;rcases Ny.mp h with e | e
    ·exact Ny.mpr (.inl e)
    ·exact NY _ (i2 g e)
theorem yQ(f:Str)(v:V):∀fs:List (Str×V),(dH f v fs).length<=fs.length+1
 | []=>by simp [dH]
 | (k,x)::r=>by
  have ih:=yQ f v r;rw [show dH f v ((k,x)::r)=(if k=f then(k,v)::r else(k,x)::dH f v r) from rfl];by_cases hk:k=f
  ·rw [Vs hk,NF,NF];omega
  ·rw [Vr hk,NF,NF];omega
theorem eJ.some_of{v:V}{o:Option Vw}(r:eJ (some v) o):∃u,o=some u/\aD v u:=by
 cases o with
 | none=>exact(show False from r).elim
 | some u=>exact⟨u,rfl,r⟩
theorem FP{v:V}{u:Vw}(r:aD v u):Ut u=true:=by
 cases v with
 | non=>cases (show u=PH from r);rfl
 | bl b=>cases (show u=P0 b from r);rfl
 | int i=>obtain⟨t,e⟩:=(show ∃t,u=Pk i t from r);cases e;rfl
 | str x=>obtain⟨t,e⟩:=(show ∃t,u=Qi x t from r);cases e;rfl
 | byt b=>obtain⟨t,e⟩:=(show ∃t,u=Vb b t from r);cases e;rfl
 | flt b=>obtain⟨t,e⟩:=(show ∃t,u=Vc b t from r);cases e;rfl
 | ref a=>cases (show u=N0 a from r);rfl
 | ty n=>cases (show u=Qr n from r);rfl
section
variable {P:VL} {w:VP} {H H':Hp} {h h':VQ} {a C dx:Vy} {fs fs':List (Str×V)}
theorem yR(hok:bP P w H h)(e:H a=some (.ins C dx fs)):∃mA,jW h a dx C mA/\(∀f,eJ (fs.lookup f) (mA f))/\TJ mA (fs.map (·.1))/\fs.length<=1000/\H dx=some (.own a):=by
 obtain⟨d,z,ne,ob,mA,n,r,q⟩:=(show bV P w H h a (.ins C dx fs) from hok a _ e);exact⟨mA,⟨ob,n,ne⟩,r,q,z,d⟩
end
structure gO (K:Nh) (C:Vy):Prop where
 pg:Si K C Str.empty=true
 hd:RZ K C=true
 po:Ub K C=true
 sa:Py K (.ref C) "__setattr__"=some (some (.builtin "object.__setattr__"))
theorem gO.get{K:Nh}{C:Vy}(c:gO K C)(f:Str):Si K C f=true:=c.pg
def NoAttr(K:Nh)(C:Vy)(f:Str):Prop:=Py K (.ref C) f=some none
theorem NoAttr.taker{K:Nh}{C:Vy}{f:Str}(n:NoAttr K C f):SG K C f=some none:=by
 unfold SG;rw [show Py K (.ref C) f=some none from n];rfl
section
variable {X:Cx} {Xw:List (Vy×Obj)} {σ:St} {H:Hp} {s:Vz} {a C dx:Vy} {fs:List (Str×V)} {f:Str} {v:V} {A:VS} {E:Vw->Vz->Prop}
theorem FQ{b:Bool}{Q:Vw->Vz->Prop}(I:af X Xw σ H s)(e:H a=some (.ins C dx fs))(c:gO X.K C)(n:NoAttr X.K C f)(l:fs.lookup f=some v)
 (h:∀u s',af X Xw σ H s'->aD v u->Q u s'):VC (VB X.prog X.w) A (getAttr (.ref a) f b) Q E s:=by
 obtain⟨mA,O,r,_,_,_⟩:=yR I.hok e;obtain⟨u,hu,ru⟩:=eJ.some_of (v:=v) (o:=mA f) (by rw [<-l];exact r f);exact FL I.kIn O (c.get f) c.hd n hu (FP ru) (h u _ (I.tok _) ru)
theorem FT{y:V}{u:Vw}{Q:Unit->Vz->Prop}(I:af X Xw σ H s)(e:H a=some (.ins C dx fs))(c:gO X.K C)(n:NoAttr X.K C f)(hl:fs.length < 1000)(ry:aD y u)
 (h:∀s',af X Xw σ (ak H a (.ins C dx (dH f y fs))) s'->Q () s'):VC (VB X.prog X.w) A (setAttr (.ref a) f u) Q E s:=by
 obtain⟨mA,O,r,wi,_,ho⟩:=yR I.hok e;have hz:(fs.map (·.1)).length<=VG:=by rw [Nj,V6];omega
 refine FN I.kIn O c.sa c.po n.taker c.hd wi hz λh' O' sb=>h _ ?_;have hd:∃o,h'.get? dx=some o:=let ⟨o,_,_,e',_⟩:=O'.ns;⟨o,e'⟩
 refine I.write (x:=a) (e:=dx) (by rw [e];exact OE) (.inr ho) (λb q hb z=>(sb.2 b hb).trans z) hd ?_;refine⟨by rw [aE O.ne];exact ho,?_,O.ne,O'.obj,_,O'.ns,λg=>?_,λg hg=>?_⟩
 ·have:=yQ f y fs;omega
 ·show eJ ((dH f y fs).lookup g) (if g=f then some u else mA g);rw [yP];by_cases q:g=f
  ·rw [Vs q,Vs q];exact ry
  ·rw [Vr q,Vr q];exact r g
 ·by_cases q:g=f
  ·rw [q];exact(tE f y fs).1
  ·refine(tE f y fs).2 g (wi g λz=>hg ?_);show(if g=f then some u else mA g)=none;rw [Vr q];exact z
theorem af.made(I:af X Xw σ H s):af X Xw σ (ak (ak H s.heap.objs.size (.own (s.heap.objs.size+1))) (s.heap.objs.size+1) (.ins C s.heap.objs.size []))
 {s with heap:=(s.heap.push O4).push (PJ C s.heap.objs.size)}:=by
 have e1:(s.heap.push O4).get? s.heap.objs.size=some O4:=NH s.heap rfl;have e2:((s.heap.push O4).push (PJ C s.heap.objs.size)).get? (s.heap.objs.size+1)=some (PJ C s.heap.objs.size):=by
  have:=NH (s.heap.push O4) (o:=PJ C s.heap.objs.size) rfl
  rwa [Ql] at this
 have e3:(s.heap.push O4).Ns s.heap.objs.size (λ_=>none):=⟨O4,#[],_,e1,rfl,(λe he=>absurd he Vu),λ_=>rfl⟩;have I1:=I.laid (a:=s.heap.objs.size) (o:= .own (s.heap.objs.size+1)) (h':=s.heap.push O4) (t':=s.toks) (λb u q=>Nm _ q) (Np _) ⟨_,e1⟩;refine I1.laid (a:=s.heap.objs.size+1) (o:= .ins C s.heap.objs.size []) (t':=s.toks) (λb u q=>Nm _ q) (U7 (Ql _ _)) ?_;have ne:s.heap.objs.size≠s.heap.objs.size+1:=NL (Pw _);refine⟨by rw [aE ne,aW],N9 _,ne,e2,λ_=>none,(Heap.Ns1.of_empty e3).at λo q=>Nm _ q,λ_=>OE,λy hy=>absurd rfl hy⟩
theorem FU{prog:VL}{w:VP}{env:Env}{e:VE}{f:Str}{pos:Pos}{s:Vz}{Q:Vw->Vz->Prop}(hb:Wj e f env (eval e env)=eval e env)
 (h:VC (VB prog w) A (eval e env) (λo s₁=>VC (VB prog w) A (getAttr o f true) Q E s₁) E s):VC (VB prog w) A (eval (.Attribute e f pos) env) Q E s:=
 Attribute_any_ h (by rw [arm_eval_Attribute,hb])
end
def FV(K:Nh)(ta:TE)(f:Str):TE:=λσ H Q=>ta σ H λx H1=>∃a C dx fs v,x= .ref a/\H1 a=some (.ins C dx fs)/\gO K C/\NoAttr K C f/\fs.lookup f=some v/\Q v H1
def FW(K:Nh)(ta tv:TE)(f:Str):TS:=λD σ H=>tv σ H λy H1=>ta σ H1 λx H2=>∃a C dx fs,x= .ref a/\H2 a=some (.ins C dx fs)/\gO K C/\NoAttr K C f/\fs.length < 1000/\
 D.nx σ (ak H2 a (.ins C dx (dH f y fs)))
section
variable {X:Cx} {o e value:VE} {f:Str} {pos pos' tpos:Pos} {ta tv:TE}
theorem FX(he:PE X e ta)(hb:Wj e f X.env (eval e X.env)=eval e X.env):PE X (.Attribute e f pos) (FV X.K ta f):=by
 intro Xw s σ H Q I h;refine FU hb (aA (he Xw s σ H _ I h) λu s1 ⟨x,H1,I1,rx,a,C,dx,fs,v,ex,ea,c,n,l,q⟩=>?_);subst ex;obtain rfl:u=N0 a:=rx;exact FQ I1 ea c n l λu' s2 I2 ru=>⟨v,H1,I2,ru,q⟩
theorem FY(ha:PE X o ta)(hv:PE X value tv)(hs:V5 value (some (.Attribute o f pos')) pos.line X.env=pure false):PS X (.Assign [.Attribute o f pos'] value pos) (FW X.K ta tv f):=by
 intro Xw s σ H D I h;refine plainObj_wpAny_Assign_Attribute (aA (hv Xw s σ H _ I h) λu s1 ⟨y,H1,I1,ry,q⟩=>aA (ha Xw s1 σ H1 _ I1 q) λov s2 ⟨x,H2,I2,rx,a,C,dx,fs,ex,ea,c,n,l,q2⟩=>?_) hs;subst ex;obtain rfl:ov=N0 a:=rx;exact FT I2 ea c n l ry λs3 I3=>⟨σ,_,I3,q2⟩
end
structure bx (k:Nat) (A:VS):Prop where
 hd:A.handled=none
 dp:A.depth+3*k+5 < recursionLimit
 un:A.units+16*k+200 < V9
theorem bx.mono{j k:Nat}{A:VS}(r:bx k A)(h:j<=k):bx j A:=⟨r.hd,by have:=r.dp;omega,by have:=r.un;omega⟩
theorem bx.deeper{k:Nat}{A:VS}(r:bx (k+1) A)(env:Env):bx k (A.deeper env):=
 ⟨r.hd,by have:=r.dp;show A.depth+1+3*k+5 < _;omega,by have:=r.un;show A.units+3+16*k+200 < _;omega⟩
theorem bx.in1{k:Nat}{A:VS}(r:bx (k+1) A):bx k A.in1:=
 ⟨r.hd,by have:=r.dp;show A.depth+3*k+5 < _;omega,by have:=r.un;show A.units+1+16*k+200 < _;omega⟩
theorem FZ{A:VS}{C:Vy}{us:List Vw}{kw:List (Str×Vw)}:(A.under (.builtin "type.__call__" ⟨.ref C::us,kw⟩)).depth=A.depth+1:=by
 first | rfl | simp [TK,Code.weight,Code.isCreation,Code.isGuard,Code.isCaller,Vf,TL,guardIds]
theorem F0{A:VS}{C:Vy}{us:List Vw}{kw:List (Str×Vw)}:(A.under (.builtin "type.__call__" ⟨.ref C::us,kw⟩)).units=A.units+1:=by
 first | rfl | simp [TK,Code.cUnits,Vf,TL]
theorem bx.make{k:Nat}{A:VS}(r:bx (k+1) A)(C:Vy)(us:List Vw)(kw:List (Str×Vw)):bx k (A.under (.builtin "type.__call__" ⟨.ref C::us,kw⟩)):=
 ⟨r.hd,by have:=r.dp;rw [FZ];omega,by have:=r.un;rw [F0];omega⟩
theorem bx.depth{k:Nat}{A:VS}(r:bx k A):A.depth < recursionLimit:=by have:=r.dp;omega
theorem bx.units{k:Nat}{A:VS}(r:bx k A):A.units+64 < V9:=by have:=r.un;omega
theorem bx.units0{k:Nat}{A:VS}(r:bx k A):A.units < V9:=by have:=r.un;omega
def yS:TA:=λ_ H Q=>Q [] H
def yT(ta:TE)(tr:TA):TA:=λσ H Q=>ta σ H λx H1=>tr σ H1 λxs H2=>Q (x::xs) H2
section
variable {X:Cx} {e:VE} {es:List VE} {te:TE} {t:TA} {pos:Pos}
theorem bR:PA X [] yS:=λ_ _ _ _ H Q I h=>Uc ⟨[],H,I,.nil,h⟩
theorem bf(ha:PE X e te)(hr:PA X es t)(hs:VH (e::es) X.env=(false,eval e X.env)::VH es X.env:=by rfl):PA X (e::es) (yT te t):=by
 intro pos Xw s σ H Q I h;rw [hs];show VC _ _ (spliced ((false,eval e X.env)::V1 pos (VH es X.env))) _ _ s;refine TM (aA (ha Xw s σ H _ I h) λu s1 ⟨x,H1,I1,r1,q1⟩=>?_);exact aA (hr pos Xw s1 σ H1 _ I1 q1) λus s2 uu43=>by obtain⟨xs,H2,I2,r2,q2⟩:=uu43;exact⟨x::xs,H2,I2,.cons r1 r2,q2⟩
def yU(t:TA):TE:=λσ H Q=>t σ H λxs H1=>xs.length<=VG/\∀p,H1 p=none->Q (.ref p) (ak H1 p (.tup xs))
def yV(t:TA):TE:=λσ H Q=>t σ H λxs H1=>xs.length<=VG/\∀p,H1 p=none->Q (.ref p) (ak H1 p (.lst xs))
theorem yW{x1}(h:PA X es t):PE X (.Tuple es x1 pos) (yU t):=by
 intro Xw s σ H Q I hq;refine wpAny_Tuple_spliced (aA (h pos Xw s σ H _ I hq) λus s1 ⟨xs,H1,I1,r,z,q⟩=>⟨by rw [<-r.length];exact z,?_⟩);have hf:H1 s1.heap.objs.size=none:=I1.hok.fresh (Np _);refine⟨.ref s1.heap.objs.size,ak H1 s1.heap.objs.size (.tup xs),I1.laid (t':=s1.toks) (λb u e=>Nm _ e) (Np _) ?_,rfl,q _ hf⟩;exact⟨z,us,r,⟨_,NH _ rfl,rfl,_,rfl⟩⟩
theorem nS(h:PA X es t):PE X (.List es pos) (yV t):=by
 intro Xw s σ H Q I hq;refine wpAny_List_spliced (aA (h pos Xw s σ H _ I hq) λus s1 ⟨xs,H1,I1,r,z,q⟩=>⟨by rw [<-r.length];exact z,?_⟩);have hf:H1 s1.heap.objs.size=none:=I1.hok.fresh (Np _);refine⟨.ref s1.heap.objs.size,ak H1 s1.heap.objs.size (.lst xs),I1.laid (t':=s1.toks) (λb u e=>Nm _ e) (Np _) ?_,rfl,q _ hf⟩;exact⟨z,us,0,r,NH _ rfl⟩
end
abbrev Sp:=List V->Hp->VK->XK->Prop
abbrev d5:=List Env->Hp->Vz->XK->Vw->Vz->Prop
structure gP (P:VL) (w:VP) (K:Nh) (mg:Str->Option Vw) (base:VQ) (A:VS) (outer:List Env) (s:Vz) (H:Hp):Prop where
 frames:A.frames=some outer
 mod:Mod K mg base
 bs:∀b o,base.get? b=some o->s.heap.get? b=some o/\H b=none
 bsz:base.objs.size<=s.heap.objs.size
 funs:s.heap.FunFrames base outer
 frf:∀b∈fk outer,H b=none
 hok:bP P w H s.heap
 bare:W9 s.gens
def CE(outer:List Env)(P:VL)(w:VP)(H:Hp)(s:Vz)(Q:VK)(u:Vw)(s':Vz):Prop:=
 ∃v H',s'.os=s.os/\W9 s'.gens/\Un (fk outer) [] H H' s.heap s'.heap/\bP P w H' s'.heap/\aD v u/\Q v H'
def CR(CX:d5)(outer:List Env)(P:VL)(w:VP)(H:Hp)(s:Vz)(Q:VK)(E:XK)(r:Result)(s':Vz):Prop:=
 match r with
 | .ok (.ret u)=>CE outer P w H s Q u s'
 | .ok _=>False
 | .error e=>CX outer H s E e s'
structure aH (P:VL) (w:VP) (K:Nh) (mg:Str->Option Vw) (base:VQ) (CX:d5) (k:Nat) (f:Vy) (fd:VN) (ps:List Str) (sp:Sp):Prop where
 len:∀vs H Q E,sp vs H Q E->vs.length=ps.length
 run:∀(A:VS)(outer:List Env)(s:Vz)(H:Hp)(args:Args)(us:List Vw)(vs:List V)(Q:VK)(E:XK),bx k A->gP P w K mg base A outer s H->BindsTo s fd args (ps.zip us)->aC vs us->sp vs H Q E->
  Ww (VB P w) A (.call (.ref f) args) (CR CX outer P w H s Q E) s
theorem aH.imp{P:VL}{w:VP}{K:Nh}{mg:Str->Option Vw}{base:VQ}{CX:d5}{k:Nat}{f:Vy}{fd:VN}{ps:List Str}{sp sp':Sp}(F:aH P w K mg base CX k f fd ps sp)
 (h:∀vs H Q E,sp' vs H Q E->sp vs H Q E):aH P w K mg base CX k f fd ps sp':=
 ⟨λvs H Q E q=>F.len vs H Q E (h _ _ _ _ q),λA outer s H args us vs Q E hr he hb hv hs=>F.run A outer s H args us vs Q E hr he hb hv (h _ _ _ _ hs)⟩
theorem gP.make{P:VL}{w:VP}{K:Nh}{mg:Str->Option Vw}{base:VQ}{A:VS}{outer:List Env}{s:Vz}{H:Hp}(e:gP P w K mg base A outer s H)(C:Vy)(us:List Vw)(kw:List (Str×Vw)):
 gP P w K mg base (A.under (.builtin "type.__call__" ⟨.ref C::us,kw⟩)) outer s H:=⟨by first | exact e.frames | (simpa [TK,Code.envs,TL,pushEnvs] using e.frames),e.mod,e.bs,e.bsz,e.funs,e.frf,e.hok,e.bare⟩
theorem gP.in1{P:VL}{w:VP}{K:Nh}{mg:Str->Option Vw}{base:VQ}{A:VS}{outer:List Env}{s:Vz}{H:Hp}(e:gP P w K mg base A outer s H):
 gP P w K mg base A.in1 outer s H:=⟨e.frames,e.mod,e.bs,e.bsz,e.funs,e.frf,e.hok,e.bare⟩
section
variable {X:Cx} {Xw:List (Vy×Obj)} {σ:St} {H:Hp} {s s':Vz}
theorem af.env0(I:af X Xw σ H s):gP X.prog X.w X.K X.mg X.base X.A X.stack s H:=
 ⟨I.ok.frames,I.ok.mod,I.bs,NP I.ok.bsz I.sz,I.stack,I.stkFree,I.hok,I.bare⟩
theorem af.after{Q:VK}{u:Vw}(I:af X Xw σ H s)(h:CE X.stack X.prog X.w H s Q u s'):EP X Xw σ Q u s':=by
 obtain⟨v,H',os,bare,un,hok,r,q⟩:=h;obtain⟨hh,g,d,t,os'⟩:=s';obtain rfl:os'=s.os:=os;exact⟨v,H',I.call (h':=hh) (g':=g) (d':=d) (t':=t) (ch:=[]) un hok bare (λb z=>absurd z Vu),r,q⟩
end
def nT(sp:Sp)(dvs:List V)(E:XK)(t:TA):TE:=λσ H Q=>t σ H λvs H1=>sp (vs++dvs) H1 Q E
def yX(C:Vy)(sp:Sp)(dvs:List V)(E:XK)(t:TA):TE:=λσ H Q=>t σ H λvs H1=>∀x dx,H1 x=none->H1 dx=none->dx≠x->
 sp (.ref x::(vs++dvs)) (ak (ak H1 dx (.own x)) x (.ins C dx [])) (λv H2=>v= .non/\Q (.ref x) H2) E
def eX(K:Nh)(fd:VN)(ps:List Str)(ds:List Vw):Prop:=
 ∀(s:Vz)(us:List Vw),K.In s.heap->(us++ds).length=ps.length->BindsTo s fd ⟨us,[]⟩ (ps.zip (us++ds))
theorem eX.all{K:Nh}{fd:VN}{ps:List Str}(h:∀us:List Vw,us.length=ps.length->bindArgs fd ⟨us,[]⟩=pure (ps.zip us)):eX K fd ps []:=λs us _ hl=>by
 rw [N4] at hl⊢;exact .of_eq (h us hl)
def lO(CX:d5)(X:Cx)(E:XK):Prop:=∀(Xw:List (Vy×Obj))(σ:St)(H:Hp)(s:Vz)(e:Vw)(s':Vz),af X Xw σ H s->CX X.stack H s E e s'->X.xe e s'
section
variable {X:Cx} {CX:d5} {k:Nat} {f C:Vy} {fd:VN} {ps:List Str} {sp:Sp} {dvs:List V} {ds:List Vw} {E:XK} {x m:Str} {p pos apos:Pos} {e o:VE} {es:List VE} {ta:TE} {t:TA}
theorem F1{Xw:List (Vy×Obj)}{σ:St}{H:Hp}{s:Vz}{Q:VK}{us:List Vw}{vs:List V}(F:aH X.prog X.w X.K X.mg X.base CX k f fd ps sp)(hr:bx k X.A)(hb:eX X.K fd ps ds)(hd:aC dvs ds)(hx:lO CX X E)
 (I:af X Xw σ H s)(r:aC vs us)(h:sp (vs++dvs) H Q E):VC (VB X.prog X.w) X.A (call (.ref f) us) (EP X Xw σ Q) X.xe s:=by
 have r2:aC (vs++dvs) (us++ds):=r.append hd;have hl:(us++ds).length=ps.length:=by rw [<-r2.length];exact F.len _ _ _ _ h
 refine wpAny_call (Wx (F.run X.A X.stack s H ⟨us,[]⟩ (us++ds) (vs++dvs) Q E hr I.env0 (hb s us I.kIn hl) r2 h) λr s' hq=>?_);cases r with
 | error e=>exact hx Xw σ H s e s' I hq
 | ok fl=>
  cases fl with
  | ret u=>exact I.after hq
  | next=>exact O3 hq
  | brk=>exact O3 hq
  | cont=>exact O3 hq
theorem F2(F:aH X.prog X.w X.K X.mg X.base CX k f fd ps sp)(hr:bx k X.A)(hg:Gl X x)(hm:X.mg x=some (.ref f))(hk:PQ X.K (.ref f)=true)(hb:eX X.K fd ps ds)(hd:aC dvs ds)(hx:lO CX X E)
 (ha:PA X (e::es) t)(hdb:(x==("__debug__":Str))=false:=by decide)(he:VH (e::es) X.env=(false,eval e X.env)::VH es X.env:=by rfl)(hpl:(V1 pos (VH es X.env)).any (·.1)=false:=by rfl):
 PE X (.Call (.Name x p) (e::es) [] pos) (nT sp dvs E t):=by
 intro Xw s σ H Q I h;refine WD (nB I hg hm ?_ hdb);refine TN (h₀:=X.base) I.ok.mod.kin hk (aA (ha pos Xw s σ H _ I h) λus s1 ⟨vs,H1,I1,r,q⟩=>⟨I1.kIn,?_⟩) he hpl;exact F1 F hr hb hd hx I1 r q
structure Mk (K:Nh) (C f:Vy):Prop where
 makes:SH K C=true
 init:Py K (.ref C) "__init__"=some (some (.ref f))
 fn:TQ K (.ref f)=true
 kp:PQ K (.ref C)=true
theorem F3{Xw:List (Vy×Obj)}{σ:St}{H:Hp}{s:Vz}{Q:VK}{us:List Vw}{vs:List V}(M:Mk X.K C f)(F:aH X.prog X.w X.K X.mg X.base CX k f fd ps sp)(hr:bx (k+1) X.A)(hb:eX X.K fd ps ds)(hd:aC dvs ds)
 (hx:lO CX X E)(I:af X Xw σ H s)(r:aC vs us)
 (h:∀x dx,H x=none->H dx=none->dx≠x->sp (.ref x::(vs++dvs)) (ak (ak H dx (.own x)) x (.ins C dx [])) (λv H2=>v= .non/\Q (.ref x) H2) E):
 VC (VB X.prog X.w) X.A (call (.ref C) us) (EP X Xw σ Q) X.xe s:=by
 have hq:=h (s.heap.objs.size+1) s.heap.objs.size (I.hok.fresh (Qj _)) (I.hok.fresh (Np _)) (NL (Pw _));have I2:=af.made (C:=C) I;have r2:aC (V.ref (s.heap.objs.size+1)::(vs++dvs)) (N0 (s.heap.objs.size+1)::(us++ds)):= .cons rfl (r.append hd);have hl:(N0 (s.heap.objs.size+1)::us++ds).length=ps.length:=by
  have e:=r2.length;rw [F.len _ _ _ _ hq] at e;exact e.symm
 refine wpAny_call (FO (f:=f) I.kIn M.makes M.init (beq_iff_eq.mp M.fn) (Wx (F.run _ X.stack _ _ ⟨N0 (s.heap.objs.size+1)::us,[]⟩ (N0 (s.heap.objs.size+1)::(us++ds)) _ _ E (hr.make C us [])
  (I2.env0.make C us []) (hb _ (N0 (s.heap.objs.size+1)::us) I2.kIn hl) r2 hq) λr s' hq'=>?_))
 cases r with
 | error e=>exact hx Xw σ _ _ e s' I2 hq'
 | ok fl=>
  cases fl with
  | ret u=>
   obtain⟨v,H',I3,rv,ev,q3⟩:=I2.after hq';subst ev;exact⟨rv,⟨V.ref (s.heap.objs.size+1),H',I3,rfl,q3⟩⟩
  | next=>exact O3 hq'
  | brk=>exact O3 hq'
  | cont=>exact O3 hq'
theorem yY(M:Mk X.K C f)(F:aH X.prog X.w X.K X.mg X.base CX k f fd ps sp)(hr:bx (k+1) X.A)(hg:Gl X x)(hm:X.mg x=some (.ref C))(hb:eX X.K fd ps ds)(hd:aC dvs ds)(hx:lO CX X E)
 (ha:PA X (e::es) t)(hdb:(x==("__debug__":Str))=false:=by decide)(he:VH (e::es) X.env=(false,eval e X.env)::VH es X.env:=by rfl)(hpl:(V1 pos (VH es X.env)).any (·.1)=false:=by rfl):
 PE X (.Call (.Name x p) (e::es) [] pos) (yX C sp dvs E t):=by
 intro Xw s σ H Q I h;refine WD (nB I hg hm ?_ hdb);refine TN (h₀:=X.base) I.ok.mod.kin M.kp (aA (ha pos Xw s σ H _ I h) λus s1 ⟨vs,H1,I1,r,q⟩=>⟨I1.kIn,?_⟩) he hpl;exact F3 M F hr hb hd hx I1 r q
end
section
variable {X:Cx} {CX:d5} {k:Nat} {f C:Vy} {fd:VN} {ps ks:List Str} {sp:Sp} {E:XK} {x m:Str} {p pos apos kpos:Pos} {e o:VE} {es:List VE} {kws:List Ws} {te ta:TE} {t tk:TA} {nm:Option Str}
variable {g:List Vw->List Vw->List Vw} {gV:List V->List V->List V}
end
structure aT (N P:List Str) (sc:We):Prop where
 kind:sc.kind= .function
 co:sc.isCoroutine=false
 gen:sc.isGenerator=false
 nd:N.Nodup
 pre:N.take P.length=P
 par:∀x∈P,sc.names.lookup x=some .local\/sc.names.lookup x=some .cell
 nofree:∀y∈sc.names,y.2≠ .free
theorem yZ{kindOf:Str->Option Wg}{x:Str}:∀{binds:List (Str×Vw)}{m:Str->Option Vw},(∀v,(x,v)∉ binds)->bindL kindOf binds m x=m x
 | [],_,_=>rfl
 | (n,v)::r,m,h=>by
  unfold bindL;rw [yZ λw hw=>h w (NY _ hw)];split
  ·have:x≠n:=by rintro rfl;exact h v Ob
   simp [this]
  ·rfl
theorem y3{kindOf:Str->Option Wg}{x:Str}:∀{binds:List (Str×Vw)}{m:Str->Option Vw},(∀v,(x,v)∉ binds)->bindC kindOf binds m x=m x
 | [],_,_=>rfl
 | (n,v)::r,m,h=>by
  unfold bindC;rw [y3 λw hw=>h w (NY _ hw)];split
  ·rfl
  ·have:x≠n:=by rintro rfl;exact h v Ob
   simp [this]
theorem y4{kindOf:Str->Option Wg}{x:Str}{v:Vw}:∀{P:List Str}{vs:List Vw}{i:Nat}{m:Str->Option Vw},P.Nodup->P[i]?=some x->vs[i]?=some v->kindOf x=some .local->
 bindL kindOf (P.zip vs) m x=some v
 | [],_,_,_,_,h,_,_=>by simp at h
 | _::_,[],_,_,_,_,h,_=>by simp at h
 | p::P,w::vs,0,m,nd,h1,h2,hk=>by
  simp at h1 h2;subst h1;subst h2;show bindL kindOf ((p,w)::P.zip vs) m p=_;unfold bindL;rw [yZ λv hv=>(OX.mp nd).1 (SI hv).1,Vs hk];simp
 | p::P,w::vs,i+1,m,nd,h1,h2,hk=>by
  show bindL kindOf ((p,w)::P.zip vs) m x=_;unfold bindL;exact y4 (i:=i) (OX.mp nd).2 (by simpa using h1) (by simpa using h2) hk
theorem y6{kindOf:Str->Option Wg}{x:Str}{v:Vw}:∀{P:List Str}{vs:List Vw}{i:Nat}{m:Str->Option Vw},P.Nodup->P[i]?=some x->vs[i]?=some v->kindOf x≠some .local->
 bindC kindOf (P.zip vs) m x=some v
 | [],_,_,_,_,h,_,_=>by simp at h
 | _::_,[],_,_,_,_,h,_=>by simp at h
 | p::P,w::vs,0,m,nd,h1,h2,hk=>by
  simp at h1 h2;subst h1;subst h2;show bindC kindOf ((p,w)::P.zip vs) m p=_;unfold bindC;rw [y3 λv hv=>(OX.mp nd).1 (SI hv).1,Vr hk];simp
 | p::P,w::vs,i+1,m,nd,h1,h2,hk=>by
  show bindC kindOf ((p,w)::P.zip vs) m x=_;unfold bindC;exact y6 (i:=i) (OX.mp nd).2 (by simpa using h1) (by simpa using h2) hk
def start(N:List Str)(vs:List V):St:=vs.map some++NG (N.length - vs.length) none
def hU(CX:d5)(P:VL)(w:VP)(K:Nh)(mg:Str->Option Vw)(base:VQ)(N:List Str)(qual:Str)(scope:We)(f:Vy)(cd:Vw)(A:VS)(outer:List Env)(s:Vz)(H:Hp)(E:XK):Cx where
 prog:=P
 w:=w
 K:=K
 mg:=mg
 base:=base
 A:=A.deeper (W2 qual scope s.heap.objs.size f cd)
 N:=N
 s₀:=s
 H₀:=H
 env:=W2 qual scope s.heap.objs.size f cd
 outer:=outer
 stack:=W2 qual scope s.heap.objs.size f cd::outer
 ex:=[]
 calm:=true
 fn:=λ_=>true
 pn:=[]
 xe:=λe s'=>VC (VB P w) (A.deeper (W2 qual scope s.heap.objs.size f cd)) (leaving (W2 qual scope s.heap.objs.size f cd) e) (λ_ s''=>CX outer H s E e s'') (λe' s''=>CX outer H s E e' s'') s'
theorem y8{sc:We}{n:Nat}{x:Str}(h:sc.names.lookup x=some .cell):∃c,(Wb n sc.names []).lookup x=some c:=by
 have q:=Rg sc.names n [] (.inl h);exact Q0.mp q
theorem F4{CX:d5}{P:VL}{w:VP}{K:Nh}{mg:Str->Option Vw}{base:VQ}{N ps:List Str}{qual:Str}{scope:We}{f:Vy}{cd:Vw}{A:VS}{outer:List Env}{s s1:Vz}{H:Hp}{E:XK}{us:List Vw}{vs:List V}
 (S:aT N ps scope)(hd:A.handled=none)(e0:gP P w K mg base A outer s H)(hl:vs.length=ps.length)(r:aC vs us)
 (x:InCallC s s.heap.objs.size (bindL (W2 qual scope s.heap.objs.size f cd).kindOf (ps.zip us) λ_=>none) (Wb (s.heap.objs.size+1) scope.names []) (bindC (W2 qual scope s.heap.objs.size f cd).kindOf (ps.zip us) λ_=>none) s1):
 af (hU CX P w K mg base N qual scope f cd A outer s H E) [] (start N vs) H s1:=by
 have hpl:ps.length<=N.length:=by have:=congrArg Uq S.pre;rw [NS] at this;omega
 obtain⟨h1,tk,rfl,hk⟩:=x.done;have noA:∀b:Vy,b ∉ (hU CX P w K mg base N qual scope f cd A outer s H E).ex:=λb z=>absurd (show b∈([]:List Vy) from z) Vu;refine⟨⟨e0.mod,S.kind,rfl,rfl,Np _,λy z c h1 h2=>?_,λy hy=>?_,λy c _ h=>?_,λ_=>hd,Around.frames_deeper e0.frames,.inr ⟨rfl,rfl⟩,λb z=>absurd z (noA b),e0.bs,e0.bsz,λb _ _=>noA b,λb z=>absurd z (noA b),e0.funs,e0.frf⟩,
  rfl,e0.bare,Un.kept hk,⟨_,x.toInCall.ns,λi y v h1 h2 h3=>?_⟩,λy c h=>⟨_,x.cell y c h⟩,e0.hok.fresh (Np _),λy c h=>?_,λp hp=>absurd (show p∈([]:List (Vy×Obj)) from hp) Vu,e0.hok.kept hk,?_⟩
 ·exact name_of_addr x.apart (Pm h1) (Pm h2)
 ·have hy:scope.names.lookup y=some .cell\/scope.names.lookup y=some .free:=hy;rcases hy with hy | hy
  ·exact y8 hy
  ·exact absurd rfl (S.nofree _ (Pm hy))
 ·exact Po (x.above y c (Pm h))
 ·have hi:i < vs.length:=by
   unfold start at h2;by_cases hi:i < vs.length
   ·exact hi
   ·rw [Oy (by simpa using hi)] at h2;rw [Qo] at h2;split at h2 <;> cases h2
  have ha:vs[i]?=some v:=by
   unfold start at h2;rw [OQ (by simpa using hi),NK] at h2;cases e:vs[i]? with
   | none=>rw [e] at h2;cases h2
   | some a=>rw [e] at h2;cases h2;rfl
  obtain⟨u,hu,rv⟩:=r.get ha;have hp:ps[i]?=some y:=by
   rw [<-S.pre,List.getElem?_take_of_lt Vq];exact h1
  have ndP:ps.Nodup:=by rw [<-S.pre];exact S.nd.sublist (Qb _ _)
  refine⟨u,rv,?_⟩;rcases S.par y (NT hp) with k | k
  ·exact .inl ⟨k,y4 ndP hp hu k⟩
  ·obtain⟨c,e⟩:=y8 (n:=s.heap.objs.size+1) k;refine .inr ⟨.inl k,c,e,?_⟩;have q:=x.cell y c e;rw [y6 ndP hp hu (by show scope.names.lookup y≠_;rw [k];decide)] at q;exact q
 ·exact e0.hok.fresh (Po (x.above y c (Pm h)))
 ·unfold start;show _=N.length;rw [Oc,Nj,Pz];omega
theorem F5{CX:d5}{P:VL}{w:VP}{K:Nh}{mg:Str->Option Vw}{base:VQ}{k:Nat}{f:Vy}{name qual:Str}{params:Arguments}{body:List VT}{scope:We}{dV kV doc pm cdv ct oc:Vw}{an od:Option Vy}
 {osl:Array (Option Vw)}{N ps:List Str}{sp:Sp}(lk:K.lookup f=some ⟨oc,od,.func (Pa name qual params body scope dV kV doc pm an cdv ct),osl⟩)(hcd:Q6 K cdv qual=true)(S:aT N ps scope)
 (len:∀vs H Q E,sp vs H Q E->vs.length=ps.length)
 (hbody:∀(A:VS) (outer:List Env) (s:Vz) (H:Hp) (vs:List V) (Q:VK) (E:XK),bx k (A.deeper (W2 qual scope s.heap.objs.size f cdv))->sp vs H Q E->
   ∃t,bK (hU CX P w K mg base N qual scope f cdv A outer s H E) body t/\t {nx:=λ_ H'=>Q .non H',rt:=Q} (start N vs) H):
 aH P w K mg base CX (k+1) f (Pa name qual params body scope dV kV doc pm an cdv ct) ps sp:=by
 refine⟨len,λA outer s H args us vs Q E hr e0 hb r hsp=>?_⟩;have hl:=len _ _ _ _ hsp;have KX:K.In s.heap:=e0.mod.kin.keeps λb o e=>(e0.bs b o e).1;have lim:s.heap.NoLimit:=e0.mod.nolimit.keeps λb o e=>(e0.bs b o e).1;have hkind:∀y∈ps.zip us,scope.names.lookup y.1=some .local\/(scope.names.lookup y.1=some .cell/\((Wb (s.heap.objs.size+1) scope.names []).lookup y.1).isSome=true):=λuu48 hy=>by
  obtain⟨n,v⟩:=uu48;rcases S.par n (SI hy).1 with q | q
  ·exact .inl q
  ·exact .inr ⟨q,Rg _ _ _ (.inl q)⟩
 refine codeAny_call_function hr.depth (KX _ _ lk) rfl S.co S.gen rfl (PySem.W.codeRec_of KX hcd) (hb _ _ _ _ ?_);refine wpAny_newFunctionEnv_cells S.kind hkind λenv he s1 x=>?_;subst he;refine⟨lim.keeps x.toInCall.keep,codeAny_func ?_⟩;obtain⟨t,ht,hq⟩:=hbody A outer s H vs Q E (hr.deeper _) hsp;have I:af (hU CX P w K mg base N qual scope f cdv A outer s H E) [] (start N vs) H s1:=F4 S hr.hd e0 hl r x;refine V3 (ht [] s1 (start N vs) H _ I hq) (λfl s' hs=>?_) λe s' hs=>hs;have fin:∀{σ':St}{H':Hp}{v:V}{u:Vw},af (hU CX P w K mg base N qual scope f cdv A outer s H E) [] σ' H' s'->aD v u->Q v H'->CE outer P w H s Q u s':=
  λ{σ' H' v u} J rv q=>⟨v,H',J.os,J.bare,J.base,J.hok,rv,q⟩
 cases fl with
 | ret u=>
  obtain⟨v,σ',H',J,rv,q⟩:=hs;exact fin J rv q
 | next=>
  obtain⟨σ',H',J,q⟩:=hs;exact fin (v:=V.non) (u:=PH) J rfl q
 | brk=>
  obtain⟨_,_,_,q⟩:=hs;exact O3 q
 | cont=>
  obtain⟨_,_,_,q⟩:=hs;exact O3 q
section
variable {X:Cx} {x:Str} {p pos:Pos} {e:VE} {es:List VE} {t:TA} {id T:String} {r:List V->Hp->VK->Prop}
def nU(r:List V->Hp->VK->Prop)(t:TA):TE:=λσ H Q=>t σ H λvs H1=>r vs H1 Q
theorem bS(hc:cD X (.builtin id) r)(hg:Gl X x)(hm:X.mg x=none)(hv:VW x=some (.builtin id))(ha:PA X (e::es) t)(hn:x≠"__name__":=by decide)(hdb:(x==("__debug__":Str))=false:=by decide)
 (he:VH (e::es) X.env=(false,eval e X.env)::VH es X.env:=by rfl)(hpl:(V1 pos (VH es X.env)).any (·.1)=false:=by rfl):PE X (.Call (.Name x p) (e::es) [] pos) (nU r t):=by
 intro Xw s σ H Q I h;refine WD (jR I hg hm hv ?_ hn hdb);exact PyProof.Rows.callWith_builtin1 (aA (ha pos Xw s σ H _ I h) λus s1 uu49=>by obtain⟨vs,H1,I1,r1,q1⟩:=uu49;exact hc Xw s1 σ H1 vs us Q I1 r1 q1) he hpl
theorem d6(hc:cD X (.type T) r)(hg:Gl X x)(hm:X.mg x=none)(hv:VW x=some (.type T))(ha:PA X (e::es) t)(hn:x≠"__name__":=by decide)(hdb:(x==("__debug__":Str))=false:=by decide)
 (he:VH (e::es) X.env=(false,eval e X.env)::VH es X.env:=by rfl)(hpl:(V1 pos (VH es X.env)).any (·.1)=false:=by rfl):PE X (.Call (.Name x p) (e::es) [] pos) (nU r t):=by
 intro Xw s σ H Q I h;refine WD (jR I hg hm hv ?_ hn hdb);exact QG (aA (ha pos Xw s σ H _ I h) λus s1 uu50=>by obtain⟨vs,H1,I1,r1,q1⟩:=uu50;exact hc Xw s1 σ H1 vs us Q I1 r1 q1) he hpl
end
end L2
namespace HT
open PySem PyProof.Rows
theorem eqAt_int(A:VS)(s:Vz)(a:Int)(t:Tok)(c:Int)(u:Tok):∃e,Vk A s (.int a t) (.int c u) e/\(e=true↔a=c):=
 ⟨(a==c),Vk.int_int a t c u,Vu⟩
theorem rcLt_int(A:VS)(s:Vz)(a:Int)(t:Tok)(c:Int)(u:Tok)(prog:VL)(w:VP)(E:Vw->Vz->Prop)(Q:Vw->Vz->Prop)(h:Q (.bool (decide (a < c))) s):
 VC (VB prog w) A (richCompare .Lt (.int a t) (.int c u)) Q E s:=
 (PyProof.Rows.lt_int h:VC (VB prog w) A (VZ .Lt (.int a t) (.int c u)) Q E s)
section
open PySem.SeqAt
open PySem.AutoSeq1 (wpAny_loadPart')
open PySem.MeetsSeq PySem.MeetsSeq2 PySem.MeetsSeq3
end
section
variable {prog:VL} {w:VP} {A:VS} {E:Vw->Vz->Prop} {s:Vz}
def sIx(n d:Nat):Option Int->Nat
 | none=>d
 | some v=>if v < 0 then(v+(n:Int)).toNat else min v.toNat n
theorem tF(n d:Nat):sIx n d none=d:=rfl
theorem sIx_nat(n d k:Nat):sIx n d (some (k:Int))=min k n:=by
 show(if (k:Int) < 0 then((k:Int)+(n:Int)).toNat else min (k:Int).toNat n)=min k n;rw [Vr Vq,Pg]
theorem F6(n d:Nat)(hd:d<=n)(o:Option Int):sIx n d o<=n:=by
 cases o with
 | none=>exact hd
 | some v=>
  show(if v < 0 then(v+(n:Int)).toNat else min v.toNat n)<=n;by_cases hv:v < 0
  ·rw [Vs hv];omega
  ·rw [Vr hv];exact Uu _ _
theorem y9(v:Int)(n d:Nat):(if v < 0 then max (v+(n:Int)) 0 else min v (n:Int))=((sIx n d (some v):Nat):Int):=by
 show(if v < 0 then max (v+(n:Int)) 0 else min v (n:Int))=(((if v < 0 then(v+(n:Int)).toNat else min v.toNat n):Nat):Int);by_cases hv:v < 0
 ·simp only [Vs hv];omega
 ·simp only [Vr hv];omega
theorem F7(lo hi:Option Int)(n:Nat):QS lo hi 1 (n:Int)=(((sIx n 0 lo:Nat):Int),((sIx n n hi:Nat):Int)):=by
 have h1:¬((1:Int) < 0):=Vq
 unfold QS;simp only [h1,if_false];refine Prod.ext ?_ ?_
 ·cases lo with
  | none=>rfl
  | some v=>exact y9 v n 0
 ·cases hi with
  | none=>rfl
  | some v=>exact y9 v n n
theorem F8(i j:Nat):Qe (i:Int) (j:Int) 1=j - i:=by
 unfold Qe;have h1:(1:Int) > 0:=Vq
 simp only [h1,if_true,Int.ediv_one];split <;> omega
theorem z5{v:Vw}{o:Option Int}{Q:Option Int->Vz->Prop}(p:IsPart v o)(h:Q o s):VC (VB prog w) A (Builtin.Slice.slicePartIndex v) Q E s:=by
 cases p with
 | none=>exact slicePart_none h
 | int i t=>exact slicePart_int h
theorem sliceApplied_gen{sl:Vy}{vl vu:Vw}{lo hi:Option Int}{n:Nat}{Q:Int×Int×Nat->Vz->Prop}(hs:s.heap.IsSliceOf sl vl vu .none)(pl:IsPart vl lo)(pu:IsPart vu hi)
 (h:Q (((sIx n 0 lo:Nat):Int),1,sIx n n hi - sIx n 0 lo) s):VC (VB prog w) A (RQ (.ref sl) (pure (n:Int))) Q E s:=by
 obtain⟨os,hos,hcs,hds⟩:=id hs;unfold RQ U5;refine Vx (Vx (wpAny_field hos hds (x:=vl) rfl (Vx (wpAny_field hos hds (x:=vu) rfl (Vx (wpAny_field hos hds (x:= .none) rfl (VA ?_)))))));refine Vx (slicePart_none ?_);show VC _ _ (if ((1:Int)==0)=true then _ else _) _ _ s;rw [Vr Vp];refine Vx (z5 pl (Vx (z5 pu (Vx (VA ?_)))));show VC _ _ (match QS lo hi 1 (n:Int) with | (lo,hi)=>pure (lo,(1:Int),Qe lo hi 1)) _ _ s;rw [F7 lo hi n];show VC _ _ (pure (((sIx n 0 lo:Nat):Int),(1:Int),Qe ((sIx n 0 lo:Nat):Int) ((sIx n n hi:Nat):Int) 1)) _ _ s;rw [F8];exact VA h
theorem F9(xs:Array Vw)(i k:Nat):((OA k).filterMap λ(m:Nat)=>xs[((i:Int)+(m:Int)*1).toNat]?).toArray=((xs.toList.drop i).take k).toArray:=by
 have e:(λ(m:Nat)=>xs[((i:Int)+(m:Int)*1).toNat]?)=λm=>xs[i+m]?:=by
  funext m;have:((i:Int)+(m:Int)*1).toNat=i+m:=Vq
  rw [this]
 rw [e];have:=pick_run xs i k;rw [TR] at this;have e2:((λx=>xs[x]?)∘ λx=>i+x)=λm=>xs[i+m]?:=rfl;rw [e2] at this;rw [this]
theorem getItem_tuple_cut{t sl:Vy}{items:Array Vw}{vl vu:Vw}{lo hi:Option Int}{Q:Vw->Vz->Prop}(ht:IsTup s.heap t items)(hs:s.heap.IsSliceOf sl vl vu .none)(pl:IsPart vl lo)(pu:IsPart vu hi)
 (hw:¬(sIx items.size 0 lo=0/\sIx items.size items.size hi=items.size))
 (h:Q (.ref s.heap.objs.size) {s with heap:=s.heap.push {cls:= .type "tuple",data:= .seq ((items.toList.drop (sIx items.size 0 lo)).take (sIx items.size items.size hi - sIx items.size 0 lo)).toArray}})
 (hsz:items.size<=VG):VC (VB prog w) A (WL (.ref t) (.ref sl)) Q E s:=by
 have htake:sizeOk (.seq ((items.toList.drop (sIx items.size 0 lo)).take (sIx items.size items.size hi - sIx items.size 0 lo)).toArray):=by
  show((items.toList.drop (sIx items.size 0 lo)).take (sIx items.size items.size hi - sIx items.size 0 lo)).toArray.size<=VG;rw [NA,NS,Oo,Nu];omega
 have hj:sIx items.size items.size hi<=items.size:=F6 _ _ (Np _) hi;obtain⟨os,hos,hcs,hds⟩:=id hs;have hTs:s.TypeIs (.ref sl) "slice":=⟨os,hos,hcs⟩;unfold WL
 try with_reducible refine VY ?_
 first | refine Vx (VA ?_) | skip
 refine Vx (wpAny_sequenceKey ht.typeIs Vp ?_);refine Vx (Wf (name:=Ng "__getitem__") ht.typeIs PF
  (V7 PF ht.typeIs entry_tuple_getitem ?_ (args_tuple_getitem _ _)))
 show VC _ _ (RR (.ref t) >>=_) _ _ s;refine Vx (tupleItemsOf_ ht ?_);refine Vx (WM hTs ?_);rw [Vs Vp];refine Vx (sliceApplied_gen hs pl pu ?_);have hno:¬((((sIx items.size 0 lo:Nat):Int)==0 && (1:Int)==1 && (sIx items.size items.size hi - sIx items.size 0 lo)==items.size)=true):=by
  intro q;rw [Oq,Oq] at q;have q1:((sIx items.size 0 lo:Nat):Int)=0:=eq_of_beq q.1.1;have q2:sIx items.size items.size hi - sIx items.size 0 lo=items.size:=eq_of_beq q.2;exact hw ⟨Vq,Vq⟩
 show VC _ _ (if (((sIx items.size 0 lo:Nat):Int)==0 && (1:Int)==1 && (sIx items.size items.size hi - sIx items.size 0 lo)==items.size)=true then _ else _) _ _ s;rw [Vr hno,F9]
 first
  | exact Vx (m:=Qm _) (V0 (VA ⟨_,rfl,VA h⟩) htake)
  | exact Vx (m:=Qm _) (V0 (Vx (VA (VA ⟨_,rfl,VA h⟩))) htake)
  | exact Vx (Vx (m:=Qm _) (V0 (VA (VA ⟨_,rfl,VA h⟩)) htake))
  | exact Vx (Vx (m:=Qm _) (V0 (VA ⟨_,rfl,VA h⟩) htake))
end
end HT
namespace L2
open PySem PySem.Spec PyProof.Rows
abbrev TO:=St->Hp->(Option Int->Hp->Prop)->Prop
def PO(X:Cx)(e:Option VE)(t:TO):Prop:=
 ∀(Xw:List (Vy×Obj))(s:Vz)(σ:St)(H:Hp)(Q:Option Int->Hp->Prop),af X Xw σ H s->t σ H Q->
  VC (VB X.prog X.w) X.A (evalPart e X.env) (λu s'=>∃o H',af X Xw σ H' s'/\IsPart u o/\Q o H') X.xe s
def Ga:TO:=λ_ H Q=>Q none H
def Gb(t:TE):TO:=λσ H Q=>t σ H λx H1=>∃i,x= .int i/\Q (some i) H1
theorem Gd{ns:List Int}:∀{us:List Vw},aC (ns.map V.int) us->V4 us ns:=by
 induction ns with
 | nil=>intro us r;rw [OD] at r;cases r;exact .nil
 | cons n ns ih=>
  intro us r;rw [Nq] at r;cases r with
  | cons r1 r2=>
   obtain⟨t,e⟩:=r1;subst e;exact .cons n t (ih r2)
section
variable {X:Cx} {e:VE} {te:TE} {lo hi:Option VE} {tl th:TO} {pos p2:Pos}
theorem Ge:PO X none Ga:=by
 intro Xw s σ H Q I h;rw [evalPart_none];exact VA ⟨none,H,I,.none,h⟩
theorem Gf(h:PE X e te):PO X (some e) (Gb te):=by
 intro Xw s σ H Q I hw;rw [evalPart_some];refine aA (h Xw s σ H _ I hw) λu s1 ⟨x,H1,I1,r1,q1⟩=>?_;obtain⟨i,rfl,q⟩:=q1;obtain⟨t,rfl⟩:=r1;exact⟨some i,H1,I1,.int i t,q⟩
def lQ(X:Cx)(r:V->Option Int->Option Int->Hp->VK->Prop):Prop:=
 ∀(Xw:List (Vy×Obj))(s:Vz)(σ:St)(H:Hp)(x:V)(v vl vu:Vw)(lo hi:Option Int)(sl:Vy)(Q:VK),af X Xw σ H s->aD x v->s.heap.IsSliceOf sl vl vu .none->IsPart vl lo->IsPart vu hi->r x lo hi H Q->
  ∃T id,typeLookup (.type T) "__getitem__"=pure (some (.builtin id))/\s.TypeIs v T/\VC (VB X.prog X.w) X.A (WL v (.ref sl)) (EP X Xw σ Q) X.xe s
def Gg(r:V->Option Int->Option Int->Hp->VK->Prop)(te:TE)(tl th:TO):TE:=λσ H Q=>te σ H λx H1=>tl σ H1 λl H2=>th σ H2 λu H3=>r x l u H3 Q
theorem nV{r:V->Option Int->Option Int->Hp->VK->Prop}(hr:lQ X r)(he:PE X e te)(hl:PO X lo tl)(hu:PO X hi th):PE X (.Subscript e (.Slice lo hi none p2) pos) (Gg r te tl th):=by
 intro Xw s σ H Q I h;refine Subscript_ (aA (he Xw s σ H _ I h) λv s1 ⟨x,H1,I1,r1,q1⟩=>?_);refine wpAny_Slice (aA (hl Xw s1 σ H1 _ I1 q1) λvl s2 ⟨l,H2,I2,pl,q2⟩=>aA (hu Xw s2 σ H2 _ I2 q2) λvu s3 ⟨u,H3,I3,pu,q3⟩=>?_);rw [evalPart_none];refine VA ?_;have I4:af X Xw σ H3 {s3 with heap:=s3.heap.push {cls:= .type "slice",data:= .fields #[vl,vu,.none]}}:=I3.kept (t':=s3.toks) λb ob q=>Nm _ q;obtain⟨T,id,hT,ht,hg⟩:=hr Xw {s3 with heap:=s3.heap.push {cls:= .type "slice",data:= .fields #[vl,vu,.none]}} σ H3 x v vl vu l u s3.heap.objs.size Q I4 r1 (Vn ..) pl pu q3;show VC (VB X.prog X.w) X.A (subscriptTail e (.Slice lo hi none p2) v (.ref s3.heap.objs.size)) (EP X Xw σ Q) X.xe {s3 with heap:=s3.heap.push {cls:= .type "slice",data:= .fields #[vl,vu,.none]}};exact tail_any (ops:=[.ref s3.heap.objs.size,v]) ht hT hg (by with_unfolding_all rfl)
def hV(xs:List V)(lo hi:Option Int):List V:=(xs.drop (HT.sIx xs.length 0 lo)).take (HT.sIx xs.length xs.length hi - HT.sIx xs.length 0 lo)
theorem z7(xs:List V)(lo hi:Option Int):(hV xs lo hi).length<=xs.length:=by
 unfold hV;rw [NS,Oo];omega
def Gh(K:Nh):V->Option Int->Option Int->Hp->VK->Prop:=λx lo hi H Q=>∃a xs,x= .ref a/\br K H a xs/\
 ¬(HT.sIx xs.length 0 lo=0/\HT.sIx xs.length xs.length hi=xs.length)/\∀p,H p=none->Q (.ref p) (ak H p (.tup (hV xs lo hi)))
theorem Gi:lQ X (Gh X.K):=by
 intro Xw s σ H x v vl vu lo hi sl Q I rx hs pl pu h;obtain⟨a,xs,rfl,hx,hw,q⟩:=h;cases rx;obtain⟨its,r,ht,hz⟩:=I.tuple hx;have hlen:its.toArray.size=xs.length:=by rw [NA];exact r.length.symm
 refine⟨"tuple",_,PF.lookup,ht.typeIs,?_⟩;refine HT.getItem_tuple_cut ht hs pl pu (by rw [hlen];exact hw) ?_ (by rw [hlen];exact hz);rw [hlen];refine⟨.ref s.heap.objs.size,_,I.laid (t':=s.toks) (o:= .tup (hV xs lo hi)) (λb ob q=>Nm _ q) (Np _) ?_,rfl,q _ (I.hok.fresh (Np _))⟩;exact⟨NP (z7 xs lo hi) hz,_,(r.drop (HT.sIx xs.length 0 lo)).take (HT.sIx xs.length xs.length hi - HT.sIx xs.length 0 lo),UP _ _⟩
end
def fY(n:Nat)(i:Int):Option Nat:=if 0<=i then(if i < n then some i.toNat else none) else if -(n:Int)<=i then some (i+n).toNat else none
def atI{α:Type}(xs:List α)(i:Int):Option α:=(fY xs.length i).bind λj=>xs[j]?
theorem z8{n:Nat}{i:Int}{j:Nat}(h:fY n i=some j):seqIndex? i n=some j/\j < n/\-(n:Int)<=i/\i < n:=by
 unfold fY at h;by_cases h0:0<=i
 ·rw [Vs h0] at h;by_cases h1:i < n
  ·rw [Vs h1] at h;have e:i.toNat=j:=Oi h;exact⟨by rw [seqIndex_of h0 h1,e],Vq,Vq,h1⟩
  ·rw [Vr h1] at h;cases h
 ·rw [Vr h0] at h;by_cases h1:-(n:Int)<=i
  ·rw [Vs h1] at h;have e:(i+n).toNat=j:=Oi h;exact⟨by rw [seqIndex_neg Vq h1,e],Vq,h1,Vq⟩
  ·rw [Vr h1] at h;cases h
theorem tG{α:Type}{xs:List α}{i:Int}{v:α}(h:atI xs i=some v):∃j,seqIndex? i xs.length=some j/\xs[j]?=some v/\j < xs.length/\-(xs.length:Int)<=i/\i < xs.length:=by
 unfold atI at h;cases e:fY xs.length i with
 | none=>rw [e] at h;cases h
 | some j=>
  rw [e] at h;obtain⟨h1,h2,h3,h4⟩:=z8 e;exact⟨j,h1,h,h2,h3,h4⟩
theorem fZ{α:Type}{xs:List α}{j:Nat}{v:α}(h:xs[j]?=some v):atI xs (j:Int)=some v:=by
 have hj:j < xs.length:=(Nz.mp h).1;have e:fY xs.length (j:Int)=some j:=by
  unfold fY;rw [Vs Vq,Vs Vq];simp
 unfold atI;rw [e];exact h
theorem z9{α:Type}(xs:List α)(v:α):atI (xs++[v]) (-1)=some v:=by
 have hl:(xs++[v]).length=xs.length+1:=Vu
 have e:fY (xs++[v]).length (-1)=some xs.length:=by
  unfold fY;rw [hl,Vr Vp,Vs Vq];congr 1;omega
 unfold atI;rw [e];show(xs++[v])[xs.length]?=some v;simp
def Gj(b:VE):Prop:=∀o i,W3 b false o i=operate [o,i] (WL o i)
def jX(X:Cx)(r:R2):Prop:=
 ∀(value slice:VE)(Xw:List (Vy×Obj))(s:Vz)(σ:St)(H:Hp)(x y:V)(v u:Vw)(Q:VK),af X Xw σ H s->aD x v->aD y u->r x y H Q->
  W3 slice false v u=operate [v,u] (WL v u)->VC (VB X.prog X.w) X.A (subscriptTail value slice v u) (EP X Xw σ Q) X.xe s
def Aa(X:Cx)(id:String)(r:V->List V->Hp->VK->Prop):Prop:=
 ∀(Xw:List (Vy×Obj))(s:Vz)(σ:St)(H:Hp)(x:V)(xs:List V)(v:Vw)(us:List Vw)(Q:VK),af X Xw σ H s->aD x v->aC xs us->r x xs H Q->
  VC (VB X.prog X.w) X.A (call (.builtin id) (v::us)) (EP X Xw σ Q) X.xe s
section
variable {X:Cx} {a b:VE} {ta tb:TE} {pos:Pos}
theorem gb{r:R2}(hr:jX X r)(ha:PE X a ta)(hb:PE X b tb)(hs:Gj b):PE X (.Subscript a b pos) (jT r ta tb):=by
 intro Xw s σ H Q I h;exact Subscript_ (tu ha hb I h λv u s2 x y H2 I2 rx ry q=>hr a b Xw s2 σ H2 x y v u Q I2 rx ry q (hs _ _))
def nW(K:Nh):R2:=λx y H Q=>∃p xs i v,x= .ref p/\y= .int i/\aL K H p xs/\atI xs i=some v/\Q v H
def nX(K:Nh):R2:=λx y H Q=>∃p xs i v,x= .ref p/\y= .int i/\br K H p xs/\atI xs i=some v/\Q v H
def Ab:R2:=λx y H Q=>∃z i c,x= .str z/\y= .int i/\z.length<=VG/\atI z.cps.toList i=some c/\Q (.str ⟨#[c]⟩) H
theorem bI:jX X (nW X.K):=by
 intro value slice Xw s σ H x y v u Q I rx ry h hs;obtain⟨p,xs,i,z,rfl,rfl,hq,he,q⟩:=h;cases rx;obtain⟨t,rfl⟩:=ry;obtain⟨its,r,pl,hz⟩:=I.list hq;obtain⟨j,h1,h2,h3,h4,h5⟩:=tG he;obtain⟨w,ew,rw'⟩:=r.get h2;have hl:=r.length;have hn:=jl;have fin:EP X Xw σ Q w s:=⟨z,H,I,rw',q⟩;by_cases h0:0<=i
 ·have hj:i.toNat=j:=by
   rw [seqIndex_of h0 h5] at h1;exact Oi h1
  exact item_listR pl.isList h0 Vq (by rw [hj];simpa using ew) fin hs
 ·have hj:(i+(its.toArray.size:Int)).toNat=j:=by
   rw [seqIndex_neg Vq h4] at h1;rw [NA,<-hl];exact Oi h1
  exact subscriptTail_builtinR (x:=w) pl.isList.typeIs slot_list_getitem.lookup
   (wpAny_getItem_list_neg (Q:=λr s'=>r=w/\EP X Xw σ Q r s') pl.isList Vq (by rw [NA] <;> omega) Vq (by rw [hj];simpa using ew) ⟨rfl,fin⟩) hs
theorem av:jX X (nX X.K):=by
 intro value slice Xw s σ H x y v u Q I rx ry h hs;obtain⟨p,xs,i,z,rfl,rfl,hq,he,q⟩:=h;cases rx;obtain⟨t,rfl⟩:=ry;obtain⟨its,r,pl,hz⟩:=I.tuple hq;obtain⟨j,h1,h2,h3,h4,h5⟩:=tG he;obtain⟨w,ew,rw'⟩:=r.get h2;have hl:=r.length;have hn:=jl;have fin:EP X Xw σ Q w s:=⟨z,H,I,rw',q⟩;exact subscriptTail_builtinR (x:=w) pl.typeIs slot_tuple_getitem.lookup
  (getItem_tuple (j:=j) (Q:=λr s'=>r=w/\EP X Xw σ Q r s') pl Vq Vq (by rw [NA,<-hl];exact h1) (by simpa using ew) ⟨rfl,fin⟩) hs
theorem Ac:jX X Ab:=by
 intro value slice Xw s σ H x y v u Q I rx ry h hs;obtain⟨z,i,c,rfl,rfl,hz,he,q⟩:=h;obtain⟨t,rfl⟩:=rx;obtain⟨t',rfl⟩:=ry;obtain⟨j,h1,h2,h3,h4,h5⟩:=tG he;have hl:z.cps.toList.length=z.length:=by simp [Str.length]
 rw [hl] at h1 h4 h5;have hn:=jl;exact tail_any (WY s z t) slot_str_getitem.lookup (getItem_str (c:=c) (by
  have e1:decide (i < -(2 ^ 63:Int))=false:=decide_eq_false Vq;have e2:decide (i >= 2 ^ 63)=false:=decide_eq_false Vq;rw [e1,e2,QO]) (by rw [h1];simpa using h2) ⟨.str ⟨#[c]⟩,H,I.tok _,⟨_,rfl⟩,q⟩) hs
theorem Gk(its:List Vw)(n j:Nat)(u:Vw):N6 (·.setIfInBounds j u) {cls:= .type "list",data:= .seq its.toArray n}={cls:= .type "list",data:= .seq (its.set j u).toArray n}:=by
 simp [N6]
theorem af.lst{Xw:List (Vy×Obj)}{σ:St}{H:Hp}{s:Vz}{p:Vy}{xs:List V}(I:af X Xw σ H s)(h:H p=some (.lst xs)):
 ∃(its:List Vw)(n:Nat),aC xs its/\s.heap.get? p=some {cls:= .type "list",data:= .seq its.toArray n}/\xs.length<=VG:=by
 obtain⟨z,its,n,r,e⟩:=I.hok p _ h;exact⟨its,n,r,e,z⟩
theorem af.lstUpd{Xw:List (Vy×Obj)}{σ:St}{H:Hp}{s:Vz}{p:Vy}{xs ys:List V}{its its':List Vw}{n n':Nat}{f:Obj->Obj}(I:af X Xw σ H s)(h:H p=some (.lst xs))
 (ho:s.heap.get? p=some {cls:= .type "list",data:= .seq its.toArray n})(hf:f {cls:= .type "list",data:= .seq its.toArray n}={cls:= .type "list",data:= .seq its'.toArray n'})(r:aC ys its')(hz:ys.length<=VG)(t:Nat):
 af X Xw σ (ak H p (.lst ys)) {s with heap:=s.heap.update p f,toks:=t}:=by
 have e:(s.heap.update p f).get? p=some {cls:= .type "list",data:= .seq its'.toArray n'}:=by
  rw [OT f ho (by rw [hf] <;> rfl),hf]
 refine I.write (x:=p) (e:=p) (by rw [h];trivial) (.inl rfl) (λb u hb q=>(Pq _ _ (Ne.symm hb)).trans q) ⟨_,e⟩ ?_;exact⟨hz,its',n',r,e⟩
def Gm:V->V->V->Hp->(Hp->Prop)->Prop:=λo i v H Q=>∃p xs k j,o= .ref p/\i= .int k/\H p=some (.lst xs)/\fY xs.length k=some j/\Q (ak H p (.lst (xs.set j v)))
theorem tH:xU X Gm:=by
 intro Xw s σ H o i v ov iv u Q I ro ri rv h;obtain⟨p,xs,k,j,rfl,rfl,hp,hj,q⟩:=h;cases ro;obtain⟨t,rfl⟩:=ri;obtain⟨its,n,r,ho,hz⟩:=I.lst hp;obtain⟨h1,h2,h3,h4⟩:=z8 hj;have hl:=r.length;have hn:=jl;have I':af X Xw σ (ak H p (.lst (xs.set j v))) {s with heap:=s.heap.update p (N6 (·.setIfInBounds j u))}:=
  I.lstUpd hp ho (Gk its n j u) (r.set rv j) (by rw [List.length_set];exact hz) s.toks
 by_cases h0:0<=k
 ·have hk:k.toNat=j:=by
   rw [seqIndex_of h0 h4] at h1;exact Oi h1
  exact PySem.W.ki_setAt ho h0 Vq (by rw [NA,<-hl];exact h4) (by rw [hk];exact⟨_,I',q⟩)
 ·have hk:(k+(its.toArray.size:Int)).toNat=j:=by
   rw [seqIndex_neg Vq h3] at h1;rw [NA,<-hl];exact Oi h1
  exact PySem.W.ki_setBack ho Vq (by rw [NA,<-hl];exact h3) Vq (by rw [hk];exact⟨_,I',q⟩)
theorem Gp(lo hi:Option Int)(n:Nat):(WQ lo hi none n).1=((HT.sIx n 0 lo:Nat):Int)/\(WQ lo hi none n).2.1=((HT.sIx n n hi:Nat):Int)/\(WQ lo hi none n).2.2=1:=by
 refine⟨?_,?_,rfl⟩
 ·cases lo with
  | none=>simp [WQ,HT.sIx]
  | some i=>
   simp only [WQ,HT.sIx,Sj,show(1:Int) > 0 by decide,if_true];by_cases h:i < 0
   ·simp only [h,if_true] <;> omega
   ·simp only [h,if_false] <;> omega
 ·cases hi with
  | none=>simp [WQ,HT.sIx]
  | some i=>
   simp only [WQ,HT.sIx,Sj,show(1:Int) > 0 by decide,if_true];by_cases h:i < 0
   ·simp only [h,if_true] <;> omega
   ·simp only [h,if_false] <;> omega
theorem Gq(its:List Vw)(lo hi:Option Int):slicePick its.toArray lo hi none=((its.drop (HT.sIx its.length 0 lo)).take (HT.sIx its.length its.length hi - HT.sIx its.length 0 lo)).toArray:=by
 obtain⟨h1,h2,h3⟩:=Gp lo hi its.toArray.size;unfold slicePick;rw [h1,h2,h3];simp only [sliceRange_one,pick_run,NA] <;> rfl
def Gr(K:Nh):V->Option Int->Option Int->Hp->VK->Prop:=λx lo hi H Q=>∃a xs,x= .ref a/\aL K H a xs/\∀p,H p=none->Q (.ref p) (ak H p (.lst (hV xs lo hi)))
theorem Ad:lQ X (Gr X.K):=by
 intro Xw s σ H x v vl vu lo hi sl Q I rx hs pl pu h;obtain⟨a,xs,rfl,hx,q⟩:=h;cases rx;obtain⟨its,r,ht,hz⟩:=I.list hx;have hlen:=r.length;refine⟨"list",_,slot_list_getitem.lookup,ht.isList.typeIs,?_⟩;refine wpAny_getItem_list_slice ht.isList hs pl pu .none Vu ?_ (by rw [NA] <;> omega);rw [Gq,<-hlen];refine⟨.ref s.heap.objs.size,_,I.laid (t':=s.toks) (o:= .lst (hV xs lo hi)) (λb ob q=>Nm _ q) (Np _) ?_,rfl,q _ (I.hok.fresh (Np _))⟩;exact⟨NP (z7 xs lo hi) hz,_,0,(r.drop (HT.sIx xs.length 0 lo)).take (HT.sIx xs.length xs.length hi - HT.sIx xs.length 0 lo),NH _ rfl⟩
theorem fB:cD X (.builtin "len") (λxs H Q=>∃p ys,xs=[.ref p]/\(aL X.K H p ys\/br X.K H p ys)/\Q (.int ys.length) H):=by
 intro Xw s σ H xs us Q I r h;obtain⟨p,ys,rfl,hq,q⟩:=h;obtain⟨u,rfl,rx⟩:=cH r;cases rx;have hn:=jl;rcases hq with hq | hq
 ·obtain⟨its,r',pl,hz⟩:=I.list hq;have hlen:=r'.length;exact Calls.call_len_list pl.isList (by simp only [NA] <;> omega) ⟨.int ys.length,H,I.tok _,⟨s.toks+1,by rw [NA,hlen]⟩,q⟩
 ·obtain⟨its,r',pl,hz⟩:=I.tuple hq;have hlen:=r'.length;exact len_tuple pl (by simp only [NA] <;> omega) ⟨.int ys.length,H,I.tok _,⟨s.toks+1,by rw [NA,hlen]⟩,q⟩
theorem Gs:cD X (.builtin "len") (λxs H Q=>∃z,xs=[.str z]/\z.length<=VG/\Q (.int z.length) H):=by
 intro Xw s σ H xs us Q I r h;obtain⟨z,rfl,hz,q⟩:=h;obtain⟨u,rfl,t,rfl⟩:=cH r;have hn:=jl;exact len_str Vq ⟨.int z.length,H,I.tok _,⟨_,rfl⟩,q⟩
theorem Gu:cD X (.type "list") (λxs H Q=>∃p ys,xs=[.ref p]/\(aL X.K H p ys\/br X.K H p ys)/\∀l,H l=none->Q (.ref l) (ak H l (.lst ys))):=by
 intro Xw s σ H xs us Q I r h;obtain⟨p,ys,rfl,hq,q⟩:=h;obtain⟨u,rfl,rx⟩:=cH r;cases rx;have fin:∀(its:List Vw),aC ys its->ys.length<=VG->∀(h':VQ)(c':Nat),(∀b o',s.heap.get? b=some o'->h'.get? b=some o')->
  h'.get? s.heap.objs.size=some {cls:= .type "list",dict:=none,data:= .seq its.toArray c',slots:=#[]}->EP X Xw σ Q (.ref s.heap.objs.size) {s with heap:=h'}:=λits r' hz h' c' kp e=>
  ⟨.ref s.heap.objs.size,_,I.laid (t':=s.toks) kp (Np _) (show bV X.prog X.w _ h' _ (.lst ys) from⟨hz,its,c',r',e⟩),rfl,q _ (I.hok.fresh (Np _))⟩
 rcases hq with hq | hq
 ·obtain⟨its,r',pl,hz⟩:=I.list hq;have hlen:=r'.length;obtain⟨o,ho,hc,n,hd⟩:=pl.isList;exact call_list_seq p (.inl rfl) ho hc hd (λh' c' kp e=>fin its r' hz h' c' kp e) (by simp only [NA] <;> omega)
 ·obtain⟨its,r',pl,hz⟩:=I.tuple hq;have hlen:=r'.length;obtain⟨o,ho,hc,n,hd⟩:=pl;exact call_list_seq p (.inr rfl) ho hc hd (λh' c' kp e=>fin its r' hz h' c' kp e) (by simp only [NA] <;> omega)
theorem hX:cD X (.type "tuple") (λxs H Q=>∃p ys,xs=[.ref p]/\((aL X.K H p ys/\∀l,H l=none->Q (.ref l) (ak H l (.tup ys)))\/(br X.K H p ys/\Q (.ref p) H))):=by
 intro Xw s σ H xs us Q I r h;obtain⟨p,ys,rfl,h⟩:=h;obtain⟨u,rfl,rx⟩:=cH r;cases rx;rcases h with⟨hq,q⟩ | ⟨hq,q⟩
 ·obtain⟨its,r',pl,hz⟩:=I.list hq;have hlen:=r'.length;refine call_tuple_list pl.isList (λh' kp=>?_) (by simp only [NA] <;> omega);have I1:af X Xw σ H {s with heap:=h'}:=I.kept (t':=s.toks) kp;have I2:af X Xw σ (ak H h'.objs.size (.tup ys)) {s with heap:=h'.push {cls:= .type "tuple",data:= .seq its.toArray}}:=
   I1.laid (t':=s.toks) (λb o e=>Nm _ e) (Np _) (show bV X.prog X.w _ _ _ (.tup ys) from⟨hz,its,r',UP _ _⟩)
  exact⟨.ref h'.objs.size,_,I2,rfl,q _ (I1.hok.fresh (Np _))⟩
 ·obtain⟨its,r',pl,hz⟩:=I.tuple hq;exact call_tuple_same pl ⟨.ref p,H,I,rfl,q⟩
def Ae(K:Nh)(T:String)(x:V)(H:Hp):Prop:=match x with
 | .str _=>T="str"
 | .int _=>T="int"
 | .ref p=>(T="list"/\∃xs,aL K H p xs)\/(T="tuple"/\∃o,K.lookup p=some o/\o.cls= .type "tuple"/\o.dict=none)\/
  (T="dict"/\((∃kvs,H p=some (.dK kvs))\/∃kvs,H p=some (.dT kvs)))\/(T="set"/\∃S n,H p=some (.set S n))
 | _=>False
theorem Gv{Xw:List (Vy×Obj)}{σ:St}{H:Hp}{s:Vz}{T:String}{x:V}{v:Vw}(I:af X Xw σ H s)(r:aD x v)(ty:Ae X.K T x H):
 s.TypeIs v T/\∀a,v= .ref a->∃ob,s.heap.get? a=some ob/\ob.dict=none:=by
 cases x with
 | str z=>
  obtain⟨t,rfl⟩:=r;cases (show T="str" from ty);exact⟨WY s z t,λ_ e=>nomatch e⟩
 | int i=>
  obtain⟨t,rfl⟩:=r;cases (show T="int" from ty);exact⟨typeIs_int s i t,λ_ e=>nomatch e⟩
 | ref p=>
  cases r;rcases ty with⟨rfl,xs,hq⟩ | ⟨rfl,o,hk,hc,hd⟩ | ⟨rfl,hk⟩ | ⟨rfl,S,n,hk⟩
  ·obtain⟨its,_,pl,_⟩:=I.list hq;refine⟨pl.isList.typeIs,λa e=>?_⟩;cases e;obtain⟨o,n,e,c,hd,_⟩:=pl;exact⟨o,e,hd⟩
  ·refine⟨⟨o,I.kIn p o hk,hc⟩,λa e=>?_⟩;cases e;exact⟨o,I.kIn _ o hk,hd⟩
  ·have z:∃o,s.heap.get? p=some o/\o.ExactDict:=by
    rcases hk with⟨kvs,hk⟩ | ⟨kvs,hk⟩
    ·obtain⟨_,_,_,_,o,_,_,e,ex,_⟩:=I.hok p _ hk;exact⟨o,e,ex⟩
    ·obtain⟨_,_,_,_,o,_,_,e,ex,_⟩:=I.hok p _ hk;exact⟨o,e,ex⟩
   obtain⟨o,e,ex⟩:=z;refine⟨⟨o,e,ex.1⟩,λa e2=>?_⟩;cases e2;exact⟨o,e,ex.2.1⟩
  ·obtain⟨o,_,_,_,e,ex,_⟩:=I.hok p _ hk;refine⟨⟨o,e,ex.1⟩,λa e2=>?_⟩;cases e2;exact⟨o,e,ex.2.1⟩
 | _=>exact O3 ty
def Gw(K:Nh)(T:String)(r:V->List V->Hp->VK->Prop)(to:TE)(t:TA):TE:=λσ H Q=>to σ H λx H1=>Ae K T x H1/\t σ H1 λxs H2=>r x xs H2 Q
variable {o e:VE} {es:List VE} {to:TE} {t:TA} {name:Str} {apos cpos:Pos} {T id:String} {r:V->List V->Hp->VK->Prop}
theorem nY(pa:PlainAttrs T)(slot:Slot T name id)(hty:typeOf (.builtin id)=pure (.type "method_descriptor"))(hm:Aa X id r)(ho:PE X o to)(ha:PA X (e::es) t)
 (hbase:Wj o name X.env (eval o X.env)=eval o X.env:=by rfl)
 (hfew:((V1 cpos (VH (e::es) X.env)).all (λx=>!x.1) && (Xh cpos (WR [] X.env)).all (λx=>x.1.isSome)
   && decide ((e::es).length+([]:List Ws).length+(if ([]:List Ws).isEmpty then 0 else 1) < 30))=true:=by rfl)
 (hline:(apos.endLine==cpos.line)=true:=by rfl)(hs:VH (e::es) X.env=(false,eval e X.env)::VH es X.env:=by rfl)(hplain:(V1 cpos (VH es X.env)).any (·.1)=false:=by rfl):
 PE X (.Call (.Attribute o name apos) (e::es) [] cpos) (Gw X.K T r to t):=by
 intro Xw s σ H Q I h;refine wpAny_Call_method_late hbase hfew hline rfl (aA (ho Xw s σ H _ I h) λv s1 ⟨x,H1,I1,r1,ty,q1⟩=>?_);obtain⟨h1,h2⟩:=Gv I1 r1 ty;refine⟨T,id,pa,slot,hty,h1,h2,?_⟩;have hA:=ha cpos Xw s1 σ H1 _ I1 q1;rw [hs] at hA⊢;refine SN (by show(false || (V1 cpos (VH es X.env)).any (·.1))=false;rw [hplain] <;> rfl) (Th ?_);exact aA hA λus s2 uu56=>by obtain⟨vs,H2,I2,r2,q2⟩:=uu56;exact hm Xw s2 σ H2 x vs v us Q I2 r1 r2 q2
end
def tI(X:Cx)(id:String)(r:V->List V->Hp->VK->Prop):Prop:=
 ∀(Xw:List (Vy×Obj))(s:Vz)(σ:St)(H:Hp)(x:V)(xs:List V)(v:Vw)(us:List Vw)(Q:VK),af X Xw σ H s->aD x v->aC xs us->r x xs H Q->
  VC (VB X.prog X.w) X.A (call (.builtin id) (v::us)) (EP X Xw σ Q) X.xe s
theorem aC.one:∀{x:V}{us:List Vw},aC [x] us->∃u,us=[u]/\aD x u
 | _,_,.cons r .nil=>⟨_,rfl,r⟩
theorem aC.rep{xs:List V}{us:List Vw}(h:aC xs us):∀k:Nat,aC (NG k xs).flatten (NG k us).flatten
 | 0=>.nil
 | k+1=>by
  rw [Pn,Pn,Qc,Qc];exact aC.append h (aC.rep h k)
theorem Af(its:List Vw):∀(k:Nat)(acc:List Vw),
 QI (λx1 x2=>x1++x2) acc.toArray (NG k its.toArray)=(acc++(NG k its).flatten).toArray
 | 0,acc=>by simp
 | k+1,acc=>by
  have e:acc.toArray++its.toArray=(acc++its).toArray:=Vu
  have e2:(acc++its)++(NG k its).flatten=acc++(NG (k+1) its).flatten:=by
   rw [Pn,Qc,Ph]
  rw [<-e2,<-Af its k (acc++its),<-e,Pn,O7]
section
variable {X:Cx} {Xw:List (Vy×Obj)} {σ:St} {H:Hp} {s:Vz} {l b:Vy} {xs ys zs:List V}
theorem af.lset{its its':List Vw}{n:Nat}{f:Array Vw->Array Vw}{t':Nat}(I:af X Xw σ H s)(hH:H l=some (.lst xs))
 (e:s.heap.get? l=some {cls:= .type "list",data:= .seq its.toArray n})(hf:f its.toArray=its'.toArray)(hv:aC ys its')(hz:ys.length<=VG):
 af X Xw σ (ak H l (.lst ys)) {s with heap:=s.heap.update l (N6 f),toks:=t'}:=by
 have q:=PySem.IsL.update e f;rw [hf] at q;refine I.write (x:=l) (e:=l) (by rw [hH];exact trivial) (.inl rfl) (λb' u hb hu=>(Pq s.heap (N6 f) (Ne.symm hb)).trans hu) ⟨_,q⟩ ?_;exact⟨hz,its',_,hv,q⟩
theorem af.lnew{its:List Vw}{t':Nat}(I:af X Xw σ H s)(hv:aC ys its)(hz:ys.length<=VG):
 af X Xw σ (ak H s.heap.objs.size (.lst ys)) {s with heap:=s.heap.push {cls:= .type "list",data:= .seq its.toArray},toks:=t'}:=
 I.laid (λ_ _ q=>Nm _ q) (Np _) ⟨hz,its,0,hv,NH _ rfl⟩
theorem af.fresh(I:af X Xw σ H s):H s.heap.objs.size=none:=I.hok.fresh (Np _)
theorem af.lstM(I:af X Xw σ H s)(hH:H l=some (.lst xs)):xs.length<=VG/\∃(its:List Vw)(n:Nat),aC xs its/\xs.length=its.length/\s.heap.get? l=some {cls:= .type "list",data:= .seq its.toArray n}:=by
 obtain⟨z,its,n,r,e⟩:=I.hok l _ hH;exact⟨z,its,n,r,r.length,e⟩
theorem Ag{n:Nat}(h:n<=VG):Qn n=false:=by
 unfold Qn;exact decide_eq_false Vq
end
section
variable {X:Cx}
def Gx:V->List V->Hp->VK->Prop:=λx vs H Q=>∃l xs y,x= .ref l/\vs=[y]/\H l=some (.lst xs)/\xs.length < VG/\Q .non (ak H l (.lst (xs++[y])))
theorem Ah:tI X "list.append" Gx:=by
 intro Xw s σ H x vs v us Q I rx rv h;obtain⟨l,xs,y,rfl,rfl,hH,hz,q⟩:=h;cases rx;obtain⟨u,rfl,ru⟩:=rv.one;obtain⟨z,its,n,r,hl,e⟩:=I.lstM hH;refine Wv F.slot_list_append ⟨_,e,rfl⟩ F.entry_list_append (F.args_list_append_2 _ _) (PySem.list_append l its.toArray n u (by rw [NA];omega)) ⟨e,?_⟩;refine⟨.non,_,I.lset (its':=its++[u]) hH e Vu (r.append (.cons ru .nil)) ?_,rfl,q⟩;rw [Oc,Rn];omega
def Gy:V->List V->Hp->VK->Prop:=λx vs H Q=>∃l b xs zs,x= .ref l/\vs=[.ref b]/\H l=some (.lst xs)/\H b=some (.lst zs)/\xs.length+zs.length<=VG/\Q .non (ak H l (.lst (xs++zs)))
theorem Gz:tI X "list.extend" Gy:=by
 intro Xw s σ H x vs v us Q I rx rv h;obtain⟨l,b,xs,zs,rfl,rfl,hH,hB,hz,q⟩:=h;cases rx;obtain⟨u,rfl,ru⟩:=rv.one;cases ru;obtain⟨z,its,n,r,hl,e⟩:=I.lstM hH;obtain⟨z2,its2,n2,r2,hl2,e2⟩:=I.lstM hB;have hsz:its.toArray.size+its2.toArray.size<=VG:=by rw [NA,NA];omega
 have hlong:¬(!its.toArray.isEmpty && Qn (its.toArray.size+its2.toArray.size))=true:=by
  rw [Ag hsz,Bool.and_false];exact Nt
 refine Wv F.slot_list_extend ⟨_,e,rfl⟩ F.entry_list_extend (F.args_list_extend_2 _ _)
  (AutoSeq1.list_extend_list_list_0 l its.toArray n b its2.toArray n2 hlong (by rw [NA];omega) Vq) ⟨e,e2,?_⟩
 refine⟨.non,_,I.lset (its':=its++its2) hH e Vu (r.append r2) ?_,rfl,q⟩;rw [Oc];omega
def GB:R2:=λx y H Q=>∃l k xs,x= .ref l/\y= .int k/\H l=some (.lst xs)/\-(2 ^ 63)<=k/\k < 2 ^ 63/\xs.length*k.toNat<=VG/\
 ∀p,H p=none->Q (.ref p) (ak H p (.lst (NG k.toNat xs).flatten))
theorem GC{α:Type}(xs:List α)(k:Nat):(NG k xs).flatten.length=k*xs.length:=by
 induction k with
 | zero=>simp
 | succ k ih=>rw [Pn,Qc,Oc,ih,Nat.succ_mul,Nat.add_comm]
theorem GF:bQ X (WJ .Mult) GB:=by
 intro Xw s σ H x y v u Q I rx ry h;obtain⟨l,k,xs,rfl,rfl,hH,h1,h2,hz,q⟩:=h;cases rx;obtain⟨t,rfl⟩:=ry;obtain⟨z,its,n,r,hl,e⟩:=I.lstM hH;have hlen:its.toArray.size*k.toNat<=VG:=by rw [NA,<-hl];exact hz
 have hcap:¬its.toArray.size*k.toNat > (2 ^ 63 - 1)/ 8:=by
  have:(VG:Nat)<=(2 ^ 63 - 1)/ 8:=Vp
  omega
 have hfit:¬(!P8 k)=true:=by
  rw [fitsIndex_both h1 h2];exact Nt
 have hlong:¬Qn (its.toArray.size*k.toNat)=true:=by
  rw [Ag hlen];exact Nt
 have hnew:QI (λx1 x2=>x1++x2) #[] (NG (if its.toArray.isEmpty=true then 0 else k.toNat) its.toArray)=(NG k.toNat its).flatten.toArray:=by
  have f0:∀m:Nat,QI (λx1 x2=>x1++x2) #[] (NG m its.toArray)=(NG m its).flatten.toArray:=λm=>by
   have:=Af its m [];rw [O8] at this;exact this
  rw [f0];cases its with
  | nil=>simp
  | cons a r'=>rw [Vr Vu]
 refine wpAny_binaryOp_repeat_ref (T:="list") (U:="int") Vp ⟨_,e,rfl⟩ (λs'=>typeIs_int s' k t) noFill_list_mul F.fills_int_mul F.slot_int_rmul repeat_list F.slot_int_index.lookup
  (Wv F.slot_int_rmul (typeIs_int s k t) F.entry_int_rmul (F.args_int_rmul_2 _ _) (int___rmul___int_list k t l its.toArray n)
    ⟨e,rfl,⟨_,e,rfl⟩,Wv F.slot_list_mul ⟨_,e,rfl⟩ F.entry_list_mul (F.args_list_mul_2 _ _) (AutoListH.list___mul___list_int_3 l its.toArray n k t hfit hcap hlong) ⟨e,?_⟩⟩)
 rw [hnew];exact⟨.ref _,_,I.lnew (t':=s.toks) (r.rep k.toNat) (by rw [GC,Nat.mul_comm];exact hz),rfl,q _ I.fresh⟩
end
end L2
namespace Att
open PySem PySem.W PySem.Calls PyProof.Rows
theorem GG{P:Params}{h:VQ}:∀(ns:List Int)(vs:List Vw),WellAll P h vs (ns.map Qu)->V4 vs ns:=by
 intro ns
 induction ns with
 | nil=>
  intro vs w;rw [OD] at w;cases w;exact .nil
 | cons n ns ih=>
  intro vs w;rw [Nq] at w;cases w with
  | cons a b=>
   cases a;exact .cons _ _ (ih _ b)
theorem GH{l:OpenLaw}{n:Nat}(hn:l.most=some n){P:Params}{h:VQ}{args:List WData}{vals:List Vw}
 (hpre:l.row.toRowW.claim.pre args=true)(hwl:WellAll P h vals args):
 ∃a vs ns,vals=[N0 a]/\args=[Sb (ns.map Qu)]/\h.get? a=some {cls:= .type "list",data:= .seq vs.toArray}/\V4 vs ns/\ns.length<=n:=by
 have hsh:WShape.hasAll [] args [.list .int]=true:=(pre_splitW hpre).1;have hc:l.pre.holds [] {args:=args}=true:=(pre_splitW hpre).2;obtain⟨d,r,rfl,h1,h2⟩:=hasAllW_cons hsh;obtain rfl:=hasAllW_nil h2;obtain⟨xs,rfl,h3⟩:=hasW_list h1;obtain⟨ns,rfl⟩:=items_int h3;have hlen:ns.length<=n:=by
  unfold OpenLaw.pre at hc;have h4:(WTm.not (.lt (.lit (.int (n:Int))) (.len (.arg 0)))).holds [] {args:=[.list (ns.map .int)]}=true:=by
   have h4:=(holds_andW hc).1;rw [hn] at h4;exact h4
  have h5:=condW_of h4 (w_not (w_lt w_lit (w_len_list (w_arg rfl))));rw [Nj] at h5;refine PR λq=>?_;have q':(n:Int) < ((ns.length:Nat):Int):=Vq
  first
   | (rw [decide_eq_true q'] at h5;exact absurd h5 Vp)
   | (simp at h5;omega)
 cases hwl with
 | cons w1 w2=>
  cases w2;cases w1 with
  | list ho hall=>exact⟨_,_,ns,rfl,rfl,ho,GG ns _ hall,hlen⟩
theorem GI(l:OpenLaw)(args:List WData):l.row.toRowW.claim.post args (.bool true) args=true:=
 postW_of (r:=l.row.toRowW) (X:=(true==true))
  (show WShape.has [] (.bool true) .bool=true by first | rfl | decide | simp [WShape.has,WShape.arms,WShape.armsAll])
  (show(WTm.eq .res (.lit (.bool true))).value [] {args:=args,res:=some (.bool true),after:=args}=some (.bool (true==true)) from w_eq_bool (w_res rfl) w_lit) rfl
end Att
namespace L2
open PySem PySem.Spec PyProof.Rows
theorem Ai:∀{vs:List Vw}{ns:List Int},V4 vs ns->aC (ns.map V.int) vs
 | _,_,.nil=>.nil
 | _,_,.cons n t h=>.cons ⟨t,rfl⟩ (Ai h)
def nZ(H:Hp):Prop:=∀b,H b=none\/∃o xs,H b=some (.frz o (.lst xs))
theorem GJ{P:VL}{w:VP}{K:Nh}{mg mb:Str->Option Vw}{CX:d5}{k:Nat}{fa a:Vy}{fd:VN}{x:Str}{sp:Sp}{s₁:Vz}{vs:List Vw}{ns:List Int}
 (KX:K.In s₁.heap)(hns:s₁.heap.Ns VR mg)(hb:s₁.heap.Ns builtinsNs mb)(hbb:∀x:Str,x≠"__name__"->mb x=VW x)(hlim:s₁.heap.NoLimit)(hg:s₁.gens=#[])
 (ha:s₁.heap.get? a=some {cls:= .type "list",data:= .seq vs.toArray})(hi:V4 vs ns)(hl:ns.length<=VG)(hr:bx k callerA)
 (F:∀base:VQ,K.In base->base.Ns VR mg->aH P w K mg base CX k fa fd [x] sp)(hbind:∀(s:Vz) (u:Vw),BindsTo s fd ⟨[u],[]⟩ [(x,u)])
 (hsp:∀H:Hp,nZ H->aL K H a (ns.map V.int)->sp [.ref a] H (λv _=>v= .bl true) λ_ _ _=>False)
 (hCX:∀H e s',CX [] H s₁ (λ_ _ _=>False) e s'->False):
 Ww (VB P w) callerA (.call (.ref fa) ⟨[.ref a],[]⟩) (λr s'=>r= .ok (.ret (.bool true))/\OldK s₁.heap s'.heap/\s'.os=s₁.os/\W9 s'.gens) s₁:=by
 have rv:=Ai hi;have lenV:=hi.length;have core:∀H:Hp,nZ H->aL K H a (ns.map V.int)->bP P w H s₁.heap->(∀b,H b≠none->b=a)->(H a≠none->K.lookup a=none)->
  Ww (VB P w) callerA (.call (.ref fa) ⟨[.ref a],[]⟩) (λr s'=>r= .ok (.ret (.bool true))/\OldK s₁.heap s'.heap/\s'.os=s₁.os/\W9 s'.gens) s₁:=by
  intro H hO hS hok hA hK;have base_of:∀{b:Vy}{o:Obj},s₁.heap.get? b=some o->H b=none->(hG s₁.heap H).get? b=some o:=λe n=>Fc e n;have noA:∀{b:Vy}{o:Obj}{es:Array WT}{ep:Nat},s₁.heap.get? b=some o->o.data= .dict es ep->H b=none:=λ{b o es ep} e d=>by
   cases q:H b with
   | none=>rfl
   | some u=>
    have e':b=a:=hA b (by rw [q];simp);subst e';rw [ha] at e;cases e;have d':Data.seq vs.toArray _=Data.dict es ep:=d;cases d'
  have nsK:∀{b:Vy}{m:Str->Option Vw},s₁.heap.Ns b m->(hG s₁.heap H).Ns b m:=λ{b m} ⟨o,es,ep,e,d,r⟩=>⟨o,es,ep,base_of e (noA e d),d,r⟩;have hKb:K.In (hG s₁.heap H):=λb o e=>base_of (KX b o e) (by
   cases q:H b with
   | none=>rfl
   | some u=>
    have e':b=a:=hA b (by rw [q];simp);subst e';rw [hK (by rw [q];simp)] at e;cases e)
  have hM:Mod K mg (hG s₁.heap H):=⟨hKb,nsK hns,⟨mb,nsK hb,hbb⟩,let ⟨mc,h1,h2⟩:=hlim;⟨mc,nsK h1,h2⟩⟩;have e0:gP P w K mg (hG s₁.heap H) callerA [] s₁ H:=⟨rfl,hM,λb o e=>Fd e,U7 (Fb _ _),trivial,λb hb=>absurd (show b∈([]:List Vy) from hb) Vu,hok,.of_eq hg⟩;refine Wx ((F _ hKb (nsK hns)).run callerA [] s₁ H ⟨[.ref a],[]⟩ [.ref a] [.ref a] _ _ hr e0 (hbind s₁ (.ref a)) (.cons rfl .nil) (hsp H hO hS)) λr s' h=>?_;cases r with
  | error e=>exact(hCX H e s' h).elim
  | ok fl=>
   cases fl with
   | next=>exact O3 h
   | brk=>exact O3 h
   | cont=>exact O3 h
   | ret u=>
    obtain⟨v,H',os,bare,un,hok',r',q⟩:=h;have q':v= .bl true:=q;subst q';obtain rfl:u=P0 true:=r';refine⟨rfl,OldK.of_keep λb o e=>?_,os,bare⟩;cases q:H b with
    | none=>exact un.keep b o e q (by intro z;exact absurd (show b∈([]:List Vy) from z) Vu) Vu
    | some u=>
     rcases hO b with z | ⟨ob,xs,z⟩
     ·rw [q] at z;cases z
     ·have z2:=un.frzs b ob _ z;obtain⟨e1,_⟩:=hok b _ z;obtain⟨e2,_⟩:=hok' b _ z2;rw [e] at e1;cases e1;exact e2
 cases hk:K.lookup a with
 | some o=>
  have e:=KX a o hk;rw [ha] at e;cases e;refine core (λ_=>none) (λ_=>.inl rfl) (.inr ⟨_,vs.toArray,_,hk,rfl,rfl,rfl,by rw [NA,lenV];exact hl,by simpa using rv⟩) (λb u z=>by have z':(none:Option HO)=some u:=z;cases z') (λb z=>absurd rfl z) λz=>absurd rfl z
 | none=>
  refine core (λb=>if b=a then some (.frz {cls:= .type "list",data:= .seq vs.toArray} (.lst (ns.map V.int))) else none) (λb=>?_) (.inl (.inr ⟨{cls:= .type "list",data:= .seq vs.toArray},Vs rfl⟩)) (λb u z=>?_) (λb z=>?_) λ_=>hk
  ·by_cases hb:b=a
   ·exact .inr ⟨_,_,Vs hb⟩
   ·exact .inl (Vr hb)
  ·by_cases hb:b=a
   ·have z':=(Vs hb).symm.trans z;cases z';subst hb;exact⟨ha,by rw [Nj];exact hl,vs,_,rv,ha⟩
   ·have z':=(Vr hb).symm.trans z;cases z'
  ·by_cases hb:b=a
   ·exact hb
   ·exact absurd (Vr hb) z
abbrev KOf{K:Nh}{h:VQ}(_:K.In h):Nh:=K
def inClass(s:VT)(j:Nat):VT:=match s with
 | .ClassDef _ _ _ body _ _ _ _ _ _ _=>body.getD j (.Pass ⟨0,0,0,0⟩)
 | _=>.Pass ⟨0,0,0,0⟩
def gQ(s:VT):Arguments:=match s with
 | .FunctionDef _ a _ _ _ _ _ _ _ _=>a
 | _=>{posonlyargs:=[],args:=[],vararg:=none,kwonlyargs:=[],kw_defaults:=[],kwarg:=none,defaults:=[]}
def fm(s:VT):List VT:=match s with
 | .FunctionDef _ _ b _ _ _ _ _ _ _=>b
 | _=>[]
def ay(s:VT):We:=match s with
 | .FunctionDef _ _ _ _ _ _ sc _ _ _=>sc
 | _=>{kind:= .function,names:=[],isGenerator:=false,isCoroutine:=false}
abbrev CX0:d5:=λ_ _ _ _ _ _=>False
abbrev E0:XK:=λ_ _ _=>False
theorem tJ{X:Cx}:lO CX0 X E0:=λ_ _ _ _ _ _ _ h=>h.elim
structure fq (K:Nh) (x qual:Str) (st:VT) (f:Vy) (fd:VN):Prop where
 ex:∃(oc:Vw)(od:Option Vy)(kV doc pm:Vw)(an:Option Vy)(cdv ct:Vw)(osl:Array (Option Vw)),
  fd=Pa x qual (gQ st) (fm st) (ay st) .none kV doc pm an cdv ct/\K.lookup f=some ⟨oc,od,.func fd,osl⟩/\Q6 K cdv qual=true
 kp:PQ K (.ref f)=true
section
variable {P:VL} {w:VP} {K:Nh} {mg:Str->Option Vw} {base:VQ}
theorem fq.ok{x qual:Str}{st:VT}{f:Vy}{fd:VN}{N ps:List Str}{k:Nat}{sp:Sp}(F:fq K x qual st f fd)(S:aT N ps (ay st))(len:∀vs H Q E,sp vs H Q E->vs.length=ps.length)
 (hbody:∀(cdv:Vw) (A:VS) (outer:List Env) (s:Vz) (H:Hp) (vs:List V) (Q:VK) (E:XK),bx k (A.deeper (W2 qual (ay st) s.heap.objs.size f cdv))->sp vs H Q E->
   ∃t,bK (hU CX0 P w K mg base N qual (ay st) f cdv A outer s H E).nox (fm st) t/\t {nx:=λ_ H'=>Q .non H',rt:=Q} (start N vs) H):aH P w K mg base CX0 (k+1) f fd ps sp:=by
 obtain⟨oc,od,kV,doc,pm,an,cdv,ct,osl,rfl,lk,hcd⟩:=F.ex;refine F5 lk hcd S len λA outer s H vs Q E hr hsp=>?_;obtain⟨t,h,q⟩:=hbody cdv A outer s H vs Q E hr hsp;exact⟨t,h.nox,q⟩
theorem fq.binds{x qual:Str}{st:VT}{f:Vy}{fd:VN}{ps:List Str}(F:fq K x qual st f fd)
 (h:∀(kV doc pm:Vw) (an:Option Vy) (cdv ct:Vw) (us:List Vw),us.length=ps.length->bindArgs (Pa x qual (gQ st) (fm st) (ay st) .none kV doc pm an cdv ct) ⟨us,[]⟩=pure (ps.zip us)):eX K fd ps []:=by
 obtain⟨oc,od,kV,doc,pm,an,cdv,ct,osl,rfl,lk,hcd⟩:=F.ex;exact .all (h kV doc pm an cdv ct)
theorem Aj{x qual:Str}{st:VT}{f:Vy}{oc:Vw}{od an:Option Vy}{osl:Array (Option Vw)}{kV doc pm cdv ct:Vw}(l:K.lookup f=some ⟨oc,od,.func (Pa x qual (gQ st) (fm st) (ay st) .none kV doc pm an cdv ct),osl⟩)
 (c:Q6 K cdv qual=true)(k:PQ K (.ref f)=true):fq K x qual st f (Pa x qual (gQ st) (fm st) (ay st) .none kV doc pm an cdv ct):=⟨⟨oc,od,kV,doc,pm,an,cdv,ct,osl,rfl,l,c⟩,k⟩
end
section
variable {X:Cx}
theorem pv(i:Nat){x:Str}{pos:Pos}(hN:X.N[i]?=some x:=by rfl)(hv:lC X.env.scope x:=by first | exact SX rfl | exact Rt (SX rfl) | exact Rt (Rt rfl))(hd:(x==("__debug__":Str))=false:=by decide)
 (hcd:(x==("__classdict__":Str))=false:=by decide):PE X (.Name x pos) (eL i):=sQ hN hv hd hcd
end
def ao(H H':Hp):Prop:=∀b o,H b=some o->H' b=some o
theorem ao.refl(H:Hp):ao H H:=λ_ _ h=>h
theorem ao.trans{H H1 H2:Hp}(a:ao H H1)(b:ao H1 H2):ao H H2:=λc o h=>b c o (a c o h)
def eY(env:Env)(names:List (Str×Wg))(cs:List (Str×Vy)):List (Str×Vy):=
 names.foldl (λcs p=>if (p.2==OL)=true then(p.1,(env.cells.lookup p.1).getD 0)::cs else cs) cs
theorem Ak{scope:We}{env:Env}(h:∀y∈scope.names,y.2= .free->∃c,env.cells.lookup y.1=some c):closureFor scope env=pure (eY env scope.names []):=by
 unfold closureFor;have key:∀(l:List (Str×Wg))(cs:List (Str×Vy)),(∀y∈l,y.2= .free->∃c,env.cells.lookup y.1=some c)->
  (forIn l cs λ(x:Str×Wg) (r:List (Str×Vy))=>(if (x.2==OL)=true then do let a<-cellOf env x.1;pure (P5 ((x.1,a)::r)) else pure (P5 r):Sem (ForInStep (List (Str×Vy)))))=pure (eY env l cs):=by
  intro l
  induction l with
  | nil=>intro cs _;rfl
  | cons p r ih=>
   intro cs hl;rw [UD];by_cases hk:(p.2==OL)=true
   ·obtain⟨c,hc⟩:=hl p Ob (by simpa using hk);rw [Vs hk];have e:cellOf env p.1=pure c:=by unfold cellOf;rw [hc]
    rw [e];simp only [pure_bind];rw [ih _ λy hy=>hl y (NY _ hy)];unfold eY;rw [O7,Vs hk,hc];rfl
   ·rw [Vr hk];simp only [pure_bind];rw [ih _ λy hy=>hl y (NY _ hy)];unfold eY;rw [O7,Vr hk]
 have:=key scope.names [] h;simp only [bind_pure];exact this
theorem tK{env:Env}:∀(l:List (Str×Wg))(cs:List (Str×Vy)){x:Str}{c:Vy},(∀y∈l,y.2= .free->∃c,env.cells.lookup y.1=some c)->(∀y d,cs.lookup y=some d->env.cells.lookup y=some d)->
 (eY env l cs).lookup x=some c->env.cells.lookup x=some c
 | [],cs,x,c,_,hc,h=>hc x c h
 | p::r,cs,x,c,hl,hc,h=>by
  unfold eY at h;rw [O7] at h;by_cases hk:(p.2==OL)=true
  ·rw [Vs hk] at h;refine tK r _ (λy hy=>hl y (NY _ hy)) (λy d e=>?_) h;obtain⟨a,ha⟩:=hl p Ob (by simpa using hk);rw [N2] at e;cases hx:y==p.1 with
   | true=>
    rw [hx] at e;have hy:y=p.1:=by simpa using hx
    rw [ha] at e;cases e;rw [hy];exact ha
   | false=>rw [hx] at e;exact hc y d e
  ·rw [Vr hk] at h;exact tK r cs (λy hy=>hl y (NY _ hy)) hc h
theorem tL{env:Env}:∀(l:List (Str×Wg))(cs:List (Str×Vy)){x:Str},(∃c,cs.lookup x=some c)->∃c,(eY env l cs).lookup x=some c
 | [],cs,x,h=>h
 | p::r,cs,x,⟨c,h⟩=>by
  unfold eY;rw [O7];by_cases hk:(p.2==OL)=true
  ·rw [Vs hk];refine tL r _ ?_;rw [N2];cases hx:x==p.1 with
   | true=>exact⟨_,rfl⟩
   | false=>exact⟨c,h⟩
  ·rw [Vr hk];exact tL r cs ⟨c,h⟩
theorem tM{env:Env}:∀(l:List (Str×Wg))(cs:List (Str×Vy)){x:Str},(x,OL)∈l->∃c,(eY env l cs).lookup x=some c
 | [],_,_,h=>by simp at h
 | p::r,cs,x,h=>by
  unfold eY;rw [O7];rcases Ny.mp h with e | e
  ·subst e;rw [Vs (by rfl)];exact tL r _ ⟨(env.cells.lookup x).getD 0,by rw [N2];simp⟩
  ·exact tM r _ e
theorem GK{env:Env}{scope:We}{x:Str}(h:(relabel scope env).names.lookup x=some .cell\/(relabel scope env).names.lookup x=some .free):scope.names.lookup x=some .free\/scope.names.lookup x=some .cell:=by
 have key:∀(l:List (Str×Wg)),
  ((l.map λ(n,k)=>if (k==OL && env.scope.kind== .function && env.kindOf n==some .cell) then(n,Rh) else(n,k)).lookup x=some .cell\/
  (l.map λ(n,k)=>if (k==OL && env.scope.kind== .function && env.kindOf n==some .cell) then(n,Rh) else(n,k)).lookup x=some .free)->l.lookup x=some .free\/l.lookup x=some .cell:=by
  intro l
  induction l with
  | nil=>intro h;simp at h
  | cons p r ih=>
   obtain⟨n,k⟩:=p;intro h;rw [Nq] at h;rw [N2];by_cases hx:x=n
   ·subst hx;rw [beq_self_eq_true];by_cases hq:(k==OL && env.scope.kind== .function && env.kindOf x==some .cell)=true
    ·have:k= .free:=by simp only [Oq,beq_iff_eq] at hq;exact hq.1.1
     subst this;exact .inl rfl
    ·simp only [Vr hq,N2,beq_self_eq_true] at h;exact h.symm
   ·have hb:(x==n)=false:=by simpa using hx
    rw [hb];refine ih ?_;by_cases hq:(k==OL && env.scope.kind== .function && env.kindOf n==some .cell)=true
    ·simpa only [Vs hq,N2,hb] using h
    ·simpa only [Vr hq,N2,hb] using h
 exact key scope.names h
theorem GL{env:Env}{scope:We}{x:Str}(h:scope.names.lookup x=some .cell\/scope.names.lookup x=some .free):(relabel scope env).names.lookup x=some .cell\/(relabel scope env).names.lookup x=some .free:=by
 have key:∀(l:List (Str×Wg)),l.lookup x=some .cell\/l.lookup x=some .free->
  ((l.map λ(n,k)=>if (k==OL && env.scope.kind== .function && env.kindOf n==some .cell) then(n,Rh) else(n,k)).lookup x=some .cell\/
  (l.map λ(n,k)=>if (k==OL && env.scope.kind== .function && env.kindOf n==some .cell) then(n,Rh) else(n,k)).lookup x=some .free):=by
  intro l
  induction l with
  | nil=>intro h;simp at h
  | cons p r ih=>
   obtain⟨n,k⟩:=p;intro h;rw [Nq];by_cases hx:x=n
   ·subst hx;rw [N2,beq_self_eq_true] at h;by_cases hq:(k==OL && env.scope.kind== .function && env.kindOf x==some .cell)=true
    ·left;simp only [Vs hq,N2,beq_self_eq_true]
    ·simp only [Vr hq,N2,beq_self_eq_true];exact h
   ·have hb:(x==n)=false:=by simpa using hx
    rw [N2,hb] at h;by_cases hq:(k==OL && env.scope.kind== .function && env.kindOf n==some .cell)=true
    ·simpa only [Vs hq,N2,hb] using ih h
    ·simpa only [Vr hq,N2,hb] using ih h
 exact key scope.names h
structure bb (sc:We) (N N':List Str) (k:Nat) (fr:List Nat) (scope:We):Prop where
 kind:scope.kind= .function
 cell:∀y∈scope.names,y.2= .cell->scope.names.lookup y.1=some .cell
 names:∀y∈scope.names,y.2= .local->scope.names.lookup y.1=some .local
 nd:N'.Nodup
 slot:fr.map (λj=>N[j]?)=(N'.drop k).map some
 frees:∀x∈N'.drop k,scope.names.lookup x=some .free
 outer:∀y∈scope.names,y.2= .free->sc.names.lookup y.1=some .cell\/sc.names.lookup y.1=some .free
 outer':∀x∈N'.drop k,sc.names.lookup x=some .cell\/sc.names.lookup x=some .free
 len:N'.length=k+fr.length
theorem n4:∀(l:List (Str×Wg)){n:Nat}{a:List (Str×Vy)}{x:Str}{c:Vy},(Wb n l a).lookup x=some c->n<=c\/a.lookup x=some c
 | [],_,_,_,_,h=>.inr h
 | (y,k)::r,n,a,x,c,h=>by
  unfold Wb at h;split at h
  ·rcases n4 r h with z | z
   ·exact .inl Vq
   ·rw [N2] at z;split at z
    ·exact .inl (by cases z;exact Np _)
    ·exact .inr z
  ·exact n4 r h
theorem tN:∀(l:List (Str×Wg)){n:Nat}{a:List (Str×Vy)}{x:Str}{c:Vy},l.lookup x=some .cell->(Wb n l a).lookup x=some c->n<=c
 | [],_,_,_,_,e,_=>nomatch e
 | (y,k)::r,n,a,x,c,e,h=>by
  unfold Wb at h;rw [N2] at e;cases hx:x==y with
  | true=>
   rw [hx] at e;cases e;have h:Qw x (Wb (n+1) r ((y,n)::a))=some c:=h;rcases n4 r h with z | z
   ·exact R4 z
   ·rw [N2,hx] at z;cases z;exact Np _
  | false=>
   rw [hx] at e;split at h
   ·exact R4 (tN r e h)
   ·exact tN r e h
theorem tO:∀(l:List (Str×Wg)){n:Nat}{a:List (Str×Vy)}{x:Str},(∀y∈l,y.2= .cell->y.1≠x)->(Wb n l a).lookup x=a.lookup x
 | [],_,_,_,_=>rfl
 | (y,k)::r,n,a,x,h=>by
  unfold Wb;split
  ·rename_i hk;rw [tO r λz hz=>h z (NY _ hz),N2];have:(x==y)=false:=by simpa using Ne.symm (h (y,k) Ob (by simpa using hk))
   rw [this]
  ·exact tO r λz hz=>h z (NY _ hz)
theorem tP:∀(l:List (Str×Wg)){n:Nat}{a:List (Str×Vy)},(∀x c,a.lookup x=some c->c < n)->(∀x y c,a.lookup x=some c->a.lookup y=some c->x=y)->∀x y c,(Wb n l a).lookup x=some c->(Wb n l a).lookup y=some c->x=y
 | [],_,_,_,h=>h
 | (z,k)::r,n,a,hl,hi=>by
  unfold Wb;split
  ·have one:∀x c,((z,n)::a).lookup x=some c->x=z/\c=n\/c < n/\a.lookup x=some c:=λx c e=>by
    rw [N2] at e;cases hx:x==z with
    | true=>rw [hx] at e;cases e;exact .inl ⟨by simpa using hx,rfl⟩
    | false=>rw [hx] at e;exact .inr ⟨hl x c e,e⟩
   refine tP r (λx c e=>?_) λx y c e1 e2=>?_
   ·rcases one x c e with⟨_,z⟩ | ⟨z,_⟩
    ·rw [z];exact Pw _
    ·exact OI z
   ·rcases one x c e1 with⟨a1,b1⟩ | ⟨a1,b1⟩ <;> rcases one y c e2 with⟨a2,b2⟩ | ⟨a2,b2⟩
    ·rw [a1,a2]
    ·omega
    ·omega
    ·exact hi x y c b1 b2
  ·exact tP r hl hi
theorem tQ:∀(l:List (Str×Wg)){h:VQ}{a:List (Str×Vy)},(∀x c,a.lookup x=some c->∃v,h.IsCell c v)->∀x c,(Wb h.objs.size l a).lookup x=some c->∃v,(pushCells h l).IsCell c v
 | [],_,_,h=>h
 | (z,k)::r,h,a,ha=>by
  unfold Wb pushCells;split
  ·have:=tQ r (h:=h.push {cls:= .type "cell",data:= .cell none}) (a:=(z,h.objs.size)::a) λx c e=>by
    rw [N2] at e;split at e
    ·cases e;exact⟨none,_,NH _ rfl,rfl⟩
    ·obtain⟨v,q⟩:=ha x c e;exact⟨v,q.keeps λb o e=>Nm _ e⟩
   rwa [Ql] at this
  ·exact tQ r ha
def n5(X:Cx)(scope:We)(C:Vy):List (Str×Vy):=Wb (C+1) scope.names (eY X.env scope.names [])
def bF(X:Cx)(scope:We)(N':List Str)(fp:List Vy)(C:Vy)(s:Vz)(H:Hp):Cx where
 prog:=X.prog
 w:=X.w
 K:=X.K
 mg:=X.mg
 base:=X.base
 A:=X.A
 N:=N'
 s₀:=s
 H₀:=H
 env:=compEnvC scope (n5 X scope C) C X.env
 outer:=X.stack
 stack:=X.stack
 ex:=fp
 fn:=λx=>scope.names.lookup x==some .cell
 calm:=X.calm
 pn:=[]
 xe:=λ_ _=>False
def bJ(k:Nat)(fr:List Nat)(σ:St):St:=NG k none++fr.map λj=>(σ[j]?).join
def jm(σ σ':St):Prop:=σ.length=σ'.length/\∀(i:Nat) v,σ[i]?=some (some v)->σ'[i]?=some (some v)
section
variable {X:Cx} {Xw:List (Vy×Obj)} {σ:St} {H:Hp} {s:Vz} {scope:We} {N':List Str} {k:Nat} {fr:List Nat} {fp:List Vy}
theorem tR(S:bb X.env.scope X.N N' k fr scope)(I:af X Xw σ H s):∀x c,(eY X.env scope.names []).lookup x=some c->X.env.cells.lookup x=some c:=λx c e=>tK scope.names [] (λy hy e=>I.ok.has y.1 (S.outer y hy e)) (λ_ _ z=>by simp at z) e
theorem Al(S:bb X.env.scope X.N N' k fr scope)(I:af X Xw σ H s){x:Str}{c:Vy}(e:(n5 X scope s.heap.objs.size).lookup x=some c):s.heap.objs.size < c\/X.env.cells.lookup x=some c:=
 (n4 _ e).imp (λz=>z) λz=>tR S I x c z
theorem GN(S:bb X.env.scope X.N N' k fr scope)(I:af X Xw σ H s)(hf:∀b∈fp,fU X Xw H b)(hlt:∀b∈fp,b < s.heap.objs.size):
 (bF X scope N' fp s.heap.objs.size s H).Ok:=by
 have hcl:=tR S I;refine⟨I.ok.mod,S.kind,I.ok.glob,I.ok.blt,Np _,tP _ (λx c e=>?_) (λx y c h1 h2=>I.ok.inj x y c (hcl x c h1) (hcl y c h2)),λx hx=>Q0.mp (Rg _ _ _ ?_),λx c h e=>R4 (tN _ (eq_of_beq h) e),I.ok.hd,I.ok.frames,.inl rfl,λb hb=>⟨NL (hlt b hb),λx c e=>?_⟩,
  I.bs,NP I.ok.bsz I.sz,λb o e hb=>?_,λb hb hb'=>?_,I.stack,I.stkFree⟩
 ·obtain⟨v,o,ho,_⟩:=I.cell x c (hcl x c e);exact OI (NB ho)
 ·rcases GK hx with z | z
  ·exact .inr (Q0.mpr (tM _ _ (Pm z)))
  ·exact .inl z
 ·rcases Al S I e with z | z
  ·exact λq=>absurd (hlt b hb) (by rw [<-q];exact Nat.lt_asymm z)
  ·exact(hf b hb).2.2.2.2.1 x c z
 ·rcases(hf b hb).2.2.2.1 with z | z
  ·exact I.ok.noex b o e z
  ·exact absurd (Of (NB e) (NP I.ok.bsz z)) (P7 _)
 ·rcases Ny.mp (I.stkSub b hb') with z | z
  ·exact(hf b hb).2.1 z
  ·exact(hf b hb).2.2.1 z
theorem GO(S:bb X.env.scope X.N N' k fr scope)(I:af X Xw σ H s)(hf:∀b∈fp,fU X Xw H b)(hlt:∀b∈fp,b < s.heap.objs.size){o:Obj}{h':VQ}(e':h'=pushCells (s.heap.push o) scope.names)
 (hn:h'.Ns s.heap.objs.size (λ_=>none))(hk:∀b o,s.heap.get? b=some o->h'.get? b=some o):
 af (bF X scope N' fp s.heap.objs.size s H) [] (bJ k fr σ) H {s with heap:=h'}:=by
 have hcl:=tR S I;refine⟨GN S I hf hlt,rfl,I.bare,Un.kept hk,⟨_,hn,λi x v h1 h2 h3=>?_⟩,λx c e=>?_,I.hok.fresh (Np _),λx c e=>?_,λp hp=>absurd hp (by simp [bF]),I.hok.kept hk,?_⟩
 ·have hi:k<=i:=by
   rcases PL i k with z | z
   ·exfalso;unfold bJ at h2;rw [OQ (by simpa using z),Qo,Vs z] at h2;cases h2
   ·exact z
  have h2':(fr.map λj=>(σ[j]?).join)[i - k]?=some (some v):=by
   unfold bJ at h2;rw [Oy (by simpa using hi)] at h2;simpa using h2
  have h1':(N'.drop k)[i - k]?=some x:=by
   rw [TU,Nat.add_sub_cancel' hi];exact h1
  have hmem:x∈N'.drop k:=NT h1';have e2:(fr.map λj=>X.N[j]?)[i - k]?=some (some x):=by
   rw [S.slot,NK,h1'];rfl
  obtain⟨j,hj,ej⟩:∃j,fr[i - k]?=some j/\X.N[j]?=some x:=by
   rw [NK] at e2;cases e:fr[i - k]? with
   | none=>rw [e] at e2;cases e2
   | some j=>rw [e] at e2;exact⟨j,rfl,Oi e2⟩
  have hv:σ[j]?=some (some v):=by
   rw [NK,hj] at h2';have h3':(σ[j]?).join=some v:=Oi h2';cases e:σ[j]? with
   | none=>rw [e] at h3';cases h3'
   | some o=>rw [e] at h3';rw [show o=some v from h3']
  obtain⟨m,hn0,hl⟩:=I.loc;have ho:=S.outer' x hmem;obtain⟨u,ru,lk⟩:=hl j x v ej hv (.inr ho);refine⟨u,ru,.inr ⟨GL (.inr (S.frees x hmem)),?_⟩⟩;rcases lk with⟨z,_⟩ | ⟨_,c,hc,hx⟩
  ·exfalso;rcases ho with ho | ho
   ·exact absurd (z.symm.trans ho) Vu
   ·exact absurd (z.symm.trans ho) Vu
  ·obtain⟨c',hc'⟩:=tM (env:=X.env) scope.names [] (Pm (S.frees x hmem));have:=hcl x c' hc';rw [hc] at this;cases this;obtain⟨o,ho,hd⟩:=hx;exact⟨c,(tO _ λy hy ey ex=>by have q:=S.cell y hy ey;rw [ex,S.frees x hmem] at q;cases q).trans hc',o,hk c o ho,hd⟩
 ·subst e';have:=tQ scope.names (h:=s.heap.push o) (a:=eY X.env scope.names []) (λx c e=>by
   obtain⟨v,q⟩:=I.cell x c (hcl x c e);exact⟨v,q.keeps λb o e=>Nm _ e⟩) x c
  rw [Ql] at this;exact this e
 ·rcases Al S I e with z | z
  ·exact I.hok.fresh (Po z)
  ·exact I.freeC x c z
 ·unfold bJ;show _=N'.length;rw [Oc,Pz,Nj,S.len]
end
section
variable {prog:VL} {w:VP} {A:VS} {E:Vw->Vz->Prop} {R:Result->Vz->Prop} {s:Vz}
theorem GP{elt target iter:VE}{ifs:List VE}{scope:We}{pos:Pos}{it acc:Vw}{env:Env}(I:Nat->Vz->Prop)
 (turn:∀n s,I n s->VC (VB prog w) A (WC it) (λr s₁=>match r with
  | none=>R (.ok .next) s₁
  | some v=>VC (VB prog w) A (Xe target it v) (λ_ s₁'=>VC (VB prog w) A (assign target env v) (λ_ s₂=>
   VC (VB prog w) A (forIn ifs true λc r=>if r=true then do let ok<-isTrue c env (eval c env);pure (P5 ok) else pure (P5 r)) (λok s₃=>
    if ok=true then VC (VB prog w) A (eval elt env) (λx s₄=>
     VC (VB prog w) A (call (.builtin "list.append") [acc,x]) (λ_ s₅=>∃m,m < n/\I m s₅) (λ_ _=>False) s₄) (λ_ _=>False) s₃
    else ∃m,m < n/\I m s₃) (λ_ _=>False) s₂) (λ_ _=>False) s₁') (λ_ _=>False) s₁) (λ_ _=>False) s)
 (n:Nat)(h:I n s):
 Ww (VB prog w) A (.compLoop (.ListComp elt [⟨target,iter,ifs,0⟩] scope pos) 0 it acc env) R s:=by
 refine codeAny_loop rfl I (λn s hI=>?_) n h;show VC _ A ((compTurn (.ListComp elt [⟨target,iter,ifs,0⟩] scope pos) 0 it acc env).onRaise (λx=>do noteFrame x env;theTreesLotGoes x)) _ _ s;refine wpAny_noted ?_;rw [compTurn_list];refine Vx (Xr (Vx (V3 (turn n s hI) (λr s₁ h₁=>?_) λ_ _ h'=>h'.elim)));cases r with
 | none=>exact VA h₁
 | some v=>
  refine Vx (V3 h₁ (λ_ s₁' h₁'=>?_) λ_ _ h'=>h'.elim);refine Vx (V3 h₁' (λ_ s₂ h₂=>Vx (V3 h₂ (λok s₃ h₃=>?_) λ_ _ h'=>h'.elim)) λ_ _ h'=>h'.elim);cases ok with
  | false=>exact VA ⟨rfl,h₃⟩
  | true=>
   exact Vx (Vx (V3 h₃ (λx s₄ h₄=>Vx (V3 h₄ (λ_ s₅ h₅=>VA (VA ⟨rfl,h₅⟩)) λ_ _ h'=>h'.elim)) λ_ _ h'=>h'.elim))
end
def eO(X:Cx)(ifs:List VE)(t:TT):Prop:=
 ∀(Xw:List (Vy×Obj))(s:Vz)(σ:St)(H:Hp)(Q:Bool->Hp->Prop),af X Xw σ H s->t σ H Q->
  VC (VB X.prog X.w) X.A (forIn ifs true λc r=>if r=true then do let ok<-isTrue c X.env (eval c X.env);pure (P5 ok) else pure (P5 r)) (TP X Xw σ Q) X.xe s
def Am:TT:=λ_ H Q=>Q true H
theorem An{X:Cx}:eO X [] Am:=λXw s σ H Q I h=>wpAny_tests_nil ⟨H,I,h⟩
theorem cU{X:Cx}{c:VE}{t:TT}(h:PT X c t):eO X [c] t:=λXw s σ H Q I hq=>wpAny_tests_one (h Xw s σ H Q I hq)
theorem bP.but{P:VL}{w:VP}{H:Hp}{h h':VQ}{C:Vy}(x:bP P w H h)(hC:H C=none)(k:∀b o,b≠C->h.get? b=some o->h'.get? b=some o):bP P w H h':=λa o e=>by
 refine(x a o e).stay (λb u hb q=>k b u ?_ q) (λ_ q=>q) λ_ _ q=>q;intro z;subst z;rcases hb with z | z
 ·rw [<-z,hC] at e;cases e
 ·rw [hC] at z;cases z
theorem GQ{M:Model}{A:VS}{E:Vw->Vz->Prop}{s:Vz}{scope:We}{g:Vy}{cl:List (Str×Vy)}{qual:Str}{e:Env}{Q:Env->Vz->Prop}
 (hQ:∀h',h'=pushCells (s.heap.push {cls:= .type "dict",data:= .dict #[]}) scope.names->h'.Ns s.heap.objs.size (λ_=>none)->(∀b o,s.heap.get? b=some o->h'.get? b=some o)->
  Q (newEnv scope s.heap.objs.size g (Wb (s.heap.objs.size+1) scope.names cl) qual none .none (some e) builtinsNs) {s with heap:=h'}):
 VC M A (newFunctionEnv scope g cl [] qual none .none (some e)) Q E s:=by
 simp only [newFunctionEnv,TV,if_true];refine Vx (wpAny_alloc (Vx (wpAny_layCells _ (λname kind cells=>by cases hkc:kind==Rh <;> simp [hkc]) _ _ _ _ ?_)));rw [show({s with heap:=s.heap.push {cls:= .type "dict",data:= .dict #[]}}:Vz).heap.objs.size=s.heap.objs.size+1 from Ql ..];rw [UN];exact Vx (VA (VA (hQ _ rfl ((Heap.Ns.new s.heap (.type "dict")).keeps (pushCells_keeps _ _)) λb o e=>pushCells_keeps _ _ b o (Nm _ e))))
def iO(wi:TI)(g:TG)(tc:TT)(te:TE)(k:Nat)(fr:List Nat):TE:=λσ H Q=>wi σ H λJ H1=>∀D,H1 D=none->∃W:Nat->Nat->Hp->Prop,(∃m,W 0 m (ak H1 D (.lst [])))/\∀i m H,W i m H->
 (J.stop i H/\Q (.ref D) H)\/(J.go i H/\∀x H',J.yld i H x H'->g x (bJ k fr σ) H' λσ2 H2=>jm (bJ k fr σ) σ2/\tc σ2 H2 λok H3=>
  if ok=true then te σ2 H3 λy H4=>∃ys,H4 D=some (.lst ys)/\ys.length < VG/\∃m',m' < m/\W (i+1) m' (ak H4 D (.lst (ys++[y])))
  else ∃m',m' < m/\W (i+1) m' H3)
section
variable {X:Cx} {tg iter elt:VE} {ifs:List VE} {scope:We} {N':List Str} {k:Nat} {fr:List Nat} {wi:TI} {g:TG} {tc:TT} {te:TE} {pos:Pos}
theorem Ao{use:Option (Vw->Sem Unit)}{Q':Vw->Vz->Prop}{Xw:List (Vy×Obj)}{s:Vz}{σ:St}{H:Hp}{Q:VK}(hc:X.calm=true)(S:bb X.env.scope X.N N' k fr scope)(hi:PI X tg iter wi)
 (hg:∀fp C s H,PG (bF X scope N' fp C s H) tg g)(hf:∀fp C s H,eO (bF X scope N' fp C s H) ifs tc)(he:∀fp C s H,PE (bF X scope N' fp C s H) elt te)
 (I:af X Xw σ H s)(h:iO wi g tc te k fr σ H Q)
 (hQ:∀D C s' H',C≠X.env.locals->af X Xw σ H' s'->(∀h',PK C s'.heap h'->af X Xw σ H' {s' with heap:=h'})->Q (.ref D) H'->(∃m,s'.heap.Ns C m)->X.env.locals < C->H' C=none/\(∀x c,X.env.cells.lookup x=some c->c≠C)/\(∀p∈X.pn++Xw,p.1≠C)->compPost (VB X.prog X.w) X.A X.xe use Q' (.ref D) C (.ok .next) s'):
 VC (VB X.prog X.w) X.A (eval iter X.env) (λx s₁=>VC (VB X.prog X.w) X.A (pyIter x) (λit s₂=>VC (VB X.prog X.w) X.A (newList []) (λacc s₃=>
  VC (VB X.prog X.w) X.A (newFunctionEnv scope X.env.globals (eY X.env scope.names []) [] X.env.qual none .none (some X.env)) (λcenv s₄=>
   Ww (VB X.prog X.w) X.A (.compStart (.ListComp elt [⟨tg,iter,ifs,0⟩] scope pos) 0 it acc {cenv with scope:=relabel scope X.env}) (compPost (VB X.prog X.w) X.A X.xe use Q' acc cenv.locals) s₄) X.xe s₃) X.xe s₂) X.xe s₁) X.xe s:=by
 refine aA (hi Xw s σ H _ I h) λv s1 h1=>aA h1 λitv s2 h2=>?_;obtain⟨it,fp,tn,J,H2,e,I2,T,st2,f2,wW⟩:=h2;subst e;refine V0 ?_;have hD0:H2 s2.heap.objs.size=none:=I2.hok.fresh (Np _);obtain⟨W,⟨m0,w0⟩,turn⟩:=wW _ hD0;generalize hD:s2.heap.objs.size=D at*;have I3:af X Xw σ (ak H2 D (.lst [])) {s2 with heap:=s2.heap.push {cls:= .type "list",dict:=none,data:= .seq ([]:List Vw).toArray}}:=by
  have:=I2.lnew (ys:=[]) (its:=[]) (t':=s2.toks) .nil (N9 _);rw [hD] at this;exact this
 generalize hs3:({s2 with heap:=s2.heap.push {cls:= .type "list",dict:=none,data:= .seq ([]:List Vw).toArray}}:Vz)=s3 at*;have up23:∀b o,s2.heap.get? b=some o->s3.heap.get? b=some o:=λb o e=>by rw [<-hs3];exact Nm _ e
 have fpD:∀b∈fp,b≠D:=λb hb z=>by
  obtain⟨o,ho,_⟩:=T.obj _ _ st2 b hb;have:=NB ho;rw [hD,z] at this;exact P7 _ this
 have f3:∀b∈fp,fU X Xw (ak H2 D (.lst [])) b:=λb hb=>⟨by rw [aE (fpD b hb)];exact(f2 b hb).1,(f2 b hb).2⟩;have st3:tn 0 s3.heap:=T.keep _ _ _ st2 λb hb o e=>up23 b o e;have lt3:∀b∈fp,b < s3.heap.objs.size:=λb hb=>by obtain⟨o,ho,_⟩:=T.obj _ _ st3 b hb;exact NB ho
 refine GQ λh₁ e₁ hns₁ up34=>?_;have I4:=GO S I3 f3 lt3 e₁ hns₁ up34;have st4:tn 0 h₁:=T.keep _ _ _ st3 λb hb o e=>up34 b o e;generalize hX':bF X scope N' fp s3.heap.objs.size s3 (ak H2 D (.lst []))=X' at*;have hg':PG X' tg g:=by rw [<-hX'];exact hg _ _ _ _
 have hf':eO X' ifs tc:=by rw [<-hX'];exact hf _ _ _ _
 have he':PE X' elt te:=by rw [<-hX'];exact he _ _ _ _
 have eP:X'.prog=X.prog:=by rw [<-hX'];rfl
 have eW:X'.w=X.w:=by rw [<-hX'];rfl
 have eK:X'.K=X.K:=by rw [<-hX'];rfl
 have eA:X'.A=X.A:=by rw [<-hX'];rfl
 have eC:X'.calm=true:=by rw [<-hX'];exact hc
 have eE:X'.xe=λ_ _=>False:=by rw [<-hX'];rfl
 have eEnv:X'.env=compEnvC scope (n5 X scope s3.heap.objs.size) s3.heap.objs.size X.env:=by rw [<-hX'];rfl
 have fpx:∀{H':Hp},(∀b∈fp,H' b=none)->∀b∈fp,fU X' [] H' b:=λ{H'} hn b hb=>by
  refine⟨hn b hb,?_,?_,.inl ?_,?_,?_⟩
  ·rw [eEnv];exact NL (lt3 b hb)
  ·have:=I4.ok.exfs b (by rw [<-hX'];exact hb);exact this
  ·rw [<-hX'];exact hb
  ·have:=I4.ok.exf b (by rw [<-hX'];exact hb);exact this.2
  ·intro p hp;rw [<-hX'] at hp;simp [bF] at hp
 have fin:∀(s':Vz)(H':Hp)(σ':St),af X' [] σ' H' s'->Q (.ref D) H'->compPost (VB X.prog X.w) X.A X.xe use Q' (.ref D) s3.heap.objs.size (.ok .next) s':=λs' H' σ' J q=>by
  have un:Un (fk X.stack) fp (ak H2 D (.lst [])) H' s3.heap s'.heap:=by have:=J.base;rw [<-hX'] at this;exact this
  have jos:s'.os=s3.os:=by have:=J.os;rw [<-hX'] at this;exact this
  have hC:H' s3.heap.objs.size=none:=by have:=J.free;rw [eEnv] at this;exact this
  have hok':bP X.prog X.w H' s'.heap:=by have:=J.hok;rw [eP,eW] at this;exact this
  have gS:∀h',PK s3.heap.objs.size s'.heap h'->af X Xw σ H' {s' with heap:=h'}:=λh' hs'=>by
   have un':Un (fk X.stack) fp (ak H2 D (.lst [])) H' s3.heap h':=
    ⟨λb o e n h1 h2=>hs'.extBut b o (NL (NB e)) (un.keep b o e n h1 h2),λb o e n h1 h2=>by
     obtain⟨sl,z⟩:=un.slot b o e n h1 h2;exact⟨sl,hs'.extBut b _ (NL (NB e)) z⟩,un.free,λb o e h2=>by
     obtain⟨o',z⟩:=un.there b o e h2;exact⟨o',hs'.extBut b o' (NL (NB e)) z⟩,un.tups,un.frzs,un.tbls⟩
   exact af.call' (s':={s' with heap:=h'}) I3 jos un' (hok'.but hC hs'.extBut) J.bare λb hb=>⟨(f3 b hb).2.2.2.1,(f3 b hb).2.1,(f3 b hb).2.2.2.2.1,(f3 b hb).2.2.2.2.2⟩
  have nsC:∃m,s'.heap.Ns s3.heap.objs.size m:=by
   obtain⟨m,hn,_⟩:=J.loc;rw [eEnv] at hn;exact⟨m,hn⟩
  exact hQ D s3.heap.objs.size s' H' (QZ I3.lt) (gS s'.heap (.refl ..)) gS q nsC I3.lt
   ⟨hC,λx c e=>by obtain⟨v,o,ho,_⟩:=I3.cell x c e;exact NL (NB ho),λp hp=>NL (NB (I3.pin p hp).1)⟩
 have loop:∀s4:Vz,s4=({s3 with heap:=h₁}:Vz)->
  Ww (VB X.prog X.w) X.A (.compLoop (.ListComp elt [⟨tg,iter,ifs,0⟩] scope pos) 0 (.ref it) (.ref D) X'.env) (compPost (VB X.prog X.w) X.A X.xe use Q' (.ref D) s3.heap.objs.size) s4:=by
  rintro s4 rfl;refine GP (λn s'=>∃i H',af X' [] (bJ k fr σ) H' s'/\tn i s'.heap/\(∀b∈fp,H' b=none)/\W i n H') ?_ m0 ⟨0,_,I4,st4,λb hb=>(f3 b hb).1,w0⟩;rintro n s5 ⟨i,H5,I5,st5,fr5,w5⟩;rcases turn i n H5 w5 with⟨stop,qn⟩ | ⟨go,step⟩
  ·have:=T.done X' eP eW eK eC i [] s5 _ H5 (λ_ _=>False) I5 (fpx fr5) st5 stop;rw [eA] at this;refine aA this λr s6 ⟨hr,I6⟩=>?_;subst hr;exact fin s6 H5 _ I6 qn
  ·have:=T.item X' eP eW eK eC i [] s5 _ H5 (λ_ _=>False) I5 (fpx fr5) st5 go;rw [eA] at this;refine aA this λr s6 ⟨u,hr,h6⟩=>?_;subst hr;refine aA h6 λ_ s7 ⟨x,H7,I7,r7,y7,st7,fr7⟩=>?_;have I7':=I7.pinned (fpx fr7) (T.obj _ _ st7);have h8:=hg' _ s7 _ H7 x u _ I7' r7 (step x H7 y7);rw [eP,eW,eA,eE] at h8;refine aA h8 λ_ s8 ⟨σ8,H8,I8,kp,q8⟩=>?_;have h9:=hf' _ s8 σ8 H8 _ I8 q8;rw [eP,eW,eA,eE] at h9;have again:∀{s9:Vz}{H9:Hp}{n':Nat},af X' ([]++lK fp s7.heap) σ8 H9 s9->n' < n->W (i+1) n' H9->∃m,m < n/\∃i H',af X' [] (bJ k fr σ) H' s9/\tn i s9.heap/\(∀b∈fp,H' b=none)/\W i m H':=λ{s9 H9 n'} I9 hn' w9=>by
    refine⟨n',hn',i+1,H9,I9.unpinned.weak kp.1 kp.2,T.keep _ _ _ st7 λb hb o e=>(I9.pin (b,o) (Ol _ (Ol _ (nJ hb e)))).1,λb hb=>?_,w9⟩;obtain⟨o,e,d⟩:=T.obj _ _ st7 b hb;exact(I9.pin (b,o) (Ol _ (Ol _ (nJ hb e)))).2.1
   refine aA h9 λok s9 ⟨H9,I9,q9⟩=>?_;cases ok with
   | false=>
    rw [Vr Nt] at q9;obtain⟨m',hm',w9⟩:=q9;rw [Vr Nt];exact again I9 hm' w9
   | true=>
    rw [Vs rfl] at q9;rw [Vs rfl];have h10:=he' _ s9 σ8 H9 _ I9 q9;rw [eP,eW,eA,eE] at h10;refine aA h10 λy s10 ⟨yv,H10,I10,r10,ys,hys,hz,m',hm',w10⟩=>?_;have h11:=Ah (X:=X') _ s10 σ8 H10 (.ref D) [yv] (.ref D) [y] (λ_ H'=>W (i+1) m' H') I10 rfl (.cons r10 .nil) ⟨D,ys,yv,rfl,rfl,hys,hz,w10⟩;rw [eP,eW,eA,eE] at h11;exact aA h11 λ_ s11 uu63=>by obtain⟨_,H11,I11,_,q11⟩:=uu63;exact again I11 hm' q11
 have hE:({newEnv scope s3.heap.objs.size X.env.globals (n5 X scope s3.heap.objs.size) X.env.qual none .none (some X.env) builtinsNs with scope:=relabel scope X.env}:Env)=X'.env:=by
  rw [eEnv];rfl
 have goal:=codeAny_compStart_list (elt:=elt) (target:=tg) (iter:=iter) (ifs:=ifs) (rest:=[]) (scope:=scope) (pos:=pos) (loop _ rfl) (T.self X.A 0 _ _ _ st4 (loop _ rfl));rw [<-hE] at goal;exact goal
theorem lR(hc:X.calm=true)(S:bb X.env.scope X.N N' k fr scope)(hi:PI X tg iter wi)
 (hg:∀fp C s H,PG (bF X scope N' fp C s H) tg g)(hf:∀fp C s H,eO (bF X scope N' fp C s H) ifs tc)(he:∀fp C s H,PE (bF X scope N' fp C s H) elt te)
 (hs:∀x,VX iter X.env x=pure x:=by intro _;rfl):PE X (.ListComp elt [⟨tg,iter,ifs,0⟩] scope pos) (iO wi g tc te k fr):=by
 intro Xw s σ H Q I h;have hcell:∀y∈scope.names,y.2= .free->∃c,X.env.cells.lookup y.1=some c:=λy hy e=>I.ok.has y.1 (S.outer y hy e);rw [eval_ListComp];refine Xt (use:=none) rfl hs (Ak hcell) S.kind S.names (Ao hc S hi hg hf he I h ?_);intro D C s' H' hC J gS q ns hlt _;obtain⟨m,hn⟩:=ns;exact⟨m,hn,λh' hs'=>⟨.ref D,H',gS h' hs',rfl,q⟩⟩
theorem GR{i:Nat}{x:Str}{pos' spos:Pos}(hN:X.N.Nodup)(hxi:X.N[i]?=some x)(hx:gJ X.env.scope x)(hc:X.calm=true)(S:bb X.env.scope X.N N' k fr scope)(hi:PI X tg iter wi)
 (hg:∀fp C s H,PG (bF X scope N' fp C s H) tg g)(hf:∀fp C s H,eO (bF X scope N' fp C s H) ifs tc)(he:∀fp C s H,PE (bF X scope N' fp C s H) elt te)
 (hsw:V5 (.ListComp elt [⟨tg,iter,ifs,0⟩] scope pos) (some (.Name x pos')) spos.line X.env=pure true)
 (hs:∀x,VX iter X.env x=pure x:=by intro _;rfl)(hfn:X.fn x=true\/X.env.scope.names.lookup x=some .local:=by first | exact .inl rfl | exact .inr rfl | assumption):
 PS X (.Assign [.Name x pos'] (.ListComp elt [⟨tg,iter,ifs,0⟩] scope pos) spos) (lF (iO wi g tc te k fr) (gL i)):=by
 intro Xw s σ H D I h;have hcell:∀y∈scope.names,y.2= .free->∃c,X.env.cells.lookup y.1=some c:=λy hy e=>I.ok.has y.1 (S.outer y hy e);rw [exec_Assign_Name_used _ _ _ _ hsw];refine Vx (Xr (Vx ?_));show VC _ X.A (do let _<-comprehension (.ListComp elt [⟨tg,iter,ifs,0⟩] scope pos) scope X.env _ (newList []) false (eval iter X.env) (some (assign (.Name x pos') X.env))) _ _ s;refine Vx (V3 (Xt (use:=some (assign (.Name x pos') X.env)) (Q:=λ_ s'=>∃σ' H',af X Xw σ' H' s'/\D.nx σ' H') rfl hs (Ak hcell) S.kind S.names (Ao hc S hi hg hf he I h ?_)) (λ_ s' hq=>VA (VA hq)) λ_ _ e=>e);intro D' C s' H' hC J gS q ns hlt ⟨c1,c2,c3⟩;obtain⟨m,hn⟩:=ns;show VC _ X.A (assign (.Name x pos') X.env (.ref D')) _ _ _;refine wpAny_assign_Name (xx J hN hxi hx (v:= .ref D') rfl (λs2 J2 sb=>?_) hfn);obtain⟨a,sb,ha⟩:=sb;have hCa:C≠a:=by
  rcases ha with z | z
  ·rw [z];exact hC
  ·exact Ne.symm (c2 _ _ z)
 refine⟨m,hn.sameBut sb hCa,λh3 hs3=>⟨_,H',?_,q⟩⟩;exact J2.turned (t':=s2.toks) hs3.extBut c1 hC (.inr (NP J.ok.above (Po hlt))) c2 c3
end
section
variable {X:Cx}
theorem Ap(hc:X.calm=true):cD X (.builtin "sum") (λxs H Q=>∃(a:Vy)(ns:List Int),xs=[.ref a]/\aL X.K H a (ns.map V.int)/\Q (.int ns.sum) H):=by
 intro Xw s σ H xs us Q I r h;obtain⟨a,ns,rfl,hl,q⟩:=h;obtain⟨u,rfl,rx⟩:=cH r;cases rx;obtain⟨its,rv,p,hz⟩:=I.list hl;have hi:V4 its ns:=Gd rv;have hall:AllInts its.toArray:=hi.allInts;obtain⟨ys,hys⟩:=hall.items;have hn:numsOf its.toArray.toList=ns:=by rw [show its.toArray.toList=its from rfl,hi.numsOf]
 rw [hys,nums_intItems] at hn;have hl':=p.isList;rw [hys] at hl';refine sum_intListG (I.ok.hd hc) hl' λh' tk t' hk=>?_;refine⟨.int ns.sum,H,I.kept hk,⟨t',?_⟩,q⟩;rw [preSum_eq,NI Vu,hn]
end
end L2
namespace Att
open PySem PySem.W PySem.Calls PyProof.Rows
theorem GU{ns:List Int}(h:Uv [Sb (ns.map Qu)]=true):∀n∈ns,OR n<=1048576:=by
 have h1:(Sb (ns.map Qu)).layable=true:=by simpa [Uv] using h
 have h2:(Sb (ns.map Qu)).weight<=1048576:=(PySem.W.layableW_iff.mp h1).2.2;have key:∀l:List Int,∀n∈l,OR n<=QT (l.map Qu):=by
  intro l
  induction l with
  | nil=>intro n hn;simp at hn
  | cons x r ih=>
   intro n hn;have e:QT ((x::r).map Qu)=OR x+1+QT (r.map Qu):=by
    rw [Nq,QT,U8];rfl
   rw [e];rcases Ny.mp hn with z | z
   ·subst z;omega
   ·have:=ih n z;omega
 intro n hn;have e:(Sb (ns.map Qu)).weight=QT (ns.map Qu):=by rw [U8]
 rw [e] at h2;exact NP (key ns n hn) h2
theorem attach_callB{l:OpenLaw}{n:Nat}{q:VL}{loose:List Str}{XP:(Str->Option Vw)->VQ->Prop}{YP:VP->VQ->Prop}{d:DefRec}
 (hn:l.most=some n)(hdf:d.params.defaults=[])
 (call:∀(w:VP) (s₀ s₁:Vz) (mg mb:Str->Option Vw) (fa:Vy) (o:Obj) (pm cd doc:Vw) (a:Vy) (vs:List Vw) (ns:List Int),
  Ground q loose [] XP w s₀ mg mb s₁.heap->YP w s₁.heap->
  s₁.heap.get? fa=some o->o.data= .func (docDef d.name d.params d.body d.scope pm cd doc)->s₁.heap.CodeRec cd d.name->mg d.name=some (.ref fa)->
  s₁.heap.get? a=some {cls:= .type "list",data:= .seq vs.toArray}->V4 vs ns->ns.length<=n->(∀z∈ns,OR z<=1048576)->s₁.gens=#[]->
  Ww (VB l.prog w) callerA (.call (.ref fa) ⟨[.ref a],[]⟩) (λr s'=>r= .ok (.ret (.bool true))/\OldK s₁.heap s'.heap/\s'.os=s₁.os/\W9 s'.gens) s₁):
 WalkO q loose XP YP l.row.toRowW d [] (λf vs=>UE f vs):=by
 intro w s₀ s₁ mg mb G Y fa o pm cd doc dV kV ho hd hcd hD hmg hg args vals as hpre hlay hrd hwl hlo;obtain rfl:dV= .none:=Dflts.none hD hdf;obtain rfl:kV= .none:=Dflts.noKw hD;obtain⟨a,vs,ns,rfl,rfl,hobj,hints,hlen⟩:=GH hn hpre hwl;have hb:∀z∈ns,OR z<=1048576:=GU hlay;refine enter_call (Wx (call w s₀ s₁ mg mb fa o pm cd doc a vs ns G Y ho (fd_plain hd) hcd hmg hobj hints hlen hb hg) λr s' hq=>?_);obtain⟨rfl,h2,h3,h4⟩:=hq;exact⟨.inl ⟨.bool true,.bool true,[],rfl,λ_=>rfl,.bool true,GI l _,λ_=>⟨U3.nil,λ_ hm=>(nomatch hm)⟩⟩,h2,h3,h4⟩
end Att
namespace L2
open PySem PySem.Spec PyProof.Rows
theorem GV{l:UG}{n k:Nat}{q:VL}{loose:List Str}{XP:(Str->Option Vw)->VQ->Prop}{YP:VP->VQ->Prop}{d:DefRec}{K:Params->Nh}{CX:VP->d5}{sp:VP->Sp}{x:Str}
 (hn:l.most=some n)(hn2:n<=VG)(hdf:d.params.defaults=[])(hr:bx k callerA)
 (hY:∀(w:VP) (h:VQ),YP w h->(K w.params).In h)
 (F:∀(w:VP) (mg:Str->Option Vw) (fa:Vy) (h:VQ),(K w.params).In h->h.Ns VR mg->mg d.name=some (.ref fa)->
  ∃fd:VN,(∀(s:Vz) (u:Vw),BindsTo s fd ⟨[u],[]⟩ [(x,u)])/\
   ∀base:VQ,(K w.params).In base->base.Ns VR mg->aH l.prog w (K w.params) mg base (CX w) k fa fd [x] (sp w))
 (hsp:∀(w:VP) (H:Hp) (a:Vy) (ns:List Int),ns.length<=n->(∀z∈ns,OR z<=1048576)->nZ H->aL (K w.params) H a (ns.map V.int)->sp w [.ref a] H (λv _=>v= .bl true) λ_ _ _=>False)
 (hCX:∀(w:VP) (H:Hp) (s:Vz) (e:Vw) (s':Vz),CX w [] H s (λ_ _ _=>False) e s'->False):
 US q loose XP YP l.row.toRowW d [] (λf vs=>UE f vs):=by
 refine Att.attach_callB hn hdf λw s₀ s₁ mg mb fa o pm cd doc a vs ns G Y ho hd hcd hmg hobj hints hlen hb hg=>?_;have KX:=hY w _ Y;obtain⟨fd,hbi,hF⟩:=F w mg fa _ KX G.T.g hmg;exact GJ KX G.T.g G.T.b G.T.builtins G.T.nolimit hg hobj hints (NP hlen hn2) hr hF hbi (λH hO hS=>hsp w H a ns hlen hb hO hS) λH e s'=>hCX w H s₁ e s'
theorem walk_ofBK{l:UG}{n k:Nat}{q:VL}{loose:List Str}{XP:(Str->Option Vw)->VQ->Prop}{YP:VP->VQ->Prop}{d:DefRec}{K:Params->Nh}{CX:d5}{sp:Nh->Sp}{x:Str}
 (hn:l.most=some n)(hn2:n<=VG)(hdf:d.params.defaults=[])(hr:bx k callerA)
 (hY:∀(w:VP) (h:VQ),YP w h->(K w.params).In h)
 (F:∀(w:VP) (mg:Str->Option Vw) (fa:Vy) (h:VQ),(K w.params).In h->h.Ns VR mg->mg d.name=some (.ref fa)->
  ∃fd:VN,(∀(s:Vz) (u:Vw),BindsTo s fd ⟨[u],[]⟩ [(x,u)])/\
   ∀base:VQ,(K w.params).In base->base.Ns VR mg->aH l.prog w (K w.params) mg base CX k fa fd [x] (sp (K w.params)))
 (hsp:∀(K:Nh) (H:Hp) (a:Vy) (ns:List Int),ns.length<=n->(∀z∈ns,OR z<=1048576)->nZ H->aL K H a (ns.map V.int)->sp K [.ref a] H (λv _=>v= .bl true) λ_ _ _=>False)
 (hCX:∀(H:Hp) (s:Vz) (e:Vw) (s':Vz),CX [] H s (λ_ _ _=>False) e s'->False):
 US q loose XP YP l.row.toRowW d [] (λf vs=>UE f vs):=
 GV (K:=K) (CX:=λ_=>CX) (sp:=λw=>sp (K w.params)) hn hn2 hdf hr hY F (λw H a ns h1 hb h2 h3=>hsp (K w.params) H a ns h1 hb h2 h3) λ_ H s e s'=>hCX H s e s'
def jY(p:Vy)(H H':Hp):Prop:=∀b o,H b=some o->b≠p->H' b=some o
theorem ao.new{H:Hp}{p:Vy}{o:HO}(h:H p=none):ao H (ak H p o):=λb u e=>by rw [aE (cT e h)];exact e
def FR(J:It)(g:TG)(tb:TS)(D:hJ)(σ:St)(H1:Hp):Prop:=∃W:Nat->Nat->St->Hp->Prop,(∃m,W 0 m σ H1)/\∀i m σ H,W i m σ H->
 (J.stop i H/\D.nx σ H)\/(J.go i H/\∃N:St->Hp->Prop,(∀σ' H',N σ' H'->∃m',m' < m/\W (i+1) m' σ' H')/\∀x H',J.yld i H x H'->g x σ H' λσ2 H2=>tb {D with nx:=N,ct:=N,bk:=D.nx} σ2 H2)
theorem GW{ta:TA}{g:TG}{tb:TS}:lJ (tj ta) g tb=λD σ H=>ta σ H λvs H1=>∃j:Int,vs=[.int j]/\-(2 ^ 62)<=j/\j < 2 ^ 62/\FR (gM 0 j.toNat) g tb D σ H1:=rfl
theorem GX{ta:TA}{g:TG}{tb:TS}:lJ (tm ta) g tb=λD σ H=>ta σ H λvs H1=>∃i j:Int,vs=[.int i,.int j]/\(-(2 ^ 62)<=i/\i < 2 ^ 62/\-(2 ^ 62)<=j/\j < 2 ^ 62)/\FR (gM i (j - i).toNat) g tb D σ H1:=rfl
theorem GY{K:Nh}{tl:TE}{g:TG}{tb:TS}:lJ (sX K tl) g tb=λD σ H=>tl σ H λx H1=>∃a,x= .ref a/\(∃xs,aL K H1 a xs)/\FR (lH K a) g tb D σ H1:=rfl
theorem GZ{K:Nh}{tl:TE}{g:TG}{tb:TS}:lJ (sY K tl) g tb=λD σ H=>tl σ H λx H1=>∃a,x= .ref a/\(∃xs,br K H1 a xs)/\FR (lI K a) g tb D σ H1:=rfl
def jn(J:It)(g:TG)(tc:TT)(te:TE)(k:Nat)(fr:List Nat)(σ:St)(H1:Hp)(Q:VK):Prop:=∀D,H1 D=none->∃W:Nat->Nat->Hp->Prop,(∃m,W 0 m (ak H1 D (.lst [])))/\∀i m H,W i m H->
 (J.stop i H/\Q (.ref D) H)\/(J.go i H/\∀x H',J.yld i H x H'->g x (bJ k fr σ) H' λσ2 H2=>jm (bJ k fr σ) σ2/\tc σ2 H2 λok H3=>
  if ok=true then te σ2 H3 λy H4=>∃ys,H4 D=some (.lst ys)/\ys.length < VG/\∃m',m' < m/\W (i+1) m' (ak H4 D (.lst (ys++[y])))
  else ∃m',m' < m/\W (i+1) m' H3)
theorem G0{ta:TA}{g:TG}{tc:TT}{te:TE}{k:Nat}{fr:List Nat}:iO (tj ta) g tc te k fr=λσ H Q=>ta σ H λvs H1=>∃j:Int,vs=[.int j]/\-(2 ^ 62)<=j/\j < 2 ^ 62/\jn (gM 0 j.toNat) g tc te k fr σ H1 Q:=rfl
theorem G1{ta:TA}{g:TG}{tc:TT}{te:TE}{k:Nat}{fr:List Nat}:iO (tm ta) g tc te k fr=λσ H Q=>ta σ H λvs H1=>∃i j:Int,vs=[.int i,.int j]/\(-(2 ^ 62)<=i/\i < 2 ^ 62/\-(2 ^ 62)<=j/\j < 2 ^ 62)/\jn (gM i (j - i).toNat) g tc te k fr σ H1 Q:=rfl
theorem G2{K:Nh}{tl:TE}{g:TG}{tc:TT}{te:TE}{k:Nat}{fr:List Nat}:iO (sX K tl) g tc te k fr=λσ H Q=>tl σ H λx H1=>∃a,x= .ref a/\(∃xs,aL K H1 a xs)/\jn (lH K a) g tc te k fr σ H1 Q:=rfl
theorem G3{K:Nh}{tl:TE}{g:TG}{tc:TT}{te:TE}{k:Nat}{fr:List Nat}:iO (sY K tl) g tc te k fr=λσ H Q=>tl σ H λx H1=>∃a,x= .ref a/\(∃xs,br K H1 a xs)/\jn (lI K a) g tc te k fr σ H1 Q:=rfl
theorem Aq{fr:List Nat}{σ:St}{v:Option V}:jm (bJ 1 fr σ) ((bJ 1 fr σ).set 0 v):=by
 refine⟨Vu,λi w h=>?_⟩;cases i with
 | zero=>simp [bJ,NG] at h
 | succ i=>simpa [bJ,NG] using h
theorem G4{lo:Int}{n:Nat}{te:TE}{fr:List Nat}{σ:St}{H:Hp}{Q:VK}(f:Nat->V)(hn:n<=1000000)
 (ht:∀(i:Nat) (H':Hp) (R:VK),i < n->ao H H'->(∀H'',ao H' H''->R (f i) H'')->te ((bJ 1 fr σ).set 0 (some (.int (lo+i)))) H' R)
 (hq:∀D H',H D=none->ao H H'->H' D=some (.lst ((OA n).map f))->Q (.ref D) H'):jn (gM lo n) (gL 0) Am te 1 fr σ H Q:=by
 intro D hD;refine⟨λi m H'=>m=n - i/\i<=n/\ao H H'/\H' D=some (.lst ((OA i).map f)),⟨n,Vu,N9 _,ao.new hD,by rw [aW];rfl⟩,?_⟩;rintro i m H1 ⟨rfl,hi,s1,e1⟩;by_cases hlt:i < n
 ·refine .inr ⟨hlt,λx H' y=>?_⟩;obtain⟨e,y⟩:=y;subst e y;refine⟨Aq,?_⟩;show te _ _ _;refine ht i H' _ hlt s1 λH2 s2=>?_;refine⟨_,s2 D _ e1,?_,n - (i+1),Vq,rfl,hlt,?_,?_⟩
  ·rw [Nj,Qz,V6];omega
  ·exact λb o h=>by rw [aE (cT h hD)];exact s2 b o (s1 b o h)
  ·rw [aW,QU,N8];rfl
 ·have e:i=n:=Vq
  subst e;exact .inl ⟨Np _,hq D H1 hD s1 e1⟩
theorem cxK{CX:d5}{P:VL}{w:VP}{K:Nh}{mg:Str->Option Vw}{base:VQ}{N:List Str}{qual:Str}{scope:We}{f:Vy}{cd:Vw}{A:VS}{outer:List Env}{s:Vz}{H:Hp}{E:XK}:(hU CX P w K mg base N qual scope f cd A outer s H E).K=K:=rfl
theorem cmK{X:Cx}{scope:We}{N':List Str}{fp:List Vy}{C:Vy}{s:Vz}{H:Hp}:(bF X scope N' fp C s H).K=X.K:=rfl
theorem jZ{K:Nh}{p:Vy}{xs:List V}{i:Int}{v:V}{H:Hp}{Q:VK}(h:aL K H p xs)(hv:atI xs i=some v)(q:Q v H):nW K (.ref p) (.int i) H Q:=⟨p,xs,i,v,rfl,rfl,h,hv,q⟩
theorem j3{K:Nh}{p:Vy}{xs:List V}{i:Int}{v:V}{H:Hp}{Q:VK}(h:br K H p xs)(hv:atI xs i=some v)(q:Q v H):nX K (.ref p) (.int i) H Q:=⟨p,xs,i,v,rfl,rfl,h,hv,q⟩
theorem tS{a b:Int}:(if b < a then b else a)=min a b:=by
 by_cases h:b < a
 ·rw [Vs h];omega
 ·rw [Vr h];omega
theorem G5:VW "divmod"=some (.builtin "divmod"):=cp
theorem iP:VW "isinstance"=some (.builtin "isinstance"):=cp
theorem lT:VW "int"=some (.type "int"):=cp
theorem tT:VW "bool"=some (.type "bool"):=cp
theorem Ar:VW "str"=some (.type "str"):=cp
theorem gc:VW "tuple"=some (.type "tuple"):=cp
theorem G6:VW "list"=some (.type "list"):=cp
theorem G7:VW "dict"=some (.type "dict"):=cp
open PySem PySem.Spec PyProof.Rows PySem.W
section
variable {M:Model} {A:VS} {E:Vw->Vz->Prop}
variable {nm q:Str} {C N:Vy} {bs bm:List Vw} {hdct:Bool} {sn:List Str} {sub:List Vw} {ab:Bool} {col:Option Bool} {dd:Option Vy} {k0 k1 k2 k3 k5:Option Vw} {newId:String}
variable {nm' q':Str} {C' N':Vy} {bs' bm':List Vw} {hdct':Bool} {sn':List Str} {sub':List Vw} {ab':Bool} {col':Option Bool} {dd':Option Vy} {k0' k1' k2' k3' k5':Option Vw} {newId':String}
end
section
variable {X:Cx}
theorem As{bs:List Bool}{its:List Vw}(r:aC (bs.map V.bl) its):its=bs.map P0:=by
 induction bs generalizing its with
 | nil=>cases r;rfl
 | cons b bs ih=>
  rw [Nq] at r;cases r with
  | cons r1 r2=>
   rw [Nq,<-ih r2];exact congrArg (·::_) r1
theorem G8(bs:List Bool)(f:Nat->Bool)(h:∀i,i < bs.length->f i=bs.getD i true):(OA bs.length).all f=bs.all id:=by
 rw [Qt,PV,PV];constructor
 ·intro z b hb;obtain⟨i,hi,e⟩:=OS hb;have:=z i (Q5.mpr hi);rw [h i hi,Pr,NN hi] at this;rw [<-e];exact this
 ·intro z i hi;have hi:=Q5.mp hi;rw [h i hi,Pr,NN hi];exact z _ (OP hi)
theorem G9(bs:List Bool)(f:Nat->Bool)(h:∀i,i < bs.length->f i=bs.getD i true):(OA bs.length).any f=bs.any id:=by
 rw [Qt,QJ,QJ];constructor
 ·rintro⟨i,hi,z⟩;have hi:=Q5.mp hi;rw [h i hi,Pr,NN hi] at z;exact⟨_,OP hi,z⟩
 ·rintro⟨b,hb,z⟩;obtain⟨i,hi,e⟩:=OS hb;refine⟨i,Q5.mpr hi,?_⟩;rw [h i hi,Pr,NN hi];show bs[i]=true;rw [e];exact z
theorem Au{bs:List Bool}{i:Nat}{v:Vw}(h:(bs.map P0).toArray[i]?=some v):v= .bool (bs.getD i true):=by
 have h':(bs.map P0)[i]?=some v:=by simpa using h
 rw [NK] at h';cases e:bs[i]? with
 | none=>rw [e] at h';cases h'
 | some b=>
  rw [e] at h';rw [Pr,e];exact(Oi h').symm
theorem Av{prog:VL}{w:VP}{A:VS}{E:Vw->Vz->Prop}{s:Vz}{l:Vy}{items:Array Vw}{Q:Vw->Vz->Prop}(hl:s.heap.IsList l items)
 (h:∀s₂:Vz,s₂={s with heap:=s.heap.push {cls:= .type "list_iterator",data:= .fields #[.ref l,.int 0 0]}}->
  (s₂.heap.IsListIter s.heap.objs.size l 0/\s₂.heap.IsList l items)->l≠s.heap.objs.size->Q (.ref s.heap.objs.size) s₂):VC (VB prog w) A (pyIter (.ref l)) Q E s:=by
 have hlt:l < s.heap.objs.size:=by obtain⟨_,e,_⟩:=hl;exact NB e
 exact W0 hl (h _ rfl ⟨⟨_,NH _ rfl,rfl,rfl⟩,hl.push _⟩ (NL hlt))
theorem Aw(hc:X.calm=true):cD X (.builtin "all") (λxs H Q=>∃(a:Vy)(bs:List Bool),xs=[.ref a]/\aL X.K H a (bs.map V.bl)/\Q (.bl (bs.all id)) H):=by
 intro Xw s σ H xs us Q I r h;obtain⟨a,bs,rfl,hl,q⟩:=h;obtain⟨u,rfl,rx⟩:=cH r;cases rx;obtain⟨its,rv,p,hz⟩:=I.list hl;have hi:=As rv;subst hi;refine call_all_walk (Av p.isList λs₂ e st hlI=>?_);subst e;refine⟨_,_,_,_,_,_,λi=>bs.getD i true,rfl,Ti (A:=X.A.in1) (I.ok.hd hc) _ a hlI _,st,λi v s' Q' E' hP hq=>by rw [Au hP];exact V8 hq,λh' tk hk=>?_⟩;have e:=G8 bs (λi=>bs.getD i true) λ_ _=>rfl;have e2:(NM P0 bs).toArray.size=bs.length:=Vu
 rw [e2,e];exact⟨.bl (bs.all id),H,I.kept (old_kept hk),rfl,q⟩
theorem Ha(hc:X.calm=true):cD X (.builtin "any") (λxs H Q=>∃(a:Vy)(bs:List Bool),xs=[.ref a]/\aL X.K H a (bs.map V.bl)/\Q (.bl (bs.any id)) H):=by
 intro Xw s σ H xs us Q I r h;obtain⟨a,bs,rfl,hl,q⟩:=h;obtain⟨u,rfl,rx⟩:=cH r;cases rx;obtain⟨its,rv,p,hz⟩:=I.list hl;have hi:=As rv;subst hi;refine call_any_walk (Av p.isList λs₂ e st hlI=>?_);subst e;refine⟨_,_,_,_,_,_,λi=>bs.getD i true,rfl,Ti (A:=X.A.in1) (I.ok.hd hc) _ a hlI _,st,λi v s' Q' E' hP hq=>by rw [Au hP];exact V8 hq,λh' tk hk=>?_⟩;have e:=G9 bs (λi=>bs.getD i true) λ_ _=>rfl;have e2:(NM P0 bs).toArray.size=bs.length:=Vu
 rw [e2,e];exact⟨.bl (bs.any id),H,I.kept (old_kept hk),rfl,q⟩
end
open PySem PySem.Spec PyProof.Rows PySem.W PySem.Calls PySem.Builtin.ObjectAttr PySem.Builtin PySem.Builtin.Getset_descriptor
section
variable {X:Cx}
abbrev cZ(d:Vv):Prop:=Om d=true
end
theorem Ax:VW "all"=some (.builtin "all"):=cp
theorem Hb:VW "any"=some (.builtin "any"):=cp
def Hc(p:Vy)(h:VQ):Prop:=∃(n:Int)(t:Tok)(k:Nat),h.get? p=some {cls:= .type "list",data:= .seq #[.int n t] k}
abbrev Hd(p:Vy):HO:= .ext (Hc p)
abbrev He:Vv:= .dict [(.none,.none)]
def Hf(p:Vy)(h:VQ):Prop:=∃(a b c:Int)(t u v:Tok)(k:Nat),h.get? p=some {cls:= .type "list",data:= .seq #[.int a t,.int b u,.int c v] k}
abbrev gf(p:Vy):HO:= .ext (Hf p)
abbrev fC:Vv:= .dict [(.none,.bool true)]
abbrev ft(ds:List Vv):Vv:= .dict [(.none,.list ds)]
abbrev jo(C:Vy)(kp ds:List Vv):Vv:= .dict [(.none,.tuple [.int (C:Int),.list kp,.list ds])]
abbrev Ay(kp ds:List Vv):Vv:= .dict [(.bool true,.tuple [.list kp,.list ds])]
abbrev Ex:=Vy->Prop
abbrev n8:Hp:=λ_=>none
mutual
inductive Dt (K:Nh) (H:Hp) (O:Ex):V->Vv->Prop
 | non:Dt K H O .non .none
 | bl (b:Bool):Dt K H O (.bl b) (.bool b)
 | int (i:Int):Dt K H O (.int i) (.int i)
 | str (x:Str):Dt K H O (.str x) (.str x)
 | tup {a:Vy} {xs:List V} {ds:List Vv}:Rd H a (.tup xs)->¬O a->aj K H O xs ds->Dt K H O (.ref a) (.tuple ds)
 | tupK {a:Vy} {xs:List V} {ds:List Vv}:br K n8 a xs->aj K H O xs ds->Dt K H O (.ref a) (.tuple ds)
 | lst {a:Vy} {xs:List V} {ds:List Vv}:Rd H a (.lst xs)->¬O a->aj K H O xs ds->Dt K H O (.ref a) (.list ds)
 | pack {p:Vy}:H p=some (Hd p)->¬O p->Dt K H O (.ref p) He
 | purse {p:Vy}:H p=some (gf p)->¬O p->Dt K H O (.ref p) fC
 | dct0 {a:Vy}:H a=some (.dK [])->¬O a->Dt K H O (.ref a) (.dict [])
 | obj {a C dx:Vy} {fs:List (Str×V)} {kp ds:List Vv}:H a=some (.ins C dx fs)->kp=fs.map (λp=>Nl p.1)->¬O a->aj K H O (fs.map (·.2)) ds->Dt K H O (.ref a) (jo C kp ds)
 | dic {a:Vy} {ob:Obj} {kv:List (ai×V)} {ks:List Str} {kp ds:List Vv}:H a=some (.frz ob (.dK kv))->kv.map (·.1)=ks.map OC->kp=ks.map Nl->¬O a->aj K H O (kv.map (·.2)) ds->Dt K H O (.ref a) (Ay kp ds)
 | scr {a:Vy} {xs:List V} {ds:List Vv}:(Rd H a (.lst xs)/\¬O a)\/aL K n8 a xs->aj K H O xs ds->Dt K H O (.ref a) (ft ds)
inductive aj (K:Nh) (H:Hp) (O:Ex):List V->List Vv->Prop
 | nil:aj K H O [] []
 | cons {v:V} {d:Vv} {vs:List V} {ds:List Vv}:Dt K H O v d->aj K H O vs ds->aj K H O (v::vs) (d::ds)
end
theorem Rd.same{H H':Hp}{a:Vy}{u:HO}(s:∀o,H a=some o->H' a=some o)(h:Rd H a u):Rd H' a u:=by
 rcases h with h | ⟨o,h⟩
 ·exact .inl (s _ h)
 ·exact .inr ⟨o,s _ h⟩
theorem Rd.trk{H:Hp}{a:Vy}{u:HO}(h:Rd H a u):H a≠none:=by
 rcases h with h | ⟨o,h⟩ <;> rw [h] <;> exact λz=>nomatch z
section
variable {K:Nh}
structure aS (H H':Hp) (O O':Ex):Prop where
 keep:∀b o,H b=some o->¬O b->H' b=some o
 out:∀b,H b≠none->¬O b->¬O' b
mutual
theorem Dt.step{H H':Hp}{O O':Ex}(S:aS H H' O O'):∀{v:V}{d:Vv},Dt K H O v d->Dt K H' O' v d
 | _,_,.non=>.non
 | _,_,.bl b=>.bl b
 | _,_,.int i=>.int i
 | _,_,.str x=>.str x
 | _,_,.tup h n r=>.tup (h.same λo e=>S.keep _ o e n) (S.out _ h.trk n) (aj.step S r)
 | _,_,.tupK h r=>.tupK h (aj.step S r)
 | _,_,.lst h n r=>.lst (h.same λo e=>S.keep _ o e n) (S.out _ h.trk n) (aj.step S r)
 | _,_,.pack h n=>.pack (S.keep _ _ h n) (S.out _ (by rw [h];exact λz=>nomatch z) n)
 | _,_,.purse h n=>.purse (S.keep _ _ h n) (S.out _ (by rw [h];exact λz=>nomatch z) n)
 | _,_,.dct0 h n=>.dct0 (S.keep _ _ h n) (S.out _ (by rw [h];exact λz=>nomatch z) n)
 | _,_,.obj h e n r=>.obj (S.keep _ _ h n) e (S.out _ (by rw [h];exact λz=>nomatch z) n) (aj.step S r)
 | _,_,.dic h e1 e2 n r=>.dic (S.keep _ _ h n) e1 e2 (S.out _ (by rw [h];exact λz=>nomatch z) n) (aj.step S r)
 | _,_,.scr h r=>.scr (h.imp (λh=>⟨h.1.same λo e=>S.keep _ o e h.2,S.out _ h.1.trk h.2⟩) id) (aj.step S r)
theorem aj.step{H H':Hp}{O O':Ex}(S:aS H H' O O'):∀{vs:List V}{ds:List Vv},aj K H O vs ds->aj K H' O' vs ds
 | _,_,.nil=>.nil
 | _,_,.cons h r=>.cons (Dt.step S h) (aj.step S r)
end
theorem aS.same{H H':Hp}{O:Ex}(s:ao H H'):aS H H' O O:=⟨λb o e _=>s b o e,λ_ _ n=>n⟩
theorem Dt.mono{H H':Hp}{O:Ex}{v:V}{d:Vv}(s:ao H H')(h:Dt K H O v d):Dt K H' O v d:=h.step (.same s)
theorem aj.mono{H H':Hp}{O:Ex}{v:List V}{d:List Vv}(s:ao H H')(h:aj K H O v d):aj K H' O v d:=h.step (.same s)
theorem aj.length{H:Hp}{O:Ex}:∀{vs:List V}{ds:List Vv},aj K H O vs ds->vs.length=ds.length
 | _,_,.nil=>rfl
 | _,_,.cons _ r=>by rw [NF,NF,aj.length r]
theorem aj.get{H:Hp}{O:Ex}:∀{vs:List V}{ds:List Vv}{i:Nat}{v:V},aj K H O vs ds->vs[i]?=some v->∃d,ds[i]?=some d/\Dt K H O v d
 | _,_,_,_,.nil,e=>by simp at e
 | _,_,0,_,.cons h _,e=>by simp at e;subst e;exact⟨_,rfl,h⟩
 | _,_,i+1,_,.cons _ r,e=>by simpa using aj.get (i:=i) r (by simpa using e)
theorem aj.getD{H:Hp}{O:Ex}:∀{vs:List V}{ds:List Vv}{i:Nat}{d:Vv},aj K H O vs ds->ds[i]?=some d->∃v,vs[i]?=some v/\Dt K H O v d
 | _,_,_,_,.nil,e=>by simp at e
 | _,_,0,_,.cons h _,e=>by simp at e;subst e;exact⟨_,rfl,h⟩
 | _,_,i+1,_,.cons _ r,e=>by simpa using aj.getD (i:=i) r (by simpa using e)
theorem aj.append{H:Hp}{O:Ex}:∀{vs ws:List V}{ds es:List Vv},aj K H O vs ds->aj K H O ws es->aj K H O (vs++ws) (ds++es)
 | _,_,_,_,.nil,s=>s
 | _,_,_,_,.cons h r,s=>.cons h (aj.append r s)
theorem aj.take{H:Hp}{O:Ex}:∀{vs:List V}{ds:List Vv}(n:Nat),aj K H O vs ds->aj K H O (vs.take n) (ds.take n)
 | _,_,0,_=>.nil
 | _,_,_+1,.nil=>.nil
 | _,_,n+1,.cons h r=>.cons h (aj.take n r)
theorem aj.drop{H:Hp}{O:Ex}:∀{vs:List V}{ds:List Vv}(n:Nat),aj K H O vs ds->aj K H O (vs.drop n) (ds.drop n)
 | _,_,0,r=>r
 | _,_,_+1,.nil=>.nil
 | _,_,n+1,.cons _ r=>aj.drop n r
theorem aj.ints{H:Hp}{O:Ex}:∀(ns:List Int),aj K H O (ns.map V.int) (ns.map Nn)
 | []=>.nil
 | n::r=>.cons (.int n) (aj.ints r)
inductive Sh (K:Nh) (H:Hp) (O:Ex):V->Vv->Prop
 | dt {v:V} {d:Vv}:Dt K H O v d->Sh K H O v d
 | own {l:Vy} {vs:List V} {ds:List Vv}:H l=some (.lst vs)->aj K H O vs ds->Sh K H O (.ref l) (.list ds)
theorem Sh.mono{H H':Hp}{O:Ex}{v:V}{d:Vv}(s:ao H H'):Sh K H O v d->Sh K H' O v d
 | .dt h=>.dt (h.mono s)
 | .own h r=>.own (s _ _ h) (r.mono s)
theorem Dt.all{H:Hp}{O:Ex}{v:V}{d:Vv}(h:Dt K H O v d):Dt K H (λ_=>False) v d:=h.step ⟨λ_ _ e _=>e,λ_ _ _ z=>z⟩
theorem aj.all{H:Hp}{O:Ex}{v:List V}{d:List Vv}(h:aj K H O v d):aj K H (λ_=>False) v d:=h.step ⟨λ_ _ e _=>e,λ_ _ _ z=>z⟩
theorem Sh.all{H:Hp}{O:Ex}{v:V}{d:Vv}:Sh K H O v d->Dt K H (λ_=>False) v d
 | .dt h=>h.all
 | .own h r=>.lst (.inl h) (λz=>z) r.all
theorem br.of0{H:Hp}{a:Vy}{xs:List V}(h:br K n8 a xs):br K H a xs:=by
 rcases h with(h | ⟨o,h⟩) | h
 ·cases h
 ·cases h
 ·exact .inr h
theorem aL.of0{H:Hp}{a:Vy}{xs:List V}(h:aL K n8 a xs):aL K H a xs:=by
 rcases h with(h | ⟨o,h⟩) | h
 ·cases h
 ·cases h
 ·exact .inr h
theorem Sh.tup{H:Hp}{O:Ex}{v:V}{ds:List Vv}(h:Sh K H O v (.tuple ds)):∃a xs,v= .ref a/\br K H a xs/\aj K H O xs ds:=by
 cases h with
 | dt h=>
  cases h with
  | tup h _ r=>exact⟨_,_,rfl,.inl h,r⟩
  | tupK h r=>exact⟨_,_,rfl,h.of0,r⟩
theorem Sh.lstR{H:Hp}{O:Ex}{v:V}{ds:List Vv}(h:Sh K H O v (.list ds)):∃a xs,v= .ref a/\Rd H a (.lst xs)/\aj K H O xs ds:=by
 cases h with
 | dt h=>
  cases h with
  | lst h _ r=>exact⟨_,_,rfl,h,r⟩
 | own h r=>exact⟨_,_,rfl,.inl h,r⟩
theorem Sh.lst{H:Hp}{O:Ex}{v:V}{ds:List Vv}(h:Sh K H O v (.list ds)):∃a xs,v= .ref a/\aL K H a xs/\aj K H O xs ds:=by
 obtain⟨a,xs,e,h,r⟩:=h.lstR;exact⟨a,xs,e,.inl h,r⟩
theorem Sh.scr{H:Hp}{O:Ex}{v:V}{ds:List Vv}(h:Sh K H O v (ft ds)):∃a xs,v= .ref a/\aL K H a xs/\aj K H O xs ds:=by
 cases h with
 | dt h=>
  cases h with
  | scr h r=>
   rcases h with h | h
   ·exact⟨_,_,rfl,.inl h.1,r⟩
   ·exact⟨_,_,rfl,h.of0,r⟩
theorem Sh.int{H:Hp}{O:Ex}{v:V}{i:Int}(h:Sh K H O v (.int i)):v= .int i:=by cases h with | dt h=>cases h;rfl
theorem Sh.bl{H:Hp}{O:Ex}{v:V}{i:Bool}(h:Sh K H O v (.bool i)):v= .bl i:=by cases h with | dt h=>cases h;rfl
theorem Sh.str{H:Hp}{O:Ex}{v:V}{i:Str}(h:Sh K H O v (.str i)):v= .str i:=by cases h with | dt h=>cases h;rfl
theorem Sh.non{H:Hp}{O:Ex}{v:V}(h:Sh K H O v .none):v= .non:=by cases h with | dt h=>cases h;rfl
def j5:Vv->Bool
 | .none | .bool _ | .int _ | .str _=>true
 | _=>false
end
section
variable {X:Cx} {Xw:List (Vy×Obj)} {σ:St} {H:Hp} {s:Vz}
mutual
theorem gh(I:af X Xw σ H s){O:Ex}:∀{v:V}{d:Vv}{u:Vw},Dt X.K H O v d->d.canLay0=true->aD v u->∃as,Reads s.heap u d as
 | _,_,_,.non,_,r=>by cases r;exact⟨_,Reads.none⟩
 | _,_,_,.bl b,_,r=>by cases r;exact⟨_,Reads.bool b⟩
 | _,_,_,.int i,_,r=>by obtain⟨t,rfl⟩:=r;exact⟨_,Reads.int i t⟩
 | _,_,_,.str x,_,r=>by obtain⟨t,rfl⟩:=r;exact⟨_,Reads.str x t⟩
 | _,_,_,.tup h _ hs,c,r=>by
  cases r;obtain⟨its,rv,⟨o,e,c',n,dd⟩,_⟩:=I.tuple (.inl h);obtain⟨as,q⟩:=n9 I hs (by simpa [NW] using c) rv;exact⟨as,reads_tuple_at e c' dd (by simpa using q)⟩
 | _,_,_,.tupK h hs,c,r=>by
  cases r;obtain⟨its,rv,⟨o,e,c',n,dd⟩,_⟩:=I.tuple h.of0;obtain⟨as,q⟩:=n9 I hs (by simpa [NW] using c) rv;exact⟨as,reads_tuple_at e c' dd (by simpa using q)⟩
 | _,_,_,.lst h _ hs,c,r=>by
  cases r;obtain⟨its,rv,⟨o,n,e,c',_,dd⟩,_⟩:=I.list (.inl h);obtain⟨as,q⟩:=n9 I hs (by simpa [NW] using c) rv;exact⟨_,reads_list_at e c' dd (by simpa using q)⟩
 | _,_,_,.pack _ _,c,_=>by simp [NW] at c
 | _,_,_,.purse _ _,c,_=>by simp [NW] at c
 | _,_,_,.dct0 _ _,c,_=>by simp [NW] at c
 | _,_,_,.obj _ _ _ _,c,_=>by simp [NW] at c
 | _,_,_,.dic _ _ _ _ _,c,_=>by simp [NW] at c
 | _,_,_,.scr _ _,c,_=>by simp [NW] at c
theorem n9(I:af X Xw σ H s){O:Ex}:∀{vs:List V}{ds:List Vv}{us:List Vw},aj X.K H O vs ds->OJ ds=true->aC vs us->∃as,ReadsAll s.heap us ds as
 | _,_,_,.nil,_,r=>by cases r;exact⟨_,ReadsAll.nil⟩
 | _,_,_,.cons h hs,c,r=>by
  rw [OJ,Oq] at c;cases r with
  | cons r1 r2=>
   obtain⟨as,q⟩:=gh I h c.1 r1;obtain⟨bs,p⟩:=n9 I hs c.2 r2;exact⟨_,ReadsAll.cons q p⟩
end
end
inductive Sl where
 | v (d:Vv)
 | o (ds:List Vv)
 | k (kd:List (ai×Vv))
 | i (l C:Vy) (fd:List (Str×Vv))
 | r (l C g u:Vy) (fd:List (Str×Vv)) (gd ud:List (ai×Vv))
 | b (ds:List Vv)
abbrev Dl:=List (Option Sl)
inductive bo (K:Nh) (H:Hp) (O:Ex):List (ai×V)->List (ai×Vv)->Prop
 | nil:bo K H O [] []
 | cons {k:ai} {v:V} {d:Vv} {r:List (ai×V)} {s:List (ai×Vv)}:Dt K H O v d->bo K H O r s->bo K H O ((k,v)::r) ((k,d)::s)
theorem bo.step{K:Nh}{H H':Hp}{O O':Ex}(S:aS H H' O O'){r:List (ai×V)}{s:List (ai×Vv)}(h:bo K H O r s):bo K H' O' r s:=by
 induction h with
 | nil=>exact .nil
 | cons a _ ih=>exact .cons (a.step S) ih
theorem bo.mono{K:Nh}{H H':Hp}{O:Ex}(S:ao H H'){r:List (ai×V)}{s:List (ai×Vv)}(h:bo K H O r s):bo K H' O r s:=h.step (.same S)
def jq(K:Nh)(H:Hp)(O:Ex)(fs:List (Str×V))(fd:List (Str×Vv)):Prop:=fs.map (·.1)=fd.map (·.1)/\aj K H O (fs.map (·.2)) (fd.map (·.2))
def Sl.own:Sl->Prop
 | .v _=>False
 | .b _=>False
 | _=>True
abbrev Hg:Str:=Ng "gone"
abbrev Hh:Str:=Ng "used"
def Hi(K:Nh)(H:Hp)(O0 O:Ex)(l C g u:Vy)(fd:List (Str×Vv))(gd ud:List (ai×Vv)):Prop:=∃dx fs og ou gv uv,H l=some (.ins C dx (fs++[(Hg,.ref g),(Hh,.ref u)]))/\jq K H O fs fd/\g≠u/\
 (O g/\¬O0 g/\H g=some (.frz og (.dK gv))/\bo K H O gv gd)/\(O u/\¬O0 u/\H u=some (.frz ou (.dK uv))/\bo K H O uv ud)
def hZ(K:Nh)(H:Hp)(O0 O:Ex)(x:Option V):Option Sl->Prop
 | none=>True
 | some (.v d)=>∃v,x=some v/\Dt K H O v d
 | some (.o ds)=>∃l vs,x=some (.ref l)/\O l/\¬O0 l/\H l=some (.lst vs)/\aj K H O vs ds
 | some (.k kd)=>∃l kv,x=some (.ref l)/\O l/\¬O0 l/\H l=some (.dK kv)/\bo K H O kv kd
 | some (.i l C fd)=>∃dx fs,x=some (.ref l)/\O l/\¬O0 l/\H l=some (.ins C dx fs)/\jq K H O fs fd
 | some (.r l C g u fd gd ud)=>x=some (.ref l)/\O l/\¬O0 l/\Hi K H O0 O l C g u fd gd ud
 | some (.b ds)=>∃l vs,x=some (.ref l)/\O0 l/\H l=some (.lst vs)/\aj K H O vs ds
structure Wd (K:Nh) (H0:Hp) (O0:Ex) (H:Hp) (O:Ex) (σ:St) (δ:Dl):Prop where
 same:ao H0 H
 sub:∀l,O0 l->O l
 new:∀l,O l->O0 l\/H0 l=none
 trk:∀l,O l->H l≠none
 len:σ.length=δ.length
 sl:∀(i:Nat) y,δ[i]?=some y->hZ K H O0 O ((σ[i]?).join) y
 dis:∀(i j:Nat) y z l,δ[i]?=some (some y)->y.own->δ[j]?=some (some z)->z.own->σ[i]?=some (some (.ref l))->σ[j]?=some (some (.ref l))->i=j
section
variable {K:Nh} {H0 H H':Hp} {O0 O:Ex} {σ:St} {δ:Dl}
theorem hZ.mono{x:Option V}{y:Option Sl}(s:ao H H')(h:hZ K H O0 O x y):hZ K H' O0 O x y:=by
 cases y with
 | none=>exact OE
 | some y=>
  cases y with
  | v d=>
   obtain⟨v,e,r⟩:=h;exact⟨v,e,r.mono s⟩
  | o ds=>
   obtain⟨l,vs,e,a,b,c,r⟩:=h;exact⟨l,vs,e,a,b,s _ _ c,r.mono s⟩
  | k ds=>
   obtain⟨l,vs,e,a,b,c,r⟩:=h;exact⟨l,vs,e,a,b,s _ _ c,r.mono s⟩
  | i l C ds=>
   obtain⟨dx,vs,e,a,b,c,r1,r2⟩:=h;exact⟨dx,vs,e,a,b,s _ _ c,r1,r2.mono s⟩
  | r l C g u fd gd ud=>
   obtain⟨e,a,b,dx,fs,og,ou,gv,uv,c,⟨r1,r2⟩,ne,⟨g1,g2,g3,g4⟩,u1,u2,u3,u4⟩:=h;exact⟨e,a,b,dx,fs,og,ou,gv,uv,s _ _ c,⟨r1,r2.mono s⟩,ne,⟨g1,g2,s _ _ g3,g4.mono s⟩,u1,u2,s _ _ u3,u4.mono s⟩
  | b ds=>
   obtain⟨l,vs,e,a,c,r⟩:=h;exact⟨l,vs,e,a,s _ _ c,r.mono s⟩
theorem hZ.go{O':Ex}{x:Option V}{y:Option Sl}(h:hZ K H O0 O x y)(S:aS H H' O O')(kp:∀l o,y.any (λz=>match z with | .v _=>false | .b _=>false | _=>true)=true->x=some (.ref l)->O l->¬O0 l->H l=some o->O' l/\H' l=some o)
 (kp2:∀a o u,O a->¬O0 a->H a=some (.frz o u)->O' a/\H' a=some (.frz o u))(kp3:∀a o,O0 a->H a=some o->H' a=some o):hZ K H' O0 O' x y:=by
 cases y with
 | none=>exact OE
 | some y=>
  cases y with
  | v d=>
   obtain⟨v,e,r⟩:=h;exact⟨v,e,r.step S⟩
  | o ds=>
   obtain⟨l,vs,e,a,b,c,r⟩:=h;exact⟨l,vs,e,(kp l _ rfl e a b c).1,b,(kp l _ rfl e a b c).2,r.step S⟩
  | k ds=>
   obtain⟨l,vs,e,a,b,c,r⟩:=h;exact⟨l,vs,e,(kp l _ rfl e a b c).1,b,(kp l _ rfl e a b c).2,r.step S⟩
  | i l C ds=>
   obtain⟨dx,vs,e,a,b,c,r1,r2⟩:=h;exact⟨dx,vs,e,(kp l _ rfl e a b c).1,b,(kp l _ rfl e a b c).2,r1,r2.step S⟩
  | r l C g u fd gd ud=>
   obtain⟨e,a,b,dx,fs,og,ou,gv,uv,c,⟨r1,r2⟩,ne,⟨g1,g2,g3,g4⟩,u1,u2,u3,u4⟩:=h;exact⟨e,(kp l _ rfl e a b c).1,b,dx,fs,og,ou,gv,uv,(kp l _ rfl e a b c).2,⟨r1,r2.step S⟩,ne,⟨(kp2 _ _ _ g1 g2 g3).1,g2,(kp2 _ _ _ g1 g2 g3).2,g4.step S⟩,(kp2 _ _ _ u1 u2 u3).1,u2,(kp2 _ _ _ u1 u2 u3).2,u4.step S⟩
  | b ds=>
   obtain⟨l,vs,e,a,c,r⟩:=h;exact⟨l,vs,e,a,kp3 _ _ a c,r.step S⟩
theorem Wd.mono(s:ao H H')(w:Wd K H0 O0 H O σ δ):Wd K H0 O0 H' O σ δ:=
 ⟨w.same.trans s,w.sub,w.new,λl h z=>(by
  cases e:H l with
  | none=>exact w.trk l h e
  | some o=>rw [s _ _ e] at z;cases z),w.len,λi y e=>(w.sl i y e).mono s,w.dis⟩
theorem iQ{i:Nat}{v:V}(h:(σ[i]?).join=some v):σ[i]?=some (some v):=by
 cases q:σ[i]? with
 | none=>rw [q] at h;cases h
 | some o=>rw [q] at h;rw [show o=some v from h]
theorem Wd.val(w:Wd K H0 O0 H O σ δ){i:Nat}{d:Vv}(e:δ[i]?=some (some (.v d))):∃v,σ[i]?=some (some v)/\Dt K H O v d:=by
 obtain⟨v,h,r⟩:=w.sl i _ e;exact⟨v,iQ h,r⟩
theorem Wd.own(w:Wd K H0 O0 H O σ δ){i:Nat}{ds:List Vv}(e:δ[i]?=some (some (.o ds))):∃l vs,σ[i]?=some (some (.ref l))/\O l/\¬O0 l/\H l=some (.lst vs)/\aj K H O vs ds:=by
 obtain⟨l,vs,h,r⟩:=w.sl i _ e;exact⟨l,vs,iQ h,r⟩
theorem Wd.ownK(w:Wd K H0 O0 H O σ δ){i:Nat}{kd:List (ai×Vv)}(e:δ[i]?=some (some (.k kd))):∃l kv,σ[i]?=some (some (.ref l))/\O l/\¬O0 l/\H l=some (.dK kv)/\bo K H O kv kd:=by
 obtain⟨l,vs,h,r⟩:=w.sl i _ e;exact⟨l,vs,iQ h,r⟩
theorem Wd.ownI(w:Wd K H0 O0 H O σ δ){i:Nat}{l C:Vy}{fd:List (Str×Vv)}(e:δ[i]?=some (some (.i l C fd))):∃dx fs,σ[i]?=some (some (.ref l))/\O l/\¬O0 l/\H l=some (.ins C dx fs)/\jq K H O fs fd:=by
 obtain⟨dx,vs,h,r⟩:=w.sl i _ e;exact⟨dx,vs,iQ h,r⟩
theorem Wd.adr(w:Wd K H0 O0 H O σ δ){i:Nat}{y:Sl}(e:δ[i]?=some (some y))(h:y.own):∃l,σ[i]?=some (some (.ref l))/\O l/\¬O0 l:=by
 match y,h,e with
 | .o ds,_,e=>obtain⟨l,vs,a,b,c,_⟩:=w.own e;exact⟨l,a,b,c⟩
 | .k ds,_,e=>obtain⟨l,vs,a,b,c,_⟩:=w.ownK e;exact⟨l,a,b,c⟩
 | .i l C ds,_,e=>obtain⟨dx,vs,a,b,c,_⟩:=w.ownI e;exact⟨l,a,b,c⟩
 | .r l C g u fd gd ud,_,e=>obtain⟨a,b,c,_⟩:=w.sl i _ e;exact⟨l,iQ a,b,c⟩
theorem Wd.nofrz(w:Wd K H0 O0 H O σ δ){i:Nat}{y:Sl}{l:Vy}(e:δ[i]?=some (some y))(h:y.own)(hl:σ[i]?=some (some (.ref l)))(o:Obj)(u:HO):H l≠some (.frz o u):=by
 match y,h,e with
 | .o ds,_,e=>obtain⟨l',vs,a,b,c,d,_⟩:=w.own e;rw [hl] at a;cases a;rw [d];exact λz=>nomatch z
 | .k ds,_,e=>obtain⟨l',vs,a,b,c,d,_⟩:=w.ownK e;rw [hl] at a;cases a;rw [d];exact λz=>nomatch z
 | .i l C ds,_,e=>obtain⟨dx,vs,a,b,c,d,_⟩:=w.ownI e;rw [hl] at a;cases a;rw [d];exact λz=>nomatch z
 | .r l C g u fd gd ud,_,e=>obtain⟨a,b,c,_,_,_,_,_,_,d,_⟩:=w.sl i _ e;have a:=iQ a;rw [hl] at a;cases a;rw [d];exact λz=>nomatch z
theorem Wd.set(w:Wd K H0 O0 H O σ δ){i:Nat}{v:V}{d:Vv}(h:Dt K H O v d):Wd K H0 O0 H O (σ.set i (some v)) (δ.set i (some (.v d))):=by
 refine⟨w.same,w.sub,w.new,w.trk,by simp [w.len],λj y e=>?_,λj k y z l e1 y1 e2 z2 e3 e4=>?_⟩
 ·by_cases hj:j=i
  ·subst hj;have hl:j < δ.length:=by
    have:=(Nz.mp e).1;simpa using this
   rw [N7 hl] at e;cases e;rw [N7 (by rw [w.len];exact hl)];exact⟨v,rfl,h⟩
  ·rw [NV (Ne.symm hj)] at e⊢;exact w.sl j y e
 ·have ne:∀{j:Nat}{y:Sl},(δ.set i (some (.v d)))[j]?=some (some y)->y.own->j≠i:=λ{j y} e ho z=>by
   subst z;by_cases hl:j < δ.length
   ·rw [N7 hl] at e;cases e;exact ho
   ·rw [P6 (by simpa using hl)] at e;cases e
  have n1:=ne e1 y1;have n2:=ne e2 z2;rw [NV (Ne.symm n1)] at e1 e3;rw [NV (Ne.symm n2)] at e2 e4;exact w.dis j k y z l e1 y1 e2 z2 e3 e4
theorem Wd.setY(w:Wd K H0 O0 H O σ δ){i:Nat}{p:Vy}{ho:HO}{y0:Sl}(hy:y0.own)(hp:H p=none)(h:∀O',aS H (ak H p ho) O O'->O' p->¬O0 p->hZ K (ak H p ho) O0 O' (some (.ref p)) (some y0)):
 Wd K H0 O0 (ak H p ho) (λl=>O l\/l=p) (σ.set i (some (.ref p))) (δ.set i (some y0)):=by
 have sm:ao H (ak H p ho):=ao.new hp;have np:∀l,O l->l≠p:=λl hl z=>w.trk l hl (by rw [z];exact hp);have p0:H0 p=none:=by
  cases e:H0 p with
  | none=>rfl
  | some o=>rw [w.same _ _ e] at hp;cases hp
 have S:aS H (ak H p ho) O (λl=>O l\/l=p):=⟨λb o e _=>sm b o e,λb hb hn z=>z.elim hn λq=>hb (by rw [q];exact hp)⟩;have n0:¬O0 p:=λz=>np p (w.sub p z) rfl;refine⟨w.same.trans sm,λl z=>.inl (w.sub l z),λl z=>z.elim (w.new l) λq=>.inr (by rw [q];exact p0),λl z=>?_,by simp [w.len],λj y e=>?_,λj k y z l e1 y1 e2 z2 e3 e4=>?_⟩
 ·by_cases q:l=p
  ·rw [q,aW];exact λz=>nomatch z
  ·rw [aE q];exact w.trk l (z.resolve_right q)
 ·by_cases hj:j=i
  ·subst hj;have hl:j < δ.length:=by
    have:=(Nz.mp e).1;simpa using this
   rw [N7 hl] at e;cases e;rw [N7 (by rw [w.len];exact hl)];exact h _ S (.inr rfl) n0
  ·rw [NV (Ne.symm hj)] at e⊢;exact(w.sl j y e).go S (λl o _ _ a _ c=>⟨.inl a,sm _ _ c⟩) (λa o u a1 _ a3=>⟨.inl a1,sm _ _ a3⟩) λa o _ a3=>sm _ _ a3
 ·by_cases hj:j=i
  ·by_cases hk:k=i
   ·rw [hj,hk]
   ·exfalso;rw [hj] at e1 e3;have hl:i < σ.length:=by
     have:=(Nz.mp e3).1;simpa using this
    rw [N7 hl] at e3;cases e3;rw [NV (Ne.symm hk)] at e2 e4;obtain⟨l',x1,x2,_⟩:=w.adr e2 z2;rw [e4] at x1;cases x1;exact np _ x2 rfl
  ·by_cases hk:k=i
   ·exfalso;rw [hk] at e2 e4;have hl:i < σ.length:=by
     have:=(Nz.mp e4).1;simpa using this
    rw [N7 hl] at e4;cases e4;rw [NV (Ne.symm hj)] at e1 e3;obtain⟨l',x1,x2,_⟩:=w.adr e1 y1;rw [e3] at x1;cases x1;exact np _ x2 rfl
   ·rw [NV (Ne.symm hj)] at e1 e3;rw [NV (Ne.symm hk)] at e2 e4;exact w.dis j k _ _ l e1 y1 e2 z2 e3 e4
theorem Wd.setO(w:Wd K H0 O0 H O σ δ){i:Nat}{p:Vy}{vs:List V}{ds:List Vv}(hp:H p=none)(h:aj K H O vs ds):
 Wd K H0 O0 (ak H p (.lst vs)) (λl=>O l\/l=p) (σ.set i (some (.ref p))) (δ.set i (some (.o ds))):=
 w.setY trivial hp λO' S a b=>⟨p,vs,rfl,a,b,aW,h.step S⟩
theorem Wd.setK(w:Wd K H0 O0 H O σ δ){i:Nat}{p:Vy}{kv:List (ai×V)}{kd:List (ai×Vv)}(hp:H p=none)(h:bo K H O kv kd):
 Wd K H0 O0 (ak H p (.dK kv)) (λl=>O l\/l=p) (σ.set i (some (.ref p))) (δ.set i (some (.k kd))):=
 w.setY trivial hp λO' S a b=>⟨p,kv,rfl,a,b,aW,h.step S⟩
theorem Wd.putY(w:Wd K H0 O0 H O σ δ){i:Nat}{l:Vy}{ho:HO}{y0 y1:Sl}(h0:y0.own)(h1:y1.own)(e:δ[i]?=some (some y0))(hl:σ[i]?=some (some (.ref l)))(h:aS H (ak H l ho) O O->O l->¬O0 l->hZ K (ak H l ho) O0 O (some (.ref l)) (some y1)):
 Wd K H0 O0 (ak H l ho) O σ (δ.set i (some y1)):=by
 obtain⟨l',x1,x2,x3⟩:=w.adr e h0;rw [hl] at x1;cases x1;have l0:H0 l=none:=(w.new l x2).resolve_left x3;have S:aS H (ak H l ho) O O:=⟨λb o q n=>by rw [aE (λz=>n (by rw [z];exact x2))];exact q,λ_ _ n=>n⟩;have li:i < δ.length:=(Nz.mp e).1;refine⟨λb o q=>by rw [aE (λz=>by rw [z,l0] at q;cases q)];exact w.same b o q,w.sub,w.new,λb z=>?_,by simp [w.len],λj y q=>?_,λj k y z b e1 y1' e2 z2 e3 e4=>?_⟩
 ·by_cases q:b=l
  ·rw [q,aW];exact λz=>nomatch z
  ·rw [aE q];exact w.trk b z
 ·by_cases hj:j=i
  ·subst hj;rw [N7 li] at q;cases q;rw [hl];exact h S x2 x3
  ·rw [NV (Ne.symm hj)] at q;refine(w.sl j y q).go S (λb o ho' e' a1 a2 a3=>⟨a1,?_⟩) (λb o u a1 a2 a3=>⟨a1,by rw [aE (λz=>w.nofrz e h0 hl o u (by rw [<-z];exact a3))];exact a3⟩) λb o a1 a3=>by rw [aE (λz=>x3 (by rw [<-z];exact a1))];exact a3
   have nb:b≠l:=λz=>by
    subst z
    match y,ho',q with
    | some z,ho',q=>exact hj (w.dis j i z y0 b q (by cases z <;> first | trivial | cases ho') e h0 (iQ e') hl)
   rw [aE nb];exact a3
 ·have gS:∀{j:Nat}{y:Sl},(δ.set i (some y1))[j]?=some (some y)->y.own->∃y',δ[j]?=some (some y')/\y'.own:=λ{j y} q hq=>by
   by_cases hj:j=i
   ·subst hj;exact⟨_,e,h0⟩
   ·rw [NV (Ne.symm hj)] at q;exact⟨_,q,hq⟩
  obtain⟨_,q1,r1⟩:=gS e1 y1';obtain⟨_,q2,r2⟩:=gS e2 z2;exact w.dis j k _ _ b q1 r1 q2 r2 e3 e4
theorem Wd.putO(w:Wd K H0 O0 H O σ δ){i:Nat}{l:Vy}{vs us:List V}{ds es:List Vv}(e:δ[i]?=some (some (.o ds)))(hl:σ[i]?=some (some (.ref l)))(h:aj K H O us es):
 Wd K H0 O0 (ak H l (.lst us)) O σ (δ.set i (some (.o es))):=
 w.putY (y0:= .o ds) (y1:= .o es) trivial trivial e hl λS a b=>⟨l,us,rfl,a,b,aW,h.step S⟩
theorem Wd.putK(w:Wd K H0 O0 H O σ δ){i:Nat}{l:Vy}{kv:List (ai×V)}{kd kd':List (ai×Vv)}(e:δ[i]?=some (some (.k kd)))(hl:σ[i]?=some (some (.ref l)))(h:bo K H O kv kd'):
 Wd K H0 O0 (ak H l (.dK kv)) O σ (δ.set i (some (.k kd'))):=
 w.putY (y0:= .k kd) (y1:= .k kd') trivial trivial e hl λS a b=>⟨l,kv,rfl,a,b,aW,h.step S⟩
end
abbrev DT:=Dl->(Vv->Prop)->Prop
abbrev DA:=Dl->(List Vv->Prop)->Prop
abbrev DB:=Dl->(Bool->Prop)->Prop
structure dW where
 nx:Dl->Prop
 rt:Vv->Prop
 bk:Dl->Prop:=λ_=>False
 ct:Dl->Prop:=λ_=>False
abbrev DS:=dW->Dl->Prop
section
variable (K:Nh) (H0:Hp) (O0:Ex)
inductive up (t:DT) (σ:St) (H:Hp) (R:VK):Prop
 | mk (O:Ex) (δ:Dl) (Qd:Vv->Prop):Wd K H0 O0 H O σ δ->t δ Qd->(∀d v H',Qd d->ao H H'->Dt K H' O v d->R v H')->up t σ H R
inductive oe (t:DT) (σ:St) (H:Hp) (R:VK):Prop
 | mk (O:Ex) (δ:Dl) (Qd:Vv->Prop):Wd K H0 O0 H O σ δ->t δ Qd->(∀d v H',Qd d->ao H H'->Sh K H' O v d->R v H')->oe t σ H R
inductive fD (t:DA) (σ:St) (H:Hp) (R:List V->Hp->Prop):Prop
 | mk (O:Ex) (δ:Dl) (Qd:List Vv->Prop):Wd K H0 O0 H O σ δ->t δ Qd->(∀ds vs H',Qd ds->ao H H'->aj K H' O vs ds->R vs H')->fD t σ H R
inductive bT (t:DB) (σ:St) (H:Hp) (R:Bool->Hp->Prop):Prop
 | mk (O:Ex) (δ:Dl) (Qd:Bool->Prop):Wd K H0 O0 H O σ δ->t δ Qd->(∀b H',Qd b->ao H H'->R b H')->bT t σ H R
inductive bB (t:DS) (D:hJ) (σ:St) (H:Hp):Prop
 | mk (O:Ex) (δ:Dl) (E:dW):Wd K H0 O0 H O σ δ->t E δ->(∀O' δ' σ' H',E.nx δ'->Wd K H0 O0 H' O' σ' δ'->aS H H' O O'->D.nx σ' H')->(∀d v H',E.rt d->ao H0 H'->Dt K H' O0 v d->D.rt v H')->
 (∀O' δ' σ' H',E.bk δ'->Wd K H0 O0 H' O' σ' δ'->aS H H' O O'->D.bk σ' H')->(∀O' δ' σ' H',E.ct δ'->Wd K H0 O0 H' O' σ' δ'->aS H H' O O'->D.ct σ' H')->bB t D σ H
end
theorem PE.imp{X:Cx}{e:VE}{t u:TE}(h:PE X e t)(i:∀σ H Q,u σ H Q->t σ H Q):PE X e u:=λXw s σ H Q I z=>h Xw s σ H Q I (i σ H Q z)
theorem PT.imp{X:Cx}{e:VE}{t u:TT}(h:PT X e t)(i:∀σ H Q,u σ H Q->t σ H Q):PT X e u:=λXw s σ H Q I z=>h Xw s σ H Q I (i σ H Q z)
theorem PW.imp{X:Cx}{e:VE}{t u:TT}(h:PW X e t)(i:∀σ H Q,u σ H Q->t σ H Q):PW X e u:=λwh Xw s σ H Q I z=>h wh Xw s σ H Q I (i σ H Q z)
theorem PA.imp{X:Cx}{e:List VE}{t u:TA}(h:PA X e t)(i:∀σ H Q,u σ H Q->t σ H Q):PA X e u:=λpos Xw s σ H Q I z=>h pos Xw s σ H Q I (i σ H Q z)
theorem PS.imp{X:Cx}{e:VT}{t u:TS}(h:PS X e t)(i:∀D σ H,u D σ H->t D σ H):PS X e u:=λXw s σ H D I z=>h Xw s σ H D I (i D σ H z)
theorem bK.imp{X:Cx}{e:List VT}{t u:TS}(h:bK X e t)(i:∀D σ H,u D σ H->t D σ H):bK X e u:=λXw s σ H D I z=>h Xw s σ H D I (i D σ H z)
section
variable {X:Cx} {H0:Hp} {O0:Ex}
abbrev DE(X:Cx)(H0:Hp)(O0:Ex)(e:VE)(t:DT):Prop:=PE X e (up X.K H0 O0 t)
abbrev DF(X:Cx)(H0:Hp)(O0:Ex)(e:VE)(t:DT):Prop:=PE X e (oe X.K H0 O0 t)
theorem df{e:VE}{t:DT}(h:DE X H0 O0 e t):DF X H0 O0 e t:=h.imp λσ H Q uu64=>by obtain⟨O,δ,Qd,w,q,k⟩:=uu64;exact⟨O,δ,Qd,w,q,λd v H' a b c=>k d v H' a b (.dt c)⟩
def Az(Q:Vv->Prop):Option (Option Sl)->Prop
 | some (some (.v d))=>Q d
 | _=>False
def cj(i:Nat):DT:=λδ Q=>Az Q δ[i]?
theorem Hj{Q:Vv->Prop}{o:Option (Option Sl)}:Az Q o↔∃d,o=some (some (.v d))/\Q d:=by
 constructor
 ·intro h
  match o,h with
  | some (some (.v d)),h=>exact⟨d,rfl,h⟩
 ·rintro⟨d,rfl,h⟩;exact h
theorem Hk{i:Nat}{δ:Dl}{Q:Vv->Prop}(h:cj i δ Q):∃d,δ[i]?=some (some (.v d))/\Q d:=Hj.mp h
def oh(i:Nat):DT:=λδ Q=>∃ds,δ[i]?=some (some (.o ds))/\Q (.list ds)
def dC(d:Vv):DT:=λ_ Q=>Q d
theorem dv(i:Nat){x:Str}{pos:Pos}(hN:X.N[i]?=some x:=by rfl)(hv:lC X.env.scope x:=by first | exact SX rfl | exact Rt (SX rfl) | exact Rt (Rt rfl))
 (hd:(x==("__debug__":Str))=false:=by decide)(hcd:(x==("__classdict__":Str))=false:=by decide):DE X H0 O0 (.Name x pos) (cj i):=
 (sQ hN hv hd hcd).imp λσ H Q uu65=>by
  obtain⟨O,δ,Qd,w,dq,k⟩:=uu65;obtain⟨d,e,q⟩:=Hk dq;obtain⟨v,h,r⟩:=w.val e;exact⟨v,h,k d v H q (ao.refl _) r⟩
theorem dw(i:Nat){x:Str}{pos:Pos}(hN:X.N[i]?=some x:=by rfl)(hv:lC X.env.scope x:=by first | exact SX rfl | exact Rt (SX rfl) | exact Rt (Rt rfl))
 (hd:(x==("__debug__":Str))=false:=by decide)(hcd:(x==("__classdict__":Str))=false:=by decide):DF X H0 O0 (.Name x pos) (oh i):=
 (sQ hN hv hd hcd).imp λσ H Q uu66=>by
  obtain⟨O,δ,Qd,w,⟨ds,e,q⟩,k⟩:=uu66;obtain⟨l,vs,h,_,_,r,rs⟩:=w.own e;exact⟨_,h,k _ _ H q (ao.refl _) (.own r rs)⟩
theorem dc{e:VE}{v:V}{d:Vv}(h:PE X e (tC v))(r:∀H O,Dt X.K H O v d):DE X H0 O0 e (dC d):=h.imp λσ H Q uu67=>by obtain⟨O,δ,Qd,w,q,k⟩:=uu67;exact k d v H q (ao.refl _) (r H O)
theorem ag{i j pos}:DE X H0 O0 (.Constant (.int i) j pos) (dC (.int i)):=dc aR λ_ _=>.int i
theorem lU{b j pos}:DE X H0 O0 (.Constant (.bool b) j pos) (dC (.bool b)):=dc Fg λ_ _=>.bl b
theorem eZ{j pos}:DE X H0 O0 (.Constant .none j pos) (dC .none):=dc Fh λ_ _=>.non
theorem aO{x j pos}:DE X H0 O0 (.Constant (.str x) j pos) (dC (.str x)):=dc sR λ_ _=>.str x
def jr:DA:=λ_ Q=>Q []
def gR(t:DT)(u:DA):DA:=λδ Q=>t δ λd=>u δ λds=>Q (d::ds)
theorem ah:PA X [] (fD X.K H0 O0 jr):=bR.imp λσ H Q uu68=>by obtain⟨O,δ,Qd,w,q,k⟩:=uu68;exact k [] [] H q (ao.refl _) .nil
theorem aa{e:VE}{es:List VE}{t:DT}{u:DA}(h:DE X H0 O0 e t)(hs:PA X es (fD X.K H0 O0 u))(he:VH (e::es) X.env=(false,eval e X.env)::VH es X.env:=by rfl):PA X (e::es) (fD X.K H0 O0 (gR t u)):=
 (bf h hs he).imp λσ H Q uu69=>by obtain⟨O,δ,Qd,w,q,k⟩:=uu69;exact⟨O,δ,_,w,q,λd v H1 q1 s1 r1=>⟨O,δ,_,w.mono s1,q1,λds vs H2 q2 s2 r2=>k (d::ds) (v::vs) H2 q2 (s1.trans s2) (.cons (r1.mono s2) r2)⟩⟩
def lV(t:DA):DT:=λδ Q=>t δ λds=>ds.length<=VG/\Q (.tuple ds)
theorem oi{H:Hp}{O:Ex}{σ:St}{δ:Dl}{H1:Hp}{p:Vy}{K:Nh}(w:Wd K H0 O0 H O σ δ)(s:ao H H1)(hp:H1 p=none):¬O p:=λz=>(w.mono s).trk p z hp
theorem bC{es:List VE}{t:DA}{x1}{pos:Pos}(h:PA X es (fD X.K H0 O0 t)):DE X H0 O0 (.Tuple es x1 pos) (lV t):=
 (yW h).imp λσ H Q uu70=>by obtain⟨O,δ,Qd,w,q,k⟩:=uu70;exact⟨O,δ,_,w,q,λds vs H1 q1 s1 r1=>⟨by rw [r1.length];exact q1.1,λp hp=>k _ _ _ q1.2 (s1.trans (ao.new hp)) (.tup (.inl aW) (oi w s1 hp) (r1.mono (ao.new hp)))⟩⟩
end
theorem aS.refl(H:Hp)(O:Ex):aS H H O O:=⟨λ_ _ e _=>e,λ_ _ n=>n⟩
theorem aS.trans{H H1 H2:Hp}{O O1 O2:Ex}(a:aS H H1 O O1)(b:aS H1 H2 O1 O2):aS H H2 O O2:=by
 refine⟨λc o e n=>?_,λc e n=>?_⟩
 ·have h1:=a.keep c o e n;exact b.keep c o h1 (a.out c (by rw [e];exact λz=>nomatch z) n)
 ·cases q:H c with
  | none=>exact absurd q e
  | some o=>exact b.out c (by rw [a.keep c o q n];exact λz=>nomatch z) (a.out c e n)
section
variable {X:Cx} {H0:Hp} {O0:Ex}
def cy(K:Nh)(r:R2)(rd:Vv->Vv->(Vv->Prop)->Prop):Prop:=
 ∀(H:Hp)(O:Ex)(x y:V)(dx dy:Vv)(Qd:Vv->Prop)(R:VK),(∀l,O l->H l≠none)->Sh K H O x dx->Sh K H O y dy->rd dx dy Qd->(∀d v H',Qd d->ao H H'->Dt K H' O v d->R v H')->r x y H R
def dJ(rd:Vv->Vv->(Vv->Prop)->Prop)(ta tb:DT):DT:=λδ Q=>ta δ λx=>tb δ λy=>rd x y Q
theorem oj{K:Nh}{r:R2}{rd:Vv->Vv->(Vv->Prop)->Prop}{ta tb:DT}(hd:cy K r rd):∀σ H Q,up K H0 O0 (dJ rd ta tb) σ H Q->jT r (oe K H0 O0 ta) (oe K H0 O0 tb) σ H Q:=
 λσ H Q uu71=>by obtain⟨O,δ,Qd,w,q,k⟩:=uu71;exact⟨O,δ,_,w,q,λx v H1 q1 s1 r1=>⟨O,δ,_,w.mono s1,q1,λy u H2 q2 s2 r2=>hd H2 O v u x y Qd _ (w.mono (s1.trans s2)).trk (r1.mono s2) r2 q2 λd z H3 qd s3 r3=>k d z H3 qd (s1.trans (s2.trans s3)) r3⟩⟩
theorem Hl{a b:VE}{ta tb:DT}{op:Operator}{r:R2}{rd:Vv->Vv->(Vv->Prop)->Prop}{pos:Pos}(ho:bQ X (WJ op) r)(hd:cy X.K r rd)(ha:DF X H0 O0 a ta)(hb:DF X H0 O0 b tb):DE X H0 O0 (.BinOp a op b pos) (dJ rd ta tb):=(aZ ho ha hb).imp (oj hd)
theorem eQ{a b:VE}{ta tb:DT}{op:CmpOp}{r:R2}{rd:Vv->Vv->(Vv->Prop)->Prop}{pos:Pos}(ho:bQ X (VZ op) r)(hd:cy X.K r rd)(ha:DF X H0 O0 a ta)(hb:DF X H0 O0 b tb)(hm:Wa op b=false):DE X H0 O0 (.Compare a [op] [b] pos) (dJ rd ta tb):=(nP ho ha hb hm).imp (oj hd)
def fE(t:DT):DB:=λδ Q=>t δ λd=>∃b,d= .bool b/\Q b
theorem Hm{a b:VE}{ta tb:DT}{op:CmpOp}{r:R2}{rd:Vv->Vv->(Vv->Prop)->Prop}{pos:Pos}(ho:bQ X (VZ op) r)(hd:cy X.K r rd)(ha:DF X H0 O0 a ta)(hb:DF X H0 O0 b tb)(hm:Wa op b=false):PT X (.Compare a [op] [b] pos) (bT X.K H0 O0 (fE (dJ rd ta tb))):=
 (gN ho ha hb hm).imp λσ H Q uu72=>by obtain⟨O,δ,Qd,w,q,k⟩:=uu72;exact oj hd σ H _ ⟨O,δ,_,w,q,λd v H' uu73 s r=>by obtain⟨b,e,qb⟩:=uu73;subst e;cases r;exact⟨b,rfl,k b H' qb s⟩⟩
theorem ic{e:VE}{t:DT}(h:DE X H0 O0 e t)(he:∀whole,isTrue e X.env whole=(do let v<-whole;standAt e.pos;WW [v] (truthy v)):=by intro _;rfl):PT X e (bT X.K H0 O0 (fE t)):=
 (xy h he).imp λσ H Q uu74=>by obtain⟨O,δ,Qd,w,q,k⟩:=uu74;exact⟨O,δ,_,w,q,λd v H' uu75 s r=>by obtain⟨b,e,qb⟩:=uu75;subst e;cases r;exact⟨b,rfl,k b H' qb s⟩⟩
def ie(t u:DB):DB:=λδ Q=>t δ λc=>if c=true then u δ Q else Q false
def om(t u:DB):DB:=λδ Q=>t δ λc=>if c=true then Q true else u δ Q
def oo(t:DB):DB:=λδ Q=>t δ λc=>Q (!c)
theorem dM{a:VE}{t:DB}{pos:Pos}(h:PT X a (bT X.K H0 O0 t)):PW X (.BoolOp .And [a] pos) (bT X.K H0 O0 t):=xD h
theorem js{a:VE}{t:DB}{pos:Pos}(h:PT X a (bT X.K H0 O0 t)):PW X (.BoolOp .Or [a] pos) (bT X.K H0 O0 t):=xE h
theorem cV{a b:VE}{rest:List VE}{t u:DB}{pos:Pos}(h:PT X a (bT X.K H0 O0 t))(hb:PW X (.BoolOp .And (b::rest) pos) (bT X.K H0 O0 u)):PW X (.BoolOp .And (a::b::rest) pos) (bT X.K H0 O0 (ie t u)):=
 (xF h hb).imp λσ H Q uu76=>by obtain⟨O,δ,Qd,w,q,k⟩:=uu76;exact⟨O,δ,_,w,q,λc H1 q1 s1=>by
  cases c with
  | true=>exact⟨O,δ,_,w.mono s1,q1,λb H2 q2 s2=>k b H2 q2 (s1.trans s2)⟩
  | false=>exact k false H1 q1 s1⟩
theorem jt{a b:VE}{rest:List VE}{t u:DB}{pos:Pos}(h:PT X a (bT X.K H0 O0 t))(hb:PW X (.BoolOp .Or (b::rest) pos) (bT X.K H0 O0 u)):PW X (.BoolOp .Or (a::b::rest) pos) (bT X.K H0 O0 (om t u)):=
 (xG h hb).imp λσ H Q uu77=>by obtain⟨O,δ,Qd,w,q,k⟩:=uu77;exact⟨O,δ,_,w,q,λc H1 q1 s1=>by
  cases c with
  | false=>exact⟨O,δ,_,w.mono s1,q1,λb H2 q2 s2=>k b H2 q2 (s1.trans s2)⟩
  | true=>exact k true H1 q1 s1⟩
theorem lW{a:VE}{t:DB}{pos:Pos}(h:PT X a (bT X.K H0 O0 t)):PT X (.UnaryOp .Not a pos) (bT X.K H0 O0 (oo t)):=
 (Fj h).imp λσ H Q uu78=>by obtain⟨O,δ,Qd,w,q,k⟩:=uu78;exact⟨O,δ,_,w,q,λc H1 q1 s1=>k (!c) H1 q1 s1⟩
def oq(t u:DT):DT:=λδ Q=>t δ λd=>∃c,d= .bool c/\if c=true then u δ Q else Q (.bool false)
def ot(t u:DT):DT:=λδ Q=>t δ λd=>∃c,d= .bool c/\if c=true then Q (.bool true) else u δ Q
def ox(t:DT):DT:=λδ Q=>t δ λd=>∃c,d= .bool c/\Q (.bool (!c))
theorem ju{op}{a:VE}{t:DT}{pos:Pos}(h:DE X H0 O0 a t):DE X H0 O0 (.BoolOp op [a] pos) t:=sT h
theorem jv{a b:VE}{rest:List VE}{t u:DT}{pos:Pos}(h:DE X H0 O0 a t)(hb:DE X H0 O0 (.BoolOp .And (b::rest) pos) u):DE X H0 O0 (.BoolOp .And (a::b::rest) pos) (oq t u):=
 (xK h hb).imp λσ H Q ⟨O,δ,Qd,w,q,k⟩=>⟨O,δ,_,w,q,λd v H1 uu80 s1 r=>by
  obtain⟨c,e,q1⟩:=uu80;subst e;cases r;refine⟨c,rfl,?_⟩;cases c with
  | true=>exact⟨O,δ,_,w.mono s1,q1,λd v H2 q2 s2 r2=>k d v H2 q2 (s1.trans s2) r2⟩
  | false=>exact k _ _ H1 q1 s1 (.bl false)⟩
theorem Hn{a b:VE}{rest:List VE}{t u:DT}{pos:Pos}(h:DE X H0 O0 a t)(hb:DE X H0 O0 (.BoolOp .Or (b::rest) pos) u):DE X H0 O0 (.BoolOp .Or (a::b::rest) pos) (ot t u):=
 (xM h hb).imp λσ H Q ⟨O,δ,Qd,w,q,k⟩=>⟨O,δ,_,w,q,λd v H1 uu82 s1 r=>by
  obtain⟨c,e,q1⟩:=uu82;subst e;cases r;refine⟨c,rfl,?_⟩;cases c with
  | false=>exact⟨O,δ,_,w.mono s1,q1,λd v H2 q2 s2 r2=>k d v H2 q2 (s1.trans s2) r2⟩
  | true=>exact k _ _ H1 q1 s1 (.bl true)⟩
theorem Ho{a:VE}{t:DT}{pos:Pos}(h:DE X H0 O0 a t):DE X H0 O0 (.UnaryOp .Not a pos) (ox t):=
 (Fl h).imp λσ H Q uu83=>by obtain⟨O,δ,Qd,w,q,k⟩:=uu83;exact⟨O,δ,_,w,q,λd v H1 uu84 s1 r=>by
  obtain⟨c,e,q1⟩:=uu84;subst e;cases r;exact⟨c,rfl,k _ _ H1 q1 s1 (.bl _)⟩⟩
def oy(c:DB)(t u:DT):DT:=λδ Q=>c δ λb=>if b=true then t δ Q else u δ Q
theorem Hq{c a b:VE}{tc:DB}{t u:DT}{pos:Pos}(hc:PT X c (bT X.K H0 O0 tc))(ha:DE X H0 O0 a t)(hb:DE X H0 O0 b u):DE X H0 O0 (.IfExp c a b pos) (oy tc t u):=
 (xO hc ha hb).imp λσ H Q uu85=>by obtain⟨O,δ,Qd,w,q,k⟩:=uu85;exact⟨O,δ,_,w,q,λc H1 q1 s1=>by
  cases c with
  | true=>exact⟨O,δ,_,w.mono s1,q1,λd v H2 q2 s2 r2=>k d v H2 q2 (s1.trans s2) r2⟩
  | false=>exact⟨O,δ,_,w.mono s1,q1,λd v H2 q2 s2 r2=>k d v H2 q2 (s1.trans s2) r2⟩⟩
inductive aX (K:Nh) (F:List Vv->(Vv->Prop)->Prop) (vs:List V) (H:Hp) (Q:VK) (E:XK):Prop
 | mk (O:Ex) (ds:List Vv) (Qd:Vv->Prop):(∀l,O l->H l≠none)->aj K H O vs ds->F ds Qd->(∀d v H',Qd d->ao H H'->Dt K H' O v d->Q v H')->aX K F vs H Q E
def iR(F:List Vv->(Vv->Prop)->Prop)(t:DA):DT:=λδ Q=>t δ λds=>F ds Q
theorem oz{K:Nh}{F:List Vv->(Vv->Prop)->Prop}{t:DA}{E:XK}:∀σ H Q,up K H0 O0 (iR F t) σ H Q->nT (aX K F) [] E (fD K H0 O0 t) σ H Q:=
 λσ H Q uu86=>by obtain⟨O,δ,Qd,w,q,k⟩:=uu86;exact⟨O,δ,_,w,q,λds vs H1 q1 s1 r1=>⟨O,ds,Qd,(w.mono s1).trk,by rw [N4];exact r1,q1,λd v H2 q2 s2 r2=>k d v H2 q2 (s1.trans s2) r2⟩⟩
inductive j6 (K:Nh) (H:Hp) (O:Ex):List V->List Vv->Prop
 | nil:j6 K H O [] []
 | cons {v:V} {d:Vv} {vs:List V} {ds:List Vv}:Sh K H O v d->j6 K H O vs ds->j6 K H O (v::vs) (d::ds)
inductive eR (K:Nh) (H0:Hp) (O0:Ex) (t:DA) (σ:St) (H:Hp) (R:List V->Hp->Prop):Prop
 | mk (O:Ex) (δ:Dl) (Qd:List Vv->Prop):Wd K H0 O0 H O σ δ->t δ Qd->(∀ds vs H',Qd ds->ao H H'->j6 K H' O vs ds->R vs H')->eR K H0 O0 t σ H R
theorem bg:PA X [] (eR X.K H0 O0 jr):=bR.imp λσ H Q uu87=>by obtain⟨O,δ,Qd,w,q,k⟩:=uu87;exact k [] [] H q (ao.refl _) .nil
theorem ig{e:VE}{es:List VE}{t:DT}{u:DA}(h:DF X H0 O0 e t)(hs:PA X es (eR X.K H0 O0 u))(he:VH (e::es) X.env=(false,eval e X.env)::VH es X.env:=by rfl):PA X (e::es) (eR X.K H0 O0 (gR t u)):=
 (bf h hs he).imp λσ H Q uu88=>by obtain⟨O,δ,Qd,w,q,k⟩:=uu88;exact⟨O,δ,_,w,q,λd v H1 q1 s1 r1=>⟨O,δ,_,w.mono s1,q1,λds vs H2 q2 s2 r2=>k (d::ds) (v::vs) H2 q2 (s1.trans s2) (.cons (r1.mono s2) r2)⟩⟩
def gi(K:Nh)(r:List V->Hp->VK->Prop)(rd:List Vv->(Vv->Prop)->Prop):Prop:=
 ∀(H:Hp)(O:Ex)(xs:List V)(ds:List Vv)(Qd:Vv->Prop)(R:VK),(∀l,O l->H l≠none)->j6 K H O xs ds->rd ds Qd->(∀d v H',Qd d->ao H H'->Dt K H' O v d->R v H')->r xs H R
theorem bN{K:Nh}{r:List V->Hp->VK->Prop}{rd:List Vv->(Vv->Prop)->Prop}{t:DA}(hd:gi K r rd):∀σ H Q,up K H0 O0 (iR rd t) σ H Q->nU r (eR K H0 O0 t) σ H Q:=
 λσ H Q uu89=>by obtain⟨O,δ,Qd,w,q,k⟩:=uu89;exact⟨O,δ,_,w,q,λds vs H1 q1 s1 r1=>hd H1 O vs ds Qd _ (w.mono s1).trk r1 q1 λd v H2 q2 s2 r2=>k d v H2 q2 (s1.trans s2) r2⟩
def fF(t u:DS):DS:=λE δ=>t {E with nx:=u E} δ
theorem ar{st:VT}{rest:List VT}{t u:DS}(h:PS X st (bB X.K H0 O0 t))(h2:bK X rest (bB X.K H0 O0 u)):bK X (st::rest) (bB X.K H0 O0 (fF t u)):=
 (cx h h2).imp λD σ H uu90=>by obtain⟨O,δ,E,w,q,k1,k2,k3,k4⟩:=uu90;exact⟨O,δ,_,w,q,λO' δ' σ' H' z w' S=>⟨O',δ',E,w',z,λO2 δ2 σ2 H2 z2 w2 S2=>k1 O2 δ2 σ2 H2 z2 w2 (S.trans S2),k2,λO2 δ2 σ2 H2 z2 w2 S2=>k3 O2 δ2 σ2 H2 z2 w2 (S.trans S2),λO2 δ2 σ2 H2 z2 w2 S2=>k4 O2 δ2 σ2 H2 z2 w2 (S.trans S2)⟩,k2,k3,k4⟩
def oA:DS:=λE δ=>E.nx δ
theorem bh:bK X [] (bB X.K H0 O0 oA):=jh.imp λD σ H uu91=>by obtain⟨O,δ,E,w,q,k1,k2,k3,k4⟩:=uu91;exact k1 O δ σ H q w (aS.refl _ _)
theorem ax{st:VT}{t:DS}(h:PS X st (bB X.K H0 O0 t)):bK X [st] (bB X.K H0 O0 t):=dF h
def jw(i:Nat)(t:DT):DS:=λE δ=>t δ λd=>E.nx (δ.set i (some (.v d)))
theorem bG{i:Nat}{x:Str}{e:VE}{t:DT}{pos pos':Pos}(hN:X.N.Nodup)(hi:X.N[i]?=some x)(hx:gJ X.env.scope x)(he:DE X H0 O0 e t)(hs:V5 e (some (.Name x pos')) pos.line X.env=pure false:=by rfl)(hf:X.fn x=true\/X.env.scope.names.lookup x=some .local:=by first | exact .inl rfl | exact .inr rfl | assumption):
 PS X (.Assign [.Name x pos'] e pos) (bB X.K H0 O0 (jw i t)):=
 (cY hN hi hx he hs hf).imp λD σ H uu92=>by obtain⟨O,δ,E,w,q,k1,k2,k3,k4⟩:=uu92;exact⟨O,δ,_,w,q,λd v H1 q1 s1 r1=>k1 O _ _ H1 q1 ((w.mono s1).set r1) (.same s1)⟩
def oB(t:DT):DS:=λE δ=>t δ E.rt
theorem gS{K:Nh}{H:Hp}{O:Ex}{σ:St}{δ:Dl}(w:Wd K H0 O0 H O σ δ):aS H H O O0:=⟨λ_ _ e _=>e,λb _ n z=>n (w.sub b z)⟩
theorem aM{e:VE}{t:DT}{pos:Pos}(he:DE X H0 O0 e t):PS X (.Return (some e) pos) (bB X.K H0 O0 (oB t)):=
 (d3 he).imp λD σ H uu93=>by obtain⟨O,δ,E,w,q,k1,k2,k3,k4⟩:=uu93;exact⟨O,δ,_,w,q,λd v H1 q1 s1 r1=>k2 d v H1 q1 (w.same.trans s1) (r1.step (gS (w.mono s1)))⟩
def iS(c:DB)(t u:DS):DS:=λE δ=>c δ λb=>if b=true then t E δ else u E δ
theorem bj{c:VE}{a b:List VT}{tc:DB}{t u:DS}{pos:Pos}(hc:PT X c (bT X.K H0 O0 tc))(ha:bK X a (bB X.K H0 O0 t))(hb:bK X b (bB X.K H0 O0 u)):PS X (.If c a b pos) (bB X.K H0 O0 (iS tc t u)):=
 (ji hc ha hb).imp λD σ H uu94=>by obtain⟨O,δ,E,w,q,k1,k2,k3,k4⟩:=uu94;exact⟨O,δ,_,w,q,λc H1 q1 s1=>by
  have g:∀{t':DS},t' E δ->bB X.K H0 O0 t' D σ H1:=λz=>⟨O,δ,E,w.mono s1,z,λO2 δ2 σ2 H2 z2 w2 S2=>k1 O2 δ2 σ2 H2 z2 w2 (aS.trans (.same s1) S2),k2,λO2 δ2 σ2 H2 z2 w2 S2=>k3 O2 δ2 σ2 H2 z2 w2 (aS.trans (.same s1) S2),λO2 δ2 σ2 H2 z2 w2 S2=>k4 O2 δ2 σ2 H2 z2 w2 (aS.trans (.same s1) S2)⟩;cases c with
  | true=>exact g q1
  | false=>exact g q1⟩
inductive lX (K:Nh) (H0:Hp) (O0:Ex) (t:DA) (σ:St) (H:Hp) (R:VK):Prop
 | mk (O:Ex) (δ:Dl) (Qd:List Vv->Prop):Wd K H0 O0 H O σ δ->t δ Qd->(∀ds vs p H',Qd ds->ao H H'->H' p=none->aj K H' O vs ds->R (.ref p) (ak H' p (.lst vs)))->lX K H0 O0 t σ H R
abbrev FE(X:Cx)(H0:Hp)(O0:Ex)(e:VE)(t:DA):Prop:=PE X e (lX X.K H0 O0 t)
def dL(t:DA):DT:=λδ Q=>t δ λds=>Q (.list ds)
theorem fe{e:VE}{t:DA}(h:FE X H0 O0 e t):DE X H0 O0 e (dL t):=
 h.imp λσ H Q uu95=>by obtain⟨O,δ,Qd,w,q,k⟩:=uu95;exact⟨O,δ,_,w,q,λds vs p H1 q1 s1 hp r1=>k _ _ _ q1 (s1.trans (ao.new hp)) (.lst (.inl aW) (oi w s1 hp) (r1.mono (ao.new hp)))⟩
def lY(t:DA):DA:=λδ Q=>t δ λds=>ds.length<=VG/\Q ds
theorem cN{es:List VE}{t:DA}{pos:Pos}(h:PA X es (fD X.K H0 O0 t)):FE X H0 O0 (.List es pos) (lY t):=
 (nS h).imp λσ H Q uu96=>by obtain⟨O,δ,Qd,w,q,k⟩:=uu96;exact⟨O,δ,_,w,q,λds vs H1 q1 s1 r1=>⟨by rw [r1.length];exact q1.1,λp hp=>k _ _ _ _ q1.2 s1 hp r1⟩⟩
def oC(i:Nat)(t:DA):DS:=λE δ=>t δ λds=>E.nx (δ.set i (some (.o ds)))
theorem lZ{i:Nat}{x:Str}{e:VE}{t:DA}{pos pos':Pos}(hN:X.N.Nodup)(hi:X.N[i]?=some x)(hx:gJ X.env.scope x)(he:FE X H0 O0 e t)(hs:V5 e (some (.Name x pos')) pos.line X.env=pure false:=by rfl)(hf:X.fn x=true\/X.env.scope.names.lookup x=some .local:=by first | exact .inl rfl | exact .inr rfl | assumption):
 PS X (.Assign [.Name x pos'] e pos) (bB X.K H0 O0 (oC i t)):=
 (cY hN hi hx he hs hf).imp λD σ H ⟨O,δ,E,w,q,k1,k2,k3,k4⟩=>⟨O,δ,_,w,q,λds vs p H1 q1 s1 hp r1=>k1 _ _ _ _ q1 ((w.mono s1).setO hp r1)
  ⟨λb o e _=>(s1.trans (ao.new hp)) b o e,λb e n z=>z.elim n λy=>by
   cases q:H b with
   | none=>exact e q
   | some o=>have:=s1 _ _ q;rw [y,hp] at this;cases this⟩⟩
def oE(i:Nat)(t:DT):DS:=λE δ=>∃ds,δ[i]?=some (some (.o ds))/\t δ λd=>ds.length < VG/\E.nx (δ.set i (some (.o (ds++[d]))))
theorem ij{i:Nat}{o e:VE}{t:DT}{apos cpos pos:Pos}(ho:PE X o (eL i))(he:DE X H0 O0 e t)(hbase:Wj o "append" X.env (eval o X.env)=eval o X.env:=by rfl)
 (hfew:((V1 cpos (VH [e] X.env)).all (λx=>!x.1) && (Xh cpos (WR [] X.env)).all (λx=>x.1.isSome) && decide ([e].length+([]:List Ws).length+(if ([]:List Ws).isEmpty then 0 else 1) < 30))=true:=by rfl)
 (hline:(apos.endLine==cpos.line)=true:=by rfl)(hst:VH [e] X.env=(false,eval e X.env)::VH [] X.env:=by rfl)(hplain:(V1 cpos (VH [] X.env)).any (·.1)=false:=by rfl)
 (hs:V5 (.Call (.Attribute o "append" apos) [e] [] cpos) none pos.line X.env=pure false:=by rfl):PS X (.Expr (.Call (.Attribute o "append" apos) [e] [] cpos) pos) (bB X.K H0 O0 (oE i t)):=
 (sU (nY Q9 PySem.F.slot_list_append PySem.F.type_list_append Ah ho (bf he bR hst) hbase hfew hline hst hplain) hs).imp λD σ H uu1=>by
  obtain⟨O,δ,E,w,⟨ds,e,q⟩,k1,k2,k3,k4⟩:=uu1;obtain⟨l,vs,h,a,b,c,r⟩:=w.own e;refine⟨_,h,.inl ⟨rfl,_,aL.of c⟩,O,δ,_,w,q,λd v H1 q1 s1 r1=>?_⟩;refine⟨l,vs,v,rfl,rfl,s1 _ _ c,by rw [r.length];exact q1.1,?_⟩;exact k1 _ _ _ _ q1.2 ((w.mono s1).putO (vs:=vs) e h ((r.mono s1).append (.cons r1 .nil))) ⟨λb' o' z n=>by rw [aE (λy=>n (by rw [y];exact a))];exact s1 _ _ z,λ_ _ n=>n⟩
end
structure cI (J:It) (P:Hp->Prop) (vs:List V):Prop where
 go:∀i H',P H'->i < vs.length->J.go i H'
 yl:∀i H' x H'',P H'->i < vs.length->J.yld i H' x H''->H''=H'/\vs[i]?=some x
 st:∀i H',P H'->vs.length<=i->J.stop i H'
def oF(H1:Hp)(a:Vy)(H':Hp):Prop:=∀o,H1 a=some o->H' a=some o
theorem aL.keep{K:Nh}{H H':Hp}{a:Vy}{xs:List V}(s:oF H a H')(h:aL K H a xs):aL K H' a xs:=by
 rcases h with(h | ⟨o,h⟩) | h
 ·exact .inl (.inl (s _ h))
 ·exact .inl (.inr ⟨o,s _ h⟩)
 ·exact .inr h
theorem br.keep{K:Nh}{H H':Hp}{a:Vy}{xs:List V}(s:oF H a H')(h:br K H a xs):br K H' a xs:=by
 rcases h with(h | ⟨o,h⟩) | h
 ·exact .inl (.inl (s _ h))
 ·exact .inl (.inr ⟨o,s _ h⟩)
 ·exact .inr h
theorem cI.list{K:Nh}{H:Hp}{a:Vy}{vs:List V}(h:aL K H a vs):cI (lH K a) (oF H a) vs:=
 ⟨λi H' s hi=>⟨vs,vs[i],h.keep s,by simp [hi]⟩,λi H' x H'' s _ y=>⟨y.1,y.2 vs (h.keep s)⟩,λi H' s hi=>⟨vs,h.keep s,hi⟩⟩
theorem cI.tup{K:Nh}{H:Hp}{a:Vy}{vs:List V}(h:br K H a vs):cI (lI K a) (oF H a) vs:=
 ⟨λi H' s hi=>⟨vs,vs[i],h.keep s,by simp [hi]⟩,λi H' x H'' s _ y=>⟨y.1,y.2 vs (h.keep s)⟩,λi H' s hi=>⟨vs,h.keep s,hi⟩⟩
def iT(lo:Int)(n:Nat):List Vv:=(OA n).map λ(k:Nat)=>.int (lo+k)
theorem cI.rng{lo:Int}{n:Nat}:cI (gM lo n) (λ_=>True) ((OA n).map λ(k:Nat)=>V.int (lo+k)):=by
 refine⟨λi H' s hi=>(by simpa using hi:i < n),λi H' x H'' s hi y=>⟨y.1,?_⟩,λi H' s hi=>(by simpa using hi:n<=i)⟩;obtain⟨_,rfl⟩:=y;have hn:i < n:=by simpa using hi
 simp [hn]
theorem aj.rng{K:Nh}{H:Hp}{O:Ex}{lo:Int}:∀(l:List Nat),aj K H O (l.map λ(k:Nat)=>V.int (lo+k)) (l.map λ(k:Nat)=>Nn (lo+k))
 | []=>.nil
 | n::r=>.cons (.int _) (aj.rng r)
abbrev DG:=Vv->Dl->(Dl->Prop)->Prop
def GD(K:Nh)(g:TG)(dg:DG):Prop:=∀(H0:Hp)(O0:Ex)(H:Hp)(O:Ex)(σ:St)(δ:Dl)(v:V)(x:Vv)(R:St->Hp->Prop)(Qd:Dl->Prop),Wd K H0 O0 H O σ δ->Dt K H O v x->dg x δ Qd->(∀δ' σ',Qd δ'->Wd K H0 O0 H O σ' δ'->R σ' H)->g v σ H R
def jx(i:Nat):DG:=λx δ Q=>Q (δ.set i (some (.v x)))
theorem aP{K:Nh}{i:Nat}:GD K (gL i) (jx i):=λH0 O0 H O σ δ v x R Qd w r q k=>k _ _ q (w.set r)
abbrev jy:=List Vv->Dl->(Dl->Prop)->Prop
def oG(K:Nh)(g:gK)(dg:jy):Prop:=∀(H0:Hp)(O0:Ex)(H:Hp)(O:Ex)(σ:St)(δ:Dl)(vs:List V)(xs:List Vv)(R:St->Hp->Prop)(Qd:Dl->Prop),Wd K H0 O0 H O σ δ->aj K H O vs xs->dg xs δ Qd->(∀δ' σ',Qd δ'->Wd K H0 O0 H O σ' δ'->R σ' H)->g vs σ H R
def oH:jy:=λxs δ Q=>xs=[]/\Q δ
def oI(t:DG)(u:jy):jy:=λxs δ Q=>∃x r,xs=x::r/\t x δ λδ'=>u r δ' Q
theorem jz{K:Nh}:oG K nF oH:=λH0 O0 H O σ δ vs xs R Qd w r uu2 k=>by obtain⟨e,q⟩:=uu2;subst e;cases r;exact⟨rfl,k _ _ q w⟩
theorem d7{K:Nh}{t:TG}{u:gK}{dt:DG}{du:jy}(h:GD K t dt)(h2:oG K u du):oG K (lE t u) (oI dt du):=λH0 O0 H O σ δ vs xs R Qd w r uu3 k=>by
 obtain⟨x,rr,e,q⟩:=uu3;subst e;cases r with
 | cons r1 r2=>exact⟨_,_,rfl,h H0 O0 H O σ δ _ _ _ _ w r1 q λδ' σ' q' w'=>h2 H0 O0 H O σ' δ' _ _ R Qd w' r2 q' k⟩
def oJ(n:Nat)(t:jy):DG:=λx δ Q=>∃xs,x= .tuple xs/\xs.length=n/\t xs δ Q
theorem jA{K:Nh}{n:Nat}{t:gK}{dt:jy}(h:oG K t dt):GD K (nG K n t) (oJ n dt):=λH0 O0 H O σ δ v x R Qd w r uu4 k=>by
 obtain⟨xs,e,hl,q⟩:=uu4;subst e;obtain⟨a,vs,rfl,hs,rr⟩:=(Sh.dt r).tup;exact⟨a,vs,rfl,hs,by rw [rr.length];exact hl,h H0 O0 H O σ δ _ _ R Qd w rr q k⟩
section
variable {X:Cx} {H0:Hp} {O0:Ex}
def oK(t:DT)(g:DG):DS:=λE δ=>t δ λd=>g d δ E.nx
theorem tU{tg e:VE}{t:DT}{g:TG}{dg:DG}{pos:Pos}(he:DE X H0 O0 e t)(hg:PG X tg g)(gd:GD X.K g dg)(hs:W6 [tg] e pos.line X.env=pure false:=by rfl)(hw:W7 [tg] e X.env=pure none:=by rfl)
 (h1:(WX [tg] X.env).map (·.2)=[assign tg X.env]:=by rfl):PS X (.Assign [tg] e pos) (bB X.K H0 O0 (oK t dg)):=
 (nH he hg hs hw h1).imp λD σ H uu5=>by obtain⟨O,δ,E,w,q,k1,k2,k3,k4⟩:=uu5;exact⟨O,δ,_,w,q,λd v H1 q1 s1 r1=>gd H0 O0 H1 O σ δ v d _ _ (w.mono s1) r1 q1 λδ' σ' q' w'=>k1 O δ' σ' H1 q' w' (.same s1)⟩
def j7(i j:Nat)(t:DA):DS:=λE δ=>t δ λds=>∃x y,ds=[x,y]/\E.nx ((δ.set i (some (.v x))).set j (some (.v y)))
theorem j9{i j:Nat}{x y:Str}{a b:VE}{ta:DA}{px py pt pos:Pos}{kt k2 pt2}(hc:X.calm=true)(hN:X.N.Nodup)(hi:X.N[i]?=some x)(hj:X.N[j]?=some y)(hij:i≠j)
 (hx:X.env.scope.names.lookup x=some .local)(hy:X.env.scope.names.lookup y=some .local)(ha:PA X [a,b] (fD X.K H0 O0 ta))
 (hw:W7 [.Tuple [.Name x px,.Name y py] kt pt] (.Tuple [a,b] k2 pt2) X.env=pure (some [x,y]))
 (hs:W6 [.Tuple [.Name x px,.Name y py] kt pt] (.Tuple [a,b] k2 pt2) pos.line X.env=pure false:=by rfl):
 PS X (.Assign [.Tuple [.Name x px,.Name y py] kt pt] (.Tuple [a,b] k2 pt2) pos) (bB X.K H0 O0 (j7 i j ta)):=
 (xX hc hN hi hj hij hx hy ha hw hs).imp λD σ H uu6=>by obtain⟨O,δ,E,w,q,k1,k2,k3,k4⟩:=uu6;exact⟨O,δ,_,w,q,λds vs H1 uu7 s1 r1=>by
  obtain⟨d1,d2,e,q1⟩:=uu7;subst e;cases r1 with
  | cons r1 r2=>
   cases r2 with
   | cons r2 r3=>
    cases r3;exact⟨_,_,rfl,k1 _ _ _ _ q1 (((w.mono s1).set r1).set r2) (.same s1)⟩⟩
def iU(g:DG)(tb:DS)(E:dW):List Vv->Dl->Prop
 | [],δ=>E.nx δ
 | x::xs,δ=>g x δ λδ2=>tb {E with nx:=iU g tb E xs,ct:=iU g tb E xs,bk:=E.nx} δ2
theorem Nc{K:Nh}{J:It}{P:Hp->Prop}{vs:List V}{xs:List Vv}{g:TG}{dg:DG}{tb:DS}{D:hJ}{E:dW}{σ:St}{H:Hp}{O:Ex}{δ:Dl}(S:cI J P vs)(gd:GD K g dg)
 (hP:∀H' O',aS H H' O O'->P H')(r:aj K H O vs xs)(w:Wd K H0 O0 H O σ δ)(q:iU dg tb E xs δ)
 (k1:∀O' δ' σ' H',E.nx δ'->Wd K H0 O0 H' O' σ' δ'->aS H H' O O'->D.nx σ' H')(k2:∀d v H',E.rt d->ao H0 H'->Dt K H' O0 v d->D.rt v H'):FR J g (bB K H0 O0 tb) D σ H:=by
 refine⟨λi m σ' H'=>∃O' δ',m=vs.length - i/\i<=vs.length/\Wd K H0 O0 H' O' σ' δ'/\aS H H' O O'/\iU dg tb E (xs.drop i) δ',⟨vs.length,O,δ,Vu,N9 _,w,aS.refl _ _,by simpa using q⟩,?_⟩;rintro i m σ1 H1 ⟨O1,δ1,rfl,hi,w1,S1,q1⟩;by_cases hlt:i < vs.length
 ·refine .inr ⟨S.go i H1 (hP _ _ S1) hlt,λσ' H'=>∃O' δ',Wd K H0 O0 H' O' σ' δ'/\aS H H' O O'/\iU dg tb E (xs.drop (i+1)) δ',λσ' H' uu8=>by obtain⟨O',δ',w',S',q'⟩:=uu8;exact⟨vs.length - (i+1),Vq,O',δ',rfl,hlt,w',S',q'⟩,λx H' y=>?_⟩;have yy:=S.yl i H1 x H' (hP _ _ S1) hlt y;clear y;obtain⟨e,y⟩:=yy;subst e;obtain⟨d,ed,rd⟩:=r.get y;have hd:xs.drop i=d::xs.drop (i+1):=by
   rw [PD (h:=(Nz.mp ed).1),(Nz.mp ed).2]
  rw [hd] at q1;refine gd H0 O0 _ O1 σ1 δ1 x d _ _ w1 (rd.step S1) q1 λδ2 σ2 q2 w2=>?_;refine⟨O1,δ2,_,w2,q2,λO' δ' σ' H' z w' S'=>⟨O',δ',w',S1.trans S',z⟩,k2,λO' δ' σ' H' z w' S'=>k1 O' δ' σ' H' z w' (S1.trans S'),λO' δ' σ' H' z w' S'=>⟨O',δ',w',S1.trans S',z⟩⟩
 ·have e:i=vs.length:=Vq
  subst e;refine .inl ⟨S.st _ H1 (hP _ _ S1) (Np _),?_⟩;rw [r.length,SO (Np _)] at q1;exact k1 O1 δ1 σ1 H1 q1 w1 S1
def l3(g:DG)(tb:DS)(E:dW)(xs:List Vv)(δ:Dl):Prop:=∃I:Nat->Dl->Prop,I 0 δ/\(∀i x δ,xs[i]?=some x->I i δ->g x δ λδ2=>tb {E with nx:=I (i+1),ct:=I (i+1),bk:=E.nx} δ2)/\∀δ,I xs.length δ->E.nx δ
theorem l4{K:Nh}{J:It}{P:Hp->Prop}{vs:List V}{xs:List Vv}{g:TG}{dg:DG}{tb:DS}{D:hJ}{E:dW}{σ:St}{H:Hp}{O:Ex}{δ:Dl}(S:cI J P vs)(gd:GD K g dg)
 (hP:∀H' O',aS H H' O O'->P H')(r:aj K H O vs xs)(w:Wd K H0 O0 H O σ δ)(q:l3 dg tb E xs δ)
 (k1:∀O' δ' σ' H',E.nx δ'->Wd K H0 O0 H' O' σ' δ'->aS H H' O O'->D.nx σ' H')(k2:∀d v H',E.rt d->ao H0 H'->Dt K H' O0 v d->D.rt v H'):FR J g (bB K H0 O0 tb) D σ H:=by
 obtain⟨Iv,q0,qs,qe⟩:=q;refine⟨λi m σ' H'=>∃O' δ',m=vs.length - i/\i<=vs.length/\Wd K H0 O0 H' O' σ' δ'/\aS H H' O O'/\Iv i δ',⟨vs.length,O,δ,Vu,N9 _,w,aS.refl _ _,q0⟩,?_⟩;rintro i m σ1 H1 ⟨O1,δ1,rfl,hi,w1,S1,q1⟩;by_cases hlt:i < vs.length
 ·refine .inr ⟨S.go i H1 (hP _ _ S1) hlt,λσ' H'=>∃O' δ',Wd K H0 O0 H' O' σ' δ'/\aS H H' O O'/\Iv (i+1) δ',λσ' H' uu9=>by obtain⟨O',δ',w',S',q'⟩:=uu9;exact⟨vs.length - (i+1),Vq,O',δ',rfl,hlt,w',S',q'⟩,λx H' y=>?_⟩;have yy:=S.yl i H1 x H' (hP _ _ S1) hlt y;clear y;obtain⟨e,y⟩:=yy;subst e;obtain⟨d,ed,rd⟩:=r.get y;refine gd H0 O0 _ O1 σ1 δ1 x d _ _ w1 (rd.step S1) (qs i d δ1 ed q1) λδ2 σ2 q2 w2=>?_;refine⟨O1,δ2,_,w2,q2,λO' δ' σ' H' z w' S'=>⟨O',δ',w',S1.trans S',z⟩,k2,λO' δ' σ' H' z w' S'=>k1 O' δ' σ' H' z w' (S1.trans S'),λO' δ' σ' H' z w' S'=>⟨O',δ',w',S1.trans S',z⟩⟩
 ·have e:i=vs.length:=Vq
  subst e;refine .inl ⟨S.st _ H1 (hP _ _ S1) (Np _),?_⟩;rw [r.length] at q1;exact k1 O1 δ1 σ1 H1 (qe δ1 q1) w1 S1
def oM(t:DT)(g:DG)(tb:DS):DS:=λE δ=>t δ λd=>∃xs,d= .list xs/\l3 g tb E xs δ
def oN(t:DT)(g:DG)(tb:DS):DS:=λE δ=>t δ λd=>∃xs,d= .tuple xs/\l3 g tb E xs δ
def oO(t:DA)(g:DG)(tb:DS):DS:=λE δ=>t δ λds=>∃j:Int,ds=[.int j]/\-(2 ^ 62)<=j/\j < 2 ^ 62/\l3 g tb E (iT 0 j.toNat) δ
section
variable {tg iter:VE} {body:List VT} {t:DT} {ta:DA} {g:TG} {dg:DG} {tb:DS} {pos p ps:Pos}
theorem oP(hp:Xa (VB X.prog X.w) X.A X.env X.xe)(hc:X.calm=true)(hi:DE X H0 O0 iter t)(hg:PG X tg g)(gd:GD X.K g dg)(hb:bK X body (bB X.K H0 O0 tb))(hs:∀x,VX iter X.env x=pure x:=by intro _;rfl):
 PS X (.For tg iter body [] pos) (bB X.K H0 O0 (oM t dg tb)):=
 (nK hp hc (sZ hi) hg hb hs).imp λD σ H uu10=>by obtain⟨O,δ,E,w,q,k1,k2,k3,k4⟩:=uu10;exact⟨O,δ,_,w,q,λd v H1 uu11 s1 r1=>by
  obtain⟨xs,e,q1⟩:=uu11;subst e;cases r1 with
  | lst h n r=>
   refine⟨_,rfl,⟨_,.inl h⟩,l4 (cI.list (.inl h)) gd (λH' O' S o e=>S.keep _ _ e n) r (w.mono s1) q1 (λO' δ' σ' H' z w' S=>k1 O' δ' σ' H' z w' (aS.trans (.same s1) S)) k2⟩⟩
theorem oQ(hp:Xa (VB X.prog X.w) X.A X.env X.xe)(hc:X.calm=true)(hi:DE X H0 O0 iter t)(hg:PG X tg g)(gd:GD X.K g dg)(hb:bK X body (bB X.K H0 O0 tb))(hs:∀x,VX iter X.env x=pure x:=by intro _;rfl):
 PS X (.For tg iter body [] pos) (bB X.K H0 O0 (oN t dg tb)):=
 (nK hp hc (tf hi) hg hb hs).imp λD σ H uu12=>by obtain⟨O,δ,E,w,q,k1,k2,k3,k4⟩:=uu12;exact⟨O,δ,_,w,q,λd v H1 uu13 s1 r1=>by
  obtain⟨xs,e,q1⟩:=uu13;subst e;cases r1 with
  | tup h n r=>
   refine⟨_,rfl,⟨_,.inl h⟩,l4 (cI.tup (.inl h)) gd (λH' O' S o e=>S.keep _ _ e n) r (w.mono s1) q1 (λO' δ' σ' H' z w' S=>k1 O' δ' σ' H' z w' (aS.trans (.same s1) S)) k2⟩
  | tupK h r=>
   refine⟨_,rfl,⟨_,h.of0⟩,l4 (P:=λ_=>True) ⟨λi H' _ hi=>⟨_,_,h.of0,by simp [hi];rfl⟩,λi H' x H'' _ _ y=>⟨y.1,y.2 _ h.of0⟩,λi H' _ hi=>⟨_,h.of0,hi⟩⟩ gd (λ_ _ _=>trivial) r (w.mono s1) q1 (λO' δ' σ' H' z w' S=>k1 O' δ' σ' H' z w' (aS.trans (.same s1) S)) k2⟩⟩
theorem tV(hp:Xa (VB X.prog X.w) X.A X.env X.xe)(hc:X.calm=true){a:VE}(hgl:Gl X "range")(hm:X.mg "range"=none)(ha:PA X [a] (fD X.K H0 O0 ta))(hg:PG X tg g)(gd:GD X.K g dg)(hb:bK X body (bB X.K H0 O0 tb))
 (hst:VH [a] X.env=[(false,eval a X.env)]:=by rfl)(hs:∀x,VX (.Call (.Name "range" p) [a] [] ps) X.env x=pure x:=by intro _;rfl):
 PS X (.For tg (.Call (.Name "range" p) [a] [] ps) body [] pos) (bB X.K H0 O0 (oO ta dg tb)):=
 (nK hp hc (x5 hgl hm ha hst) hg hb hs).imp λD σ H uu14=>by obtain⟨O,δ,E,w,q,k1,k2,k3,k4⟩:=uu14;exact⟨O,δ,_,w,q,λds vs H1 uu15 s1 r1=>by
  obtain⟨j,e,b1,b2,q1⟩:=uu15;subst e;cases r1 with
  | cons r1 r2=>
   cases r2;cases r1;exact⟨j,rfl,b1,b2,l4 cI.rng gd (λ_ _ _=>trivial) (aj.rng _) (w.mono s1) q1 (λO' δ' σ' H' z w' S=>k1 O' δ' σ' H' z w' (aS.trans (.same s1) S)) k2⟩⟩
end
def d8(k:Nat)(fr:List Nat)(δ:Dl):Dl:=NG k none++fr.map λj=>(δ[j]?).join
def oR(g:DG)(tc:DB)(te:DT)(δ0:Dl):List Vv->List Vv->(List Vv->Prop)->Prop
 | [],acc,Q=>Q acc
 | x::xs,acc,Q=>g x δ0 λδ2=>tc δ2 λok=>if ok=true then te δ2 λy=>oR g tc te δ0 xs (acc++[y]) Q else oR g tc te δ0 xs acc Q
theorem Wd.comp{K:Nh}{H:Hp}{O:Ex}{σ:St}{δ:Dl}(w:Wd K H0 O0 H O σ δ){k:Nat}{fr:List Nat}(hf:fr.Nodup):Wd K H0 O0 H O (bJ k fr σ) (d8 k fr δ):=by
 have at1:∀{α:Type}(l:List (Option α))(i:Nat),(NG k none++fr.map λj=>(l[j]?).join)[i]?=if i < k then some none else(fr[i - k]?).map λj=>(l[j]?).join:=by
  intro α l i;by_cases h:i < k
  ·rw [Vs h,OQ (by simpa using h),Qo,Vs h]
  ·rw [Vr h,Oy (by simpa using PR h),NK];simp
 have un:∀{α:Type}(l:List (Option α))(i:Nat)(x:α),(NG k none++fr.map λj=>(l[j]?).join)[i]?=some (some x)->∃j,fr[i - k]?=some j/\k<=i/\l[j]?=some (some x):=by
  intro α l i x h;rw [at1] at h;split at h
  ·cases h
  ·cases e:fr[i - k]? with
   | none=>rw [e] at h;cases h
   | some j=>
    rw [e] at h;refine⟨j,rfl,Vq,?_⟩;have h':(l[j]?).join=some x:=Oi h;cases q:l[j]? with
    | none=>rw [q] at h';cases h'
    | some o=>rw [q] at h';rw [show o=some x from h']
 refine⟨w.same,w.sub,w.new,w.trk,by simp [bJ,d8],λi y e=>?_,λi j y z l e1 y1 e2 z2 e3 e4=>?_⟩
 ·match y,e with
  | none,_=>exact OE
  | some x,e=>
   obtain⟨j,hj,hk,ej⟩:=un δ i x e;have q:=w.sl j _ ej;have e2:((bJ k fr σ)[i]?).join=(σ[j]?).join:=by
    unfold bJ;rw [at1,Vr Vq,hj];rfl
   rw [e2];exact q
 ·obtain⟨a,ha,ka,ea⟩:=un δ i _ e1;obtain⟨b,hb,kb,eb⟩:=un δ j _ e2;obtain⟨a',ha',_,ea'⟩:=un σ i _ e3;obtain⟨b',hb',_,eb'⟩:=un σ j _ e4;rw [ha] at ha';cases ha';rw [hb] at hb';cases hb';have:=w.dis a b y z l ea y1 eb z2 ea' eb';subst this;have e5:=(Ud (l:=fr) (i:=i - k) (j:=j - k) (Nz.mp ha).1 hf).mp (by rw [ha,hb]);omega
theorem Nd{K:Nh}{J:It}{P:Hp->Prop}{vs:List V}{xs:List Vv}{g:TG}{dg:DG}{tc:TT}{dc:DB}{te:TE}{de:DT}{k:Nat}{fr:List Nat}{σ:St}{H:Hp}{O:Ex}{δ:Dl}{Qd:List Vv->Prop}{Q:VK}(S:cI J P vs)(gd:GD K g dg)(hf:fr.Nodup)
 (hk:∀v:V,∀σ':St,∀H':Hp,∀R:St->Hp->Prop,g v (bJ k fr σ) H' R->g v (bJ k fr σ) H' λσ2 H2=>jm (bJ k fr σ) σ2/\R σ2 H2)
 (hc:∀σ H Q,bT K H0 O0 dc σ H Q->tc σ H Q)(he:∀σ H Q,up K H0 O0 de σ H Q->te σ H Q)
 (hP:∀D H',H D=none->jY D H H'->P H')(r:aj K H O vs xs)(w:Wd K H0 O0 H O σ δ)(hz:vs.length<=VG)(q:oR dg dc de (d8 k fr δ) xs [] Qd)
 (k1:∀ds us p H',Qd ds->ao H H'->H' p=none->aj K H' O us ds->Q (.ref p) (ak H' p (.lst us))):jn J g tc te k fr σ H Q:=by
 intro D hD;have w0:Wd K H0 O0 H O (bJ k fr σ) (d8 k fr δ):=w.comp hf;have nD:¬O D:=λz=>w.trk D z hD;have D0:H0 D=none:=by
  cases e:H0 D with
  | none=>rfl
  | some o=>rw [w.same _ _ e] at hD;cases hD
 have ex:∀H',jY D H H'->H' D≠none->Wd K H0 O0 H' (λa=>O a\/a=D) (bJ k fr σ) (d8 k fr δ):=λH' s' hd=>by
  have S':aS H H' O (λa=>O a\/a=D):=⟨λb o e _=>s' b o e (cT e hD),λb hb hn z=>z.elim hn λq=>hb (by rw [q];exact hD)⟩;refine⟨λb o e=>s' b o (w.same b o e) (λz=>by rw [z,D0] at e;cases e),λl z=>.inl (w.sub l z),λl z=>z.elim (w.new l) λq=>.inr (by rw [q];exact D0),λl z=>?_,w0.len,λj y e=>?_,w0.dis⟩
  ·by_cases ql:l=D
   ·rw [ql];exact hd
   ·have hl:=w.trk l (z.resolve_right ql);cases e:H l with
    | none=>exact absurd e hl
    | some o=>rw [s' l o e ql];exact λz=>nomatch z
  ·exact(w0.sl j y e).go S' (λl o _ _ a1 _ a3=>⟨.inl a1,s' _ _ a3 (λz=>nD (by rw [<-z];exact a1))⟩) (λa o u a1 _ a3=>⟨.inl a1,s' _ _ a3 (λz=>nD (by rw [<-z];exact a1))⟩) λa o a1 a3=>s' _ _ a3 (λz=>nD (by rw [<-z];exact w.sub _ a1))
 refine⟨λi m H'=>∃acc ys,m=vs.length - i/\i<=vs.length/\jY D H H'/\H' D=some (.lst ys)/\ys.length<=i/\aj K H' (λa=>O a\/a=D) ys acc/\oR dg dc de (d8 k fr δ) (xs.drop i) acc Qd,⟨vs.length,[],[],Vu,N9 _,λb o e n=>by rw [aE n];exact e,aW,N9 _,.nil,by simpa using q⟩,?_⟩;rintro i m H1 ⟨acc,ys,rfl,hi,s1,e1,hy,ra,q1⟩;by_cases hlt:i < vs.length
 ·refine .inr ⟨S.go i H1 (hP D H1 hD s1) hlt,λx H' y=>?_⟩;have yy:=S.yl i H1 x H' (hP D H1 hD s1) hlt y;clear y;obtain⟨e,y⟩:=yy;subst e;obtain⟨d,ed,rd⟩:=r.get y;have hd:xs.drop i=d::xs.drop (i+1):=by
   rw [PD (h:=(Nz.mp ed).1),(Nz.mp ed).2]
  rw [hd] at q1;have w1:=ex _ s1 (by rw [e1];exact λz=>nomatch z);have S':aS H H' O (λa=>O a\/a=D):=⟨λb o e _=>s1 b o e (cT e hD),λb hb hn z=>z.elim hn λq=>hb (by rw [q];exact hD)⟩;refine hk x σ _ _ (gd H0 O0 _ _ _ _ x d _ _ w1 (rd.step S') q1 λδ2 σ2 q2 w2=>?_);refine hc σ2 _ _ ⟨_,δ2,_,w2,q2,λok H3 q3 s3=>?_⟩;cases ok with
  | true=>
   rw [Vs rfl];refine he σ2 H3 _ ⟨_,δ2,_,w2.mono s3,q3,λd' v H4 q4 s4 r4=>?_⟩;have e4:=s4 _ _ (s3 _ _ e1);have sD:aS H4 (ak H4 D (.lst (ys++[v]))) (λa=>O a\/a=D) (λa=>O a\/a=D):=⟨λb o e n=>by rw [aE (λz=>n (.inr z))];exact e,λ_ _ n=>n⟩;refine⟨ys,e4,Vq,vs.length - (i+1),Vq,acc++[d'],ys++[v],rfl,hlt,λb o e n=>by rw [aE n];exact s4 _ _ (s3 _ _ (s1 b o e n)),aW,by simpa using hy,?_,q4⟩;exact((ra.mono (s3.trans s4)).append (.cons r4 .nil)).step sD
  | false=>
   rw [Vr Vp];exact⟨vs.length - (i+1),Vq,acc,ys,rfl,hlt,λb o e n=>s3 _ _ (s1 b o e n),s3 _ _ e1,Vq,ra.mono s3,q3⟩
 ·have e:i=vs.length:=Vq
  subst e;refine .inl ⟨S.st _ H1 (hP D H1 hD s1) (Np _),?_⟩;rw [r.length,SO (Np _)] at q1;have hrest:∃H2:Hp,H2 D=none/\ao H H2/\H1=ak H2 D (.lst ys):=by
   refine⟨λb=>if b=D then none else H1 b,Vu,λb o e=>?_,?_⟩
   ·have n:=cT e hD;show(if b=D then none else H1 b)=some o;rw [Vr n];exact s1 b o e n
   ·funext b;by_cases z:b=D
    ·rw [z,aW];exact e1
    ·rw [aE z];show H1 b=if b=D then none else H1 b;rw [Vr z]
  obtain⟨H2,h2,s2,rfl⟩:=hrest;refine k1 acc ys D H2 q1 s2 h2 (ra.step ⟨λb o e n=>?_,λb _ n z=>n (.inl z)⟩);rw [aE (λz=>n (.inr z))] at e;exact e
def fu(g:DG)(tc:DB)(te:DT)(δ0:Dl)(xs:List Vv)(Q:List Vv->Prop):Prop:=∃I:Nat->List Vv->Prop,I 0 []/\(∀i x acc,xs[i]?=some x->I i acc->g x δ0 λδ2=>tc δ2 λok=>if ok=true then te δ2 λy=>I (i+1) (acc++[y]) else I (i+1) acc)/\∀acc,I xs.length acc->Q acc
theorem kc{K:Nh}{J:It}{P:Hp->Prop}{vs:List V}{xs:List Vv}{g:TG}{dg:DG}{tc:TT}{dc:DB}{te:TE}{de:DT}{k:Nat}{fr:List Nat}{σ:St}{H:Hp}{O:Ex}{δ:Dl}{Qd:List Vv->Prop}{Q:VK}(S:cI J P vs)(gd:GD K g dg)(hf:fr.Nodup)
 (hk:∀v:V,∀σ':St,∀H':Hp,∀R:St->Hp->Prop,g v (bJ k fr σ) H' R->g v (bJ k fr σ) H' λσ2 H2=>jm (bJ k fr σ) σ2/\R σ2 H2)
 (hc:∀σ H Q,bT K H0 O0 dc σ H Q->tc σ H Q)(he:∀σ H Q,up K H0 O0 de σ H Q->te σ H Q)
 (hP:∀D H',H D=none->jY D H H'->P H')(r:aj K H O vs xs)(w:Wd K H0 O0 H O σ δ)(hz:vs.length<=VG)(q:fu dg dc de (d8 k fr δ) xs Qd)
 (k1:∀ds us p H',Qd ds->ao H H'->H' p=none->aj K H' O us ds->Q (.ref p) (ak H' p (.lst us))):jn J g tc te k fr σ H Q:=by
 obtain⟨Iv,q0,qs,qe⟩:=q;intro D hD;have w0:Wd K H0 O0 H O (bJ k fr σ) (d8 k fr δ):=w.comp hf;have nD:¬O D:=λz=>w.trk D z hD;have D0:H0 D=none:=by
  cases e:H0 D with
  | none=>rfl
  | some o=>rw [w.same _ _ e] at hD;cases hD
 have ex:∀H',jY D H H'->H' D≠none->Wd K H0 O0 H' (λa=>O a\/a=D) (bJ k fr σ) (d8 k fr δ):=λH' s' hd=>by
  have S':aS H H' O (λa=>O a\/a=D):=⟨λb o e _=>s' b o e (cT e hD),λb hb hn z=>z.elim hn λq=>hb (by rw [q];exact hD)⟩;refine⟨λb o e=>s' b o (w.same b o e) (λz=>by rw [z,D0] at e;cases e),λl z=>.inl (w.sub l z),λl z=>z.elim (w.new l) λq=>.inr (by rw [q];exact D0),λl z=>?_,w0.len,λj y e=>?_,w0.dis⟩
  ·by_cases ql:l=D
   ·rw [ql];exact hd
   ·have hl:=w.trk l (z.resolve_right ql);cases e:H l with
    | none=>exact absurd e hl
    | some o=>rw [s' l o e ql];exact λz=>nomatch z
  ·exact(w0.sl j y e).go S' (λl o _ _ a1 _ a3=>⟨.inl a1,s' _ _ a3 (λz=>nD (by rw [<-z];exact a1))⟩) (λa o u a1 _ a3=>⟨.inl a1,s' _ _ a3 (λz=>nD (by rw [<-z];exact a1))⟩) λa o a1 a3=>s' _ _ a3 (λz=>nD (by rw [<-z];exact w.sub _ a1))
 refine⟨λi m H'=>∃acc ys,m=vs.length - i/\i<=vs.length/\jY D H H'/\H' D=some (.lst ys)/\ys.length<=i/\aj K H' (λa=>O a\/a=D) ys acc/\Iv i acc,⟨vs.length,[],[],Vu,N9 _,λb o e n=>by rw [aE n];exact e,aW,N9 _,.nil,q0⟩,?_⟩;rintro i m H1 ⟨acc,ys,rfl,hi,s1,e1,hy,ra,q1⟩;by_cases hlt:i < vs.length
 ·refine .inr ⟨S.go i H1 (hP D H1 hD s1) hlt,λx H' y=>?_⟩;have yy:=S.yl i H1 x H' (hP D H1 hD s1) hlt y;clear y;obtain⟨e,y⟩:=yy;subst e;obtain⟨d,ed,rd⟩:=r.get y;have w1:=ex _ s1 (by rw [e1];exact λz=>nomatch z);have S':aS H H' O (λa=>O a\/a=D):=⟨λb o e _=>s1 b o e (cT e hD),λb hb hn z=>z.elim hn λq=>hb (by rw [q];exact hD)⟩;refine hk x σ _ _ (gd H0 O0 _ _ _ _ x d _ _ w1 (rd.step S') (qs i d acc ed q1) λδ2 σ2 q2 w2=>?_);refine hc σ2 _ _ ⟨_,δ2,_,w2,q2,λok H3 q3 s3=>?_⟩;cases ok with
  | true=>
   rw [Vs rfl];refine he σ2 H3 _ ⟨_,δ2,_,w2.mono s3,q3,λd' v H4 q4 s4 r4=>?_⟩;have e4:=s4 _ _ (s3 _ _ e1);have sD:aS H4 (ak H4 D (.lst (ys++[v]))) (λa=>O a\/a=D) (λa=>O a\/a=D):=⟨λb o e n=>by rw [aE (λz=>n (.inr z))];exact e,λ_ _ n=>n⟩;refine⟨ys,e4,Vq,vs.length - (i+1),Vq,acc++[d'],ys++[v],rfl,hlt,λb o e n=>by rw [aE n];exact s4 _ _ (s3 _ _ (s1 b o e n)),aW,by simpa using hy,?_,q4⟩;exact((ra.mono (s3.trans s4)).append (.cons r4 .nil)).step sD
  | false=>
   rw [Vr Vp];exact⟨vs.length - (i+1),Vq,acc,ys,rfl,hlt,λb o e n=>s3 _ _ (s1 b o e n),s3 _ _ e1,Vq,ra.mono s3,q3⟩
 ·have e:i=vs.length:=Vq
  subst e;refine .inl ⟨S.st _ H1 (hP D H1 hD s1) (Np _),?_⟩;rw [r.length] at q1;have hrest:∃H2:Hp,H2 D=none/\ao H H2/\H1=ak H2 D (.lst ys):=by
   refine⟨λb=>if b=D then none else H1 b,Vu,λb o e=>?_,?_⟩
   ·have n:=cT e hD;show(if b=D then none else H1 b)=some o;rw [Vr n];exact s1 b o e n
   ·funext b;by_cases z:b=D
    ·rw [z,aW];exact e1
    ·rw [aE z];show H1 b=if b=D then none else H1 b;rw [Vr z]
  obtain⟨H2,h2,s2,rfl⟩:=hrest;refine k1 acc ys D H2 (qe acc q1) s2 h2 (ra.step ⟨λb o e n=>?_,λb _ n z=>n (.inl z)⟩);rw [aE (λz=>n (.inr z))] at e;exact e
def iV:DB:=λ_ Q=>Q true
def ip(g:TG)(k:Nat):Prop:=∀(fr:List Nat)(σ:St)(v:V)(H':Hp)(R:St->Hp->Prop),g v (bJ k fr σ) H' R->g v (bJ k fr σ) H' λσ2 H2=>jm (bJ k fr σ) σ2/\R σ2 H2
theorem cf:ip (gL 0) 1:=λfr σ v H' R h=>⟨Aq,h⟩
def ke(t:DT)(g:DG)(tc:DB)(te:DT)(k:Nat)(fr:List Nat):DA:=λδ Q=>t δ λd=>∃xs,d= .list xs/\xs.length<=VG/\fu g tc te (d8 k fr δ) xs Q
def kg(t:DT)(g:DG)(tc:DB)(te:DT)(k:Nat)(fr:List Nat):DA:=λδ Q=>t δ λd=>∃xs,d= .tuple xs/\xs.length<=VG/\fu g tc te (d8 k fr δ) xs Q
def oT(ta:DA)(g:DG)(tc:DB)(te:DT)(k:Nat)(fr:List Nat):DA:=λδ Q=>ta δ λds=>∃j:Int,ds=[.int j]/\-(2 ^ 62)<=j/\j < VG/\fu g tc te (d8 k fr δ) (iT 0 j.toNat) Q
section
variable {tg iter elt:VE} {ifs:List VE} {scope:We} {N':List Str} {k:Nat} {fr:List Nat} {g:TG} {dg:DG} {t:DT} {ta:DA} {tc:DB} {te:DT} {pos p ps:Pos}
theorem fG(hc:X.calm=true)(S:bb X.env.scope X.N N' k fr scope)(hi:DF X H0 O0 iter t)(gd:GD X.K g dg)(hk:ip g k)(hfr:fr.Nodup)
 (hg:∀fp C s H,PG (bF X scope N' fp C s H) tg g)(hf:∀fp C s H,eO (bF X scope N' fp C s H) ifs (bT X.K H0 O0 tc))(he:∀fp C s H,PE (bF X scope N' fp C s H) elt (up X.K H0 O0 te))
 (hs:∀x,VX iter X.env x=pure x:=by intro _;rfl):FE X H0 O0 (.ListComp elt [⟨tg,iter,ifs,0⟩] scope pos) (ke t dg tc te k fr):=
 (lR hc S (sZ hi) hg hf he hs).imp λσ H Q uu16=>by obtain⟨O,δ,Qd,w,q,kk⟩:=uu16;exact⟨O,δ,_,w,q,λd v H1 uu17 s1 r1=>by
  obtain⟨xs,e,hz,q1⟩:=uu17;subst e;obtain⟨a,vs,rfl,hq,rr⟩:=r1.lst;refine⟨a,rfl,⟨_,hq⟩,λD hD=>kc (cI.list hq) gd hfr (λv _ H' R h=>hk fr σ v H' R h) (λ_ _ _ z=>z) (λ_ _ _ z=>z) (λD H' hD s' o e=>s' _ _ e (cT e hD)) rr (w.mono s1) (by rw [rr.length];exact hz) q1 (λds us p H' z s' hp r'=>kk ds us p H' z (s1.trans s') hp r') D hD⟩⟩
theorem l5(hc:X.calm=true)(S:bb X.env.scope X.N N' k fr scope)(hi:DF X H0 O0 iter t)(gd:GD X.K g dg)(hk:ip g k)(hfr:fr.Nodup)
 (hg:∀fp C s H,PG (bF X scope N' fp C s H) tg g)(hf:∀fp C s H,eO (bF X scope N' fp C s H) ifs (bT X.K H0 O0 tc))(he:∀fp C s H,PE (bF X scope N' fp C s H) elt (up X.K H0 O0 te))
 (hs:∀x,VX iter X.env x=pure x:=by intro _;rfl):FE X H0 O0 (.ListComp elt [⟨tg,iter,ifs,0⟩] scope pos) (kg t dg tc te k fr):=
 (lR hc S (tf hi) hg hf he hs).imp λσ H Q uu18=>by obtain⟨O,δ,Qd,w,q,kk⟩:=uu18;exact⟨O,δ,_,w,q,λd v H1 uu19 s1 r1=>by
  obtain⟨xs,e,hz,q1⟩:=uu19;subst e;obtain⟨a,vs,rfl,hq,rr⟩:=r1.tup;refine⟨a,rfl,⟨_,hq⟩,λD hD=>kc (cI.tup hq) gd hfr (λv _ H' R h=>hk fr σ v H' R h) (λ_ _ _ z=>z) (λ_ _ _ z=>z) (λD H' hD s' o e=>s' _ _ e (cT e hD)) rr (w.mono s1) (by rw [rr.length];exact hz) q1 (λds us p H' z s' hp r'=>kk ds us p H' z (s1.trans s') hp r') D hD⟩⟩
theorem tW(hc:X.calm=true){a:VE}(S:bb X.env.scope X.N N' k fr scope)(hgl:Gl X "range")(hm:X.mg "range"=none)(ha:PA X [a] (eR X.K H0 O0 ta))(gd:GD X.K g dg)(hk:ip g k)(hfr:fr.Nodup)
 (hg:∀fp C s H,PG (bF X scope N' fp C s H) tg g)(hf:∀fp C s H,eO (bF X scope N' fp C s H) ifs (bT X.K H0 O0 tc))(he:∀fp C s H,PE (bF X scope N' fp C s H) elt (up X.K H0 O0 te))
 (hst:VH [a] X.env=[(false,eval a X.env)]:=by rfl)(hs:∀x,VX (.Call (.Name "range" p) [a] [] ps) X.env x=pure x:=by intro _;rfl):
 FE X H0 O0 (.ListComp elt [⟨tg,(.Call (.Name "range" p) [a] [] ps),ifs,0⟩] scope pos) (oT ta dg tc te k fr):=
 (lR hc S (x5 hgl hm ha hst) hg hf he hs).imp λσ H Q uu20=>by obtain⟨O,δ,Qd,w,q,kk⟩:=uu20;exact⟨O,δ,_,w,q,λds vs H1 uu21 s1 r1=>by
  obtain⟨j,e,b1,b2,q1⟩:=uu21;subst e;cases r1 with
  | cons r1 r2=>
   cases r2;cases r1.int;have hb:(VG:Int) < 2 ^ 62:=Vp
   exact⟨j,rfl,b1,Vq,λD hD=>kc (P:=λ_=>True) cI.rng gd hfr (λv _ H' R h=>hk fr σ v H' R h) (λ_ _ _ z=>z) (λ_ _ _ z=>z) (λ_ _ _ _=>trivial) (aj.rng _) (w.mono s1) (by rw [Nj,Qz];omega) q1 (λds us p H' z s' hp r'=>kk ds us p H' z (s1.trans s') hp r') D hD⟩⟩
end
end
section
variable {K:Nh}
def dI(g:Int->Int->Vv):Vv->Vv->(Vv->Prop)->Prop:=λx y Q=>∃i j,x= .int i/\y= .int j/\Q (g i j)
def oU(C:Int->Int->Prop)(g:Int->Int->Vv):Vv->Vv->(Vv->Prop)->Prop:=λx y Q=>∃i j,x= .int i/\y= .int j/\C i j/\Q (g i j)
theorem bE{g:Int->Int->Int}:cy K (fV λi j=>.int (g i j)) (dI λi j=>.int (g i j)):=λH O x y dx dy Qd R _ hx hy uu22 k=>by
 obtain⟨i,j,e1,e2,q⟩:=uu22;subst e1 e2;cases hx.int;cases hy.int;exact⟨i,j,rfl,rfl,k _ _ H q (ao.refl _) (.int _)⟩
theorem dX{g:Int->Int->Bool}:cy K (fV λi j=>.bl (g i j)) (dI λi j=>.bool (g i j)):=λH O x y dx dy Qd R _ hx hy uu23 k=>by
 obtain⟨i,j,e1,e2,q⟩:=uu23;subst e1 e2;cases hx.int;cases hy.int;exact⟨i,j,rfl,rfl,k _ _ H q (ao.refl _) (.bl _)⟩
theorem cJ{C:Int->Int->Prop}{g:Int->Int->Int}:cy K (rI C λi j=>.int (g i j)) (oU C λi j=>.int (g i j)):=λH O x y dx dy Qd R _ hx hy uu24 k=>by
 obtain⟨i,j,e1,e2,c,q⟩:=uu24;subst e1 e2;cases hx.int;cases hy.int;exact⟨i,j,rfl,rfl,c,k _ _ H q (ao.refl _) (.int _)⟩
def AA(K:Nh):R2:=λx y H Q=>∃O dx dy,Sh K H O x dx/\Sh K H O y dy/\cZ dx/\cZ dy/\Q (.bl (NJ dx dy)) H
def AB(K:Nh):R2:=λx y H Q=>∃O dx dy,Sh K H O x dx/\Sh K H O y dy/\cZ dx/\cZ dy/\Q (.bl (!NJ dx dy)) H
theorem cn{X:Cx}(hu:X.A.units+64 < V9):bQ X (VZ .Eq) (AA X.K):=by
 intro Xw s σ H x y v u Q I rx ry h;obtain⟨O,dx,dy,hx,hy,sx,sy,q⟩:=h;obtain⟨as,ra⟩:=gh I hx.all (OB sx) rx;obtain⟨bs,rb⟩:=gh I hy.all (OB sy) ry;exact SeqAt.compareEq_shaped ra rb sx sy hu (bD I q rfl)
theorem kh{X:Cx}(hu:X.A.units+64 < V9):bQ X (VZ .NotEq) (AB X.K):=by
 intro Xw s σ H x y v u Q I rx ry h;obtain⟨O,dx,dy,hx,hy,sx,sy,q⟩:=h;obtain⟨as,ra⟩:=gh I hx.all (OB sx) rx;obtain⟨bs,rb⟩:=gh I hy.all (OB sy) ry;exact SeqAt.compareNe_shaped ra rb sx sy hu (bD I q rfl)
def l6:Vv->Vv->(Vv->Prop)->Prop:=λx y Q=>cZ x/\cZ y/\Q (.bool (NJ x y))
def oV:Vv->Vv->(Vv->Prop)->Prop:=λx y Q=>cZ x/\cZ y/\Q (.bool (!NJ x y))
theorem cq:cy K (AA K) l6:=λH O x y dx dy Qd R _ hx hy uu25 k=>by obtain⟨a,b,q⟩:=uu25;exact⟨O,dx,dy,hx,hy,a,b,k _ _ H q (ao.refl _) (.bl _)⟩
theorem ki:cy K (AB K) oV:=λH O x y dx dy Qd R _ hx hy uu26 k=>by obtain⟨a,b,q⟩:=uu26;exact⟨O,dx,dy,hx,hy,a,b,k _ _ H q (ao.refl _) (.bl _)⟩
def oW:Vv->Vv->(Vv->Prop)->Prop:=λx y Q=>∃ds i d,x= .list ds/\y= .int i/\atI ds i=some d/\Q d
def iW:Vv->Vv->(Vv->Prop)->Prop:=λx y Q=>∃ds i d,x= .tuple ds/\y= .int i/\atI ds i=some d/\Q d
theorem aj.atI{H:Hp}{O:Ex}{vs:List V}{ds:List Vv}{i:Int}{d:Vv}(r:aj K H O vs ds)(e:L2.atI ds i=some d):∃v,L2.atI vs i=some v/\Dt K H O v d:=by
 unfold L2.atI at e⊢;rw [r.length];cases q:fY ds.length i with
 | none=>rw [q] at e;cases e
 | some j=>rw [q] at e;exact r.getD e
theorem bW:cy K (nW K) oW:=λH O x y dx dy Qd R _ hx hy uu27 k=>by
 obtain⟨ds,i,d,e1,e2,e3,q⟩:=uu27;subst e1 e2;obtain⟨a,vs,rfl,hs,r⟩:=hx.lst;cases hy.int;obtain⟨v,hv,rv⟩:=r.atI e3;exact⟨a,vs,i,v,rfl,rfl,hs,hv,k d v H q (ao.refl _) rv⟩
theorem az:cy K (nX K) iW:=λH O x y dx dy Qd R _ hx hy uu28 k=>by
 obtain⟨ds,i,d,e1,e2,e3,q⟩:=uu28;subst e1 e2;obtain⟨a,vs,rfl,hs,r⟩:=hx.tup;cases hy.int;obtain⟨v,hv,rv⟩:=r.atI e3;exact⟨a,vs,i,v,rfl,rfl,hs,hv,k d v H q (ao.refl _) rv⟩
end
section
variable {X:Cx} {H0:Hp} {O0:Ex}
def cK(xs:List Vv)(lo hi:Option Int):List Vv:=(xs.drop (HT.sIx xs.length 0 lo)).take (HT.sIx xs.length xs.length hi - HT.sIx xs.length 0 lo)
theorem aj.cut{K:Nh}{H:Hp}{O:Ex}{vs:List V}{ds:List Vv}(r:aj K H O vs ds)(lo hi:Option Int):aj K H O (hV vs lo hi) (cK ds lo hi):=by
 unfold hV cK;rw [r.length];exact(r.drop _).take _
abbrev DO:=Dl->(Option Int->Prop)->Prop
inductive gn (K:Nh) (H0:Hp) (O0:Ex) (t:DO) (σ:St) (H:Hp) (R:Option Int->Hp->Prop):Prop
 | mk (O:Ex) (δ:Dl) (Qd:Option Int->Prop):Wd K H0 O0 H O σ δ->t δ Qd->(∀d H',Qd d->ao H H'->R d H')->gn K H0 O0 t σ H R
def l8:DO:=λ_ Q=>Q none
def l9(t:DT):DO:=λδ Q=>t δ λd=>∃i,d= .int i/\Q (some i)
theorem PO.imp{X:Cx}{e:Option VE}{t u:TO}(h:PO X e t)(i:∀σ H Q,u σ H Q->t σ H Q):PO X e u:=λXw s σ H Q I z=>h Xw s σ H Q I (i σ H Q z)
theorem iX:PO X none (gn X.K H0 O0 l8):=Ge.imp λσ H Q uu29=>by obtain⟨O,δ,Qd,w,q,k⟩:=uu29;exact k none H q (ao.refl _)
theorem fb{e:VE}{t:DT}(h:DE X H0 O0 e t):PO X (some e) (gn X.K H0 O0 (l9 t)):=(Gf h).imp λσ H Q uu30=>by obtain⟨O,δ,Qd,w,q,k⟩:=uu30;exact⟨O,δ,_,w,q,λd v H1 uu31 s1 r1=>by obtain⟨i,e,q1⟩:=uu31;subst e;cases r1;exact⟨i,rfl,k _ H1 q1 s1⟩⟩
def oX(t:DT)(tl th:DO):DA:=λδ Q=>t δ λd=>tl δ λl=>th δ λu=>∃xs,d= .list xs/\Q (cK xs l u)
theorem mf{e:VE}{lo hi:Option VE}{t:DT}{tl th:DO}{pos p2:Pos}(h:DF X H0 O0 e t)(hl:PO X lo (gn X.K H0 O0 tl))(hu:PO X hi (gn X.K H0 O0 th)):FE X H0 O0 (.Subscript e (.Slice lo hi none p2) pos) (oX t tl th):=
 (nV Ad h hl hu).imp λσ H Q uu32=>by obtain⟨O,δ,Qd,w,q,k⟩:=uu32;exact⟨O,δ,_,w,q,λd v H1 q1 s1 r1=>⟨O,δ,_,w.mono s1,q1,λl H2 q2 s2=>⟨O,δ,_,w.mono (s1.trans s2),q2,λu H3 uu33 s3=>by
  obtain⟨xs,e,q3⟩:=uu33;subst e;obtain⟨a,vs,rfl,h1,d1⟩:=(r1.mono (s2.trans s3)).lst;exact⟨a,vs,rfl,h1,λp hp=>k _ _ _ _ q3 (s1.trans (s2.trans s3)) hp (d1.cut l u)⟩⟩⟩⟩
theorem fv{a b:VE}{ta tb:DT}{r:R2}{rd:Vv->Vv->(Vv->Prop)->Prop}{pos:Pos}(ho:jX X r)(hd:cy X.K r rd)(ha:DF X H0 O0 a ta)(hb:DF X H0 O0 b tb)(hs:∀v u,W3 b false v u=operate [v,u] (WL v u):=by intro _ _;rfl):DE X H0 O0 (.Subscript a b pos) (dJ rd ta tb):=(gb ho ha hb hs).imp (oj hd)
def oY:List Vv->(Vv->Prop)->Prop:=λds Q=>∃xs,(ds=[.list xs]\/ds=[.tuple xs])/\Q (.int xs.length)
def oZ:List Vv->(Vv->Prop)->Prop:=λds Q=>∃xs,ds=[ft xs]/\Q (.int xs.length)
theorem gr{K:Nh}:gi K (λxs H Q=>∃p ys,xs=[.ref p]/\(aL K H p ys\/br K H p ys)/\Q (.int ys.length) H) oY:=λH O xs ds Qd R _ hs uu34 k=>by
 obtain⟨ys,e,q⟩:=uu34;rcases e with e | e <;> subst e
 ·cases hs with
  | cons h r=>
   cases r;obtain⟨a,vs,rfl,h1,d1⟩:=h.lst;exact⟨a,vs,rfl,.inl h1,by rw [d1.length];exact k _ _ H q (ao.refl _) (.int _)⟩
 ·cases hs with
  | cons h r=>
   cases r;obtain⟨a,vs,rfl,h1,d1⟩:=h.tup;exact⟨a,vs,rfl,.inr h1,by rw [d1.length];exact k _ _ H q (ao.refl _) (.int _)⟩
theorem Hr{K:Nh}:gi K (λxs H Q=>∃p ys,xs=[.ref p]/\(aL K H p ys\/br K H p ys)/\Q (.int ys.length) H) oZ:=λH O xs ds Qd R _ hs uu35 k=>by
 obtain⟨ys,e,q⟩:=uu35;subst e;cases hs with
 | cons h r=>
  cases r;obtain⟨a,vs,rfl,h1,d1⟩:=h.scr;exact⟨a,vs,rfl,.inl h1,by rw [d1.length];exact k _ _ H q (ao.refl _) (.int _)⟩
def pb:List Vv->(Vv->Prop)->Prop:=λds Q=>∃xs,ds=[.list xs]/\Q (.tuple xs)
theorem iq{K:Nh}:gi K (λxs H Q=>∃p ys,xs=[.ref p]/\((aL K H p ys/\∀l,H l=none->Q (.ref l) (ak H l (.tup ys)))\/(br K H p ys/\Q (.ref p) H))) pb:=λH O xs ds Qd R tr hs uu36 k=>by
 obtain⟨ys,e,q⟩:=uu36;subst e;cases hs with
 | cons h r=>
  cases r;obtain⟨a,vs,rfl,h1,d1⟩:=h.lst;exact⟨a,vs,rfl,.inl ⟨h1,λl hl=>k _ _ _ q (ao.new hl) (.tup (.inl aW) (λz=>tr l z hl) (d1.mono (ao.new hl)))⟩⟩
theorem aj.bools{K:Nh}{H:Hp}{O:Ex}:∀{bs:List Bool}{vs:List V},aj K H O vs (bs.map P1)->vs=bs.map V.bl
 | [],_,r=>by rw [OD] at r;cases r;rfl
 | b::bs,_,r=>by
  rw [Nq] at r;cases r with
  | cons h r=>cases h;rw [Nq,aj.bools r]
def pd(g:List Bool->Bool):List Vv->(Vv->Prop)->Prop:=λds Q=>∃bs:List Bool,ds=[.list (bs.map .bool)]/\Q (.bool (g bs))
theorem tX{K:Nh}{g:List Bool->Bool}:gi K (λxs H Q=>∃(a:Vy)(bs:List Bool),xs=[.ref a]/\aL K H a (bs.map V.bl)/\Q (.bl (g bs)) H) (pd g):=λH O xs ds Qd R tr hs uu37 k=>by
 obtain⟨bs,e,q⟩:=uu37;subst e;cases hs with
 | cons h r=>
  cases r;obtain⟨a,vs,rfl,h1,d1⟩:=h.lst;cases d1.bools;exact⟨a,bs,rfl,h1,k _ _ H q (ao.refl _) (.bl _)⟩
def pf(g:Int->Int->Int):List Vv->(Vv->Prop)->Prop:=λds Q=>∃i j,ds=[.int i,.int j]/\Q (.int (g i j))
theorem ph{K:Nh}{g:Int->Int->Int}:gi K (λxs H Q=>∃i j,xs=[.int i,.int j]/\Q (.int (g i j)) H) (pf g):=λH O xs ds Qd R tr hs uu38 k=>by
 obtain⟨i,j,e,q⟩:=uu38;subst e;cases hs with
 | cons h r=>
  cases r with
  | cons h2 r=>
   cases r;cases h.int;cases h2.int;exact⟨i,j,rfl,k _ _ H q (ao.refl _) (.int _)⟩
def kj:Vv->String
 | .none=> "NoneType" | .bool _=> "bool" | .int _=> "int" | .str _=> "str" | .list _=> "list" | .tuple _=> "tuple" | .dict _=> "dict"
end
section
variable {P:VL} {w:VP} {K:Nh} {mg:Str->Option Vw} {base:VQ}
def gu(N:List Str)(ds:List Vv):Dl:=ds.map (λd=>some (.v d))++NG (N.length - ds.length) none
theorem AD{H:Hp}{O:Ex}{N:List Str}{vs:List V}{ds:List Vv}(tr:∀l,O l->H l≠none)(r:aj K H O vs ds):Wd K H O H O (start N vs) (gu N ds):=by
 have hl:=r.length;have at1:∀(i:Nat) y,(gu N ds)[i]?=some y->(∃d,ds[i]?=some d/\y=some (.v d))\/y=none:=λi y e=>by
  unfold gu at e;by_cases h:i < ds.length
  ·rw [OQ (by simpa using h),NK] at e;cases q:ds[i]? with
   | none=>rw [q] at e;cases e
   | some d=>rw [q] at e;exact .inl ⟨d,rfl,(Oi e).symm⟩
  ·rw [Oy (by simpa using PR h),Qo] at e;split at e
   ·exact .inr (Oi e).symm
   ·cases e
 refine⟨ao.refl _,λ_ z=>z,λ_ z=>.inl z,tr,by simp [start,gu,hl],λi y e=>?_,λi j ds' es l e1=>?_⟩
 ·rcases at1 i y e with⟨d,hd,rfl⟩ | rfl
  ·obtain⟨v,hv,rv⟩:=r.getD hd;refine⟨v,?_,rv⟩;unfold start;rw [OQ (by simpa using(Nz.mp hv).1),NK,hv];rfl
  ·exact OE
 ·rcases at1 i _ e1 with⟨d,_,z⟩ | z
  ·cases z;intro h;exact h.elim
  ·cases z
theorem fq.okD{x qual:Str}{st:VT}{f:Vy}{fd:VN}{N ps:List Str}{k:Nat}{F:List Vv->(Vv->Prop)->Prop}(Fu:fq K x qual st f fd)(S:aT N ps (ay st))(len:∀ds Q,F ds Q->ds.length=ps.length)
 (hbody:∀(cdv:Vw) (A:VS) (outer:List Env) (s:Vz) (H:Hp) (O:Ex) (ds:List Vv) (Q:Vv->Prop) (E:XK),bx k (A.deeper (W2 qual (ay st) s.heap.objs.size f cdv))->F ds Q->
  ∃t,bK (hU CX0 P w K mg base N qual (ay st) f cdv A outer s H E).nox (fm st) (bB K H O t)/\t {nx:=λ_=>Q .none,rt:=Q} (gu N ds)):aH P w K mg base CX0 (k+1) f fd ps (aX K F):=by
 refine Fu.ok S (λvs H Q E h=>?_) (λcdv A outer s H vs Q E hr h=>?_)
 ·obtain⟨O,ds,Qd,_,r,q,_⟩:=h;rw [r.length];exact len _ _ q
 ·obtain⟨O,ds,Qd,tr,r,q,k⟩:=h;obtain⟨t,ht,q'⟩:=hbody cdv A outer s H O ds Qd E hr q;refine⟨_,ht,O,_,_,AD tr r,q',λO' δ' σ' H' z w' S'=>?_,λd v H' z s' r'=>k d v H' z s' r',λ_ _ _ _ z=>z.elim,λ_ _ _ _ z=>z.elim⟩;exact k _ _ _ z w'.same .non
end
section
variable {X:Cx} {H0:Hp} {O0:Ex}
theorem gz:eO X [] (bT X.K H0 O0 iV):=λXw s σ H Q I h=>by
 obtain⟨O,δ,Qd,w,q,k⟩:=h;exact An Xw s σ H Q I (k true H q (ao.refl _))
theorem Hs:cD X (.builtin "isinstance") (λxs H Q=>∃O d T b x,xs=[x,.ty T]/\Dt X.K H O x d/\(∀x,d≠ .dict [(.none,x)])/\kitOne X.K (.type (kj d)) (.type T)=some b/\Q (.bl b) H):=by
 intro Xw s σ H xs us Q I r h;obtain⟨O,d,T,b,x,rfl,hd,hp,hk,q⟩:=h;obtain⟨u,w',rfl,rx,rt⟩:=nQ r;cases (show w'=Qr T from rt);have fin:∀tk,EP X Xw σ Q (.bool b) {s with toks:=tk}:=λtk=>⟨.bl b,H,I.tok tk,rfl,q⟩;cases hd with
 | non=>cases (show u=PH from rx);exact Xb kitx_none I.kIn OE hk (λz=>nomatch z) fin
 | bl y=>cases (show u=P0 y from rx);exact Xb kitx_bool I.kIn OE hk (λz=>nomatch z) fin
 | int i=>obtain⟨t,e⟩:=(show ∃t,u=Pk i t from rx);cases e;exact Xb kitx_int I.kIn OE hk (λz=>nomatch z) fin
 | str y=>obtain⟨t,e⟩:=(show ∃t,u=Qi y t from rx);cases e;exact Xb kitx_str I.kIn OE hk (λz=>nomatch z) fin
 | @tup a xs ds h n rr=>
  cases (show u=N0 a from rx);obtain⟨its,rv,⟨o,e,c,_⟩,_⟩:=I.tuple (.inl h);exact Xb kitx_tuple I.kIn ⟨o,e,c⟩ hk (λz=>nomatch z) fin
 | @tupK a xs ds h rr=>
  cases (show u=N0 a from rx);obtain⟨its,rv,⟨o,e,c,_⟩,_⟩:=I.tuple h.of0;exact Xb kitx_tuple I.kIn ⟨o,e,c⟩ hk (λz=>nomatch z) fin
 | @lst a xs ds h n rr=>
  cases (show u=N0 a from rx);obtain⟨its,rv,⟨o,_,e,c,_⟩,_⟩:=I.list (.inl h);exact Xb kitx_list I.kIn ⟨o,e,c⟩ hk (λz=>nomatch z) fin
 | pack h n=>exact absurd rfl (hp _)
 | purse h n=>exact absurd rfl (hp _)
 | scr h r=>exact absurd rfl (hp _)
 | obj h e n r=>exact absurd rfl (hp _)
 | @dct0 a h n=>
  cases (show u=N0 a from rx);obtain⟨_,_,_,_,o,_,_,e,c,_⟩:=(show bV X.prog X.w H s.heap a (.dK []) from I.hok a _ h);exact Xb kitx_dict I.kIn ⟨o,e,c.1⟩ hk (λz=>nomatch z) fin
 | @dic a ob kv ks kp ds h e1 e2 n rr=>
  cases (show u=N0 a from rx);obtain⟨_,_,_,_,o,_,_,e,c,_⟩:=(show bV X.prog X.w H s.heap a (.dK kv) from(I.hok a _ h).2);exact Xb kitx_dict I.kIn ⟨o,e,c.1⟩ hk (λz=>nomatch z) fin
def mh(K:Nh)(T:String)(t:DT):DT:=λδ Q=>t δ λd=>∃b,kitOne K (.type (kj d)) (.type T)=some b/\(∀x,d≠ .dict [(.none,x)])/\Q (.bool b)
theorem Ht{T:String}{a c:VE}{t:DT}{np p:Pos}(hg:Gl X "isinstance")(hm:X.mg "isinstance"=none)(hv:VW "isinstance"=some (.builtin "isinstance"))(ha:DF X H0 O0 a t)(hc:PE X c (tC (.ty T)))
 (hs:VH [a,c] X.env=(false,eval a X.env)::VH [c] X.env:=by rfl)(hs2:VH [c] X.env=[(false,eval c X.env)]:=by rfl)(hb:(V1 p (VH [c] X.env)).any (·.1)=false:=by rfl):DE X H0 O0 (.Call (.Name "isinstance" np) [a,c] [] p) (mh X.K T t):=
 (bS Hs hg hm hv (bf ha (bf hc bR hs2) hs) (he:=hs) (hpl:=hb)).imp λσ H Q uu39=>by obtain⟨O,δ,Qd,w,q,k⟩:=uu39;exact⟨O,δ,_,w,q,λd v H1 uu40 s1 r1=>by obtain⟨b,e,hp,q1⟩:=uu40;exact⟨λ_=>False,d,T,b,v,rfl,r1.all,hp,e,k _ _ H1 q1 s1 (.bl b)⟩⟩
def pj:Vv->Vv->(Vv->Prop)->Prop:=λx y Q=>∃i j,x= .str i/\y= .str j/\i.length+j.length<=VG/\Q (.str (i++j))
theorem AE{K:Nh}:cy K (λx y H Q=>∃i j,x= .str i/\y= .str j/\i.length+j.length<=VG/\Q (.str (i++j)) H) pj:=λH O x y dx dy Qd R tr hx hy uu41 k=>by
 obtain⟨i,j,e1,e2,hz,q⟩:=uu41;subst e1 e2;cases hx.str;cases hy.str;exact⟨i,j,rfl,rfl,hz,k _ _ H q (ao.refl _) (.str _)⟩
def pq:Vv->Vv->(Vv->Prop)->Prop:=λx y Q=>∃z i c,x= .str z/\y= .int i/\z.length<=VG/\atI z.cps.toList i=some c/\Q (.str ⟨#[c]⟩)
theorem AF{K:Nh}:cy K Ab pq:=λH O x y dx dy Qd R tr hx hy uu42 k=>by
 obtain⟨z,i,c,e1,e2,hz,e3,q⟩:=uu42;subst e1 e2;cases hx.str;cases hy.int;exact⟨z,i,c,rfl,rfl,hz,e3,k _ _ H q (ao.refl _) (.str _)⟩
def Hu:V->Option Int->Option Int->Hp->VK->Prop:=λx lo hi H Q=>∃z,x= .str z/\z.length<=VG/\Q (.str (Txt.slice z lo hi)) H
theorem Hv:lQ X Hu:=by
 intro Xw s σ H x v vl vu lo hi sl Q I rx hs pl pu h;obtain⟨z,rfl,hz,q⟩:=h;obtain⟨t,rfl⟩:=rx;have e1:∃l:Option (Int×Tok),vl=partValue l/\l.map (·.1)=lo:=by
  cases pl with
  | none=>exact⟨none,rfl,rfl⟩
  | int i t=>exact⟨some (i,t),rfl,rfl⟩
 have e2:∃l:Option (Int×Tok),vu=partValue l/\l.map (·.1)=hi:=by
  cases pu with
  | none=>exact⟨none,rfl,rfl⟩
  | int i t=>exact⟨some (i,t),rfl,rfl⟩
 obtain⟨l,rfl,rfl⟩:=e1;obtain⟨u,rfl,rfl⟩:=e2;refine⟨"str",_,F.slot_str_getitem.lookup,WY _ _ _,wpAny_getItem_str_slice (l:=l) (u:=u) (st:=none) hs rfl ?_⟩;exact post_val_or_str ⟨NP (Txt.slice_le z _ _) hz,λt' k=>⟨.str (Txt.slice z (l.map (·.1)) (u.map (·.1))),H,I.tok _,⟨_,rfl⟩,q⟩⟩
def pz(t:DT)(tl th:DO):DT:=λδ Q=>t δ λd=>tl δ λl=>th δ λu=>∃z,d= .str z/\z.length<=VG/\Q (.str (Txt.slice z l u))
theorem AG{e:VE}{lo hi:Option VE}{t:DT}{tl th:DO}{pos p2:Pos}(h:DF X H0 O0 e t)(hl:PO X lo (gn X.K H0 O0 tl))(hu:PO X hi (gn X.K H0 O0 th)):DE X H0 O0 (.Subscript e (.Slice lo hi none p2) pos) (pz t tl th):=
 (nV Hv h hl hu).imp λσ H Q uu43=>by obtain⟨O,δ,Qd,w,q,k⟩:=uu43;exact⟨O,δ,_,w,q,λd v H1 q1 s1 r1=>⟨O,δ,_,w.mono s1,q1,λl H2 q2 s2=>⟨O,δ,_,w.mono (s1.trans s2),q2,λu H3 uu44 s3=>by
  obtain⟨z,e,hz,q3⟩:=uu44;subst e;cases r1.str;exact⟨z,rfl,hz,k _ _ H3 q3 (s1.trans (s2.trans s3)) (.str _)⟩⟩⟩⟩
theorem Hw{K:Nh}{H:Hp}{O:Ex}:∀{ys:List Str}{vs:List V}{us:List Vw},aj K H O vs (ys.map Nl)->aC vs us->StrsAre us ys:=by
 intro ys
 induction ys with
 | nil=>intro vs us r rv;rw [OD] at r;cases r;cases rv;exact .nil
 | cons y ys ih=>
  intro vs us r rv;rw [Nq] at r;cases r with
  | cons h r=>
   cases h;cases rv with
   | cons r1 r2=>
    obtain⟨t,rfl⟩:=r1;exact .cons y t (ih r r2)
theorem Hx:Aa X "str.join" (λx xs H Q=>∃(O:Ex)(z:Str)(a:V)(ys:List Str),x= .str z/\xs=[a]/\Sh X.K H O a (.list (ys.map .str))/\(ys.map (·.length)).sum+ys.length*z.length<=16777216/\Q (.str (Txt.join z ys)) H):=by
 intro Xw s σ H x xs v us Q I rx rs h;obtain⟨O,z,a,ys,rfl,rfl,ha,hz,q⟩:=h;obtain⟨t,rfl⟩:=rx;obtain⟨u,rfl,ru⟩:=cH rs;obtain⟨l,vs,rfl,hl,dl⟩:=ha.lst;cases ru;obtain⟨its,rv,pl,_⟩:=I.list hl;exact join_list pl.isList (by simpa using Hw dl rv) hz λt' k=>⟨.str _,H,I.tok _,⟨_,rfl⟩,q⟩
def pA(to:DT)(t:DT):DT:=λδ Q=>to δ λx=>∃z:Str,x= .str z/\t δ λy=>∃(ys:List Str),y= .list (ys.map .str)/\(ys.map (·.length)).sum+ys.length*z.length<=16777216/\Q (.str (Txt.join z ys))
theorem Hy{o e:VE}{to t:DT}{apos cpos:Pos}(ho:DE X H0 O0 o to)(ha:DF X H0 O0 e t)(hbase:Wj o "join" X.env (eval o X.env)=eval o X.env:=by rfl)
 (hfew:((V1 cpos (VH [e] X.env)).all (λx=>!x.1) && (Xh cpos (WR [] X.env)).all (λx=>x.1.isSome) && decide ([e].length+([]:List Ws).length+(if ([]:List Ws).isEmpty then 0 else 1) < 30))=true:=by rfl)
 (hline:(apos.endLine==cpos.line)=true:=by rfl)(hst:VH [e] X.env=(false,eval e X.env)::VH [] X.env:=by rfl)(hplain:(V1 cpos (VH [] X.env)).any (·.1)=false:=by rfl):
 DE X H0 O0 (.Call (.Attribute o "join" apos) [e] [] cpos) (pA to t):=
 (nY PySem.F.plainAttrs_str PySem.F.slot_str_join PySem.F.type_str_join Hx ho (bf ha bR hst) hbase hfew hline hst hplain).imp λσ H Q uu45=>by obtain⟨O,δ,Qd,w,q,k⟩:=uu45;exact⟨O,δ,_,w,q,λx v H1 uu46 s1 r1=>by
  obtain⟨z,e,q1⟩:=uu46;subst e;cases r1;exact⟨rfl,O,δ,_,w.mono s1,q1,λy u H2 uu47 s2 r2=>by obtain⟨ys,e,hz,q2⟩:=uu47;subst e;exact⟨O,z,u,ys,rfl,rfl,r2,hz,k _ _ H2 q2 (s1.trans s2) (.str _)⟩⟩⟩
def pB:List Vv->(Vv->Prop)->Prop:=λds Q=>(∃i,ds=[.int i]/\Q (.int i))\/∃b,ds=[.bool b]/\Q (.int (if b then 1 else 0))
theorem pC{K:Nh}:gi K (λxs H Q=>(∃i,xs=[.int i]/\Q (.int i) H)\/∃k,xs=[.bl k]/\Q (.int (if k then 1 else 0)) H) pB:=λH O xs ds Qd R tr hs h k=>by
 rcases h with⟨i,e,q⟩ | ⟨b,e,q⟩ <;> subst e
 ·cases hs with
  | cons h r=>cases r;cases h.int;exact .inl ⟨i,rfl,k _ _ H q (ao.refl _) (.int _)⟩
 ·cases hs with
  | cons h r=>cases r;cases h.bl;exact .inr ⟨b,rfl,k _ _ H q (ao.refl _) (.int _)⟩
def pE(t:DA):DA:=λδ Q=>t δ λds=>∃xs,(ds=[.list xs]\/ds=[.tuple xs])/\Q xs
theorem Hz{a:VE}{t:DA}{np p:Pos}(hg:Gl X "list")(hm:X.mg "list"=none)(hv:VW "list"=some (.type "list"))(ha:PA X [a] (eR X.K H0 O0 t))(he:VH [a] X.env=(false,eval a X.env)::VH [] X.env:=by rfl)(hpl:(V1 p (VH [] X.env)).any (·.1)=false:=by rfl):FE X H0 O0 (.Call (.Name "list" np) [a] [] p) (pE t):=
 (d6 Gu hg hm hv ha (he:=he) (hpl:=hpl)).imp λσ H Q uu48=>by obtain⟨O,δ,Qd,w,q,k⟩:=uu48;exact⟨O,δ,_,w,q,λds vs H1 uu49 s1 r1=>by
  obtain⟨xs,e,q1⟩:=uu49;rcases e with e | e <;> subst e
  ·cases r1 with
   | cons h r=>
    cases r;obtain⟨a,us,rfl,h1,d1⟩:=h.lst;exact⟨a,us,rfl,.inl h1,λl hl=>k _ _ _ _ q1 s1 hl d1⟩
  ·cases r1 with
   | cons h r=>
    cases r;obtain⟨a,us,rfl,h1,d1⟩:=h.tup;exact⟨a,us,rfl,.inr h1,λl hl=>k _ _ _ _ q1 s1 hl d1⟩⟩
end
section
variable {X:Cx} {Xw:List (Vy×Obj)} {σ:St} {H:Hp} {s:Vz}
theorem af.swap{p:Vy}{o':HO}(I:af X Xw σ H s)(mu:jQ (H p))(new:bV X.prog X.w (ak H p o') s.heap p o'):af X Xw σ (ak H p o') s:=by
 have hp:∃o,H p=some o:=by
  cases e:H p with
  | none=>rw [e] at mu;exact mu.elim
  | some o=>exact⟨o,rfl⟩
 obtain⟨o,ho⟩:=hp;have nn:∀{b:Vy},H b=none->b≠p:=λhb z=>by rw [z,ho] at hb;cases hb
 have nt:∀{b:Vy}{xs:List V},H b=some (.tup xs)->b≠p:=λhb z=>by rw [z] at hb;rw [hb] at mu;exact mu
 have nw:∀{b y:Vy},H b=some (.own y)->b≠p:=λhb z=>by rw [z] at hb;rw [hb] at mu;exact mu
 have nf:∀{b:Vy}{ob:Obj}{u:HO},H b=some (.frz ob u)->b≠p:=λhb z=>by rw [z] at hb;rw [hb] at mu;exact mu
 have nb:∀{b:Vy}{ps:Array Vw},H b=some (.tbl ps)->b≠p:=λhb z=>by rw [z] at hb;rw [hb] at mu;exact mu
 have ub:=I.base;refine⟨I.ok,I.os,I.bare,⟨ub.keep,ub.slot,λb ob e n hx=>?_,ub.there,λb xs z=>?_,λb ob u z=>?_,λb ps z=>?_⟩,I.loc,I.cell,?_,λx c e=>?_,λq hq=>?_,λb u e=>?_,I.len⟩
 ·have:=ub.free b ob e n hx;rw [aE (nn this)];exact this
 ·have:=ub.tups b xs z;rw [aE (nt this)];exact this
 ·have:=ub.frzs b ob u z;rw [aE (nf this)];exact this
 ·obtain⟨m,this⟩:=ub.tbls b ps z;exact⟨m,by rw [aE (nb this)];exact this⟩
 ·rw [aE (nn I.free)];exact I.free
 ·have:=I.freeC x c e;rw [aE (nn this)];exact this
 ·obtain⟨a,b,c⟩:=I.pin q hq;exact⟨a,by rw [aE (nn b)];exact b,c⟩
 ·by_cases hb:b=p
  ·subst hb;rw [aW] at e;cases e;exact new
  ·rw [aE hb] at e;exact(I.hok b u e).stay (λ_ _ _ q=>q) (λc z=>by rw [aE (nw z)];exact z) λc xs z=>by rw [aE (nt z)];exact z
theorem af.open3{p:Vy}(I:af X Xw σ H s)(e:H p=some (gf p)):∃a b c,af X Xw σ (ak H p (.lst [.int a,.int b,.int c])) s:=by
 obtain⟨⟨a,b,c,t,u,v,k,h⟩,_,_⟩:=(show bV X.prog X.w H s.heap p (gf p) from I.hok p _ e);exact⟨a,b,c,I.swap (by rw [e];exact OE) ⟨(show 3<=VG by decide),[.int a t,.int b u,.int c v],k,.cons ⟨t,rfl⟩ (.cons ⟨u,rfl⟩ (.cons ⟨v,rfl⟩ .nil)),h⟩⟩
theorem af.shut3{p:Vy}{a b c:Int}(I:af X Xw σ H s)(e:H p=some (.lst [.int a,.int b,.int c])):af X Xw σ (ak H p (gf p)) s:=by
 obtain⟨_,its,k,r,h⟩:=(show bV X.prog X.w H s.heap p (.lst [.int a,.int b,.int c]) from I.hok p _ e);cases r with
 | cons r1 r2=>
  cases r2 with
  | cons r2 r3=>
   cases r3 with
   | cons r3 r4=>
    cases r4;obtain⟨t,rfl⟩:=r1;obtain⟨u,rfl⟩:=r2;obtain⟨v,rfl⟩:=r3;exact I.swap (by rw [e];exact OE) ⟨⟨a,b,c,t,u,v,k,h⟩,⟨_,h⟩,λh1 h2 uu50 kk=>by obtain⟨a,b,c,t,u,v,k,z⟩:=uu50;exact⟨a,b,c,t,u,v,k,kk _ z⟩⟩
theorem bK.purse{st:List VT}{t:TS}(h:bK X st t):bK X st (λD σ H=>∃p,H p=some (gf p)/\∀a b c,t {nx:=λσ' H'=>∃a b c,H' p=some (.lst [.int a,.int b,.int c])/\D.nx σ' (ak H' p (gf p)),rt:=λv H'=>∃a b c,H' p=some (.lst [.int a,.int b,.int c])/\D.rt v (ak H' p (gf p))} σ (ak H p (.lst [.int a,.int b,.int c]))):=by
 intro Xw s σ H D I ⟨p,e,q⟩;obtain⟨a,b,c,I1⟩:=I.open3 e;refine aA (h Xw s σ _ _ I1 (q a b c)) λf s1 z=>?_;cases f with
 | next=>obtain⟨σ',H',J,_,_,_,e',q'⟩:=z;exact⟨σ',_,J.shut3 e',q'⟩
 | ret u=>obtain⟨v,σ',H',J,r,_,_,_,e',q'⟩:=z;exact⟨v,σ',_,J.shut3 e',r,q'⟩
 | brk=>obtain⟨_,_,_,z⟩:=z;exact z.elim
 | cont=>obtain⟨_,_,_,z⟩:=z;exact z.elim
theorem bK.newPurse{st:List VT}{t:TS}(h:bK X st t):bK X st (λD σ H=>t {nx:=λ_ _=>False,rt:=λv H'=>∃p a b c,v= .ref p/\H' p=some (.lst [.int a,.int b,.int c])/\D.rt v (ak H' p (gf p))} σ H):=by
 intro Xw s σ H D I q;refine aA (h Xw s σ _ _ I q) λf s1 z=>?_;cases f with
 | next=>obtain⟨_,_,_,z⟩:=z;exact z.elim
 | ret u=>obtain⟨v,σ',H',J,r,p,a,b,c,e,e',q'⟩:=z;subst e;exact⟨_,σ',_,J.shut3 e',r,q'⟩
 | brk=>obtain⟨_,_,_,z⟩:=z;exact z.elim
 | cont=>obtain⟨_,_,_,z⟩:=z;exact z.elim
end
def tY:List Vv->(Vv->Prop)->Prop:=λds Q=>∃z:Int,ds=[fC,.int z]/\0 < z/\z<=1000000/\∀i:Int,0<=i->i < z->Q (.int i)
theorem d9{α:Type}{a:α}{l:List α}:atI (a::l) 0=some a:=fZ (j:=0) rfl
theorem dN{α:Type}{a b:α}{l:List α}:atI (a::b::l) 1=some b:=fZ (j:=1) rfl
theorem mi{α:Type}{a b c:α}{l:List α}:atI (a::b::c::l) 2=some c:=fZ (j:=2) rfl
theorem iY{α:Type}{a b c d:α}{l:List α}:atI (a::b::c::d::l) 3=some d:=fZ (j:=3) rfl
theorem pF{α:Type}{a b c d e:α}{l:List α}:atI (a::b::c::d::e::l) 4=some e:=fZ (j:=4) rfl
theorem gA{i:Int}:cZ (.int i):=rfl
theorem tZ{i:Bool}:cZ (.bool i):=rfl
theorem pG:cZ .none:=rfl
theorem iu{x y:Str}:NJ (.str x) (.str y)=(x==y):=by simp [NJ]
theorem iw{x y:Int}:NJ (.int x) (.int y)=(x==y):=by simp [NJ]
theorem pH{x y:Bool}:NJ (.bool x) (.bool y)=(x==y):=by simp [NJ]
theorem cz{x:Str}:cZ (.str x)↔Nw x=true:=by
 unfold cZ Om;simp [NW,PM]
theorem tF{n d:Nat}:HT.sIx n d none=d:=rfl
theorem pI{n d:Nat}{i:Int}(h0:0<=i)(h1:i<=n):HT.sIx n d (some i)=i.toNat:=by
 obtain⟨j,rfl⟩:=OY h0;rw [HT.sIx_nat,Pg];omega
theorem t5{xs:List Vv}{i:Int}(h0:0<=i)(h1:i<=xs.length):cK xs none (some i)=xs.take i.toNat:=by
 unfold cK;rw [tF,pI h0 h1];simp
theorem AH{xs:List Vv}{i:Int}(h0:0<=i)(h1:i<=xs.length):cK xs (some i) none=xs.drop i.toNat:=by
 unfold cK;rw [tF,pI h0 h1,NI (by rw [Oo];exact Np _)]
theorem jB{lo:Int}{n i:Nat}{x:Vv}(h:(iT lo n)[i]?=some x):i < n/\x= .int (lo+i):=by
 unfold iT at h;rw [NK] at h;by_cases hi:i < n
 ·rw [List.getElem?_range hi] at h;exact⟨hi,(Oi h).symm⟩
 ·rw [P6 (by simpa using hi)] at h;cases h
theorem pJ{lo:Int}{n:Nat}:(iT lo n).length=n:=by unfold iT;simp
section
variable {κ:Type} [DecidableEq κ]
def c7(kvs:List (κ×V))(k:κ):Option V:=(kvs.find? λkv=>decide (kv.1=k)).map (·.2)
def putK(kvs:List (κ×V))(k:κ)(v:V):List (κ×V):=
 if (kvs.any λkv=>decide (kv.1=k))=true then kvs.map (λkv=>if kv.1=k then(kv.1,v) else kv) else kvs++[(k,v)]
theorem mj{p:κ×V}{r:List (κ×V)}{k:κ}(e:p.1=k):c7 (p::r) k=some p.2:=by simp [c7,O9,e]
theorem kl{p:κ×V}{r:List (κ×V)}{k:κ}(e:¬p.1=k):c7 (p::r) k=c7 r k:=by simp [c7,O9,e]
theorem AI(k:κ):∀kvs:List (κ×V),(kvs.any λkv=>decide (kv.1=k))=(c7 kvs k).isSome
 | []=>rfl
 | p::r=>by
  rw [Pc];by_cases e:p.1=k
  ·simp only [mj e,decide_eq_true e,Bool.true_or,TV]
  ·rw [kl e,decide_eq_false e,Ri];exact AI k r
theorem t6(kvs:List (κ×V))(k:κ)(v:V):(putK kvs k v).length<=kvs.length+1:=by
 unfold putK;split
 ·rw [Nj];omega
 ·rw [Oc,NF,OW];omega
theorem eJ.isSome_eq{o:Option V}{u:Option Vw}(r:eJ o u):o.isSome=u.isSome:=by
 cases o with
 | none=>cases u with
  | none=>rfl
  | some _=>exact(show False from r).elim
 | some _=>cases u with
  | none=>exact(show False from r).elim
  | some _=>rfl
theorem eJ.getD{o:Option V}{u:Option Vw}{d:V}{d':Vw}(r:eJ o u)(rd:aD d d'):aD (o.getD d) (u.getD d'):=by
 cases o with
 | none=>cases u with
  | none=>exact rd
  | some _=>exact(show False from r).elim
 | some _=>cases u with
  | none=>exact(show False from r).elim
  | some _=>exact r
theorem KV.val{kvs:List (κ×V)}{vs:List (κ×Vw)}(r:KV kvs vs)(k:κ):eJ (c7 kvs k) (valueAt vs k):=by
 unfold KV at r
 induction r with
 | nil=>exact OE
 | @cons p q ps qs h t ih=>
  obtain⟨h1,h2⟩:=h;by_cases e:p.1=k
  ·have e':q.1=k:=h1.symm.trans e;have b:valueAt (q::qs) k=some q.2:=by simp [valueAt,O9,e']
   rw [mj e,b];exact h2
  ·have e':¬q.1=k:=λz=>e (h1.trans z);have b:valueAt (q::qs) k=valueAt qs k:=by simp [valueAt,O9,e']
   rw [kl e,b];exact ih
theorem KV.any{kvs:List (κ×V)}{vs:List (κ×Vw)}(r:KV kvs vs)(k:κ):(kvs.any λkv=>decide (kv.1=k))=vs.any λkv=>decide (kv.1=k):=by
 unfold KV at r
 induction r with
 | nil=>rfl
 | cons h t ih=>rw [Pc,Pc,ih,h.1]
theorem KV.repl{kvs:List (κ×V)}{vs:List (κ×Vw)}(r:KV kvs vs)(k:κ){y:V}{u:Vw}(ry:aD y u):
 KV (kvs.map λkv=>if kv.1=k then(kv.1,y) else kv) (vs.map λkv=>if kv.1=k then(kv.1,u) else kv):=by
 unfold KV at r⊢
 induction r with
 | nil=>exact .nil
 | @cons p q ps qs h t ih=>
  rw [Nq,Nq];refine .cons ?_ ih;obtain⟨h1,h2⟩:=h;by_cases e:p.1=k
  ·rw [Vs e,Vs (h1.symm.trans e)];exact⟨h1,ry⟩
  ·rw [Vr e,Vr (λz=>e (h1.trans z))];exact⟨h1,h2⟩
theorem KV.put{kvs:List (κ×V)}{vs:List (κ×Vw)}(r:KV kvs vs)(k:κ){y:V}{u:Vw}(ry:aD y u):KV (putK kvs k y) (stored vs k u):=by
 unfold putK stored;rw [r.any k];by_cases e:(vs.any λkv=>decide (kv.1=k))=true
 ·rw [Vs e,Vs e];exact r.repl k ry
 ·rw [Vr e,Vr e];exact Vg r ⟨rfl,ry⟩
theorem KV.keys{kvs:List (κ×V)}{vs:List (κ×Vw)}(r:KV kvs vs):kvs.map (·.1)=vs.map (·.1):=by
 unfold KV at r
 induction r with
 | nil=>rfl
 | cons h t ih=>rw [Nq,Nq,ih,h.1]
theorem KV.length{kvs:List (κ×V)}{vs:List (κ×Vw)}(r:KV kvs vs):kvs.length=vs.length:=RL r
end
theorem iZ{P:VL}{w:VP}{k:ai}{u:Vw}(r:aD (kV k) u):(bZ P w).is k u=true:=by
 cases k with
 | inl i=>obtain⟨t,e⟩:=(show ∃t,u=Pk i t from r);subst e;exact E6 P w i t
 | inr x=>obtain⟨t,e⟩:=(show ∃t,u=Qi x t from r);subst e;exact E7 P w x t
theorem AJ{P:VL}{w:VP}:∀{ks:List ai}{us:List Vw},aC (ks.map kV) us->ItemsAre (bZ P w) ks us
 | [],_,r=>by rw [OD] at r;cases r;exact .nil
 | k::ks,_,r=>by
  rw [Nq] at r;cases r with
  | cons h t=>exact .cons (iZ h) (AJ t)
abbrev KT(H:Hp):List (List ai×V)->List (List ai×Vy×Vw)->Prop:=Paired λp q=>p.1=q.1/\H q.2.1=some (.tup (p.1.map kV))/\aD p.2 q.2.2
theorem KT.val{H:Hp}{kvs:List (List ai×V)}{xs:List (List ai×Vy×Vw)}(r:KT H kvs xs)(k:List ai):eJ (c7 kvs k) ((atKey xs k).map (·.2)):=by
 induction r with
 | nil=>exact OE
 | @cons p q ps qs h t ih=>
  obtain⟨h1,_,h2⟩:=h;by_cases e:p.1=k
  ·have e':q.1=k:=h1.symm.trans e;have b:atKey (q::qs) k=some q.2:=by simp [atKey,O9,e']
   rw [mj e,b];exact h2
  ·have e':¬q.1=k:=λz=>e (h1.trans z);have b:atKey (q::qs) k=atKey qs k:=by simp [atKey,O9,e']
   rw [kl e,b];exact ih
theorem KT.repl{H:Hp}{kvs:List (List ai×V)}{xs:List (List ai×Vy×Vw)}(r:KT H kvs xs)(k:List ai){y:V}{u:Vw}(ry:aD y u):
 KT H (kvs.map λkv=>if kv.1=k then(kv.1,y) else kv) (xs.map (putAt k u)):=by
 induction r with
 | nil=>exact .nil
 | @cons p q ps qs h t ih=>
  rw [Nq,Nq];refine .cons ?_ ih;obtain⟨h1,h2,h3⟩:=h;unfold putAt;by_cases e:p.1=k
  ·rw [Vs e,Vs (h1.symm.trans e)];exact⟨h1,h2,ry⟩
  ·rw [Vr e,Vr (λz=>e (h1.trans z))];exact⟨h1,h2,h3⟩
theorem KT.put{H:Hp}{kvs:List (List ai×V)}{xs:List (List ai×Vy×Vw)}(r:KT H kvs xs)(k:List ai){b:Vy}{y:V}{u:Vw}(hb:H b=some (.tup (k.map kV)))(ry:aD y u):
 KT H (putK kvs k y) (storedH xs k b u):=by
 have e:(kvs.any λkv=>decide (kv.1=k))=(atKey xs k).isSome:=by
  rw [AI,(r.val k).isSome_eq,R7]
 unfold putK storedH;rw [e];by_cases q:(atKey xs k).isSome=true
 ·rw [Vs q,Vs q];exact r.repl k ry
 ·rw [Vr q,Vr q];exact Vg r ⟨rfl,hb,ry⟩
theorem KT.keeps{H H':Hp}{kvs:List (List ai×V)}{xs:List (List ai×Vy×Vw)}(r:KT H kvs xs)(ht:∀b ys,H b=some (.tup ys)->H' b=some (.tup ys)):KT H' kvs xs:=
 Paired.mapP r λ_ _ z=>⟨z.1,ht _ _ z.2.1,z.2.2⟩
section
variable {P:VL} {w:VP} {H:Hp} {h:VQ} {a:Vy}
theorem AK{u:HO}(ok:bP P w H h)(e:Rd H a u):bV P w H h a u:=e.ok ok
theorem i3{kvs:List (ai×V)}(ok:bP P w H h)(e:Rd H a (.dK kvs)):kvs.length<=VG/\(a==Wh)=false/\∃vs,KV kvs vs/\h.DictOf (bZ P w) a vs:=
 show bV P w H h a (.dK kvs) from AK ok e
theorem AL{kvs:List (ai×V)}(ok:bP P w H h)(e:H a=some (.dK kvs)):kvs.length<=VG/\(a==Wh)=false/\∃vs,KV kvs vs/\h.DictOf (bZ P w) a vs:=i3 ok (.inl e)
theorem km{ks:List ai}(ok:bP P w H h)(e:H a=some (.tup (ks.map kV))):(Xo (bZ P w)).is h ks a:=by
 obtain⟨_,its,r,o,h1,h2,n,h3⟩:=(show bV P w H h a (.tup (ks.map kV)) from ok a _ e);exact⟨o,its.toArray,n,h1,h2,h3,by simpa using AJ r⟩
theorem jC{kvs:List (List ai×V)}(ok:bP P w H h)(e:Rd H a (.dT kvs)):kvs.length<=VG/\(a==Wh)=false/\
 ∃xs,KT H kvs xs/\h.DictOfH (Xo (bZ P w)) a xs:=by
 obtain⟨z,y,xs,r,o,es,ep,h1,h2,h3,h4,h5⟩:=(show bV P w H h a (.dT kvs) from AK ok e);refine⟨z,y,xs,r,o,es,ep,h1,h2,h3,h4,λx hx=>?_,h5⟩;have all:∀{l:List (List ai×V)}{m:List (List ai×Vy×Vw)},KT H l m->∀x∈m,(Xo (bZ P w)).is h x.1 x.2.1:=by
  intro l m q
  induction q with
  | nil=>intro x hx;exact nomatch hx
  | @cons p q ps qs hq t ih=>
   intro x hx;rcases Ny.mp hx with e | hx
   ·subst e;exact km ok (by rw [<-hq.1];exact hq.2.1)
   ·exact ih x hx
 exact all r x hx
theorem HA{kvs:List (List ai×V)}(ok:bP P w H h)(e:H a=some (.dT kvs)):kvs.length<=VG/\(a==Wh)=false/\
 ∃xs,KT H kvs xs/\h.DictOfH (Xo (bZ P w)) a xs:=jC ok (.inl e)
end
def cW(H:Hp)(a:Vy)(y:V)(r:Option V):Prop:=
 (∃kvs k,Rd H a (.dK kvs)/\y=kV k/\r=c7 kvs k)\/∃kvs k b,Rd H a (.dT kvs)/\y= .ref b/\H b=some (.tup (k.map kV))/\r=c7 kvs k
def mm(H:Hp)(a:Vy)(y v:V)(H':Hp):Prop:=
 (∃kvs k,H a=some (.dK kvs)/\y=kV k/\kvs.length < VG/\H'=ak H a (.dK (putK kvs k v)))\/
 ∃kvs k b,H a=some (.dT kvs)/\y= .ref b/\H b=some (.tup (k.map kV))/\kvs.length < VG/\H'=ak H a (.dT (putK kvs k v))
theorem cW.k{H:Hp}{a:Vy}{kvs:List (ai×V)}{k:ai}(e:H a=some (.dK kvs)):cW H a (kV k) (c7 kvs k):= .inl ⟨kvs,k,.inl e,rfl,rfl⟩
theorem mm.k{H:Hp}{a:Vy}{kvs:List (ai×V)}{k:ai}{v:V}(e:H a=some (.dK kvs))(hl:kvs.length < VG):mm H a (kV k) v (ak H a (.dK (putK kvs k v))):= .inl ⟨kvs,k,e,rfl,hl,rfl⟩
section
variable {X:Cx} {Xw:List (Vy×Obj)} {σ:St} {H:Hp} {s:Vz} {a:Vy} {y v:V} {u r:Vw} {o:Option V} {A:VS} {E:Vw->Vz->Prop}
theorem af.big(I:af X Xw σ H s):Wh < s.heap.objs.size:=by
 have h:VR < s.heap.objs.size:=(I.mod.glob.keeps I.bk).lt;exact Ru Vp h
theorem HB{Q:Vw->Vz->Prop}(hu:A.units+1 < V9)(I:af X Xw σ H s)(g:cW H a y (some v))(ry:aD y u)(h:∀w' s',af X Xw σ H s'->aD v w'->Q w' s'):
 VC (VB X.prog X.w) A (WL (.ref a) u) Q E s:=by
 rcases g with⟨kvs,k,e,ey,l⟩ | ⟨kvs,k,b,e,ey,eb,l⟩
 ·subst ey;obtain⟨z,hd,vs,rel,dd⟩:=i3 I.hok e;obtain⟨w',hw,rw'⟩:=eJ.some_of (v:=v) (o:=valueAt vs k) (by rw [l];exact rel.val k);exact wpAny_getItem_of (iZ ry) dd.mapOf hw (h w' _ (I.tok _) rw')
 ·subst ey;cases (show u=N0 b from ry);obtain⟨z,hd,xs,rel,dd⟩:=jC I.hok e;obtain⟨w',hw,rw'⟩:=eJ.some_of (v:=v) (o:=(atKey xs k).map (·.2)) (by rw [l];exact rel.val k);obtain⟨p,hp,jG⟩:=Option.map_eq_some_iff.mp hw;refine wpAny_getItem_heap (WE hu) (km I.hok eb) dd hp ?_;rw [jG];exact h w' _ (I.tok _) rw'
theorem HC{Q:Vw->Vz->Prop}(hu:A.units+1 < V9)(I:af X Xw σ H s)(g:cW H a y o)(ry:aD y u)(h:∀s',af X Xw σ H s'->Q (.bool o.isSome) s'):
 VC (VB X.prog X.w) A (VZ .In u (.ref a)) Q E s:=by
 rcases g with⟨kvs,k,e,ey,l⟩ | ⟨kvs,k,b,e,ey,eb,l⟩
 ·subst ey;obtain⟨z,hd,vs,rel,dd⟩:=i3 I.hok e;refine wpAny_in_of (iZ ry) hd dd.mapOf ?_;rw [<-(rel.val k).isSome_eq,<-l];exact h _ (I.tok _)
 ·subst ey;cases (show u=N0 b from ry);obtain⟨z,hd,xs,rel,dd⟩:=jC I.hok e;refine wpAny_in_heap (WE hu) (km I.hok eb) hd dd ?_;have q:=(rel.val k).isSome_eq;rw [R7] at q;rw [<-q,<-l];exact h _ (I.tok _)
theorem HD{Q:Vw->Vz->Prop}(hu:A.units+1 < V9)(I:af X Xw σ H s)(g:cW H a y o)(ry:aD y u)(h:∀s',af X Xw σ H s'->Q (.bool (!o.isSome)) s'):
 VC (VB X.prog X.w) A (VZ .NotIn u (.ref a)) Q E s:=by
 rcases g with⟨kvs,k,e,ey,l⟩ | ⟨kvs,k,b,e,ey,eb,l⟩
 ·subst ey;obtain⟨z,hd,vs,rel,dd⟩:=i3 I.hok e;refine wpAny_notIn_of (iZ ry) hd dd.mapOf ?_;rw [<-(rel.val k).isSome_eq,<-l];exact h _ (I.tok _)
 ·subst ey;cases (show u=N0 b from ry);obtain⟨z,hd,xs,rel,dd⟩:=jC I.hok e;refine wpAny_notIn_heap (WE hu) (km I.hok eb) hd dd ?_;have q:=(rel.val k).isSome_eq;rw [R7] at q;rw [<-q,<-l];exact h _ (I.tok _)
theorem t7{h':VQ}{t':Nat}{ob:HO}(I:af X Xw σ H s)(mu:jQ (H a))(hs:PK a s.heap h')(he:∃q,h'.get? a=some q)(new:bV X.prog X.w (ak H a ob) h' a ob):
 af X Xw σ (ak H a ob) {s with heap:=h',toks:=t'}:=
 I.write (x:=a) (e:=a) mu (.inl rfl) (λb q hb z=>(hs.2 b hb).trans z) he new
theorem t8{P:VL}{w:VP}{H':Hp}{h':VQ}{kvs:List (ai×V)}{vs:List (ai×Vw)}(z:kvs.length<=VG)(hd:(a==Wh)=false)(rel:KV kvs vs)(dd:h'.DictOf (bZ P w) a vs):
 bV P w H' h' a (.dK kvs):=⟨z,hd,vs,rel,dd⟩
theorem HE{H':Hp}{Q:Unit->Vz->Prop}(hu:A.units+1 < V9)(I:af X Xw σ H s)(g:mm H a y v H')(ry:aD y u)(rv:aD v r)(h:∀s',af X Xw σ H' s'->Q () s'):
 VC (VB X.prog X.w) A (setItem (.ref a) u r) Q E s:=by
 rcases g with⟨kvs,k,e,ey,l,eH⟩ | ⟨kvs,k,b,e,ey,eb,l,eH⟩
 ·subst ey eH;obtain⟨z,hd,vs,rel,dd⟩:=AL I.hok e;have hz:vs.length<=VG:=by rw [<-rel.length];exact z
  have hl:(putK kvs k v).length<=VG:=by have:=t6 kvs k v;omega
  refine wpAny_setItem_pairs (hsz:=hz) (iZ ry) dd λh' dd' hs=>h _ ?_;have he:∃q,h'.get? a=some q:=let ⟨q,_,_,hq,_⟩:=dd';⟨q,hq⟩
  exact t7 I (by rw [e];exact OE) hs he (t8 hl hd (rel.put k rv) dd')
 ·subst ey eH;cases (show u=N0 b from ry);obtain⟨z,hd,xs,rel,dd⟩:=HA I.hok e;have hz:xs.length<=VG:=by rw [<-RL rel];exact z
  have hl:(putK kvs k v).length<=VG:=by have:=t6 kvs k v;omega
  refine wpAny_setItem_heap (hsz:=hz) (WE hu) (km I.hok eb) dd λh' dd' hs=>h _ ?_;obtain⟨q,es,ep,hq,h2,h3,h4,_,h5⟩:=dd';refine t7 I (by rw [e];exact OE) hs ⟨q,hq⟩ ⟨hl,hd,_,(rel.put k eb rv).keeps λc ys ec=>?_,q,es,ep,hq,h2,h3,h4,h5⟩;rw [aE (E9 ec e (λz=>nomatch z))];exact ec
end
def pK(i:VE):Prop:=∀ov iv,W3 i false ov iv=operate [ov,iv] (WL ov iv)
theorem HF{prog:VL}{w:VP}{A:VS}{E:Vw->Vz->Prop}{s:Vz}{env:Env}{value slice:VE}{pos:Pos}{T id:String}{Q:Vw->Vz->Prop}
 (hl:typeLookup (.type T) "__getitem__"=pure (some (.builtin id)))(hs:pK slice)
 (h:VC (VB prog w) A (eval value env) (λo s₁=>VC (VB prog w) A (eval slice env) (λi s₂=>s₂.TypeIs o T/\VC (VB prog w) A (WL o i) Q E s₂) E s₁) E s):
 VC (VB prog w) A (eval (.Subscript value slice pos) env) Q E s:=by
 refine Subscript_ (V3 h (λo s₁ h₁=>V3 h₁ (λi s₂ h₂=>?_) λ_ _ x=>x) λ_ _ x=>x);obtain⟨hT,h₂⟩:=h₂;unfold subscriptTail;refine Vx ?_;rw [getitemInPython_of_ne hT.not_modules];refine Vx (wpAny_specialOf hT hl ?_);have fin:VC (VB prog w) A (W3 slice false o i) (λr s₃=>VC (VB prog w) A (letTemporaryGo value o r >>=λ_=>pure r) Q E s₃) E s₂:=by
  rw [hs o i];exact wpAny_operating (V3 h₂ (λr s₃ h₃=>Vx (wpAny_letTemporaryGo (VA h₃))) λ_ _ x=>x)
 first
  | exact VA (Vx fin)
  | exact Vx (VA (Vx fin))
  | exact Vx fin
theorem HG{X:Cx}{Xw:List (Vy×Obj)}{σ:St}{H:Hp}{s:Vz}{a:Vy}{y:V}{o:Option V}(I:af X Xw σ H s)(g:cW H a y o):s.TypeIs (.ref a) "dict":=by
 rcases g with⟨kvs,k,e,_,_⟩ | ⟨kvs,k,b,e,_,_,_⟩
 ·obtain⟨_,_,vs,_,dd⟩:=i3 I.hok e;exact dd.typeIs
 ·obtain⟨_,_,xs,_,dd⟩:=jC I.hok e;exact dd.typeIs
def HH(td ty:TE):TE:=λσ H Q=>td σ H λx H1=>ty σ H1 λy H2=>∃a v,x= .ref a/\cW H2 a y (some v)/\Q v H2
def HI(ty td:TE):TE:=λσ H Q=>ty σ H λy H1=>td σ H1 λx H2=>∃a o,x= .ref a/\cW H2 a y o/\Q (.bl o.isSome) H2
def HJ(ty td:TE):TE:=λσ H Q=>ty σ H λy H1=>td σ H1 λx H2=>∃a o,x= .ref a/\cW H2 a y o/\Q (.bl (!o.isSome)) H2
def HK(td ty tv:TE):TS:=λD σ H=>tv σ H λv H1=>td σ H1 λx H2=>ty σ H2 λy H3=>∃a H4,x= .ref a/\mm H3 a y v H4/\D.nx σ H4
section
variable {X:Cx} {o i e value:VE} {pos pos' tpos:Pos} {td ty tv:TE}
theorem AM(hu:X.A.units+1 < V9)(ho:PE X o td)(hi:PE X i ty)(hs:pK i):PE X (.Subscript o i pos) (HH td ty):=by
 intro Xw s σ H Q I h;refine HF PySem.F.slot_dict_getitem.lookup hs (aA (ho Xw s σ H _ I h) λu s1 ⟨x,H1,I1,rx,q1⟩=>aA (hi Xw s1 σ H1 _ I1 q1) λiv s2 ⟨y,H2,I2,ry,a,v,ex,g,q2⟩=>?_);subst ex;obtain rfl:u=N0 a:=rx;exact⟨HG I2 g,HB hu I2 g ry λw' s3 I3 rw'=>⟨v,H2,I3,rw',q2⟩⟩
theorem AN(hu:X.A.units+1 < V9)(hi:PE X i ty)(ho:PE X o td):PC X .In i o (HI ty td):=by
 intro Xw s σ H Q I h;refine aA (hi Xw s σ H _ I h) λiv s1 ⟨y,H1,I1,ry,q1⟩=>aA (ho Xw s1 σ H1 _ I1 q1) λu s2 ⟨x,H2,I2,rx,a,ov,ex,g,q2⟩=>?_;subst ex;obtain rfl:u=N0 a:=rx;exact HC hu I2 g ry λs3 I3=>⟨.bl ov.isSome,H2,I3,rfl,q2⟩
theorem HL(hu:X.A.units+1 < V9)(hi:PE X i ty)(ho:PE X o td):PC X .NotIn i o (HJ ty td):=by
 intro Xw s σ H Q I h;refine aA (hi Xw s σ H _ I h) λiv s1 ⟨y,H1,I1,ry,q1⟩=>aA (ho Xw s1 σ H1 _ I1 q1) λu s2 ⟨x,H2,I2,rx,a,ov,ex,g,q2⟩=>?_;subst ex;obtain rfl:u=N0 a:=rx;exact HD hu I2 g ry λs3 I3=>⟨.bl (!ov.isSome),H2,I3,rfl,q2⟩
theorem HM(hu:X.A.units+1 < V9)(ho:PE X o td)(hi:PE X i ty)(hv:PE X value tv)(hs:V5 value (some (.Subscript o i pos')) pos.line X.env=pure false):
 PS X (.Assign [.Subscript o i pos'] value pos) (HK td ty tv):=by
 intro Xw s σ H D I h;refine wpAny_Assign_Subscript (aA (hv Xw s σ H _ I h) λr s1 ⟨v,H1,I1,rv,q1⟩=>aA (ho Xw s1 σ H1 _ I1 q1) λu s2 ⟨x,H2,I2,rx,q2⟩=>aA (hi Xw s2 σ H2 _ I2 q2) λiv s3 ⟨y,H3,I3,ry,a,H4,ex,g,q3⟩=>?_) hs;subst ex;obtain rfl:u=N0 a:=rx;exact HE hu I3 g ry rv λs4 I4=>⟨σ,H4,I4,q3⟩
end
theorem t9{P:VL}{w:VP}{H:Hp}(h:VQ)(hb:Wh < h.objs.size):bV P w H (h.push {cls:= .type "dict",data:= .dict #[]}) h.objs.size (.dK []):=
 ⟨N9 _,beq_eq_false_iff_ne.mpr (Ne.symm (NL hb)),[],.nil,UH h⟩
def HN:TE:=λ_ H Q=>∀p,H p=none->Q (.ref p) (ak H p (.dK []))
section
variable {X:Cx} {pos:Pos}
theorem HP:PE X (.Dict [] [] pos) HN:=λXw s σ H Q I h=>
 wpAny_Dict_empty ⟨.ref s.heap.objs.size,_,I.laid (a:=s.heap.objs.size) (o:= .dK []) (t':=s.toks) (λ_ _ q=>Nm _ q) (Np _) (t9 s.heap I.big),rfl,h _ (I.hok.fresh (Np _))⟩
end
def pL:List (TE×TE)->St->Hp->(List (V×V)->Hp->Prop)->Prop
 | [],_,H,Q=>Q [] H
 | (tk,tv)::r,σ,H,Q=>tk σ H λx H1=>tv σ H1 λy H2=>pL r σ H2 λps H3=>Q ((x,y)::ps) H3
abbrev VV:List (V×V)->List (Vw×Vw)->Prop:=Paired λp q=>aD p.1 q.1/\aD p.2 q.2
def mn(X:Cx)(pos:Pos)(keys:List (Option VE))(values:List VE)(trs:List (TE×TE)):Prop:=
 ∀(Xw:List (Vy×Obj))(s:Vz)(σ:St)(H:Hp)(Q:List (V×V)->Hp->Prop),af X Xw σ H s->pL trs σ H Q->
  VC (VB X.prog X.w) X.A (evalPairs (pairTrees keys values X.env pos)) (λvs s'=>∃ps H',af X Xw σ H' s'/\VV ps vs/\Q ps H') X.xe s
theorem HQ{X:Cx}{pos:Pos}:mn X pos [] [] []:=λXw s σ H Q I h=>pairTrees_nil_walk ⟨[],H,I,.nil,h⟩
theorem HR{X:Cx}{pos:Pos}{k v:VE}{ks:List (Option VE)}{vs:List VE}{tk tv:TE}{trs:List (TE×TE)}(hk:PE X k tk)(hv:PE X v tv)(hr:mn X pos ks vs trs):
 mn X pos (some k::ks) (v::vs) ((tk,tv)::trs):=λXw s σ H Q I h=>
 pairTrees_cons_walk (aA (hk Xw s σ H _ I h) λu s1 ⟨x,H1,I1,rx,q1⟩=>aA (hv Xw s1 σ H1 _ I1 q1) λw2 s2 ⟨y,H2,I2,ry,q2⟩=>
  aA (hr Xw s2 σ H2 _ I2 q2) λws s3 uu62=>by obtain⟨ps,H3,I3,rel,q3⟩:=uu62;exact⟨(x,y)::ps,H3,I3,.cons ⟨rx,ry⟩ rel,q3⟩)
def gB(kvs more:List (ai×V)):List (ai×V):=more.foldl (λacc kv=>putK acc kv.1 kv.2) kvs
theorem KV.merge:∀{more:List (ai×V)}{rs:List (ai×Vw)}{kvs:List (ai×V)}{vs:List (ai×Vw)},KV more rs->KV kvs vs->KV (gB kvs more) (merged vs rs):=by
 intro more rs kvs vs r;unfold KV at r
 induction r generalizing kvs vs with
 | nil=>intro q;exact q
 | @cons p q ps qs h t ih=>
  intro r0;have e:KV (putK kvs p.1 p.2) (stored vs q.1 q.2):=by
   have:=r0.put p.1 h.2;rw [<-h.1];exact this
  exact ih e
theorem uc:∀(more kvs:List (ai×V)),(gB kvs more).length<=kvs.length+more.length
 | [],kvs=>by show kvs.length<=kvs.length+0;omega
 | p::r,kvs=>by
  have h1:=uc r (putK kvs p.1 p.2);have h2:=t6 kvs p.1 p.2;show(gB (putK kvs p.1 p.2) r).length<=_;rw [NF];omega
theorem AO{P:VL}{w:VP}:∀{kvs:List (ai×V)}{ws:List (Vw×Vw)},VV (kvs.map λkv=>(kV kv.1,kv.2)) ws->∃rs,Carries (bZ P w) ws rs/\KV kvs rs
 | [],_,r=>by rw [OD] at r;cases r;exact⟨[],OE,.nil⟩
 | p::kvs,_,r=>by
  rw [Nq] at r;cases r with
  | @cons a b as bs h t=>
   obtain⟨rs,c,q⟩:=AO (P:=P) (w:=w) t;obtain⟨b1,b2⟩:=b;exact⟨(p.1,b2)::rs,⟨iZ h.1,rfl,c⟩,.cons ⟨rfl,h.2⟩ q⟩
def HS(trs:List (TE×TE)):TE:=λσ H Q=>∀p,H p=none->pL trs σ (ak H p (.dK [])) λps H2=>H2 p=some (.dK [])/\∃kvs:List (ai×V),ps=kvs.map (λkv=>(kV kv.1,kv.2))/\kvs.length<=15/\Q (.ref p) (ak H2 p (.dK (gB [] kvs)))
theorem HU{X:Cx}{pos:Pos}{keys:List (Option VE)}{values:List VE}{trs:List (TE×TE)}(h:mn X pos keys values trs)(hall:keys.all (·.isSome)=true)(hl:keys.length=values.length)(h0:keys≠[])
 (h15:keys.length<=15):PE X (.Dict keys values pos) (HS trs):=by
 intro Xw s σ H Q I q;have hn:=I.hok.fresh (Np s.heap.objs.size);have I1:=I.laid (a:=s.heap.objs.size) (o:= .dK []) (h':=s.heap.push {cls:= .type "dict",data:= .dict #[]}) (t':=s.toks) (λ_ _ q=>Nm _ q) (Np _) (t9 s.heap I.big);refine wpAny_Dict_walk (knd:=bZ X.prog X.w) hall hl h0 h15 (aA (h Xw _ σ _ _ I1 (q _ hn)) λws s2 ⟨ps,H2,I2,rel,e,kvs,ep,lk,q2⟩=>?_);subst ep;obtain⟨rs,c,rk⟩:=AO (P:=X.prog) (w:=X.w) rel;obtain⟨z,hd,vs0,r0,dd⟩:=AL I2.hok e;cases r0;refine⟨rs,c,dd,λh' dd' hs=>⟨.ref s.heap.objs.size,_,?_,rfl,q2⟩⟩;have hz:(gB [] kvs).length<=VG:=by
  have h1:=uc kvs [];rw [OW] at h1;rw [V6];omega
 have he:∃q,h'.get? s.heap.objs.size=some q:=let ⟨q,_,_,hq,_⟩:=dd';⟨q,hq⟩
 exact t7 I2 (by rw [e];exact OE) hs he (t8 hz hd (rk.merge .nil) dd')
structure M1 (X:Cx) (o:VE) (m:Str) (apos:Pos) (e:VE) (cpos:Pos):Prop where
 base:Wj o m X.env (eval o X.env)=eval o X.env
 few:((V1 cpos (VH [e] X.env)).all (λx=>!x.1) && (Xh cpos (WR [] X.env)).all (λx=>x.1.isSome)
  && decide (([e]:List VE).length+([]:List Ws).length+(if ([]:List Ws).isEmpty then 0 else 1) < 30))=true
 line:(apos.endLine==cpos.line)=true
 trees:V1 cpos (VH [e] X.env)=[(false,eval e X.env)]
structure M2 (X:Cx) (o:VE) (m:Str) (apos:Pos) (e f:VE) (cpos:Pos):Prop where
 base:Wj o m X.env (eval o X.env)=eval o X.env
 few:((V1 cpos (VH [e,f] X.env)).all (λx=>!x.1) && (Xh cpos (WR [] X.env)).all (λx=>x.1.isSome)
  && decide (([e,f]:List VE).length+([]:List Ws).length+(if ([]:List Ws).isEmpty then 0 else 1) < 30))=true
 line:(apos.endLine==cpos.line)=true
 trees:V1 cpos (VH [e,f] X.env)=[(false,eval e X.env),(false,eval f X.env)]
def AQ(H:Hp)(a:Vy):Prop:=(∃kvs,Rd H a (.dK kvs))\/∃kvs,Rd H a (.dT kvs)
theorem HV{X:Cx}{Xw:List (Vy×Obj)}{σ:St}{H:Hp}{s:Vz}{a:Vy}(I:af X Xw σ H s)(d:AQ H a):
 s.TypeIs (.ref a) "dict"/\(∀b,N0 a= .ref b->∃ob,s.heap.get? b=some ob/\ob.dict=none)/\(a==Wh)=false:=by
 rcases d with⟨kvs,e⟩ | ⟨kvs,e⟩
 ·obtain⟨_,hd,vs,_,dd⟩:=i3 I.hok e;refine⟨dd.typeIs,λb q=>?_,hd⟩;cases q;obtain⟨ob,_,_,h1,h2,_⟩:=dd;exact⟨ob,h1,h2.2.1⟩
 ·obtain⟨_,hd,xs,_,dd⟩:=jC I.hok e;refine⟨dd.typeIs,λb q=>?_,hd⟩;cases q;obtain⟨ob,_,_,h1,h2,_⟩:=dd;exact⟨ob,h1,h2.2.1⟩
section
variable {X:Cx} {Xw:List (Vy×Obj)} {σ:St} {H:Hp} {s:Vz} {a:Vy} {y d:V} {u r:Vw} {o:Option V} {A:VS} {E:Vw->Vz->Prop}
theorem HW{Q:Vw->Vz->Prop}(hu:A.units+1 < V9)(I:af X Xw σ H s)(g:cW H a y o)(ry:aD y u)(h:∀w' s',af X Xw σ H s'->aD (o.getD .non) w'->Q w' s'):
 VC (VB X.prog X.w) A (call (.builtin "dict.get") [.ref a,u]) Q E s:=by
 rcases g with⟨kvs,k,e,ey,l⟩ | ⟨kvs,k,b,e,ey,eb,l⟩
 ·subst ey;obtain⟨z,hd,vs,rel,dd⟩:=i3 I.hok e;refine call_meetsIn Ro dd.typeIs SQ (Sx _ _) (meets_dict_get (bZ X.prog X.w) a (iZ ry) hd) ⟨_,dd.mapOf,h _ _ (I.tok _) ?_⟩;rw [l];exact(rel.val k).getD rfl
 ·subst ey;cases (show u=N0 b from ry);obtain⟨z,hd,xs,rel,dd⟩:=jC I.hok e;refine call_meetsIn Ro dd.typeIs SQ (Sx _ _) (meetsH_dict_get (Xo (bZ X.prog X.w)) a b hd) ⟨WE hu,k,xs,km I.hok eb,dd,h _ _ (I.tok _) ?_⟩;rw [l];exact(rel.val k).getD rfl
end
def HX(td ty:TE):TE:=λσ H Q=>td σ H λx H1=>∃a,x= .ref a/\AQ H1 a/\ty σ H1 λy H2=>∃o,cW H2 a y o/\Q (o.getD .non) H2
section
variable {X:Cx} {o e f:VE} {apos cpos:Pos} {td ty tx:TE}
theorem AR(hu:X.A.units+1 < V9)(ho:PE X o td)(he:PE X e ty)(m:M1 X o "get" apos e cpos):PE X (.Call (.Attribute o "get" apos) [e] [] cpos) (HX td ty):=by
 intro Xw s σ H Q I h;refine wpAny_Call_method m.base m.few m.line PySem.F.plainAttrs_dict Ro PySem.F.type_dict_get (aA (ho Xw s σ H _ I h) λu s1 ⟨x,H1,I1,rx,a,ex,d,q1⟩=>?_);subst ex;obtain rfl:u=N0 a:=rx;obtain⟨t1,t2,_⟩:=HV I1 d;refine⟨t1,t2,?_⟩;rw [m.trees];refine SN rfl (Th (TM (aA (he Xw s1 σ H1 _ I1 q1) λiv s2 ⟨y,H2,I2,ry,ov,g,q2⟩=>Uc ?_)));exact HW hu I2 g ry λw' s3 I3 rw'=>⟨_,H2,I3,rw',q2⟩
end
section
variable {X:Cx} {H0:Hp} {O0:Ex}
def litsOf:List VE->Option (List Vv)
 | []=>some []
 | .Constant (.int i) _ _::r=>(litsOf r).map (.int i::·)
 | .Constant (.str x) _ _::r=>(litsOf r).map (.str x::·)
 | _::_=>none
def mq(ds:List Vv):DA:=λ_ Q=>Q ds
theorem kq:∀{es:List VE}{ds:List Vv},litsOf es=some ds->PA X es (fD X.K H0 O0 (mq ds))
 | [],ds,h=>by cases h;exact ah
 | e::r,ds,h=>by
  cases e with
  | Constant c j p=>
   cases c with
   | int i=>
    have h':(litsOf r).map (.int i::·)=some ds:=h;cases q:litsOf r with
    | none=>rw [q] at h';cases h'
    | some ms=>rw [q] at h';cases h';exact aa ag (kq q)
   | str x=>
    have h':(litsOf r).map (.str x::·)=some ds:=h;cases q:litsOf r with
    | none=>rw [q] at h';cases h'
    | some ms=>rw [q] at h';cases h';exact aa aO (kq q)
   | _=>cases h
  | _=>cases h
def litsE:VE->Option (List Vv)
 | .List es _=>litsOf es
 | _=>none
theorem ue{e:VE}{ds:List Vv}(h:litsE e=some ds):FE X H0 O0 e (lY (mq ds)):=by
 cases e with
 | List es p=>exact cN (kq h)
 | _=>cases h
theorem HY{e:VE}{ds:List Vv}{x:Option VE}{n:Nat}{env:Env}(h:litsE e=some ds):V5 e x n env=pure false:=by
 cases e with
 | List es p=>rfl
 | _=>cases h
end
structure cu (n:Nat) (x:Str):Prop where
 ok:Nw x=true
 le:x.length<=n
theorem jD{x:Str}:Nw x=true↔∀c∈x.cps.toList,c < 0x110000:=by
 unfold Nw;rw [<-Array.all_toList,PV];simp
theorem AS(x y:Str):(x++y).cps=x.cps++y.cps:=rfl
theorem AU(x y:Str):(x++y).length=x.length+y.length:=by
 show(x.cps++y.cps).size=_;rw [Array.size_append];rfl
theorem cu.append{a b:Nat}{x y:Str}(h:cu a x)(h':cu b y):cu (a+b) (x++y):=by
 refine⟨jD.mpr λc hc=>?_,by rw [AU];have:=h.le;have:=h'.le;omega⟩;rw [AS,Oz] at hc;rcases NQ.mp hc with z | z
 ·exact jD.mp h.ok c z
 ·exact jD.mp h'.ok c z
theorem cu.mono{a b:Nat}{x:Str}(h:cu a x)(hb:a<=b):cu b x:=⟨h.ok,NP h.le hb⟩
theorem cu.slice{a:Nat}{x:Str}(h:cu a x)(l u:Option Int):cu a (Txt.slice x l u):=by
 refine⟨jD.mpr λc hc=>?_,NP (Txt.slice_le x l u) h.le⟩;unfold Txt.slice at hc;split at hc
 ·exact jD.mp h.ok c hc
 ·simp only [Qs] at hc;obtain⟨i,_,hi⟩:=hc;exact jD.mp h.ok c (by
   have:=Array.mem_of_getElem? hi;simpa using this)
theorem cu.chr{c:Nat}(h:c < 0x110000):cu 1 ⟨#[c]⟩:=⟨jD.mpr λd hd=>by
 have:d=c:=by simpa using hd
 rw [this];exact h,Np _⟩
theorem cu.join:∀{ys:List Str},(∀y∈ys,cu 1 y)->cu ys.length (Txt.join "" ys):=by
 have key:∀ys:List Str,(∀y∈ys,cu 1 y)->cu ys.length (Str.join "" ys):=by
  intro ys
  induction ys with
  | nil=>intro _;exact⟨cp,cp⟩
  | cons y r ih=>
   intro h;cases r with
   | nil=>exact h y Vu
   | cons z r=>
    have a:=h y Vu;have b:=ih λw hw=>h w (by simp [hw]);have e:cu 0 ("":Str):=⟨cp,cp⟩;have:=(a.append e).append b;refine this.mono ?_;simp only [NF];omega
 intro ys h;have e:Txt.join "" ys=Str.join "" ys:=StrLaws.glued_eq_join "" ys;rw [e];exact key ys h
def fH:Str:="abcdefghijklmnopqrstuvwxyz"
theorem HZ:fH.cps.toList.length=26:=cp
theorem Ia:fH.cps.toList.Nodup:=cp
theorem Ib:∀c∈fH.cps.toList,c < 0x110000:=cp
theorem pM{j:Int}(h0:0<=j)(h1:j < 26):∃c,atI fH.cps.toList j=some c/\fH.cps.toList[j.toNat]?=some c/\c < 0x110000:=by
 obtain⟨k,rfl⟩:=OY h0;have hk:k < fH.cps.toList.length:=by rw [HZ];omega
 refine⟨fH.cps.toList[k],fZ (by simp [hk]),by simp [hk],Ib _ (OP hk)⟩
def eB(j:Int):Nat:=(fH.cps.toList[j.toNat]?).getD 0
theorem Ic{j:Int}(h0:0<=j)(h1:j < 26):atI fH.cps.toList j=some (eB j)/\eB j < 0x110000:=by
 obtain⟨c,e1,e2,e3⟩:=pM h0 h1;have:eB j=c:=by unfold eB;rw [e2];rfl
 rw [this];exact⟨e1,e3⟩
theorem Ie{i j:Int}(h0:0<=i)(h1:i < 26)(g0:0<=j)(g1:j < 26)(e:eB i=eB j):i=j:=by
 obtain⟨c,_,e2,_⟩:=pM h0 h1;obtain⟨d,_,e4,_⟩:=pM g0 g1;have a:eB i=c:=by unfold eB;rw [e2];rfl
 have b:eB j=d:=by unfold eB;rw [e4];rfl
 have cd:c=d:=by rw [<-a,<-b,e]
 subst cd;have hi:i.toNat < fH.cps.toList.length:=(Nz.mp e2).1;have:=(Ud (l:=fH.cps.toList) (i:=i.toNat) (j:=j.toNat) hi Ia).mp (by rw [e2,e4]);omega
structure ck (n:Nat) (d:Vv):Prop where
 can:d.canLay0=true
 dep:d.depth<=n
theorem ck.shp{n:Nat}{d:Vv}(h:ck n d)(hn:n<=64):Om d=true:=by
 unfold Om;rw [h.can,decide_eq_true (NP h.dep hn)];rfl
theorem ck.mono{n m:Nat}{d:Vv}(h:ck n d)(hn:n<=m):ck m d:=⟨h.can,NP h.dep hn⟩
theorem AV{x:Str}(h:Nw x=true):ck 1 (.str x):=⟨by simpa [NW] using h,by simp [PM]⟩
theorem AW{i:Int}:ck 1 (.int i):=⟨by simp [NW],by simp [PM]⟩
theorem Ig{i:Bool}:ck 1 (.bool i):=⟨by simp [NW],by simp [PM]⟩
theorem uf{n:Nat}:∀{ds:List Vv},(∀d∈ds,ck n d)->OJ ds=true/\QV ds<=n
 | [],_=>⟨by simp [OJ],by simp [QV]⟩
 | d::r,h=>by
  obtain⟨a,b⟩:=uf (ds:=r) λe he=>h e (by simp [he]);have c:=h d Vu;refine⟨by rw [OJ,c.can,a];rfl,?_⟩;rw [QV];exact Nat.max_le.mpr ⟨c.dep,b⟩
theorem cX{n:Nat}{ds:List Vv}(h:∀d∈ds,ck n d):ck (n+1) (.tuple ds):=by
 obtain⟨a,b⟩:=uf h;refine⟨by simpa [NW] using a,?_⟩;rw [PM];omega
def PU(X:Cx)(e:VE)(te:TE):Prop:=∀(i:Nat)(x:Str)(pos' spos:Pos)(hN:X.N.Nodup)(hxi:X.N[i]?=some x)(hx:gJ X.env.scope x)(hsw:V5 e (some (.Name x pos')) spos.line X.env=pure true)
 (hfn:X.fn x=true\/X.env.scope.names.lookup x=some .local),PS X (.Assign [.Name x pos'] e spos) (lF te (gL i))
theorem PU.imp{X:Cx}{e:VE}{t u:TE}(h:PU X e t)(i:∀σ H Q,u σ H Q->t σ H Q):PU X e u:=λi' x p1 p2 hN hxi hx hsw hfn=>(h i' x p1 p2 hN hxi hx hsw hfn).imp λD σ H z=>i σ H _ z
section
variable {X:Cx} {H0:Hp} {O0:Ex}
section
variable {tg iter elt:VE} {ifs:List VE} {scope:We} {N':List Str} {k:Nat} {fr:List Nat} {g:TG} {dg:DG} {t:DT} {ta:DA} {tc:DB} {te:DT} {pos p ps:Pos}
theorem AX{wi:TI}{tc:TT}{te:TE}(hc:X.calm=true)(S:bb X.env.scope X.N N' k fr scope)(hi:PI X tg iter wi)
 (hg:∀fp C s H,PG (bF X scope N' fp C s H) tg g)(hf:∀fp C s H,eO (bF X scope N' fp C s H) ifs tc)(he:∀fp C s H,PE (bF X scope N' fp C s H) elt te)
 (hs:∀x,VX iter X.env x=pure x:=by intro _;rfl):PU X (.ListComp elt [⟨tg,iter,ifs,0⟩] scope pos) (iO wi g tc te k fr):=
 λ_ _ _ _ hN hxi hx hsw hfn=>GR hN hxi hx hc S hi hg hf he hsw hs hfn
theorem kr(hc:X.calm=true)(S:bb X.env.scope X.N N' k fr scope)(hi:DF X H0 O0 iter t)(gd:GD X.K g dg)(hk:ip g k)(hfr:fr.Nodup)
 (hg:∀fp C s H,PG (bF X scope N' fp C s H) tg g)(hf:∀fp C s H,eO (bF X scope N' fp C s H) ifs (bT X.K H0 O0 tc))(he:∀fp C s H,PE (bF X scope N' fp C s H) elt (up X.K H0 O0 te))
 (hs:∀x,VX iter X.env x=pure x:=by intro _;rfl):PU X (.ListComp elt [⟨tg,iter,ifs,0⟩] scope pos) (lX X.K H0 O0 (ke t dg tc te k fr)):=
 (AX hc S (sZ hi) hg hf he hs).imp λσ H Q uu66=>by obtain⟨O,δ,Qd,w,q,kk⟩:=uu66;exact⟨O,δ,_,w,q,λd v H1 uu67 s1 r1=>by
  obtain⟨xs,e,hz,q1⟩:=uu67;subst e;obtain⟨a,vs,rfl,hq,rr⟩:=r1.lst;refine⟨a,rfl,⟨_,hq⟩,λD hD=>kc (cI.list hq) gd hfr (λv _ H' R h=>hk fr σ v H' R h) (λ_ _ _ z=>z) (λ_ _ _ z=>z) (λD H' hD s' o e=>s' _ _ e (cT e hD)) rr (w.mono s1) (by rw [rr.length];exact hz) q1 (λds us p H' z s' hp r'=>kk ds us p H' z (s1.trans s') hp r') D hD⟩⟩
end
theorem gC{i:Nat}{x:Str}{e:VE}{t:DA}{pos pos':Pos}(hN:X.N.Nodup)(hi:X.N[i]?=some x)(hx:gJ X.env.scope x)(he:PU X e (lX X.K H0 O0 t))(hs:V5 e (some (.Name x pos')) pos.line X.env=pure true:=by rfl)(hf:X.fn x=true\/X.env.scope.names.lookup x=some .local:=by first | exact .inl rfl | exact .inr rfl | assumption):
 PS X (.Assign [.Name x pos'] e pos) (bB X.K H0 O0 (jw i (dL t))):=
 (he _ _ _ _ hN hi hx hs hf).imp λD σ H ⟨O,δ,E,w,q,k1,k2,k3,k4⟩=>⟨O,δ,_,w,q,λds vs p H1 q1 s1 hp r1=>
  k1 O _ _ _ q1 ((w.mono (s1.trans (ao.new hp))).set (.lst (.inl aW) (oi w s1 hp) (r1.mono (ao.new hp)))) (.same (s1.trans (ao.new hp)))⟩
def pN(ta:DA)(g:DG)(tc:DB)(te:DT)(k:Nat)(fr:List Nat):DA:=λδ Q=>ta δ λds=>∃i j:Int,ds=[.int i,.int j]/\-(2 ^ 62)<=i/\j - i < VG/\i < 2 ^ 62/\-(2 ^ 62)<=j/\j < 2 ^ 62/\fu g tc te (d8 k fr δ) (iT i (j - i).toNat) Q
section
variable {tg iter elt:VE} {ifs:List VE} {scope:We} {N':List Str} {k:Nat} {fr:List Nat} {g:TG} {dg:DG} {t:DT} {ta:DA} {tc:DB} {te:DT} {pos p ps:Pos}
theorem Ih(hc:X.calm=true){a b:VE}(S:bb X.env.scope X.N N' k fr scope)(hgl:Gl X "range")(hm:X.mg "range"=none)(ha:PA X [a,b] (eR X.K H0 O0 ta))(gd:GD X.K g dg)(hk:ip g k)(hfr:fr.Nodup)
 (hg:∀fp C s H,PG (bF X scope N' fp C s H) tg g)(hf:∀fp C s H,eO (bF X scope N' fp C s H) ifs (bT X.K H0 O0 tc))(he:∀fp C s H,PE (bF X scope N' fp C s H) elt (up X.K H0 O0 te))
 (hst:VH [a,b] X.env=[(false,eval a X.env),(false,eval b X.env)]:=by rfl)(hst2:VH [b] X.env=[(false,eval b X.env)]:=by rfl)(hs:∀x,VX (.Call (.Name "range" p) [a,b] [] ps) X.env x=pure x:=by intro _;rfl):
 FE X H0 O0 (.ListComp elt [⟨tg,(.Call (.Name "range" p) [a,b] [] ps),ifs,0⟩] scope pos) (pN ta dg tc te k fr):=
 (lR hc S (x6 hgl hm ha hst hst2) hg hf he hs).imp λσ H Q uu69=>by obtain⟨O,δ,Qd,w,q,kk⟩:=uu69;exact⟨O,δ,_,w,q,λds vs H1 uu70 s1 r1=>by
  obtain⟨i,j,e,b1,b2,b3,b4,b5,q1⟩:=uu70;subst e;cases r1 with
  | cons r1 r2=>
   cases r2 with
   | cons r2 r3=>
    cases r3;cases r1.int;cases r2.int;exact⟨i,j,rfl,⟨b1,b3,b4,b5⟩,λD hD=>kc (P:=λ_=>True) cI.rng gd hfr (λv _ H' R h=>hk fr σ v H' R h) (λ_ _ _ z=>z) (λ_ _ _ z=>z) (λ_ _ _ _=>trivial) (aj.rng _) (w.mono s1) (by rw [Nj,Qz];omega) q1 (λds us p H' z s' hp r'=>kk ds us p H' z (s1.trans s') hp r') D hD⟩⟩
end
def ug(K:Nh)(neg:Bool):R2:=λx y H Q=>∃O dx ds dy,Sh K H O x dx/\Sh K H O y dy/\(dy= .list ds\/dy= .tuple ds)/\cZ dx/\OJ ds=true/\Q (.bl (if neg then !(ds.any λd=>NJ d dx) else ds.any λd=>NJ d dx)) H
theorem pO{A:VS}{k:Nat}{xs:List Vv}{d:Vv}(hd:cZ d)(hr:bx k A):A.units+1+min (QV xs) d.depth < V9:=by
 have:=SeqAt.depth_of_shaped hd;have h1:min (QV xs) d.depth<=d.depth:=Uu _ _;have:=hr.un;omega
theorem uh{k:Nat}(hr:bx k X.A):bQ X (VZ .In) (ug X.K false):=by
 intro Xw s σ H x y v u Q I rx ry h;obtain⟨O,dx,ds,dy,hx,hy,e,sx,sy,q⟩:=h;obtain⟨as,ra⟩:=gh I hx.all (OB sx) rx;rcases e with e | e <;> subst e
 ·obtain⟨bs,rb⟩:=gh I hy.all (by simpa [NW] using sy) ry;exact SeqAt.in_list_reads rb ra sy (OB sx) (pO sx hr) (bD I q rfl)
 ·obtain⟨bs,rb⟩:=gh I hy.all (by simpa [NW] using sy) ry;exact SeqAt.in_tuple_reads rb ra sy (OB sx) (pO sx hr) (bD I q rfl)
theorem AY{k:Nat}(hr:bx k X.A):bQ X (VZ .NotIn) (ug X.K true):=by
 intro Xw s σ H x y v u Q I rx ry h;obtain⟨O,dx,ds,dy,hx,hy,e,sx,sy,q⟩:=h;obtain⟨as,ra⟩:=gh I hx.all (OB sx) rx;rcases e with e | e <;> subst e
 ·obtain⟨bs,rb⟩:=gh I hy.all (by simpa [NW] using sy) ry;exact SeqAt.notIn_list_reads rb ra sy (OB sx) (pO sx hr) (bD I q rfl)
 ·obtain⟨bs,rb⟩:=gh I hy.all (by simpa [NW] using sy) ry;exact SeqAt.notIn_tuple_reads rb ra sy (OB sx) (pO sx hr) (bD I q rfl)
def pP(neg:Bool):Vv->Vv->(Vv->Prop)->Prop:=λx y Q=>∃ds,(y= .list ds\/y= .tuple ds)/\cZ x/\OJ ds=true/\Q (.bool (if neg then !(ds.any λd=>NJ d x) else ds.any λd=>NJ d x))
theorem mv{K:Nh}{neg:Bool}:cy K (ug K neg) (pP neg):=λH O x y dx dy Qd R _ hx hy uu71 k=>by obtain⟨ds,e,a,b,q⟩:=uu71;exact⟨O,dx,ds,dy,hx,hy,e,a,b,k _ _ H q (ao.refl _) (.bl _)⟩
def pQ:List Vv->(Vv->Prop)->Prop:=λds Q=>∃z:Str,ds=[.str z]/\z.length<=VG/\Q (.int z.length)
theorem Ii{K:Nh}:gi K (λxs H Q=>∃z,xs=[.str z]/\z.length<=VG/\Q (.int z.length) H) pQ:=λH O xs ds Qd R _ hs uu72 k=>by
 obtain⟨z,e,hz,q⟩:=uu72;subst e;cases hs with
 | cons h r=>cases r;cases h.str;exact⟨z,rfl,hz,k _ _ H q (ao.refl _) (.int _)⟩
theorem Ij{prog:VL}{w:VP}{A:VS}{E:Vw->Vz->Prop}{s:Vz}{t sl:Vy}{items:Array Vw}{vl vu:Vw}{lo hi:Option Int}{Q:Vw->Vz->Prop}(ht:IsTup s.heap t items)(hs:s.heap.IsSliceOf sl vl vu .none)(pl:IsPart vl lo)(pu:IsPart vu hi)
 (hw:HT.sIx items.size 0 lo=0/\HT.sIx items.size items.size hi=items.size)(h:Q (.ref t) s):VC (VB prog w) A (WL (.ref t) (.ref sl)) Q E s:=by
 obtain⟨os,hos,hcs,hds⟩:=id hs;have hTs:s.TypeIs (.ref sl) "slice":=⟨os,hos,hcs⟩;unfold WL
 try with_reducible refine VY ?_
 first | refine Vx (VA ?_) | skip
 refine Vx (wpAny_sequenceKey ht.typeIs Vp ?_);refine Vx (Wf (name:=Ng "__getitem__") ht.typeIs PF
  (V7 PF ht.typeIs Uw ?_ (UC _ _)))
 show VC _ _ (RR (.ref t) >>=_) _ _ s;refine Vx (tupleItemsOf_ ht ?_);refine Vx (WM hTs ?_);rw [Vs Vp];refine Vx (HT.sliceApplied_gen hs pl pu ?_);show VC _ _ (if (((HT.sIx items.size 0 lo:Nat):Int)==0 && (1:Int)==1 && (HT.sIx items.size items.size hi - HT.sIx items.size 0 lo)==items.size)=true then _ else _) _ _ s;rw [Vs (by rw [hw.1,hw.2];simp)];unfold Builtin.Tuple.tupleIsExact;refine Vx (Vx (WM ht.typeIs (VA ?_)));rw [Vs Vp];exact Vx (Wi (VA ⟨_,rfl,VA h⟩))
def Ik(K:Nh):V->Option Int->Option Int->Hp->VK->Prop:=λx lo hi H Q=>∃a xs,x= .ref a/\br K H a xs/\
 ((HT.sIx xs.length 0 lo=0/\HT.sIx xs.length xs.length hi=xs.length)->Q x H)/\(¬(HT.sIx xs.length 0 lo=0/\HT.sIx xs.length xs.length hi=xs.length)->∀p,H p=none->Q (.ref p) (ak H p (.tup (hV xs lo hi))))
theorem Il:lQ X (Ik X.K):=by
 intro Xw s σ H x v vl vu lo hi sl Q I rx hs pl pu h;obtain⟨a,xs,rfl,hx,q1,q2⟩:=h;by_cases hw:HT.sIx xs.length 0 lo=0/\HT.sIx xs.length xs.length hi=xs.length
 ·cases rx;obtain⟨its,r,ht,hz⟩:=I.tuple hx;have hlen:its.toArray.size=xs.length:=by rw [NA];exact r.length.symm
  refine⟨"tuple",_,PF.lookup,ht.typeIs,?_⟩;exact Ij ht hs pl pu (by rw [hlen];exact hw) ⟨.ref a,H,I,rfl,q1 hw⟩
 ·exact Gi Xw s σ H _ v vl vu lo hi sl Q I rx hs pl pu ⟨a,xs,rfl,hx,hw,q2 hw⟩
theorem Im{xs:List Vv}{l u:Option Int}(h:HT.sIx xs.length 0 l=0/\HT.sIx xs.length xs.length u=xs.length):cK xs l u=xs:=by
 unfold cK;rw [h.1,h.2];simp
def mw(t:DT)(tl th:DO):DT:=λδ Q=>t δ λd=>tl δ λl=>th δ λu=>∃xs,d= .tuple xs/\Q (.tuple (cK xs l u))
theorem ui{e:VE}{lo hi:Option VE}{t:DT}{tl th:DO}{pos p2:Pos}(h:DF X H0 O0 e t)(hl:PO X lo (gn X.K H0 O0 tl))(hu:PO X hi (gn X.K H0 O0 th)):DE X H0 O0 (.Subscript e (.Slice lo hi none p2) pos) (mw t tl th):=
 (nV Il h hl hu).imp λσ H Q ⟨O,δ,Qd,w,q,k⟩=>⟨O,δ,_,w,q,λd v H1 q1 s1 r1=>⟨O,δ,_,w.mono s1,q1,λl H2 q2 s2=>⟨O,δ,_,w.mono (s1.trans s2),q2,λu H3 uu74 s3=>by
  obtain⟨xs,e,q3⟩:=uu74;subst e;have r3:=r1.mono (s2.trans s3);have r4:=r3;obtain⟨a,vs,rfl,h1,d1⟩:=r4.tup;refine⟨a,vs,rfl,h1,λhw=>?_,λ_ p hp=>k _ _ _ q3 (s1.trans (s2.trans (s3.trans (ao.new hp)))) (.tup (.inl aW) (oi w (s1.trans (s2.trans s3)) hp) ((d1.cut l u).mono (ao.new hp)))⟩;rw [d1.length] at hw;rw [Im hw] at q3;cases r3 with
  | dt r3=>exact k _ _ _ q3 (s1.trans (s2.trans s3)) r3⟩⟩⟩
def c9(a b:Str):Bool:=decide (a.cps.toList<=b.cps.toList)
def cO(l:List Str):List Str:=l.mergeSort c9
theorem AZ(a b c:Str)(h:c9 a b=true)(h':c9 b c=true):c9 a c=true:=
 decide_eq_true (List.le_trans (of_decide_eq_true h) (of_decide_eq_true h'))
theorem Io(a b:Str):(c9 a b || c9 b a)=true:=by
 rcases List.le_total a.cps.toList b.cps.toList with h | h
 ·unfold c9;rw [decide_eq_true h];rfl
 ·unfold c9;rw [decide_eq_true h,Bool.or_true]
theorem A0{a b:Str}(h:a.cps.toList=b.cps.toList):a=b:=by
 cases a;cases b;congr 1;exact Array.ext' h
theorem A1{a b:Str}(h:c9 a b=true)(h':c9 b a=true):a=b:=A0 (Ux (of_decide_eq_true h) (of_decide_eq_true h'))
theorem fw(l:List Str):(cO l).Perm l:=List.mergeSort_perm l c9
theorem A2(l:List Str):(cO l).Pairwise λa b=>c9 a b=true:=List.pairwise_mergeSort AZ Io l
theorem A3{l m:List Str}(h:m.Perm l)(p:m.Pairwise λa b=>c9 a b=true):m=cO l:=
 List.Perm.eq_of_pairwise (λa b _ _ x y=>A1 x y) p (A2 l) (h.trans (fw l).symm)
theorem A4:∀(p:Str)(l:List Str),risingS p l=true->(p::l).Pairwise λa b=>c9 a b=true
 | p,[],_=>by simp
 | p,x::r,h=>by
  rw [risingS,Oq,QA,ltCps_eq,decide_eq_false_iff_not] at h;have h1:c9 p x=true:=decide_eq_true (Ur.mp h.1);have h2:=A4 x r h.2;rw [Og];refine⟨λy hy=>?_,h2⟩;rcases Ny.mp hy with z | z
  ·rw [z];exact h1
  ·exact AZ p x y h1 ((Og.mp h2).1 y z)
theorem A5:∀(l:List Str),sortedS l=true->l.Pairwise λa b=>c9 a b=true
 | [],_=>.nil
 | x::r,h=>A4 x r h
theorem A6:∀{ys:List Str}{us:List Vw},aC (ys.map V.str) us->StrsAre us ys:=by
 intro ys
 induction ys with
 | nil=>intro us rv;cases rv;exact .nil
 | cons y ys ih=>
  intro us rv;rw [Nq] at rv;cases rv with
  | cons r1 r2=>obtain⟨t,rfl⟩:=r1;exact .cons y t (ih r2)
theorem uj:∀{ys:List Str}{us:List Vw},StrsAre us ys->aC (ys.map V.str) us
 | _,_,.nil=>.nil
 | _,_,.cons y t r=>.cons ⟨t,rfl⟩ (uj r)
theorem Ip:cD X (.builtin "sorted") (λxs H Q=>∃p ss,xs=[.ref p]/\aL X.K H p (ss.map V.str)/\ss.length < 64/\∀l,H l=none->Q (.ref l) (ak H l (.lst ((cO ss).map V.str)))):=by
 intro Xw s σ H xs us Q I r h;obtain⟨p,ss,rfl,hq,h64,q⟩:=h;obtain⟨u,rfl,rx⟩:=cH r;cases rx;obtain⟨its,rv,pl,hz⟩:=I.list hq;have hlen:=rv.length;rw [Nj] at hlen;refine sorted_strs pl.isList (A6 rv) Vq λout ss' a1 a2 a3=>?_;obtain⟨e,he⟩:=sortedAll_at s.heap its out;have es:ss'=cO ss:=A3 a2 (A5 _ a3);subst es;have hl2:(cO ss).length=ss.length:=a2.length_eq;refine⟨.ref _,_,I.laid (t':=s.toks) (o:= .lst ((cO ss).map V.str)) (λb ob q=>sortedAll_old q) (Qj _) ?_,rfl,q _ (I.hok.fresh (Qj _))⟩;refine⟨by rw [Nj,hl2];exact NP (Po h64) Vp,out.toList,e,uj a1,?_⟩;rw [he]
theorem aj.strs{K:Nh}{H:Hp}{O:Ex}:∀{ss:List Str}{vs:List V},aj K H O vs (ss.map Nl)->vs=ss.map V.str
 | [],_,r=>by rw [OD] at r;cases r;rfl
 | b::bs,_,r=>by
  rw [Nq] at r;cases r with
  | cons h r=>cases h;rw [Nq,aj.strs r]
theorem aj.ofStrs{K:Nh}{H:Hp}{O:Ex}:∀(ss:List Str),aj K H O (ss.map V.str) (ss.map Nl)
 | []=>.nil
 | s::r=>.cons (.str s) (aj.ofStrs r)
def pR(t:DA):DA:=λδ Q=>t δ λds=>∃ss:List Str,ds=[.list (ss.map .str)]/\ss.length < 64/\Q ((cO ss).map .str)
theorem Iq{a:VE}{t:DA}{np p:Pos}(hg:Gl X "sorted")(hm:X.mg "sorted"=none)(hv:VW "sorted"=some (.builtin "sorted"))(ha:PA X [a] (eR X.K H0 O0 t))(he:VH [a] X.env=(false,eval a X.env)::VH [] X.env:=by rfl)(hpl:(V1 p (VH [] X.env)).any (·.1)=false:=by rfl):FE X H0 O0 (.Call (.Name "sorted" np) [a] [] p) (pR t):=
 (bS Ip hg hm hv ha (he:=he) (hpl:=hpl)).imp λσ H Q uu75=>by obtain⟨O,δ,Qd,w,q,k⟩:=uu75;exact⟨O,δ,_,w,q,λds vs H1 uu76 s1 r1=>by
  obtain⟨ss,e,h64,q1⟩:=uu76;subst e;cases r1 with
  | cons h r=>
   cases r;obtain⟨a,us,rfl,h1,d1⟩:=h.lst;cases d1.strs;exact⟨a,ss,rfl,h1,h64,λl hl=>k _ _ _ _ q1 s1 hl (aj.ofStrs _)⟩⟩
end
end L2
namespace PySem.SeqAt
open AutoSeq1 (wpAny_loadPart')
open MeetsSeq
theorem A7(l:Vy)(es:Array WT)(n:Nat)(dd:Option Vy)(sl:Array (Option Vw))(b:Str)(u:Tok):
 Meets (Builtin.«dict.__eq__» ⟨[.ref l,.str b u],[]⟩) (λ_ R s=>s.heap.get? l=some {cls:= .type "dict",dict:=dd,data:= .dict es n,slots:=sl}/\R (.ok (.ret .notImplemented)) s):=
 .of_wp λprog w A R s h=>by obtain⟨hp,g,d,tk,os⟩:=s;obtain⟨hl,h⟩:=h;have f1:=F.sub_str_dict;wp_walk using Wl hl;exact⟨_,rfl,h⟩
theorem A8(b:Str)(u:Tok)(l:Vy)(c:Vw)(es:Array WT)(n:Nat)(dd:Option Vy)(sl:Array (Option Vw)):
 Meets (Builtin.«str.__eq__» ⟨[.str b u,.ref l],[]⟩) (λ_ R s=>s.heap.get? l=some {cls:=c,dict:=dd,data:= .dict es n,slots:=sl}/\R (.ok (.ret .notImplemented)) s):=
 .of_wp λprog w A R s h=>by obtain⟨hp,g,d,tk,os⟩:=s;obtain⟨hl,h⟩:=h;wp_walk using Wl hl,wpAny_load hl;exact⟨_,rfl,h⟩
section
variable {A:VS} {s:Vz}
theorem RcAt.dict_str{l:Vy}{es:Array WT}{n:Nat}{o:Obj}(b:Str)(u:Tok)(ho:s.heap.get? l=some o)(hc:o.cls= .type "dict")(hd:o.data= .dict es n)(hu:A.units < V9):RcAt A s (.ref l) (.str b u) false:=λprog w E Q h=>by
 obtain⟨cls,dd,data,sl⟩:=o;simp only at hc hd;subst hc hd;exact rc_eq_decline_or (k:=false) ⟨_,ho,rfl⟩ (WY s b u) Vp F.sub_str_dict F.slot_dict_eq F.slot_str_eq_refl
  (λ_ hq=>Wv F.slot_dict_eq ⟨_,ho,rfl⟩ F.entry_dict_eq (F.args_dict_eq_2 _ _) (A7 l es n dd sl b u) ⟨ho,hq⟩)
  (λ_ hq=>Wv F.slot_str_eq_refl (WY s b u) F.entry_str_eq (F.args_str_eq_2 _ _) (A8 b u l (.type "dict") es n dd sl) ⟨ho,hq⟩)
  (λ_ hq=>Xm (rfl:isSame (.ref l) (.str b u)=pure false) hq) (.inr hu) h
theorem RcAt.str_dict{l:Vy}{es:Array WT}{n:Nat}{o:Obj}(b:Str)(u:Tok)(ho:s.heap.get? l=some o)(hc:o.cls= .type "dict")(hd:o.data= .dict es n)(hu:A.units < V9):RcAt A s (.str b u) (.ref l) false:=λprog w E Q h=>by
 obtain⟨cls,dd,data,sl⟩:=o;simp only at hc hd;subst hc hd;exact rc_eq_decline_or (k:=false) (WY s b u) ⟨_,ho,rfl⟩ Vp F.sub_dict_str F.slot_str_eq F.slot_dict_eq_refl
  (λ_ hq=>Wv F.slot_str_eq (WY s b u) F.entry_str_eq (F.args_str_eq_2 _ _) (A8 b u l (.type "dict") es n dd sl) ⟨ho,hq⟩)
  (λ_ hq=>Wv F.slot_dict_eq_refl ⟨_,ho,rfl⟩ F.entry_dict_eq (F.args_dict_eq_2 _ _) (A7 l es n dd sl b u) ⟨ho,hq⟩)
  (λ_ hq=>Xm (rfl:isSame (.str b u) (.ref l)=pure false) hq) (.inr hu) h
theorem EqAt.str_dict{l:Vy}{es:Array WT}{n:Nat}{o:Obj}(b:Str)(u:Tok)(ho:s.heap.get? l=some o)(hc:o.cls= .type "dict")(hd:o.data= .dict es n)(hu:A.units < V9):EqAt A s (.str b u) (.ref l) false:=λprog w E Q h=>by
 unfold eqBool;refine VY ?_;refine Xf (λhab=>absurd (eq_of_beq hab) nofun) (λ_=>?_);exact Vx (RcAt.str_dict b u ho hc hd hu prog w E _ (V8 h))
end
end PySem.SeqAt
namespace L2
open PySem PySem.Spec PyProof.Rows PySem.W
section
variable {X:Cx} {Xw:List (Vy×Obj)} {σ:St} {H:Hp} {s:Vz}
def dh:Vv->Bool
 | .dict [(.none,_)]=>false
 | _=>true
theorem Ir(I:af X Xw σ H s){O:Ex}{v:V}{d:Vv}{u:Vw}(h:Dt X.K H O v d)(ht:dh d=true)(r:aD v u)(y:Str)(t:Tok)(hu:X.A.units < V9):SeqAt.RcAt X.A s u (.str y t) (NJ d (.str y)):=by
 cases h with
 | non=>cases (show u=PH from r);simpa [NJ] using SeqAt.RcAt.none_str y t
 | bl b=>cases (show u=P0 b from r);simpa [NJ] using SeqAt.RcAt.bool_str b y t
 | int i=>obtain⟨k,e⟩:=(show ∃t,u=Pk i t from r);cases e;simpa [NJ] using SeqAt.RcAt.int_str i k y t
 | str x=>obtain⟨k,e⟩:=(show ∃t,u=Qi x t from r);cases e;simpa [NJ] using SeqAt.RcAt.str_str x k y t
 | @tup a xs ds h n rr=>
  cases (show u=N0 a from r);obtain⟨its,rv,p,_⟩:=I.tuple (.inl h);simpa [NJ] using Tj y t (show s.heap.IsTuple a its.toArray from p) hu
 | @tupK a xs ds h rr=>
  cases (show u=N0 a from r);obtain⟨its,rv,p,_⟩:=I.tuple h.of0;simpa [NJ] using Tj y t (show s.heap.IsTuple a its.toArray from p) hu
 | @lst a xs ds h n rr=>
  cases (show u=N0 a from r);obtain⟨its,rv,p,_⟩:=I.list (.inl h);simpa [NJ] using SeqAt.RcAt.list_str y t p.isList hu
 | pack h n=>exact absurd ht (by simp [dh])
 | purse h n=>exact absurd ht (by simp [dh])
 | scr h r=>exact absurd ht (by simp [dh])
 | obj h e n r=>exact absurd ht (by simp [dh])
 | @dct0 a h n=>
  cases (show u=N0 a from r);obtain⟨_,_,_,_,o,es,ep,e,c,dd,_⟩:=(show bV X.prog X.w H s.heap a (.dK []) from I.hok a _ h);simpa [NJ] using SeqAt.RcAt.dict_str y t e c.1 dd hu
 | @dic a ob kv ks kp ds h e1 e2 n rr=>
  cases (show u=N0 a from r);obtain⟨_,_,_,_,o,es,ep,e,c,dd,_⟩:=(show bV X.prog X.w H s.heap a (.dK kv) from(I.hok a _ h).2);simpa [NJ] using SeqAt.RcAt.dict_str y t e c.1 dd hu
theorem Iu(I:af X Xw σ H s){A:VS}{O:Ex}{v:V}{d:Vv}{u:Vw}(h:Dt X.K H O v d)(ht:dh d=true)(r:aD v u)(y:Str)(t:Tok)(hu:A.units < V9):Vk A s (.str y t) u (NJ (.str y) d):=by
 cases h with
 | non=>cases (show u=PH from r);simpa [NJ] using Vk.str_none y t
 | bl b=>cases (show u=P0 b from r);simpa [NJ] using Vk.str_bool y t b
 | int i=>obtain⟨k,e⟩:=(show ∃t,u=Pk i t from r);cases e;simpa [NJ] using TH y t i k
 | str x=>obtain⟨k,e⟩:=(show ∃t,u=Qi x t from r);cases e;simpa [NJ] using Vo y t x k
 | @tup a xs ds h n rr=>
  cases (show u=N0 a from r);obtain⟨its,rv,p,_⟩:=I.tuple (.inl h);simpa [NJ] using Tn y t (show s.heap.IsTuple a its.toArray from p) hu
 | @tupK a xs ds h rr=>
  cases (show u=N0 a from r);obtain⟨its,rv,p,_⟩:=I.tuple h.of0;simpa [NJ] using Tn y t (show s.heap.IsTuple a its.toArray from p) hu
 | @lst a xs ds h n rr=>
  cases (show u=N0 a from r);obtain⟨its,rv,p,_⟩:=I.list (.inl h);simpa [NJ] using Vk.str_list y t p.isList hu
 | pack h n=>exact absurd ht (by simp [dh])
 | purse h n=>exact absurd ht (by simp [dh])
 | scr h r=>exact absurd ht (by simp [dh])
 | obj h e n r=>exact absurd ht (by simp [dh])
 | @dct0 a h n=>
  cases (show u=N0 a from r);obtain⟨_,_,_,_,o,es,ep,e,c,dd,_⟩:=(show bV X.prog X.w H s.heap a (.dK []) from I.hok a _ h);simpa [NJ] using Vk.str_dict y t e c.1 dd hu
 | @dic a ob kv ks kp ds h e1 e2 n rr=>
  cases (show u=N0 a from r);obtain⟨_,_,_,_,o,es,ep,e,c,dd,_⟩:=(show bV X.prog X.w H s.heap a (.dK kv) from(I.hok a _ h).2);simpa [NJ] using Vk.str_dict y t e c.1 dd hu
end
section
variable {X:Cx} {H0:Hp} {O0:Ex}
def A9(K:Nh):R2:=λx y H Q=>∃O dx z,Dt K H O x dx/\dh dx=true/\y= .str z/\Q (.bl (NJ dx (.str z))) H
theorem cv{k:Nat}(hr:bx k X.A):bQ X (VZ .Eq) (A9 X.K):=by
 intro Xw s σ H x y v u Q I rx ry h;obtain⟨O,dx,z,hx,ht,rfl,q⟩:=h;obtain⟨t,rfl⟩:=ry;have hc:VZ .Eq v (.str z t)=richCompare .Eq v (.str z t):=rfl;rw [hc];exact Ir I hx ht rx z t hr.units0 X.prog X.w X.xe _ (bD I q rfl)
def my:Vv->Vv->(Vv->Prop)->Prop:=λx y Q=>∃z,y= .str z/\dh x=true/\Q (.bool (NJ x (.str z)))
theorem cw{K:Nh}:cy K (A9 K) my:=λH O x y dx dy Qd R _ hx hy uu77 k=>by
 obtain⟨z,e,ht,q⟩:=uu77;subst e;cases hy.str;exact⟨_,dx,z,hx.all,ht,rfl,k _ _ H q (ao.refl _) (.bl _)⟩
theorem Iw(dx:Vv){its:List Vw}{zs:List Str}(hS:StrsAre its zs):its.any (λy=>NJ (.str (strOf y)) dx)=zs.any λz=>NJ (.str z) dx:=by
 induction hS with
 | nil=>rfl
 | cons y t r ih=>rw [Pc,Pc,ih];rfl
def Ba(K:Nh):R2:=λx y H Q=>∃(O:Ex)(dx:Vv)(zs:List Str)(a:Vy),Dt K H O x dx/\dh dx=true/\y= .ref a/\br K H a (zs.map V.str)/\Q (.bl (zs.any λz=>NJ (.str z) dx)) H
theorem pT{k:Nat}(hr:bx k X.A):bQ X (VZ .In) (Ba X.K):=by
 intro Xw s σ H x y v u Q I rx ry h;obtain⟨O,dx,zs,a,hx,ht,rfl,ha,q⟩:=h;cases ry;obtain⟨its,rv,p,_⟩:=I.tuple ha;have hS:=A6 rv;have hl:=Iw dx hS;refine SeqAt.in_tupleAt (λy=>NJ (.str (strOf y)) dx) (show s.heap.IsTuple a its.toArray from p) (λy hy=>?_) (by rw [List.any_toArray,hl];exact bD I q rfl);obtain⟨z,t,rfl⟩:=hS.all y (by simpa using hy);exact Iu I hx ht rx z t (by show X.A.units+1 < V9;have:=hr.un;omega)
def pU:Vv->Vv->(Vv->Prop)->Prop:=λx y Q=>∃zs:List Str,y= .tuple (zs.map .str)/\dh x=true/\Q (.bool (zs.any λz=>NJ (.str z) x))
theorem pV{K:Nh}:cy K (Ba K) pU:=λH O x y dx dy Qd R _ hx hy uu78 k=>by
 obtain⟨zs,e,ht,q⟩:=uu78;subst e;obtain⟨a,vs,rfl,hs,r⟩:=hy.tup;cases r.strs;exact⟨_,dx,zs,a,hx.all,ht,rfl,hs,k _ _ H q (ao.refl _) (.bl _)⟩
end
def pW:Vv->Bool | .str _=>true | _=>false
def mz:Vv->Bool | .int _=>true | .bool _=>true | _=>false
def mB:Vv->Bool | .bool _=>true | _=>false
def ku:Vv->Bool | .tuple _=>true | _=>false
theorem Iy{K:Nh}(d:Vv):kitOne K (.type (kj d)) (.type "str")=some (pW d):=by cases d <;> rfl
theorem Iz{K:Nh}(d:Vv):kitOne K (.type (kj d)) (.type "int")=some (mz d):=by cases d <;> rfl
theorem IA{K:Nh}(d:Vv):kitOne K (.type (kj d)) (.type "bool")=some (mB d):=by cases d <;> rfl
theorem IB{K:Nh}(d:Vv):kitOne K (.type (kj d)) (.type "tuple")=some (ku d):=by cases d <;> rfl
theorem pX{g:DG}{te:DT}{δ0:Dl}{xs:List Vv}{Q:List Vv->Prop}(f:Vv->Vv)
 (h:∀x∈xs,∀R:Vv->Prop,R (f x)->g x δ0 λδ2=>te δ2 R)(q:Q (xs.map f)):fu g iV te δ0 xs Q:=by
 refine⟨λi acc=>acc=(xs.take i).map f,rfl,?_,?_⟩
 ·rintro i x acc hx rfl;have:=h x (NT hx) (λy=>(xs.take i).map f++[y]=(xs.take (i+1)).map f) (by rw [Ox,hx];simp);simpa [iV] using this
 ·rintro acc rfl;rw [NI (Np _)];exact q
theorem IC{g:DG}{tc:DB}{te:DT}{δ0:Dl}{xs:List Vv}{Q:List Vv->Prop}(f:Vv->Option Vv)
 (h:∀x∈xs,∀(R:Vv->Prop) (S:Prop),(match f x with | some y=>R y | none=>S)->g x δ0 λδ2=>tc δ2 λok=>if ok=true then te δ2 R else S)(q:Q (xs.filterMap f)):fu g tc te δ0 xs Q:=by
 refine⟨λi acc=>acc=(xs.take i).filterMap f,rfl,?_,?_⟩
 ·rintro i x acc hx rfl;refine h x (NT hx) (λy=>(xs.take i).filterMap f++[y]=(xs.take (i+1)).filterMap f) ((xs.take i).filterMap f=(xs.take (i+1)).filterMap f) ?_;rw [Ox,hx];cases e:f x with
  | none=>simp [e]
  | some y=>simp [e]
 ·rintro acc rfl;rw [NI (Np _)];exact q
theorem ID{g:DG}{te:DT}{δ0:Dl}{xs:List Vv}{p:Bool->Prop}{gg:List Bool->Bool}(f:Vv->Bool)
 (h:∀x∈xs,∀R:Vv->Prop,R (.bool (f x))->g x δ0 λδ2=>te δ2 R)(q:p (gg (xs.map f))):fu g iV te δ0 xs λds=>∃bs:List Bool,ds=bs.map P1/\p (gg bs):=
 pX (λx=>.bool (f x)) h ⟨xs.map f,by rw [NO];rfl,q⟩
theorem uk{a b:Str}{P:List Str->Prop}:(∃zs,[Nl a,Nl b]=NM Nl zs/\P zs)↔P [a,b]:=by
 refine⟨λ⟨zs,e,h⟩=>?_,λh=>⟨_,rfl,h⟩⟩
 match zs,e with
 | [x,y],e=>simp at e;rw [e.1,e.2];exact h
theorem um{x:Str}:dh (.str x)=true:=rfl
theorem uo{x:Int}:dh (.int x)=true:=rfl
theorem ur{x:Bool}:dh (.bool x)=true:=rfl
theorem uu{x:List Vv}:dh (.tuple x)=true:=rfl
theorem uw{x:List Vv}:dh (.list x)=true:=rfl
def units:List Str:=["days","months","years"]
theorem dY{n:Nat}:∀d∈([]:List Vv),ck n d:=λd hd=>by simp at hd
theorem aU{n:Nat}{d:Vv}{r:List Vv}(h:ck n d)(hr:∀e∈r,ck n e):∀e∈d::r,ck n e:=λe he=>by
 rcases Ny.mp he with z | z
 ·rw [z];exact h
 ·exact hr e z
theorem bL{n:Nat}{x:Str}(h:Nw x=true)(hn:1<=n:=by decide):ck n (.str x):=(AV h).mono hn
theorem gT{n:Nat}{x:Int}(hn:1<=n:=by decide):ck n (.int x):=AW.mono hn
theorem IE{n:Nat}{x:Bool}(hn:1<=n:=by decide):ck n (.bool x):=Ig.mono hn
theorem uz{n:Nat}{ms:List Str}(h:∀m∈ms,Nw m=true)(hn:1<=n:=by decide):∀d∈ms.map Nl,ck n d:=λd hd=>by
 obtain⟨m,hm,rfl⟩:=NC.mp hd;exact(AV (h m hm)).mono hn
theorem uA{a b:Vv}{l:List Vv}:cK (a::b::l) (some 2) none=l:=by
 rw [AH Vp (by simp only [NF];omega)];rfl
theorem uB{a b c:Vv}{l:List Vv}:cK (a::b::c::l) (some 3) none=l:=by
 rw [AH Vp (by simp only [NF];omega)];rfl
theorem uC{a b c:Vv}{l:List Vv}:cK (a::b::c::l) (some 1) (some 3)=[b,c]:=by
 unfold cK;rw [pI Vp (by simp only [NF];omega),pI Vp (by simp only [NF];omega)];rfl
end L2
namespace PySem
open Builtin
open AutoSeq1 (wpAny_loadPart')
end PySem
namespace L2
open PySem PySem.Spec PyProof.Rows PySem.W
section
variable {X:Cx} {H0:Hp} {O0:Ex}
def pY(t:DT):DT:=λδ Q=>t δ λd=>∃i,d= .int i/\Q (.int (-i))
theorem Bb{e:VE}{t:DT}{pos:Pos}(h:DE X H0 O0 e t):DE X H0 O0 (.UnaryOp .USub e pos) (pY t):=
 (Fy FC h).imp λσ H Q uu80=>by obtain⟨O,δ,Qd,w,q,k⟩:=uu80;exact⟨O,δ,_,w,q,λd v H1 uu81 s1 r1=>by obtain⟨i,e,q1⟩:=uu81;subst e;cases r1;exact⟨i,rfl,k _ _ H1 q1 s1 (.int _)⟩⟩
end
section
variable {x:Option VE} {n:Nat} {env:Env}
theorem IF{a b c}:V5 (.Tuple a b c) x n env=pure false:=rfl
theorem mC{a b c d}:V5 (.BinOp a b c d) x n env=pure false:=rfl
theorem ix{a b c d}:V5 (.Call a b c d) x n env=pure false:=rfl
theorem mD{a b c}:V5 (.Subscript a b c) x n env=pure false:=rfl
theorem IG{a b c}:V5 (.Dict a b c) x n env=pure false:=rfl
end
theorem uD:(Ng "paper"==Ng "happens")=false:=cp
theorem uE:(Ng "paper"==Ng "rule")=false:=cp
section
variable {X:Cx} {H0:Hp} {O0:Ex}
def pZ:DS:=λ_ _=>False
theorem IH{st:VT}:PS X st (bB X.K H0 O0 pZ):=Fp.imp λD σ H uu82=>by obtain⟨O,δ,E,w,q,_,_,_,_⟩:=uu82;exact q.elim
end
section
variable {α:Type} {P:α->Prop}
theorem uF{a:Vv}{r:Dl}{P:Vv->Prop}:cj 0 (some (Sl.v a)::r) P=P a:=rfl
theorem uG{x:Option Sl}{r:Dl}{i:Nat}{P:Vv->Prop}:cj (i+1) (x::r) P=cj i r P:=rfl
theorem uH{a:List Vv}{r:Dl}{P:List Vv->Prop}:(∃d,(some (Sl.o a)::r)[0]?=some (some (Sl.o d))/\P d)=P a:=Vu
theorem uI{x:Option Sl}{r:Dl}{i:Nat}{P:List Vv->Prop}:(∃d,(x::r)[i+1]?=some (some (Sl.o d))/\P d)=(∃d,r[i]?=some (some (Sl.o d))/\P d):=Vu
theorem uJ{a:Bool}{P:Bool->Prop}:(∃b,P1 a= .bool b/\P b)=P a:=Vu
theorem uK{a:Int}{P:Int->Prop}:(∃b,Nn a= .int b/\P b)=P a:=Vu
theorem uL{a:Str}{P:Str->Prop}:(∃b,Nl a= .str b/\P b)=P a:=Vu
theorem uM{a:List Vv}{P:List Vv->Prop}:(∃b,ND a= .tuple b/\P b)=P a:=Vu
theorem uN{a:List Vv}{P:List Vv->Prop}:(∃b,Od a= .list b/\P b)=P a:=Vu
theorem uO{a b:Int}{P:Int->Int->Prop}:(∃i j,Nn a= .int i/\Nn b= .int j/\P i j)=P a b:=Vu
theorem uP{a b:Str}{P:Str->Str->Prop}:(∃i j,Nl a= .str i/\Nl b= .str j/\P i j)=P a b:=Vu
theorem uQ{a:Vv}{r:List Vv}{P:Vv->List Vv->Prop}:(∃x y,a::r=x::y/\P x y)=P a r:=propext ⟨λuu83=>by obtain⟨_,_,e,p⟩:=uu83;cases e;exact p,λp=>⟨_,_,rfl,p⟩⟩
theorem uR{a b:Vv}{P:Vv->Vv->Prop}:(∃x y,[a,b]=[x,y]/\P x y)=P a b:=propext ⟨λuu84=>by obtain⟨_,_,e,p⟩:=uu84;cases e;exact p,λp=>⟨_,_,rfl,p⟩⟩
theorem uS{a:Vv}{r:List Vv}{P:Vv->Prop}:(∃ds i d,ND (a::r)= .tuple ds/\Nn 0= .int i/\atI ds i=some d/\P d)=P a:=by simp [d9]
theorem uT{a b:Vv}{r:List Vv}{P:Vv->Prop}:(∃ds i d,ND (a::b::r)= .tuple ds/\Nn 1= .int i/\atI ds i=some d/\P d)=P b:=by simp [dN]
theorem uU{a b c:Vv}{r:List Vv}{P:Vv->Prop}:(∃ds i d,ND (a::b::c::r)= .tuple ds/\Nn 2= .int i/\atI ds i=some d/\P d)=P c:=by simp [mi]
theorem uV{a b c e:Vv}{r:List Vv}{P:Vv->Prop}:(∃ds i d,ND (a::b::c::e::r)= .tuple ds/\Nn 3= .int i/\atI ds i=some d/\P d)=P e:=by simp [iY]
theorem uW{xs:List Vv}{k:Int}{P:Vv->Prop}:(∃ds i d,ND xs= .tuple ds/\Nn k= .int i/\atI ds i=some d/\P d)=(∃d,atI xs k=some d/\P d):=Vu
theorem uX{xs:List Vv}{k:Int}{P:Vv->Prop}:(∃ds i d,Od xs= .list ds/\Nn k= .int i/\atI ds i=some d/\P d)=(∃d,atI xs k=some d/\P d):=Vu
end
def gE:ai->Vv
 | .inl i=>.int i
 | .inr x=>.str x
def cE(kd:List (ai×Vv))(k:ai):Option Vv:=(kd.find? λp=>decide (p.1=k)).map (·.2)
def eD(kd:List (ai×Vv))(k:ai)(d:Vv):List (ai×Vv):=if (kd.any λp=>decide (p.1=k))=true then kd.map (λp=>if p.1=k then(p.1,d) else p) else kd++[(k,d)]
section
variable {K:Nh} {H:Hp} {O:Ex}
theorem Dt.key{v:V}{k:ai}(h:Dt K H O v (gE k)):v=kV k:=by
 cases k with
 | inl i=>cases h;rfl
 | inr x=>cases h;rfl
theorem bo.val{kv:List (ai×V)}{kd:List (ai×Vv)}(h:bo K H O kv kd)(k:ai):(c7 kv k=none/\cE kd k=none)\/∃v d,c7 kv k=some v/\cE kd k=some d/\Dt K H O v d:=by
 induction h with
 | nil=>exact .inl ⟨rfl,rfl⟩
 | @cons j v d r s a _ ih=>
  by_cases e:j=k
  ·exact .inr ⟨v,d,mj e,by simp [cE,O9,e],a⟩
  ·rw [kl e,show cE ((j,d)::s) k=cE s k by simp [cE,O9,e]];exact ih
theorem bo.any{kv:List (ai×V)}{kd:List (ai×Vv)}(h:bo K H O kv kd)(k:ai):(kv.any λp=>decide (p.1=k))=(kd.any λp=>decide (p.1=k)):=by
 induction h with
 | nil=>rfl
 | cons a _ ih=>simp only [Pc,ih]
theorem bo.length{kv:List (ai×V)}{kd:List (ai×Vv)}(h:bo K H O kv kd):kv.length=kd.length:=by
 induction h with
 | nil=>rfl
 | cons a _ ih=>simp only [NF,ih]
theorem bo.append{kv kv':List (ai×V)}{kd kd':List (ai×Vv)}(h:bo K H O kv kd)(h':bo K H O kv' kd'):bo K H O (kv++kv') (kd++kd'):=by
 induction h with
 | nil=>exact h'
 | cons a _ ih=>exact .cons a ih
theorem bo.repl{kv:List (ai×V)}{kd:List (ai×Vv)}(h:bo K H O kv kd)(k:ai){v:V}{d:Vv}(hv:Dt K H O v d):bo K H O (kv.map λp=>if p.1=k then(p.1,v) else p) (kd.map λp=>if p.1=k then(p.1,d) else p):=by
 induction h with
 | nil=>exact .nil
 | @cons j u e r s a _ ih=>
  simp only [Nq];by_cases z:j=k
  ·rw [Vs z,Vs z];exact .cons hv ih
  ·rw [Vr z,Vr z];exact .cons a ih
theorem bo.put{kv:List (ai×V)}{kd:List (ai×Vv)}(h:bo K H O kv kd)(k:ai){v:V}{d:Vv}(hv:Dt K H O v d):bo K H O (putK kv k v) (eD kd k d):=by
 unfold putK eD;rw [h.any k];split
 ·exact h.repl k hv
 ·exact h.append (.cons hv .nil)
end
section
variable {X:Cx} {H0:Hp} {O0:Ex}
abbrev jE:=Dl->(List (ai×Vv)->Prop)->Prop
inductive Bc (K:Nh) (H0:Hp) (O0:Ex) (t:jE) (σ:St) (H:Hp) (R:VK):Prop
 | mk (O:Ex) (δ:Dl) (Qd:List (ai×Vv)->Prop):Wd K H0 O0 H O σ δ->t δ Qd->(∀kd kv p H',Qd kd->ao H H'->H' p=none->bo K H' O kv kd->R (.ref p) (ak H' p (.dK kv)))->Bc K H0 O0 t σ H R
abbrev KE(X:Cx)(H0:Hp)(O0:Ex)(e:VE)(t:jE):Prop:=PE X e (Bc X.K H0 O0 t)
def p5:jE:=λ_ Q=>Q []
theorem uY{pos:Pos}:KE X H0 O0 (.Dict [] [] pos) p5:=HP.imp λσ H Q uu85=>by obtain⟨O,δ,Qd,w,q,k⟩:=uu85;exact λp hp=>k [] [] p H q (ao.refl _) hp .nil
def p7(i:Nat)(t:jE):DS:=λE δ=>t δ λkd=>E.nx (δ.set i (some (.k kd)))
theorem mE{i:Nat}{x:Str}{e:VE}{t:jE}{pos pos':Pos}(hN:X.N.Nodup)(hi:X.N[i]?=some x)(hx:gJ X.env.scope x)(he:KE X H0 O0 e t)(hs:V5 e (some (.Name x pos')) pos.line X.env=pure false:=by rfl)(hf:X.fn x=true\/X.env.scope.names.lookup x=some .local:=by first | exact .inl rfl | exact .inr rfl | assumption):
 PS X (.Assign [.Name x pos'] e pos) (bB X.K H0 O0 (p7 i t)):=
 (cY hN hi hx he hs hf).imp λD σ H ⟨O,δ,E,w,q,k1,k2,k3,k4⟩=>⟨O,δ,_,w,q,λds vs p H1 q1 s1 hp r1=>k1 _ _ _ _ q1 ((w.mono s1).setK hp r1)
  ⟨λb o e _=>(s1.trans (ao.new hp)) b o e,λb e n z=>z.elim n λy=>by
   cases q:H b with
   | none=>exact e q
   | some o=>have:=s1 _ _ q;rw [y,hp] at this;cases this⟩⟩
def p8(i:Nat)(tk tv:DT):DS:=λE δ=>tv δ λd=>∃kd,δ[i]?=some (some (.k kd))/\tk δ λy=>∃k,y=gE k/\kd.length < VG/\E.nx (δ.set i (some (.k (eD kd k d))))
theorem uZ{i:Nat}{o e v:VE}{tk tv:DT}{pos pos':Pos}(hu:X.A.units+64 < V9)(ho:PE X o (eL i))(he:DE X H0 O0 e tk)(hv:DE X H0 O0 v tv)(hs:V5 v (some (.Subscript o e pos')) pos.line X.env=pure false:=by rfl):
 PS X (.Assign [.Subscript o e pos'] v pos) (bB X.K H0 O0 (p8 i tk tv)):=
 (HM Vq ho he hv hs).imp λD σ H ⟨O,δ,E,w,q,k1,k2,k3,k4⟩=>⟨O,δ,_,w,q,λd u H1 uu88 s1 r1=>by
  obtain⟨kd,e,qk⟩:=uu88;have w1:=w.mono s1;obtain⟨l,kv,h,a,b,c,r⟩:=w1.ownK e;refine⟨.ref l,h,O,δ,_,w1,qk,λy uy H2 ⟨k,ek,hl,q2⟩ s2 r2=>?_⟩;subst ek;obtain rfl:=r2.key;refine⟨l,_,rfl,mm.k (s2 _ _ c) (by rw [r.length];exact hl),k1 _ _ _ _ q2 ((w1.mono s2).putK e h ((r.mono s2).put k (r1.mono s2))) ⟨λb' o' z n=>?_,λ_ _ n=>n⟩⟩;rw [aE (λy=>n (by rw [y];exact a))];exact(s1.trans s2) _ _ z⟩
def p9(i:Nat)(tk:DT):DT:=λδ Q=>∃kd,δ[i]?=some (some (.k kd))/\tk δ λy=>∃k d,y=gE k/\cE kd k=some d/\Q d
theorem bo.got{K:Nh}{H:Hp}{O:Ex}{kv:List (ai×V)}{kd:List (ai×Vv)}(h:bo K H O kv kd){k:ai}{d:Vv}(e:cE kd k=some d):∃v,c7 kv k=some v/\Dt K H O v d:=by
 rcases h.val k with⟨_,z⟩ | ⟨v,d',a,b,c⟩
 ·rw [e] at z;cases z
 ·rw [e] at b;cases b;exact⟨v,a,c⟩
theorem bo.none{K:Nh}{H:Hp}{O:Ex}{kv:List (ai×V)}{kd:List (ai×Vv)}(h:bo K H O kv kd){k:ai}:(c7 kv k).isSome=(cE kd k).isSome:=by
 rcases h.val k with⟨y,z⟩ | ⟨v,d',a,b,c⟩
 ·rw [y,z];rfl
 ·rw [a,b];rfl
theorem mF{i:Nat}{o e:VE}{tk:DT}{pos:Pos}(hu:X.A.units+64 < V9)(ho:PE X o (eL i))(he:DE X H0 O0 e tk)(hs:pK e):DE X H0 O0 (.Subscript o e pos) (p9 i tk):=
 (AM Vq ho he hs).imp λσ H Q uu90=>by
  obtain⟨O,δ,Qd,w,⟨kd,e,q⟩,k⟩:=uu90;obtain⟨l,kv,h,a,b,c,r⟩:=w.ownK e;refine⟨.ref l,h,O,δ,_,w,q,λy uy H2 ⟨ky,d,ek,ev,q2⟩ s2 r2=>?_⟩;subst ek;obtain rfl:=r2.key;obtain⟨v,hv,dv⟩:=r.got ev;exact⟨l,v,rfl,by rw [<-hv];exact cW.k (s2 _ _ c),k _ _ _ q2 s2 (dv.mono s2)⟩
def qa(i:Nat)(tk:DT):DT:=λδ Q=>∃kd,δ[i]?=some (some (.k kd))/\tk δ λy=>∃k,y=gE k/\Q ((cE kd k).getD .none)
theorem Be{i:Nat}{o e:VE}{tk:DT}{apos cpos:Pos}(hu:X.A.units+64 < V9)(ho:PE X o (eL i))(he:DE X H0 O0 e tk)(m:M1 X o "get" apos e cpos):DE X H0 O0 (.Call (.Attribute o "get" apos) [e] [] cpos) (qa i tk):=
 (AR Vq ho he m).imp λσ H Q uu92=>by
  obtain⟨O,δ,Qd,w,⟨kd,e,q⟩,k⟩:=uu92;obtain⟨l,kv,h,a,b,c,r⟩:=w.ownK e;refine⟨.ref l,h,l,rfl,.inl ⟨kv,.inl c⟩,O,δ,_,w,q,λy uy H2 ⟨ky,ek,q2⟩ s2 r2=>?_⟩;subst ek;obtain rfl:=r2.key;refine⟨_,cW.k (s2 _ _ c),k _ _ _ q2 s2 ?_⟩;rcases r.val ky with⟨y,z⟩ | ⟨v,d',a',b',c'⟩
  ·rw [y,z];exact .non
  ·rw [a',b'];exact c'.mono s2
def jF(neg:Bool)(i:Nat)(tk:DT):DT:=λδ Q=>tk δ λy=>∃k,y=gE k/\∃kd,δ[i]?=some (some (.k kd))/\Q (.bool (if neg then !(cE kd k).isSome else(cE kd k).isSome))
theorem II{i:Nat}{o e:VE}{tk:DT}(hu:X.A.units+64 < V9)(ho:PE X o (eL i))(he:DE X H0 O0 e tk):PC X .In e o (up X.K H0 O0 (jF false i tk)):=λXw s σ H Q I ⟨O,δ,Qd,w,q,k⟩=>
 AN Vq he ho Xw s σ H Q I ⟨O,δ,_,w,q,λy uy H2 uu95 s2 r2=>by
  obtain⟨ky,ek,kd,e,q2⟩:=uu95;subst ek;obtain rfl:=r2.key;obtain⟨l,kv,h,a,b,c,r⟩:=(w.mono s2).ownK e;exact⟨.ref l,h,l,_,rfl,cW.k c,by rw [r.none];exact k _ _ _ q2 s2 (.bl _)⟩⟩
theorem IJ{i:Nat}{o e:VE}{tk:DT}(hu:X.A.units+64 < V9)(ho:PE X o (eL i))(he:DE X H0 O0 e tk):PC X .NotIn e o (up X.K H0 O0 (jF true i tk)):=λXw s σ H Q I ⟨O,δ,Qd,w,q,k⟩=>
 HL Vq he ho Xw s σ H Q I ⟨O,δ,_,w,q,λy uy H2 uu0 s2 r2=>by
  obtain⟨ky,ek,kd,e,q2⟩:=uu0;subst ek;obtain rfl:=r2.key;obtain⟨l,kv,h,a,b,c,r⟩:=(w.mono s2).ownK e;exact⟨.ref l,h,l,_,rfl,cW.k c,by rw [r.none];exact k _ _ _ q2 s2 (.bl _)⟩⟩
end
open PySem PySem.Spec PyProof.Rows PySem.W PySem.Calls
theorem IK{prog:VL}{w:VP}{A:VS}{E:Vw->Vz->Prop}{s:Vz}{T:String}{r d:Vy}{n:Nat}{P:Nat->Vw->Prop}{OK:VQ->Prop}{ss:List Str}{Q:Vw->Vz->Prop}
 (K:KdlSrc prog w T r d n P OK)(hh:A.handled=none)(hok:OK s.heap)(hn:n < 64)(hP:∀vs:List Vw,vs.length=n->(∀j v,vs[j]?=some v->P j v)->StrsAre vs ss)
 (h:∀(h' h2:VQ) (tk:Nat) (out:Array Vw) (e:Nat) (ss':List Str),(∀b o,s.heap.get? b=some o->h'.get? b=some o)->(∀b o,h'.get? b=some o->h2.get? b=some o)->h2.get? h'.objs.size=some (VU "list" out e)->StrsAre out.toList ss'->ss'.Perm ss->sortedS ss'=true->Q (.ref h'.objs.size) {s with heap:=h2,toks:=tk}):
 VC (VB prog w) A (call (.builtin "sorted") [.ref r]) Q E s:=by
 refine QW kind_sorted plain_sorted entry_sorted (args_sorted1 _) ?_;unfold Builtin.«sorted»;refine Vx (m:=checkCount "sorted" 1 1 _) (VA ?_);refine Vx (kdu_collect (A:=A.in1) K hh hok (NP (Po hn) Vp) λh' tk acc hk hacc=>?_);have hl:acc.toList.length=n:=by rw [Nu];exact hacc.1
 refine Vx (WA ?_);have hS:=hP acc.toList hl (λj v e=>hacc.2 j v (by rw [<-OU];exact e));have hoL:(h'.push (VU "list" acc.toList.toArray 0)).get? h'.objs.size=some (VU "list" acc.toList.toArray 0):=NH _ rfl;refine Vx (VY (V7 Xi ⟨_,hoL,rfl⟩ Xg (list_sort_treeK (s:={s with heap:=h'.push (VU "list" acc.toList.toArray 0),toks:=tk}) strKind_oneLt hoL hS.keysOf (λv₁ v₂ rest e=>keyKind_strs (by rw [<-e];exact hS)) (by rw [hl];exact hn) λst' a1 a2=>⟨_,rfl,?_⟩) (args_list_sort _)));obtain⟨ss',h1,h2,h3⟩:=sorted_out_str hS a1 a2;obtain⟨e,he⟩:=sortedHeap_at (n:=0) (vs:=acc.toList) (out:=(VD st').map (·.2)) hoL;refine VA ⟨_,rfl,h h' _ tk _ e ss' hk (λb o q=>?_) he h1 h2 h3⟩;have hlt:b < h'.objs.size:=NB q;rw [sortedHeap_old (NL hlt) (by rw [size_push'];exact OI hlt),Ue _ _ _ (NL hlt)];exact q
theorem Bf{P:VL}{w:VP}:∀{ss:List Str}{vs:List Vw},vs.length=ss.length->(∀(j:Nat)(v:Vw),vs[j]?=some v->∃x:Str,ss[j]?=some x/\(bZ P w).is (.inr x) v=true)->StrsAre vs ss
 | [],[],_,_=>.nil
 | x::ss,v::vs,hl,h=>by
  obtain⟨y,e,k⟩:=h 0 v rfl;cases e;rcases fT (k:= .inr x) (v:=v) k with⟨i,t,e,_⟩ | ⟨z,t,e,ev⟩
  ·cases e
  ·cases e;subst ev;exact .cons x t (Bf (by simpa using hl) λj v e=>h (j+1) v e)
theorem Bg{X:Cx}:cD X (.builtin "sorted") (λxs H Q=>X.calm=true/\∃a kv ss,xs=[.ref a]/\Rd H a (.dK kv)/\kv.map (·.1)=ss.map OC/\ss.length < 64/\∀l,H l=none->Q (.ref l) (ak H l (.lst ((cO ss).map V.str)))):=by
 intro Xw s σ H xs us Q I r h;obtain⟨hc,a,kv,ss,rfl,ha,hk,h64,q⟩:=h;obtain⟨u,rfl,rx⟩:=cH r;cases rx;obtain⟨hz,lo,vs,rel,dd⟩:=i3 I.hok ha;obtain⟨ep,da⟩:=dd.dictAt;have hlen:vs.length=ss.length:=by rw [<-rel.length,<-Nj (f:=(·.1)),hk,Nj]
 refine IK (ss:=ss) (kdl_dict (kvs:=vs) (ep:=ep) lo) (I.ok.hd hc) da Vq (λus hl hp=>Bf (P:=X.prog) (w:=X.w) Vq λj v e=>?_) λh' h2 tk out e ss' k1 k2 lr s1 s2 s3=>?_
 ·obtain⟨k,x,ek,kk⟩:=hp j v e;have e1:(vs.map (·.1))[j]?=some k:=by rw [NK,ek];rfl
  rw [<-rel.keys,hk,NK] at e1;cases es:ss[j]? with
  | none=>rw [es] at e1;cases e1
  | some y=>rw [es] at e1;cases e1;exact⟨y,rfl,kk⟩
 ·have es:ss'=cO ss:=A3 s2 (A5 _ s3);subst es;have hl2:(cO ss).length=ss.length:=s2.length_eq;have I1:af X Xw σ H {s with heap:=h',toks:=tk}:=I.kept (t':=tk) k1;refine⟨.ref _,_,I1.laid (t':=tk) (o:= .lst ((cO ss).map V.str)) k2 (Np _) ?_,rfl,q _ (I1.hok.fresh (Np _))⟩;refine⟨by rw [Nj,hl2];exact NP (Po h64) Vp,out.toList,e,uj s1,?_⟩;rw [lr]
theorem bo.keys{K:Nh}{H:Hp}{O:Ex}{kv:List (ai×V)}{kd:List (ai×Vv)}(h:bo K H O kv kd):kv.map (·.1)=kd.map (·.1):=by
 induction h with
 | nil=>rfl
 | cons a _ ih=>simp only [Nq,ih]
section
variable {X:Cx} {H0:Hp} {O0:Ex}
def qc(i:Nat):DA:=λδ Q=>∃kd,δ[i]?=some (some (.k kd))/\∃ss:List Str,kd.map (·.1)=ss.map OC/\ss.length < 64/\Q ((cO ss).map .str)
theorem Bh{i:Nat}{o:VE}{np p:Pos}(hc:X.calm=true)(hg:Gl X "sorted")(hm:X.mg "sorted"=none)(hv:VW "sorted"=some (.builtin "sorted"))(ho:PE X o (eL i))(he:VH [o] X.env=(false,eval o X.env)::VH [] X.env:=by rfl)(hpl:(V1 p (VH [] X.env)).any (·.1)=false:=by rfl):
 FE X H0 O0 (.Call (.Name "sorted" np) [o] [] p) (qc i):=
 (bS Bg hg hm hv (bf ho bR he) (he:=he) (hpl:=hpl)).imp λσ H Q uu1=>by
  obtain⟨O,δ,Qd,w,⟨kd,e,ss,ek,h64,q⟩,k⟩:=uu1;obtain⟨l,kv,h,a,b,c,r⟩:=w.ownK e;exact⟨.ref l,h,hc,l,kv,ss,rfl,.inl c,by rw [r.keys];exact ek,h64,λp hp=>k _ _ _ _ q (ao.refl _) hp (aj.ofStrs _)⟩
theorem Nf{i:Nat}{o e:VE}{tk:DT}{pos:Pos}(hu:X.A.units+64 < V9)(ho:PE X o (eL i))(he:DE X H0 O0 e tk)(hm:Wa .In o=false:=by rfl):PT X (.Compare e [.In] [o] pos) (bT X.K H0 O0 (fE (jF false i tk))):=
 (sS (II hu ho he) hm).imp λσ H Q uu2=>by obtain⟨O,δ,Qd,w,q,k⟩:=uu2;exact⟨O,δ,_,w,q,λd v H' uu3 s r=>by obtain⟨b,e,qb⟩:=uu3;subst e;cases r;exact⟨b,rfl,k b H' qb s⟩⟩
theorem Bi{i:Nat}{o e:VE}{tk:DT}{pos:Pos}(hu:X.A.units+64 < V9)(ho:PE X o (eL i))(he:DE X H0 O0 e tk)(hm:Wa .NotIn o=false:=by rfl):PT X (.Compare e [.NotIn] [o] pos) (bT X.K H0 O0 (fE (jF true i tk))):=
 (sS (IJ hu ho he) hm).imp λσ H Q uu4=>by obtain⟨O,δ,Qd,w,q,k⟩:=uu4;exact⟨O,δ,_,w,q,λd v H' uu5 s r=>by obtain⟨b,e,qb⟩:=uu5;subst e;cases r;exact⟨b,rfl,k b H' qb s⟩⟩
end
section
theorem u5{a:List (ai×Vv)}{r:Dl}{P:List (ai×Vv)->Prop}:(∃d,(some (Sl.k a)::r)[0]?=some (some (Sl.k d))/\P d)=P a:=Vu
theorem u7{x:Option Sl}{r:Dl}{i:Nat}{P:List (ai×Vv)->Prop}:(∃d,(x::r)[i+1]?=some (some (Sl.k d))/\P d)=(∃d,r[i]?=some (some (Sl.k d))/\P d):=Vu
theorem u9{a:List (ai×Vv)}{l:Dl}{i:Nat}{P:List (ai×Vv)->Prop}:(∃d,(l.set i (some (Sl.k a)))[i]?=some (some (Sl.k d))/\P d)=(i < l.length/\P a):=by
 apply propext;rw [List.getElem?_set_self'];constructor
 ·rintro⟨d,e,p⟩;by_cases h:i < l.length
  ·rw [NN h] at e;cases e;exact⟨h,p⟩
  ·rw [P6 Vq] at e;cases e
 ·rintro⟨h,p⟩;exact⟨a,by rw [NN h];rfl,p⟩
theorem va{x:Option Sl}{l:Dl}{i j:Nat}{P:List (ai×Vv)->Prop}(h:i≠j):(∃d,(l.set i x)[j]?=some (some (Sl.k d))/\P d)=(∃d,l[j]?=some (some (Sl.k d))/\P d):=by rw [NV h]
theorem vb{x:Str}{P:ai->Prop}:(∃k,Nl x=gE k/\P k)=P (.inr x):=propext ⟨λuu6=>by obtain⟨k,e,p⟩:=uu6;cases k with | inl i=>cases e | inr y=>cases e;exact p,λp=>⟨_,rfl,p⟩⟩
end
def isNone:Vv->Bool
 | .none=>true
 | _=>false
def qf:Vv->Vv->(Vv->Prop)->Prop:=λx y Q=>y= .none/\Q (.bool (isNone x))
def qg:Vv->Vv->(Vv->Prop)->Prop:=λx y Q=>y= .none/\Q (.bool (!isNone x))
theorem Sh.isN{K:Nh}{H:Hp}{O:Ex}{x:V}{d:Vv}(h:Sh K H O x d):decide (x= .non)=isNone d:=by
 cases h with
 | dt h=>cases h <;> simp [isNone]
 | _=>simp [isNone]
theorem kA{K:Nh}:cy K (λx y H Q=>y= .non/\Q (.bl (decide (x= .non))) H) qf:=λH O x y dx dy Qd R _ hx hy uu7 k=>by
 obtain⟨e,q⟩:=uu7;subst e;refine⟨hy.non,?_⟩;rw [hx.isN];exact k _ _ H q (ao.refl _) (.bl _)
theorem qh{K:Nh}:cy K (λx y H Q=>y= .non/\Q (.bl (!decide (x= .non))) H) qg:=λH O x y dx dy Qd R _ hx hy uu8 k=>by
 obtain⟨e,q⟩:=uu8;subst e;refine⟨hy.non,?_⟩;rw [hx.isN];exact k _ _ H q (ao.refl _) (.bl _)
def qi:Vv->Vv->(Vv->Prop)->Prop:=λx y Q=>∃ds i d,x=ft ds/\y= .int i/\atI ds i=some d/\Q d
theorem IL{K:Nh}:cy K (nW K) qi:=λH O x y dx dy Qd R _ hx hy uu9 k=>by
 obtain⟨ds,i,d,e1,e2,e3,q⟩:=uu9;subst e1 e2;obtain⟨a,vs,rfl,hs,r⟩:=hx.scr;cases hy.int;obtain⟨v,hv,rv⟩:=r.atI e3;exact⟨a,vs,i,v,rfl,rfl,hs,hv,k d v H q (ao.refl _) rv⟩
section
variable {X:Cx} {H0:Hp} {O0:Ex}
def qj(t:DT)(tl th:DO):DA:=λδ Q=>t δ λd=>tl δ λl=>th δ λu=>∃xs,d=ft xs/\Q (cK xs l u)
theorem IM{e:VE}{lo hi:Option VE}{t:DT}{tl th:DO}{pos p2:Pos}(h:DF X H0 O0 e t)(hl:PO X lo (gn X.K H0 O0 tl))(hu:PO X hi (gn X.K H0 O0 th)):FE X H0 O0 (.Subscript e (.Slice lo hi none p2) pos) (qj t tl th):=
 (nV Ad h hl hu).imp λσ H Q uu10=>by obtain⟨O,δ,Qd,w,q,k⟩:=uu10;exact⟨O,δ,_,w,q,λd v H1 q1 s1 r1=>⟨O,δ,_,w.mono s1,q1,λl H2 q2 s2=>⟨O,δ,_,w.mono (s1.trans s2),q2,λu H3 uu11 s3=>by
  obtain⟨xs,e,q3⟩:=uu11;subst e;obtain⟨a,vs,rfl,h1,d1⟩:=(r1.mono (s2.trans s3)).scr;exact⟨a,vs,rfl,h1,λp hp=>k _ _ _ _ q3 (s1.trans (s2.trans s3)) hp (d1.cut l u)⟩⟩⟩⟩
end
structure Rw where
 w:Str
 n:Int
 nm:Str
 r:List Vv
def Rw.enc(x:Rw):Vv:= .tuple (.str x.w:: .int x.n:: .str x.nm::x.r)
def fI(ws:List Str)(day:Int)(x:Rw):Prop:=x.w∈ws/\x.n<=day
instance {ws:List Str} {day:Int} {x:Rw}:Decidable (fI ws day x):=by unfold fI;infer_instance
abbrev Ls:=List (Str×Rw)
def eF(L:Ls):List (ai×Vv):=L.map λp=>(.inr p.1,p.2.enc)
def cF(L:Ls)(nm:Str):Option Rw:=(L.find? λp=>decide (p.1=nm)).map (·.2)
def qm(L:Ls)(nm:Str)(x:Rw):Ls:=if (L.any λp=>decide (p.1=nm))=true then L.map (λp=>if p.1=nm then(p.1,x) else p) else L++[(nm,x)]
theorem mG{a b:Str}:((OC a:ai)=OC b)↔a=b:=⟨λh=>by cases h;rfl,λh=>by rw [h]⟩
theorem kB(nm:Str):∀L:Ls,cE (eF L) (.inr nm)=(cF L nm).map Rw.enc
 | []=>rfl
 | p::L=>by
  have ih:=kB nm L;unfold cE cF eF at*;by_cases h:p.1=nm
  ·simp [O9,h]
  ·have h':¬((OC p.1:ai)=OC nm):=λz=>h (mG.mp z);simp only [Nq,O9,decide_eq_false h,decide_eq_false h'];exact ih
theorem qo(L:Ls)(nm:Str)(x:Rw):eD (eF L) (.inr nm) x.enc=eF (qm L nm x):=by
 have ha:(eF L).any (λp=>decide (p.1=(OC nm:ai)))=L.any λp=>decide (p.1=nm):=by
  unfold eF;rw [List.any_map];congr 1;funext p;simp only [Ts,mG]
 unfold eD qm;rw [ha];split
 ·unfold eF;rw [NO,NO];apply Tw;intro p _;simp only [Ts,mG];split <;> rfl
 ·unfold eF;simp
structure dO (ws:List Str) (day:Int) (xs:List Rw) (L:Ls):Prop where
 nd:(L.map (·.1)).Nodup
 it:∀p∈L,p.1=p.2.nm/\p.2∈xs/\fI ws day p.2/\∀y∈xs,fI ws day y->y.nm=p.1->y.n<=p.2.n
 al:∀y∈xs,fI ws day y->∃p∈L,p.1=y.nm
 le:L.length<=xs.length
theorem dO.nil(ws:List Str)(day:Int):dO ws day [] []:=⟨List.nodup_nil,(λp h=>by cases h),(λp h=>by cases h),Np _⟩
theorem mH{L:Ls}{nm:Str}{y:Rw}(h:cF L nm=some y):∃p∈L,p.1=nm/\p.2=y:=by
 unfold cF at h;cases e:L.find? (λp=>decide (p.1=nm)) with
 | none=>rw [e] at h;cases h
 | some p=>
  rw [e] at h;cases h;exact⟨p,QX e,by simpa using UI e,rfl⟩
theorem Bj{L:Ls}{nm:Str}(h:cF L nm=none):∀p∈L,p.1≠nm:=by
 intro p hp e;unfold cF at h;rw [Option.map_eq_none_iff,TX] at h;exact h p hp (by simpa using e)
section
variable {ws:List Str} {day:Int} {xs:List Rw} {L:Ls} {x:Rw}
theorem dO.skip(h:dO ws day xs L)(hx:¬fI ws day x):dO ws day (xs++[x]) L:=by
 refine⟨h.nd,λp hp=>?_,λy hy ho=>?_,by have:=h.le;simp;omega⟩
 ·obtain⟨a,b,c,d⟩:=h.it p hp;refine⟨a,by simp [b],c,λy hy ho e=>?_⟩;rcases NQ.mp hy with z | z
  ·exact d y z ho e
  ·rw [NU] at z;subst z;exact absurd ho hx
 ·rcases NQ.mp hy with z | z
  ·exact h.al y z ho
  ·rw [NU] at z;subst z;exact absurd ho hx
theorem dO.keep(h:dO ws day xs L){y0:Rw}(hl:cF L x.nm=some y0)(hn:¬y0.n < x.n):dO ws day (xs++[x]) L:=by
 obtain⟨p0,hp0,e0,rfl⟩:=mH hl;have uq:∀p∈L,p.1=x.nm->p=p0:=λp hp e=>by
  have nd:=h.nd;clear h hl hn
  induction L with
  | nil=>cases hp
  | cons q L ih=>
   rw [Nq,OX] at nd;rcases Ny.mp hp with a | a <;> rcases Ny.mp hp0 with b | b
   ·rw [a,b]
   ·exact absurd (NC.mpr ⟨p0,b,by rw [e0,<-e,a]⟩) nd.1
   ·exact absurd (NC.mpr ⟨p,a,by rw [e,<-e0,b]⟩) nd.1
   ·exact ih b a nd.2
 refine⟨h.nd,λp hp=>?_,λy hy ho=>?_,by have:=h.le;simp;omega⟩
 ·obtain⟨a,b,c,d⟩:=h.it p hp;refine⟨a,by simp [b],c,λy hy ho e=>?_⟩;rcases NQ.mp hy with z | z
  ·exact d y z ho e
  ·rw [NU] at z;subst z;rw [uq p hp e.symm];omega
 ·rcases NQ.mp hy with z | z
  ·exact h.al y z ho
  ·rw [NU] at z;subst z;exact⟨p0,hp0,e0⟩
theorem dO.put(h:dO ws day xs L)(ho:fI ws day x)(hl:∀y,cF L x.nm=some y->y.n < x.n):dO ws day (xs++[x]) (qm L x.nm x):=by
 unfold qm;split
 ·rename_i ha;obtain⟨p0,hp0,e0⟩:=QJ.mp ha;have e0:p0.1=x.nm:=of_decide_eq_true e0;have hmx:∀y∈xs,fI ws day y->y.nm=x.nm->y.n<=x.n:=λy hy ho' e=>by
   cases hk:cF L x.nm with
   | none=>exact absurd e0 (Bj hk p0 hp0)
   | some z=>
    obtain⟨p,hp,ep,rfl⟩:=mH hk;have:=(h.it p hp).2.2.2 y hy ho' (by rw [ep];exact e);have:=hl _ hk;omega
  refine⟨?_,λp hp=>?_,λy hy ho'=>?_,by have:=h.le;simp;omega⟩
  ·rw [NO,show((λp:Str×Rw=>p.1)∘ λp=>if p.1=x.nm then(p.1,x) else p)=λp=>p.1 by funext p;simp only [Ts];split <;> rfl];exact h.nd
  ·obtain⟨q,hq,rfl⟩:=NC.mp hp;by_cases z:q.1=x.nm
   ·rw [Vs z];refine⟨z,Vu,ho,λy hy ho' e=>?_⟩;rcases NQ.mp hy with m | m
    ·exact hmx y m ho' (by rw [e];exact z)
    ·rw [NU] at m;subst m;exact Qk _
   ·rw [Vr z];obtain⟨a,b,c,d⟩:=h.it q hq;refine⟨a,by simp [b],c,λy hy ho' e=>?_⟩;rcases NQ.mp hy with m | m
    ·exact d y m ho' e
    ·rw [NU] at m;subst m;exact absurd e.symm z
  ·rcases NQ.mp hy with m | m
   ·obtain⟨p,hp,e⟩:=h.al y m ho';refine⟨_,NC.mpr ⟨p,hp,rfl⟩,?_⟩;split <;> exact e
   ·rw [NU] at m;subst m;refine⟨_,NC.mpr ⟨p0,hp0,rfl⟩,?_⟩;rw [Vs e0];exact e0
 ·rename_i ha;have hno:∀p∈L,p.1≠x.nm:=λp hp e=>ha (QJ.mpr ⟨p,hp,decide_eq_true e⟩);refine⟨?_,λp hp=>?_,λy hy ho'=>?_,by have:=h.le;simp;omega⟩
  ·rw [N8];refine R8.mpr ⟨h.nd,Vu,λa ha' b hb=>?_⟩;simp only [Nq,OD,NU] at hb;obtain⟨p,hp,rfl⟩:=NC.mp ha';rw [hb];exact hno p hp
  ·rcases NQ.mp hp with m | m
   ·obtain⟨a,b,c,d⟩:=h.it p m;refine⟨a,by simp [b],c,λy hy ho' e=>?_⟩;rcases NQ.mp hy with z | z
    ·exact d y z ho' e
    ·rw [NU] at z;subst z;exact absurd e.symm (hno p m)
   ·rw [NU] at m;subst m;refine⟨rfl,Vu,ho,λy hy ho' e=>?_⟩;rcases NQ.mp hy with z | z
    ·obtain⟨p,hp,e'⟩:=h.al y z ho';exact absurd (e'.trans e) (hno p hp)
    ·rw [NU] at z;subst z;exact Qk _
  ·rcases NQ.mp hy with m | m
   ·obtain⟨p,hp,e⟩:=h.al y m ho';exact⟨p,by simp [hp],e⟩
   ·rw [NU] at m;subst m;exact⟨(y.nm,y),Vu,rfl⟩
end
structure mI (ws:List Str) (day:Int) (xs res:List Rw):Prop where
 up:(res.map (·.nm)).Pairwise λa b=>c9 a b=true
 nd:(res.map (·.nm)).Nodup
 it:∀x∈res,x∈xs/\fI ws day x/\∀y∈xs,fI ws day y->y.nm=x.nm->y.n<=x.n
 al:∀y∈xs,fI ws day y->∃x∈res,x.nm=y.nm
 le:res.length<=xs.length
theorem mJ{L:Ls}{nm:Str}(h:nm∈L.map (·.1)):∃x,cF L nm=some x:=by
 cases e:cF L nm with
 | some x=>exact⟨x,rfl⟩
 | none=>
  obtain⟨p,hp,e'⟩:=NC.mp h;exact absurd e' (Bj e p hp)
def qp(L:Ls):List Rw:=(cO (L.map (·.1))).filterMap (cF L)
theorem IP{ws:List Str}{day:Int}{xs:List Rw}{L:Ls}(h:dO ws day xs L):(qp L).map (·.nm)=cO (L.map (·.1)):=by
 unfold qp;have key:∀l:List Str,(∀a∈l,a∈L.map (·.1))->(l.filterMap (cF L)).map (·.nm)=l:=by
  intro l
  induction l with
  | nil=>intro _;rfl
  | cons a l ih=>
   intro hl;obtain⟨x,hx⟩:=mJ (hl a Vu);obtain⟨p,hp,e,rfl⟩:=mH hx;rw [Pl,hx];show p.2.nm::_=_;rw [ih λb hb=>hl b (by simp [hb]),<-(h.it p hp).1,e]
 exact key _ λa ha=>(fw _).mem_iff.mp ha
theorem dO.res{ws:List Str}{day:Int}{xs:List Rw}{L:Ls}(h:dO ws day xs L):mI ws day xs (qp L):=by
 have hn:=IP h;refine⟨by rw [hn];exact A2 _,by rw [hn];exact(fw _).nodup_iff.mpr h.nd,λx hx=>?_,λy hy ho=>?_,by rw [<-Nj (f:=λx:Rw=>x.nm),hn,(fw _).length_eq,Nj];exact h.le⟩
 ·obtain⟨a,ha,e⟩:=Qs.mp hx;obtain⟨p,hp,e1,rfl⟩:=mH e;obtain⟨b1,b2,b3,b4⟩:=h.it p hp;exact⟨b2,b3,λy hy ho e=>b4 y hy ho (by rw [b1];exact e)⟩
 ·obtain⟨p,hp,e⟩:=h.al y hy ho;have:p.1∈(qp L).map (·.nm):=by rw [hn];exact(fw _).mem_iff.mpr (NC.mpr ⟨p,hp,rfl⟩)
  obtain⟨x,hx,e'⟩:=NC.mp this;exact⟨x,hx,e'.trans e⟩
theorem IQ(t:Wm)(n:Nat):(t.orStandIn n).led=t.led:=by unfold TY;split <;> rfl
theorem IS(t:Wm)(es:Array (Int×Vw))(h:Int)(x:Vw):(layNew t es h x).2.1.led=t.led:=by
 unfold layNew;split
 ·exact IQ _ _
 ·rfl
theorem IT(t:Wm)(es:Array (Int×Vw))(n:Nat):(W8 t es n).2.1.led=t.led:=by
 unfold W8 UJ UT;cases Ug (TZ n - 1) (es.map (·.1)) with
 | none=>rfl
 | some ow=>simp only [bind,Vh,pure];split <;> rfl
abbrev fc(w:VP):Bool:=w.params.followText "set-order"
section
variable {P:VL} {w:VP} {A:VS} {E:Vw->Vz->Prop} {s:Vz}
theorem IU(a:Vw){Q₁:Vw->Vz->Prop}
 (h:Q₁ (.ref s.heap.objs.size) {s with heap:=s.heap.push {cls:= .type "set",dict:=none,data:= .set #[] 0 (.fresh 0 0 (!fc w))}}):
 Ww (VB P w) A (.call (.builtin "set.__new__") ⟨[.type "set",a],[]⟩) (wants Q₁ E) s:=by
 refine codeAny_of_tree ?_;show VC _ A.in1 (checkBuiltinCall "set.__new__" ⟨[.type "set",a],[]⟩ >>=λ_=>again (.builtin "set.__new__" ⟨[.type "set",a],[]⟩)) _ _ s;refine Vx (Xm (PySem.F.newCall_set_1 a) (VA ⟨WB SY _,Wn PySem.F.entry_set_new ?_⟩));rw [Pd SY _];unfold Builtin.«set.__new__» Builtin.Frozenset.newClass;have hsb:=sub_set_self;obtain⟨hp,g,d,tk,os⟩:=s;dsimp only
 wp_walk
 refine Wy (VA ?_);dsimp only;simp only [newObj];exact Vx (wpAny_alloc (VA (VA h)))
end
theorem gU:Slot "set_iterator" "__next__" "set_iterator.__next__":=
 .of (owner:="set_iterator") (n:="__next__") (by rw [typeLookup_type,Xc];kernel_rfl) cp cp cp
  (by first | exact .inl cp | exact .inr cp) (by rw [isSubtype_type];kernel_rfl)
theorem qr:entryFor table "set_iterator.__next__"=some Builtin.«set_iterator.__next__»:=entryFor_of_tree (by kernel_rfl)
theorem Bk:Manifest.owners.lookup (String.ofList ['r','o','t','a','r','e','t','i','_','t','e','s'].reverse)=some Manifest.sig_set_iterator:=by kernel_rfl
theorem qt(a:Vw):argsOk "set_iterator.__next__" ⟨[a],[]⟩:=by
 unfold argsOk;rw [signature?_of (id:="set_iterator.__next__") (n:=['_','_','t','x','e','n','_','_']) (o:=['r','o','t','a','r','e','t','i','_','t','e','s']) (by kernel_rfl) Bk];kernel_rfl
theorem IV:entryFor table "set.__iter__"=some Builtin.«frozenset.__iter__»:=entryFor_alias (id':="frozenset.__iter__") (by kernel_rfl) rfl cp (by kernel_rfl)
theorem vc{α:Type}:∀{l:List α}{i:Nat}(h:i < l.length),(l[i]::l.eraseIdx i).Perm l
 | a::l,0,h=>.refl _
 | a::l,i+1,h=>by
  have:=vc (l:=l) (i:=i) (by simpa using h);simp only [List.getElem_cons_succ,Sy];exact(List.Perm.swap _ _ _).trans (this.cons a)
theorem Bl{α:Type}(next:Nat->Nat):∀(f k:Nat)(left:List α)(out:Array α),f=left.length->(pickOrder.go next f k left out).toList.Perm (out.toList++left)
 | 0,k,left,out,e=>by
  rw [RC e.symm];unfold pickOrder.go;simp
 | f+1,k,left,out,e=>by
  unfold pickOrder.go;have hlt:next k % left.length < left.length:=Nat.mod_lt _ Vq;rw [NN hlt];refine(Bl next f (k+1) _ _ (by rw [RS hlt];omega)).trans ?_;rw [Pj,Ph];exact List.Perm.append_left _ (vc hlt)
theorem IW{α:Type}(next:Nat->Nat)(xs:Array α):(Xq next xs).toList.Perm xs.toList:=by
 have:=Bl next xs.size 0 xs.toList #[] Vu;simpa [Xq] using this
section
variable {P:VL} {w:VP} {A:VS} {E:Vw->Vz->Prop}
theorem Bm{α:Type}:∀(n:Nat)(xs:List α)(s:Vz)(Q:List α->Vz->Prop),n=xs.length->(∀ys d,ys.Perm xs->Q ys {s with drawn:=d})->VC (VB P w) A (drawOrder n xs) Q E s
 | 0,xs,s,Q,e,q=>by
  rw [RC e.symm] at q⊢;unfold drawOrder;exact VA (q [] s.drawn (.refl _))
 | n+1,[],s,Q,e,q=>by cases e
 | n+1,x::xs,s,Q,e,q=>by
  unfold drawOrder;refine Vx ?_;intro Γ p hΓ;refine⟨Vu,?_⟩;generalize hi:(VB P w).w.draws .order (s.drawn.get .order)% (x::xs).length=i;have hlt:i < (x::xs).length:=by rw [<-hi];exact Nat.mod_lt _ Vu
  have key:VC (VB P w) A (match (x::xs)[i]? with | some y=>(do return y::(<-drawOrder n ((x::xs).eraseIdx i))) | none=>Xn "internal:drawOrder") Q E {s with drawn:=s.drawn.bump .order}:=by
   rw [NN hlt];refine Vx (Bm n _ _ _ (by rw [RS hlt];simp at e⊢;omega) λys d hp=>VA (q _ d ?_));exact(hp.cons _).trans (vc hlt)
  exact key
end
def fg(h:VQ)(it:Vy)(f:Vw)(i:Nat)(a:Vy)(n ep:Nat):Prop:=∃o,h.get? it=some o/\o.cls= .type "set_iterator"/\o.data= .fields #[f,.int i 0,.ref a,.int n 0,.int ep 0]
theorem fg.typeIs{s:Vz}{it f i a n ep}(x:fg s.heap it f i a n ep):s.TypeIs (.ref it) "set_iterator":=let ⟨o,h,c,_⟩:=x;⟨o,h,c⟩
section
variable {P:VL} {w:VP} {A:VS} {E:Vw->Vz->Prop} {s:Vz} {a:Vy} {o:Obj} {es:Array (Int×Vw)} {ep:Nat} {t:Wm}
theorem Bn{slot i:Nat}{Q:Option (Vw×Nat)->Vz->Prop}(hb:fc w=true)(o1:s.heap.get? a=some o)(d1:o.data= .set es ep t)(f1:t.fits es.size=true)
 (h:Q (((Xq (w.params.setOrder a ep) es)[i]?).map λe=>(e.2,slot)) s):VC (VB P w) A (WZ a slot i ep) Q E s:=by
 unfold WZ setWalk setsByText;refine Vx (Wu o1 d1 f1 (Vx (Vx (Wy (VA ?_)))));rw [Vs (show(VB P w).w.params.followText "set-order"=true from hb)];rw [Vr Vu];refine Vx (Vx (Wu o1 d1 f1 (Vx (Vx (Wy (VA ?_))))));rw [Vs (show(VB P w).w.params.followText "set-order"=true from hb)];exact Vx (Wy (VA (VA h)))
theorem IX{it:Vy}{slot slot' i:Nat}{x:Vw}{Q:Option Vw->Vz->Prop}(hit:fg s.heap it (.int slot 0) i a es.size ep)(o1:s.heap.get? a=some o)(d1:o.data= .set es ep t)(f1:t.fits es.size=true)
 (nx:∀E' Q',Q' (some (x,slot')) s->VC (VB P w) A.in1 (WZ a slot i ep) Q' E' s)
 (hQ:∀h',fg h' it (.int slot' 0) (i+1) a es.size ep->PK it s.heap h'->Q (some x) {s with heap:=h'}):VC (VB P w) A (WC (.ref it)) Q E s:=by
 obtain⟨u,u1,c1,e1⟩:=id hit;unfold WC;refine Vx (WO (Wf (name:=Ng "__next__") hit.typeIs gU (V7 gU hit.typeIs qr ?_ (qt _))));unfold Builtin.«set_iterator.__next__»;refine Vx (m:=slotArgs _ _ _) (VA (Vx (Xj u1 e1 ?_)));show VC _ _ (setEntries a >>=_) _ _ s;refine Vx (Wz o1 d1 f1 ?_);rw [Vr Vu];show VC _ _ (WZ a ((slot:Int)).toNat ((i:Int)).toNat ((ep:Int)).toNat >>=_) _ _ s;simp only [Pg];refine Vx (nx _ _ ?_);show VC _ _ (setField (.ref it) 0 (WK (slot':Int)) >>=_) _ _ s;refine Vx (WN u1 e1 Vu ?_);have g1:=OT (UU (·.setIfInBounds 0 (WK (slot':Int)))) u1 (QD (Pb e1 _));have k1:=Pb e1 (·.setIfInBounds 0 (WK (slot':Int)));refine Vx (WN g1 k1 Vu (VA ⟨x,rfl,VA (hQ _ ?_ ((Oh ..).trans (Oh ..)))⟩));refine⟨_,OT _ g1 (QD (Pb k1 _)),(R9 ..).trans ((R9 ..).trans c1),?_⟩;rw [Pb k1];simp [WK]
theorem IY{it pl:Vy}{i k:Nat}{hk:Int}{x:Vw}{ol:Obj}{ps:Array Vw}{nl:Nat}{Q:Option Vw->Vz->Prop}(hit:fg s.heap it (.ref pl) i a es.size ep)(o1:s.heap.get? a=some o)(d1:o.data= .set es ep t)(f1:t.fits es.size=true)
 (l1:s.heap.get? pl=some ol)(l2:ol.data= .seq ps nl)(p1:ps[i]?=some (.int (k:Int) 0))(x1:es[k]?=some (hk,x))
 (hQ:∀h',fg h' it (.ref pl) (i+1) a es.size ep->PK it s.heap h'->Q (some x) {s with heap:=h'}):VC (VB P w) A (WC (.ref it)) Q E s:=by
 obtain⟨u,u1,c1,e1⟩:=id hit;unfold WC;refine Vx (WO (Wf (name:=Ng "__next__") hit.typeIs gU (V7 gU hit.typeIs qr ?_ (qt _))));unfold Builtin.«set_iterator.__next__»;refine Vx (m:=slotArgs _ _ _) (VA (Vx (Xj u1 e1 ?_)));show VC _ _ (setEntries a >>=_) _ _ s;refine Vx (Wz o1 d1 f1 ?_);rw [Vr Vu];show VC _ _ (seqItems? (.ref pl) >>=_) _ _ s;refine Vx (wpAny_seqItems l1 l2 ?_);simp only [Pg,p1];refine Vx ?_;unfold setNextDrawn;refine Vx (Wu o1 d1 f1 ?_);simp only [Pg];rw [Vr Vu,x1];refine VA (Vx (WN u1 e1 Vu (VA ⟨x,rfl,VA (hQ _ ?_ (Oh ..))⟩)));refine⟨_,OT _ u1 (QD (Pb e1 _)),(R9 ..).trans c1,?_⟩;rw [Pb e1];simp [WK]
theorem IZ{it:Vy}{slot i:Nat}{Q:Option Vw->Vz->Prop}(hh:A.handled=none)(hit:fg s.heap it (.int slot 0) i a es.size ep)(o1:s.heap.get? a=some o)(d1:o.data= .set es ep t)(f1:t.fits es.size=true)
 (nx:∀E' Q',Q' none s->VC (VB P w) A.in1 (WZ a slot i ep) Q' E' s)
 (hQ:∀h',Vi it s.heap h'->Q none {s with heap:=h'}):VC (VB P w) A (WC (.ref it)) Q E s:=by
 obtain⟨u,u1,c1,e1⟩:=id hit;unfold WC;refine Vx (WO (Wf (name:=Ng "__next__") hit.typeIs gU (V7 gU hit.typeIs qr ?_ (qt _))));unfold Builtin.«set_iterator.__next__»;refine Vx (m:=slotArgs _ _ _) (VA (Vx (Xj u1 e1 ?_)));show VC _ _ (setEntries a >>=_) _ _ s;refine Vx (Wz o1 d1 f1 ?_);rw [Vr Vu];show VC _ _ (WZ a ((slot:Int)).toNat ((i:Int)).toNat ((ep:Int)).toNat >>=_) _ _ s;simp only [Pg];refine Vx (nx _ _ ?_);show VC _ _ (setField (.ref it) 2 .none >>=_) _ _ s;refine Vx (WN u1 e1 Vu ?_);refine Vx (m:=newExc (.type "StopIteration") []) ?_;simp only [newExc,newTuple];refine Vx (V0 ?_ (by size_fits));refine Vx (m:=Xk _ _) (Xm (a:=PH) (by first | rfl | (simp only [Xk];rfl)) ?_);refine V0 ?_ (by size_fits);simp only [raiseNew];refine Vx (wpAny_handled ?_);rw [show A.in1.handled=none from hh];refine Vx (VA (wpAny_throw ?_));refine Vx (Xu (T:="StopIteration") (b:=true) ⟨_,NH _ rfl,rfl⟩ isSubtype_stop ?_);exact VA (hQ _ (((Oh ..).extBut.push _).push _))
theorem I0{it pl:Vy}{i:Nat}{ol:Obj}{ps:Array Vw}{nl:Nat}{Q:Option Vw->Vz->Prop}(hh:A.handled=none)(hit:fg s.heap it (.ref pl) i a es.size ep)(o1:s.heap.get? a=some o)(d1:o.data= .set es ep t)(f1:t.fits es.size=true)
 (l1:s.heap.get? pl=some ol)(l2:ol.data= .seq ps nl)(p1:ps[i]?=none)
 (hQ:∀h',Vi it s.heap h'->Q none {s with heap:=h'}):VC (VB P w) A (WC (.ref it)) Q E s:=by
 obtain⟨u,u1,c1,e1⟩:=id hit;unfold WC;refine Vx (WO (Wf (name:=Ng "__next__") hit.typeIs gU (V7 gU hit.typeIs qr ?_ (qt _))));unfold Builtin.«set_iterator.__next__»;refine Vx (m:=slotArgs _ _ _) (VA (Vx (Xj u1 e1 ?_)));show VC _ _ (setEntries a >>=_) _ _ s;refine Vx (Wz o1 d1 f1 ?_);rw [Vr Vu];show VC _ _ (seqItems? (.ref pl) >>=_) _ _ s;refine Vx (wpAny_seqItems l1 l2 ?_);simp only [Pg,p1];show VC _ _ (setField (.ref it) 0 (WK 0) >>=_) _ _ s;refine Vx (WN u1 e1 Vu ?_);have g1:=OT (UU (·.setIfInBounds 0 (WK 0))) u1 (QD (Pb e1 _));have k1:=Pb e1 (·.setIfInBounds 0 (WK 0));refine Vx (WN g1 k1 Vu ?_);refine Vx (m:=newExc (.type "StopIteration") []) ?_;simp only [newExc,newTuple];refine Vx (V0 ?_ (by size_fits));refine Vx (m:=Xk _ _) (Xm (a:=PH) (by first | rfl | (simp only [Xk];rfl)) ?_);refine V0 ?_ (by size_fits);simp only [raiseNew];refine Vx (wpAny_handled ?_);rw [show A.in1.handled=none from hh];refine Vx (VA (wpAny_throw ?_));refine Vx (Xu (T:="StopIteration") (b:=true) ⟨_,NH _ rfl,rfl⟩ isSubtype_stop ?_);exact VA (hQ _ ((((Oh ..).trans (Oh ..)).extBut.push _).push _))
end
theorem Bo:Slot "set_iterator" "__iter__" "set_iterator.__iter__":=
 .of (owner:="set_iterator") (n:="__iter__") (by rw [typeLookup_type,Xc];kernel_rfl) cp cp cp
  (by first | exact .inl cp | exact .inr cp) (by rw [isSubtype_type];kernel_rfl)
theorem Ja:entryFor table "set_iterator.__iter__"=some Builtin.«dict_keyiterator.__iter__»:=entryFor_alias (id':="dict_keyiterator.__iter__") (by kernel_rfl) rfl cp (by kernel_rfl)
theorem Jb(a:Vw):argsOk "set_iterator.__iter__" ⟨[a],[]⟩:=by
 unfold argsOk;rw [signature?_of (id:="set_iterator.__iter__") (n:=['_','_','r','e','t','i','_','_']) (o:=['r','o','t','a','r','e','t','i','_','t','e','s']) (by kernel_rfl) Bk];kernel_rfl
theorem fg.at{h h':VQ}{it f i a n ep}(x:fg h it f i a n ep)(e:∀o,h.get? it=some o->h'.get? it=some o):fg h' it f i a n ep:=let ⟨o,ho,r⟩:=x;⟨o,e _ ho,r⟩
section
variable {P:VL} {w:VP} {A:VS} {E:Vw->Vz->Prop} {s:Vz} {a:Vy} {o:Obj} {es:Array (Int×Vw)} {ep:Nat} {t:Wm}
theorem Bp{it:Vy}{f:Vw}{i n:Nat}{Q:Vw->Vz->Prop}(hit:fg s.heap it f i a n ep)(h:Q (.ref it) s):VC (VB P w) A (pyIter (.ref it)) Q E s:=by
 refine wpAny_pyIter_slot hit.typeIs Bo (V7 Bo hit.typeIs Ja ?_ (Jb _));exact Vx (m:=slotArgs _ _ _) (VA (VA ⟨_,rfl,"set_iterator",_,hit.typeIs,gU.lookup,h⟩))
theorem Bq(hh:A.handled=none)(it:Vy)(hne:a≠it)(d1:o.data= .set es ep t)(f1:t.fits es.size=true)(vs:List Vw)(hl:vs.length=es.size)(sl:Nat->Nat)
 (nx:∀(s:Vz) (i:Nat) (h:i < vs.length) E' Q',s.heap.get? a=some o->Q' (some (vs[i],sl (i+1))) s->VC (VB P w) A.in1 (WZ a (sl i) i ep) Q' E' s)
 (nd:∀(s:Vz) E' Q',s.heap.get? a=some o->Q' none s->VC (VB P w) A.in1 (WZ a (sl es.size) es.size ep) Q' E' s):
 Walks P w A it [it,a] [it] es.size (λi v=>vs[i]?=some v) (λi h=>fg h it (.int (sl i:Nat) 0) i a es.size ep/\h.get? a=some o) where
 sub:=λb hb=>by rw [NU] at hb;simp [hb]
 frame:=λ_ _ _ st hk=>⟨st.1.at λo e=>hk it Vu o e,hk a Vu o st.2⟩
 item:=λi s Q E hi st hQ=>by
  have hi':i < vs.length:=Vq
  refine IX st.1 st.2 d1 f1 (λE' Q' q=>nx s i hi' E' Q' st.2 q) λh' it' sb=>?_;exact hQ _ h' s.toks (by simp [hi']) ⟨it',by rw [sb.2 a hne];exact st.2⟩ λb u hb e=>sb.extBut b u (λz=>hb (by simp [z])) e
 done:=λs Q E st hQ=>IZ hh st.1 st.2 d1 f1 (λE' Q' q=>nd s E' Q' st.2 q) λh' he=>hQ h' s.toks λb u hb e=>he b u (λz=>hb (by simp [z])) e
 self:=λ_ _ _ _ st hQ=>Bp st.1 hQ
theorem Jc(hh:A.handled=none)(it pl:Vy)(hne:a≠it)(hnp:pl≠it)(d1:o.data= .set es ep t)(f1:t.fits es.size=true)(vs:List Vw)(ks:List Nat){ol:Obj}{nl:Nat}(l2:ol.data= .seq (ks.map λ(k:Nat)=>Pk (k:Int) 0).toArray nl)
 (hl:ks.length=es.size)(hv:∀i k:Nat,ks[i]?=some k->∃h x,es[k]?=some (h,x)/\vs[i]?=some x):
 Walks P w A it [it,a,pl] [it] es.size (λi v=>vs[i]?=some v) (λi h=>fg h it (.ref pl) i a es.size ep/\h.get? a=some o/\h.get? pl=some ol) where
 sub:=λb hb=>by rw [NU] at hb;simp [hb]
 frame:=λ_ _ _ st hk=>⟨st.1.at λo e=>hk it Vu o e,hk a Vu o st.2.1,hk pl Vu ol st.2.2⟩
 item:=λi s Q E hi st hQ=>by
  have hi':i < ks.length:=Vq
  obtain⟨h,x,e1,e2⟩:=hv i ks[i] (by simp [hi']);refine IY st.1 st.2.1 d1 f1 st.2.2 l2 (k:=ks[i]) (by simp [hi']) e1 λh' it' sb=>?_;exact hQ _ h' s.toks e2 ⟨it',by rw [sb.2 a hne];exact st.2.1,by rw [sb.2 pl hnp];exact st.2.2⟩ λb u hb e=>sb.extBut b u (λz=>hb (by simp [z])) e
 done:=λs Q E st hQ=>I0 hh st.1 st.2.1 d1 f1 st.2.2 l2 (by simp [hl]) λh' he=>hQ h' s.toks λb u hb e=>he b u (λz=>hb (by simp [z])) e
 self:=λ_ _ _ _ st hQ=>Bp st.1 hQ
end
section
variable {P:VL} {w:VP} {A:VS} {E:Vw->Vz->Prop} {s:Vz} {a:Vy}
theorem Jd{Q:Bool->Vz->Prop}(hT:s.TypeIs (.ref a) "set")(h:Q false s):VC (VB P w) A (RH (.ref a)) Q E s:=by
 unfold RH;refine Vx (wpAny_specialOf hT PySem.F.slot_set_len.lookup ?_);generalize hid:("set.__len__":String)=id0
 wp_delta
 rw [show splitId id0=some ("set","__len__") from by subst hid;decide+kernel];subst hid;refine Vx (Xu (T:="set") (b:=true) hT (by rw [isSubtype_type];kernel_rfl) ?_);refine Xf (λz=>absurd z Vp) (λ_=>?_);refine Xf (λ_=>?_) (λz=>absurd cp z);exact Vx (WM hT (VA h))
end
theorem af.drw{X:Cx}{Xw:List (Vy×Obj)}{σ:List (Option V)}{H:Hp}{s:Vz}{d:Drawn}(I:af X Xw σ H s):af X Xw σ H {s with drawn:=d}:=⟨I.ok,I.os,I.bare,I.base,I.loc,I.cell,I.free,I.freeC,I.pin,I.hok,I.len⟩
theorem Je:VW "set"=some (.type "set"):=cp
section
variable {X:Cx} {H0:Hp} {O0:Ex}
def qu(i:Nat)(t:DA):DS:=λE δ=>∃ds,δ[i]?=some (some (.o ds))/\t δ λes=>ds.length+es.length<=VG/\E.nx (δ.set i (some (.o (ds++es))))
theorem Jf{i:Nat}{o e:VE}{t:DA}{apos cpos pos:Pos}(ho:PE X o (eL i))(he:FE X H0 O0 e t)(hbase:Wj o "extend" X.env (eval o X.env)=eval o X.env:=by rfl)
 (hfew:((V1 cpos (VH [e] X.env)).all (λx=>!x.1) && (Xh cpos (WR [] X.env)).all (λx=>x.1.isSome) && decide ([e].length+([]:List Ws).length+(if ([]:List Ws).isEmpty then 0 else 1) < 30))=true:=by rfl)
 (hline:(apos.endLine==cpos.line)=true:=by rfl)(hst:VH [e] X.env=(false,eval e X.env)::VH [] X.env:=by rfl)(hplain:(V1 cpos (VH [] X.env)).any (·.1)=false:=by rfl)
 (hs:V5 (.Call (.Attribute o "extend" apos) [e] [] cpos) none pos.line X.env=pure false:=by rfl):PS X (.Expr (.Call (.Attribute o "extend" apos) [e] [] cpos) pos) (bB X.K H0 O0 (qu i t)):=
 (sU (nY Q9 PySem.F.slot_list_extend PySem.F.type_list_extend Gz ho (bf he bR hst) hbase hfew hline hst hplain) hs).imp λD σ H uu12=>by
  obtain⟨O,δ,E,w,⟨ds,e,q⟩,k1,k2,k3,k4⟩:=uu12;obtain⟨l,vs,h,a,b,c,r⟩:=w.own e;refine⟨_,h,.inl ⟨rfl,_,aL.of c⟩,O,δ,_,w,q,λes ws p H1 q1 s1 hp r1=>?_⟩;have hl:H1 l=some (.lst vs):=s1 _ _ c;have np:l≠p:=λz=>by rw [z,hp] at hl;cases hl
  have S2:ao H1 (ak H1 p (.lst ws)):=ao.new hp;refine⟨l,p,vs,ws,rfl,rfl,by rw [aE np];exact hl,aW,by rw [r.length,r1.length];exact q1.1,?_⟩;exact k1 _ _ _ _ q1.2 (((w.mono s1).mono S2).putO (vs:=vs) e h (((r.mono s1).mono S2).append (r1.mono S2))) ⟨λb' o' z n=>by rw [aE (λy=>n (by rw [y];exact a))];exact S2 _ _ (s1 _ _ z),λ_ _ n=>n⟩
end
theorem qv:∀{ns:List Int}{us:List Vw},aC (ns.map V.int) us->V4 us ns
 | [],_,r=>by rw [OD] at r;cases r;exact .nil
 | n::ns,_,r=>by
  rw [Nq] at r;cases r with
  | cons r1 r2=>obtain⟨t,rfl⟩:=r1;exact .cons n t (qv r2)
theorem Jg{X:Cx}(hc:X.calm=true):cD X (.builtin "max") (λxs H Q=>∃(p:Vy)(ns:List Int),xs=[.ref p]/\aL X.K H p (ns.map V.int)/\ns≠[]/\∀M,M∈ns->(∀a∈ns,a<=M)->Q (.int M) H):=by
 intro Xw s σ H xs us Q I r h;obtain⟨p,ns,rfl,hq,hne,q⟩:=h;obtain⟨u,rfl,rx⟩:=cH r;cases rx;obtain⟨its,rv,pl,hz⟩:=I.list hq;have hi:=qv rv;obtain⟨zs,e⟩:=hi.allInts.items;have hns:ns=zs.toList.map (·.1):=by rw [<-hi.numsOf,<-nums_intItems,<-e]
 have h0:0 < zs.size:=by
  rcases RI zs.size with z | z
  ·exact absurd (by rw [hns];simp [SR.mp z]) hne
  ·exact z
 have hl:=pl.isList;rw [e] at hl;refine max_intList (I.ok.hd hc) hl h0 λv h' tk hv hk=>?_;obtain⟨t,rfl⟩:=intItems_at hv;obtain⟨h1,h2⟩:=argBest_gt (numAt zs) (zs.size - 1);refine⟨.int _,H,I.kept (t':=tk) hk,⟨t,rfl⟩,q _ ?_ λa ha=>?_⟩
 ·rw [hns,numAt_eq];exact getD_mem (by rw [Nj,Nu];omega)
 ·rw [hns] at ha;obtain⟨j,hj,rfl⟩:=mem_getD ha;rw [Nj,Nu] at hj;rw [<-numAt_eq];exact h2 j Vq
theorem aj.intsL{K:Nh}{H:Hp}{O:Ex}:∀{ns:List Int}{vs:List V},aj K H O vs (ns.map Nn)->vs=ns.map V.int
 | [],_,r=>by rw [OD] at r;cases r;rfl
 | b::bs,_,r=>by
  rw [Nq] at r;cases r with
  | cons h r=>cases h;rw [Nq,aj.intsL r]
def qw:List Vv->(Vv->Prop)->Prop:=λds Q=>∃ns:List Int,ds=[.list (ns.map .int)]/\ns≠[]/\∀M,M∈ns->(∀a∈ns,a<=M)->Q (.int M)
theorem Jh{K:Nh}:gi K (λxs H Q=>∃(p:Vy)(ns:List Int),xs=[.ref p]/\aL K H p (ns.map V.int)/\ns≠[]/\∀M,M∈ns->(∀a∈ns,a<=M)->Q (.int M) H) qw:=λH O xs ds Qd R tr hs uu13 k=>by
 obtain⟨ns,e,hne,q⟩:=uu13;subst e;cases hs with
 | cons h r=>
  cases r;obtain⟨a,vs,rfl,h1,d1⟩:=h.lst;cases d1.intsL;exact⟨a,ns,rfl,h1,hne,λM m1 m2=>k _ _ H (q M m1 m2) (ao.refl _) (.int _)⟩
def vd(o:Obj)(a:Vy)(kv:List (ai×V)):It:=⟨λi H=>i < kv.length/\H a=some (.frz o (.dK kv)),λi H x H'=>H'=H/\∃p,kv[i]?=some p/\x=kV p.1,λi H=>kv.length<=i/\H a=some (.frz o (.dK kv))⟩
theorem Br{P:VL}{w:VP}{H:Hp}{h:VQ}{a:Vy}{o:Obj}{es:Array WT}{ep:Nat}{kv:List (ai×V)}(ok:bP P w H h)(e:H a=some (.frz o (.dK kv)))(d:o.data= .dict es ep):
 (a==Wh)=false/\∃vs,KV kv vs/\h.DictAt (bZ P w) a vs ep:=by
 obtain⟨h1,_,hd,vs,rel,o',es',ep',g,r1,r2,r3⟩:=ok a _ e;rw [h1] at g;cases g;rw [d] at r2;cases r2;exact⟨hd,vs,rel,o,es,h1,r1,d,r3⟩
theorem KV.len{kv:List (ai×V)}{vs:List (ai×Vw)}(r:KV kv vs):vs.length=kv.length:=r.length.symm
theorem Ji{P:VL}{w:VP}{K:Nh}{tg:VE}(it a:Vy)(o:Obj)(es:Array WT)(ep:Nat)(kv:List (ai×V))(d:o.data= .dict es ep):lG P w K tg (vd o a kv) [it] it (λi h=>h.IsKeyIter it a i kv.length ep) where
 mem:=Vu
 obj:=λi h st b hb=>by
  have e:b=it:=by simpa using hb
  subst e;obtain⟨o,e,c,d⟩:=st;exact⟨o,e,λv z=>by rw [d] at z;cases z⟩
 keep:=λi h h' st k=>st.at λo e=>k it Vu o e
 item:=by
  intro X hP hw hK hc i Xw s σ H E I hf st hg;subst hP hw hK;obtain⟨hi,ha⟩:=hg;obtain⟨hd,vs,rel,da⟩:=Br I.hok ha d;have hlen:=rel.len;obtain⟨f0,f1,f2,f3,f4,f5⟩:=hf it Vu;obtain⟨⟨k0,v0⟩,hx⟩:∃p,vs[i]?=some p:=⟨vs[i]'Vq,by simp [hlen,hi]⟩;refine wpAny_pyNext_dict_item (by rw [hlen];exact st) da hx λkey h' hkey st' sb=>?_;rw [hlen] at st';have I1:af X Xw σ H {s with heap:=h'}:=I.turned (t':=s.toks) (λb o hb e=>(sb.2 b hb).trans e) f0 f1 f3 f4 f5;obtain⟨u,e,c,dd⟩:=id st';have ek:(kv[i]'hi).1=k0:=by
   have z:=congrArg (λl:List ai=>l[i]?) rel.keys;simp only [NK,hx] at z;simpa [hi] using z
  refine⟨key,rfl,nI (s:={s with heap:=h'}) e c dd Vp ⟨kV (kv[i]'hi).1,H,I1,?_,⟨rfl,_,by simp [hi],rfl⟩,st',λb hb=>(hf b hb).1⟩⟩;rw [ek];rcases fT (k:=k0) (v:=key) hkey with⟨j,t,e1,e2⟩ | ⟨j,t,e1,e2⟩
  ·rw [e1,e2];exact⟨t,rfl⟩
  ·rw [e1,e2];exact⟨t,rfl⟩
 done:=by
  intro X hP hw hK hc i Xw s σ H E I hf st hg;subst hP hw hK;obtain⟨hi,ha⟩:=hg;obtain⟨hd,vs,rel,da⟩:=Br I.hok ha d;have hlen:=rel.len;obtain⟨f0,f1,f2,f3,f4,f5⟩:=hf it Vu;refine wpAny_pyNext_dict_end (I.ok.hd hc) (by rw [hlen];exact st) da (by simp [hlen,hi]) λh' he=>⟨rfl,?_⟩;exact I.turned (t':=s.toks) (λb o hb e=>he b o hb e) f0 f1 f3 f4 f5
 self:=λA i s Q E st h=>wpAny_pyIter_keyiter st h
theorem Wd.frzK{K:Nh}{H0 H:Hp}{O0 O:Ex}{σ:St}{δ:Dl}(w:Wd K H0 O0 H O σ δ){i:Nat}{l:Vy}{y0:Sl}(e:δ[i]?=some (some y0))(ho:y0.own)(h:σ[i]?=some (some (.ref l)))(u:HO):
 ∃O',Wd K H0 O0 (ak H l u) O' σ (δ.set i none)/\aS H (ak H l u) O O'/\¬O' l:=by
 obtain⟨l',x1,a,b⟩:=w.adr e ho;rw [h] at x1;cases x1;have l0:H0 l=none:=(w.new l a).resolve_left b;have S:aS H (ak H l u) O (λx=>O x/\x≠l):=⟨λc q z n=>by rw [aE (λy=>n (by rw [y];exact a))];exact z,λ_ _ n z=>n z.1⟩;have li:i < δ.length:=(Nz.mp e).1;have ne:∀{j:Nat}{y:Sl},(δ.set i none)[j]?=some (some y)->j≠i:=λ{j y} q z=>by
  subst z;rw [N7 li] at q;cases q
 refine⟨_,⟨λc q z=>?_,λx z=>⟨w.sub x z,λy=>b (by rw [<-y];exact z)⟩,λx z=>w.new x z.1,λx z=>by rw [aE z.2];exact w.trk x z.1,by simp [w.len],λj y q=>?_,λj k y z l' e1 y1 e2 z2 e3 e4=>?_⟩,S,λz=>z.2 rfl⟩
 ·have:c≠l:=λy=>by rw [y,l0] at z;cases z
  rw [aE this];exact w.same c q z
 ·by_cases hj:j=i
  ·subst hj;rw [N7 li] at q;cases q;exact OE
  ·rw [NV (Ne.symm hj)] at q;refine(w.sl j y q).go S (λb o ho' e' a1 a2 a3=>?_) (λb o u a1 a2 a3=>by have nb:b≠l:=λz=>w.nofrz e ho h o u (by rw [<-z];exact a3);exact⟨⟨a1,nb⟩,by rw [aE nb];exact a3⟩) λc o a1 a3=>by rw [aE (λz=>b (by rw [<-z];exact a1))];exact a3
   have nb:b≠l:=λz=>by
    subst z
    match y,ho',q with
    | some z,ho',q=>exact hj (w.dis j i z y0 _ q (by cases z <;> first | trivial | cases ho') e ho (iQ e') h)
   exact⟨⟨a1,nb⟩,by rw [aE nb];exact a3⟩
 ·have n1:=ne e1;have n2:=ne e2;rw [NV (Ne.symm n1)] at e1;rw [NV (Ne.symm n2)] at e2;exact w.dis j k _ _ l' e1 y1 e2 z2 e3 e4
theorem cI.dk{o:Obj}{a:Vy}{kv:List (ai×V)}:cI (vd o a kv) (λH=>H a=some (.frz o (.dK kv))) (kv.map λp=>kV p.1):=by
 refine⟨λi H' s hi=>⟨by simpa using hi,s⟩,λi H' x H'' s hi y=>⟨y.1,?_⟩,λi H' s hi=>⟨by simpa using hi,s⟩⟩;obtain⟨_,p,hp,rfl⟩:=y;simp [hp]
def kC:List (DT×DT)->Dl->(List (Vv×Vv)->Prop)->Prop
 | [],_,Q=>Q []
 | (a,b)::r,δ,Q=>a δ λx=>b δ λy=>kC r δ λps=>Q ((x,y)::ps)
inductive i6 (K:Nh) (H:Hp) (O:Ex):List (V×V)->List (Vv×Vv)->Prop
 | nil:i6 K H O [] []
 | cons {a b:V} {x y:Vv} {r s}:Dt K H O a x->Dt K H O b y->i6 K H O r s->i6 K H O ((a,b)::r) ((x,y)::s)
theorem Bs{K:Nh}{H0:Hp}{O0 O:Ex}{σ:St}{δ:Dl}:∀(trs:List (DT×DT)){H:Hp}{Qd:List (Vv×Vv)->Prop}{R:List (V×V)->Hp->Prop},Wd K H0 O0 H O σ δ->kC trs δ Qd->(∀ds vs H',Qd ds->ao H H'->i6 K H' O vs ds->R vs H')->pL (trs.map λp=>(up K H0 O0 p.1,up K H0 O0 p.2)) σ H R
 | [],H,Qd,R,w,q,k=>k [] [] H q (ao.refl _) .nil
 | (a,b)::r,H,Qd,R,w,q,k=>by
  refine⟨O,δ,_,w,q,λx v H1 q1 s1 r1=>⟨O,δ,_,w.mono s1,q1,λy u H2 q2 s2 r2=>?_⟩⟩;exact Bs r ((w.mono s1).mono s2) q2 λds vs H3 q3 s3 r3=>k _ _ H3 q3 ((s1.trans s2).trans s3) (.cons (r1.mono (s2.trans s3)) (r2.mono s3) r3)
theorem Dt.free{K:Nh}{H H':Hp}{O O':Ex}{v:V}{d:Vv}(h:Dt K H O v d)(s:j5 d=true):Dt K H' O' v d:=by
 cases h <;> first | exact .non | exact .bl _ | exact .int _ | exact .str _ | cases s
theorem i6.kd{K:Nh}{H H':Hp}{O:Ex}:∀{kd:List (ai×Vv)}{ps:List (V×V)},i6 K H O ps (kd.map λp=>(gE p.1,p.2))->(∀p∈kd,j5 p.2=true)->∃kv:List (ai×V),ps=kv.map (λp=>(kV p.1,p.2))/\bo K H' O kv kd
 | [],_,h,_=>by cases h;exact⟨[],rfl,.nil⟩
 | p::kd,_,h,sc=>by
  cases h with
  | cons a b r=>
   obtain⟨kv,e,k⟩:=i6.kd r λq hq=>sc q (NY _ hq);have:=a.key;exact⟨(p.1,_)::kv,by rw [e,this];rfl,.cons (b.free (sc p Ob)) k⟩
theorem bo.merge{K:Nh}{H:Hp}{O:Ex}{more:List (ai×V)}{md:List (ai×Vv)}(h:bo K H O more md):∀{kv:List (ai×V)}{kd:List (ai×Vv)},bo K H O kv kd->bo K H O (gB kv more) (md.foldl (λa p=>eD a p.1 p.2) kd):=by
 induction h with
 | nil=>intro kv kd r;exact r
 | cons a _ ih=>intro kv kd r;exact ih (r.put _ a)
section
variable {X:Cx} {H0:Hp} {O0:Ex}
def qx(trs:List (DT×DT)):jE:=λδ Q=>kC trs δ λps=>∃kd:List (ai×Vv),ps=kd.map (λp=>(gE p.1,p.2))/\kd.length<=15/\(∀p∈kd,j5 p.2=true)/\Q (kd.foldl (λa p=>eD a p.1 p.2) [])
def qy(X:Cx)(H0:Hp)(O0:Ex)(pos:Pos)(keys:List (Option VE))(values:List VE)(trs:List (DT×DT)):Prop:=mn X pos keys values (trs.map λp=>(up X.K H0 O0 p.1,up X.K H0 O0 p.2))
theorem Jj{pos:Pos}:qy X H0 O0 pos [] [] []:=HQ
theorem qz{pos:Pos}{k v:VE}{ks:List (Option VE)}{vs:List VE}{tk tv:DT}{trs:List (DT×DT)}(hk:DE X H0 O0 k tk)(hv:DE X H0 O0 v tv)(hr:qy X H0 O0 pos ks vs trs):qy X H0 O0 pos (some k::ks) (v::vs) ((tk,tv)::trs):=HR hk hv hr
theorem Jk{pos:Pos}{keys:List (Option VE)}{values:List VE}{trs:List (DT×DT)}(h:qy X H0 O0 pos keys values trs)(hall:keys.all (·.isSome)=true:=by rfl)(hl:keys.length=values.length:=by rfl)(h0:keys≠[]:=by exact List.cons_ne_nil _ _)(h15:keys.length<=15:=by exact Nat.le_of_ble_eq_true rfl):KE X H0 O0 (.Dict keys values pos) (qx trs):=
 (HU h hall hl h0 h15).imp λσ H Q ⟨O,δ,Qd,w,q,k⟩=>λp hp=>by
  refine Bs trs (w.mono (ao.new hp)) q λds vs H2 ⟨kd,e,n,sc,q2⟩ s2 r2=>?_;subst e;have jG:H2 p=some (.dK []):=s2 _ _ aW;obtain⟨kv,e,r⟩:=i6.kd (H':=λb=>if b=p then none else H2 b) r2 sc;refine⟨jG,kv,e,by rw [r.length];exact n,?_⟩;have eu:ak H2 p (.dK (gB [] kv))=ak (λb=>if b=p then none else H2 b) p (.dK (gB [] kv)):=by
   funext b;unfold ak;split
   ·rfl
   ·rename_i hb;exact(Vr hb).symm
  rw [eu];refine k _ _ p _ q2 (λb o z=>?_) (Vs rfl) (r.merge .nil);have:b≠p:=λy=>by rw [y,hp] at z;cases z
  show(if b=p then none else H2 b)=some o;rw [Vr this];exact s2 _ _ (by rw [aE this];exact z)
theorem mK{N':List Str}{k:Nat}{fr:List Nat}{scope:We}{iter elt tg:VE}{ifs:List VE}{t te:DT}{tc:DB}{g:TG}{dg:DG}{pos:Pos}(hc:X.calm=true)(S:bb X.env.scope X.N N' k fr scope)(hi:DF X H0 O0 iter t)(gd:GD X.K g dg)(hk:ip g k)(hfr:fr.Nodup)
 (hg:∀fp C s H,PG (bF X scope N' fp C s H) tg g)(hf:∀fp C s H,eO (bF X scope N' fp C s H) ifs (bT X.K H0 O0 tc))(he:∀fp C s H,PE (bF X scope N' fp C s H) elt (up X.K H0 O0 te))
 (hs:∀x,VX iter X.env x=pure x:=by intro _;rfl):PU X (.ListComp elt [⟨tg,iter,ifs,0⟩] scope pos) (lX X.K H0 O0 (kg t dg tc te k fr)):=
 (AX hc S (tf hi) hg hf he hs).imp λσ H Q uu16=>by obtain⟨O,δ,Qd,w,q,kk⟩:=uu16;exact⟨O,δ,_,w,q,λd v H1 uu17 s1 r1=>by
  obtain⟨xs,e,hz,q1⟩:=uu17;subst e;obtain⟨a,vs,rfl,hq,rr⟩:=r1.tup;refine⟨a,rfl,⟨_,hq⟩,λD hD=>kc (cI.tup hq) gd hfr (λv _ H' R h=>hk fr σ v H' R h) (λ_ _ _ z=>z) (λ_ _ _ z=>z) (λD H' hD s' o e=>s' _ _ e (cT e hD)) rr (w.mono s1) (by rw [rr.length];exact hz) q1 (λds us p H' z s' hp r'=>kk ds us p H' z (s1.trans s') hp r') D hD⟩⟩
end
structure kD (n:Nat) (lt:Nat->Nat->Bool) (I:Vz->Prop) (cmp:Nat->Nat->(Bool->Vz->Prop)->Vz->Prop):Prop where
 as:∀i j C s,i < n->j < n->i≠j->I s->(∀s',I s'->C (lt i j) s')->cmp i j C s
structure gW (n:Nat) (lt:Nat->Nat->Bool):Prop where
 tot:∀i j,i < n->j < n->i≠j->lt i j=!lt j i
 tr:∀i j k,i < n->j < n->k < n->lt i j=true->lt j k=true->lt i k=true
structure bU (n:Nat) (p:Array Nat):Prop where
 perm:p.toList.Perm (OA n)
theorem bU.size{n:Nat}{p:Array Nat}(h:bU n p):p.size=n:=by rw [<-Nu,h.perm.length_eq,Qz]
theorem bU.lt{n:Nat}{p:Array Nat}(h:bU n p){k:Nat}(hk:k < n):p.getD k 0 < n:=by
 have hs:=h.size;have e:p.getD k 0=p[k]'Vq:=by simp [Qf,show k < p.size by omega]
 rw [e];have:=h.perm.mem_iff.mp (Tg.mpr (Array.getElem_mem (show k < p.size by omega)));simpa using this
theorem bU.ne{n:Nat}{p:Array Nat}(h:bU n p){i j:Nat}(hi:i < n)(hj:j < n)(hij:i≠j):p.getD i 0≠p.getD j 0:=by
 have hs:=h.size;have nd:p.toList.Nodup:=h.perm.nodup_iff.mpr List.nodup_range;have ei:p.getD i 0=p.toList[i]'(by simp;omega):=by simp [Qf,show i < p.size by omega]
 have ej:p.getD j 0=p.toList[j]'(by simp;omega):=by simp [Qf,show j < p.size by omega]
 rw [ei,ej];intro e;exact hij ((QH nd).mp e)
theorem bU.bubble{n:Nat}{p:Array Nat}(h:bU n p)(a d:Nat):bU n (RD p a d):=⟨(Pu.mp (bubble_perm p a d)).trans h.perm⟩
theorem bU.rev{n:Nat}{p:Array Nat}(h:bU n p)(i j:Nat):bU n (kas_rev p i j):=⟨(Pu.mp (mirror_perm p i j _)).trans h.perm⟩
theorem ve(n:Nat):bU n (T1 (OA n)):=⟨Vu⟩
def Up(lt:Nat->Nat->Bool)(p:Array Nat)(k:Nat):Prop:=∀i j,i < j->j < k->lt (p.getD i 0) (p.getD j 0)=true
section
variable {n:Nat} {lt:Nat->Nat->Bool} {I:Vz->Prop} {cmp:Nat->Nat->(Bool->Vz->Prop)->Vz->Prop}
theorem Up.snoc(T:gW n lt){p:Array Nat}(hp:bU n p){k:Nat}(hk:k < n)(h:Up lt p k)(h0:0 < k)(hl:lt (p.getD (k - 1) 0) (p.getD k 0)=true):Up lt p (k+1):=by
 intro i j hij hj;rcases PL j k with z | z
 ·exact h i j hij z
 ·have:j=k:=Vq
  subst this;rcases PL i (j - 1) with w | w
  ·exact T.tr _ _ _ (hp.lt Vq) (hp.lt Vq) (hp.lt hk) (h i (j - 1) w Vq) hl
  ·have:i=j - 1:=Vq
   subst this;exact hl
theorem vf(A:kD n lt I cmp)(T:gW n lt){p:Array Nat}(hp:bU n p){Q:Nat->Vz->Prop}:∀(f m:Nat)(s:Vz),1<=m->m+f=n->Up lt p m->I s->
 (∀k s',I s'->m<=k->k<=n->Up lt p k->(k < n->lt (p.getD k 0) (p.getD (k - 1) 0)=true)->Q k s')->(kas_asc p f m).kasWp cmp Q s
 | 0,m,s,h1,hf,hu,hI,q=>q m s hI (Np _) Vq hu (λz=>by omega)
 | f+1,m,s,h1,hf,hu,hI,q=>by
  have hm:m < n:=Vq
  refine A.as _ _ _ s (hp.lt hm) (hp.lt Vq) (hp.ne hm Vq Vq) hI λs' hI'=>?_;cases hc:lt (p.getD m 0) (p.getD (m - 1) 0) with
  | true=>
   dsimp only;rw [Vs rfl];exact q m s' hI' (Np _) Vq hu (λ_=>hc)
  | false=>
   dsimp only;rw [Vr Vu];have hl:lt (p.getD (m - 1) 0) (p.getD m 0)=true:=by rw [T.tot _ _ (hp.lt Vq) (hp.lt hm) (hp.ne Vq hm Vq),hc];rfl
   exact vf A T hp f (m+1) s' Vq Vq (hu.snoc T hp hm Vq hl) hI' λk s2 a b c d e=>q k s2 a Vq c d e
def Dn(lt:Nat->Nat->Bool)(p:Array Nat)(k:Nat):Prop:=∀i j,i < j->j < k->lt (p.getD j 0) (p.getD i 0)=true
theorem Dn.snoc(T:gW n lt){p:Array Nat}(hp:bU n p){k:Nat}(hk:k < n)(h:Dn lt p k)(h0:0 < k)(hl:lt (p.getD k 0) (p.getD (k - 1) 0)=true):Dn lt p (k+1):=by
 intro i j hij hj;rcases PL j k with z | z
 ·exact h i j hij z
 ·have:j=k:=Vq
  subst this;rcases PL i (j - 1) with w | w
  ·exact T.tr _ _ _ (hp.lt hk) (hp.lt Vq) (hp.lt Vq) hl (h i (j - 1) w Vq)
  ·have:i=j - 1:=Vq
   subst this;exact hl
theorem Bt(A:kD n lt I cmp)(T:gW n lt){p:Array Nat}(hp:bU n p){Q:Array Nat×Nat×Nat->Vz->Prop}:∀(f m:Nat)(s:Vz),1<=m->m+f=n->Dn lt p m->I s->
 (∀k s',I s'->m<=k->k<=n->Dn lt p k->Q (p,k,0) s')->(kas_desc f p m 0).kasWp cmp Q s
 | 0,m,s,h1,hf,hu,hI,q=>q m s hI (Np _) Vq hu
 | f+1,m,s,h1,hf,hu,hI,q=>by
  have hm:m < n:=Vq
  refine A.as _ _ _ s (hp.lt hm) (hp.lt Vq) (hp.ne hm Vq Vq) hI λs' hI'=>?_;cases hc:lt (p.getD m 0) (p.getD (m - 1) 0) with
  | true=>
   dsimp only;rw [Vs rfl,Vr Vu];exact Bt A T hp f (m+1) s' Vq Vq (hu.snoc T hp hm Vq hc) hI' λk s2 a b c d=>q k s2 a Vq c d
  | false=>
   dsimp only;rw [Vr Vu];refine A.as _ _ _ s' (hp.lt Vq) (hp.lt hm) (hp.ne Vq hm Vq) hI' λs2 hI2=>?_;have hl:lt (p.getD (m - 1) 0) (p.getD m 0)=true:=by rw [T.tot _ _ (hp.lt Vq) (hp.lt hm) (hp.ne Vq hm Vq),hc];rfl
   rw [hl];dsimp only;rw [Vs rfl];exact q m s2 hI2 (Np _) Vq hu
theorem Bu{p:Array Nat}{j k:Nat}(hj:j<=p.size):(kas_rev p 0 j).getD k 0=if k < j then p.getD (j - 1 - k) 0 else p.getD k 0:=by
 have:=getElem?_mirror_all (xs:=p) (i:=0) (j:=j) hj k;unfold kas_rev;rw [OH,this];by_cases h:k < j
 ·simp [h,OH]
 ·simp [h,OH]
theorem Dn.rev{p:Array Nat}(hp:bU n p){k:Nat}(hk:k<=n)(h:Dn lt p k):Up lt (kas_rev p 0 k) k:=by
 intro i j hij hj;have hs:=hp.size;rw [Bu Vq,Bu Vq,Vs Vq,Vs hj];exact h _ _ Vq Vq
theorem Jl(A:kD n lt I cmp)(T:gW n lt)(h2:2<=n){p:Array Nat}(hp:bU n p){Q:Nat×Array Nat->Vz->Prop}{s:Vz}(hI:I s)
 (q:∀k p' s',I s'->1<=k->k<=n->bU n p'->Up lt p' k->Q (k,p') s'):(kas_count n p).kasWp cmp Q s:=by
 unfold kas_count;rw [QY];refine vf A T hp (n - 1) 1 s (Np _) Vq (λi j a b=>by omega) hI λm s1 hI1 m1 m2 hu hs=>?_;by_cases hm:m=n
 ·subst hm;rw [Vs Vu];exact q m p s1 hI1 m1 (Np _) hp hu
 ·rw [Vr (by simpa using hm)];by_cases hm1:m > 1
  ·rw [Vs hm1];refine A.as _ _ _ s1 (hp.lt Vq) (hp.lt Vq) (hp.ne Vq Vq Vq) hI1 λs2 hI2=>?_;rw [hu 0 (m - 1) Vq Vq];dsimp only;rw [Vs rfl];exact q m p s2 hI2 m1 Vq hp hu
  ·rw [Vr hm1];have:m=1:=Vq
   subst this;have h10:=hs Vq;unfold kas_descPart;rw [QY];refine Bt A T hp (n - (1+1)) (1+1) s1 Vq Vq (λi j a b=>?_) hI1 λk s2 hI2 k1 k2 hd=>?_
   ·have:i=0:=Vq
    have:j=1:=Vq
    subst_vars
    exact h10
   ·rw [Vr Vu];unfold kas_tail3;rw [QY];have hp':=hp.rev 0 k;refine vf A T hp' (n - k) k s2 Vq Vq (hd.rev hp k2) hI2 λm s3 hI3 a b c d=>?_;exact q m _ s3 hI3 Vq b hp' c
theorem vg(A:kD n lt I cmp)(T:gW n lt){p:Array Nat}(hp:bU n p){k:Nat}(hk:k < n)(hu:Up lt p k){Q:Nat->Vz->Prop}:∀(f l r:Nat)(s:Vz),r - l<=f->l<=r->r<=k->I s->
 (∀i,i < l->lt (p.getD i 0) (p.getD k 0)=true)->(∀i,r<=i->i < k->lt (p.getD k 0) (p.getD i 0)=true)->
 (∀l s',I s'->l<=k->(∀i,i < l->lt (p.getD i 0) (p.getD k 0)=true)->(∀i,l<=i->i < k->lt (p.getD k 0) (p.getD i 0)=true)->Q l s')->(kas_place p k f l r).kasWp cmp Q s
 | 0,l,r,s,hf,hlr,hrk,hI,h1,h2,q=>q l s hI Vq h1 (λi a b=>h2 i Vq b)
 | f+1,l,r,s,hf,hlr,hrk,hI,h1,h2,q=>by
  unfold kas_place;by_cases hge:l >= r
  ·rw [Vs hge];exact q l s hI Vq h1 (λi a b=>h2 i Vq b)
  ·rw [Vr hge];have hm:(l+r)/ 2 < k:=Vq
   refine A.as _ _ _ s (hp.lt hk) (hp.lt Vq) (hp.ne hk Vq Vq) hI λs' hI'=>?_;cases hc:lt (p.getD k 0) (p.getD ((l+r)/ 2) 0) with
   | true=>
    dsimp only;rw [Vs rfl];refine vg A T hp hk hu f l ((l+r)/ 2) s' Vq Vq Vq hI' h1 (λi a b=>?_) q;rcases PL ((l+r)/ 2) i with z | z
    ·exact T.tr _ _ _ (hp.lt hk) (hp.lt Vq) (hp.lt Vq) hc (hu _ _ z b)
    ·have:i=(l+r)/ 2:=Vq
     rw [this];exact hc
   | false=>
    dsimp only;rw [Vr Vu];have hl:lt (p.getD ((l+r)/ 2) 0) (p.getD k 0)=true:=by rw [T.tot _ _ (hp.lt Vq) (hp.lt hk) (hp.ne Vq hk Vq),hc];rfl
    refine vg A T hp hk hu f ((l+r)/ 2+1) r s' Vq Vq hrk hI' (λi a=>?_) h2 q;rcases PL i ((l+r)/ 2) with z | z
    ·exact T.tr _ _ _ (hp.lt Vq) (hp.lt Vq) (hp.lt hk) (hu _ _ z hm) hl
    ·have:i=(l+r)/ 2:=Vq
     rw [this];exact hl
theorem Bv{p:Array Nat}{k d i:Nat}(hk:k < p.size)(hd:d<=k):(RD p k d).getD i 0=if i=k - d then p.getD k 0 else if k - d < i/\i<=k then p.getD (i - 1) 0 else p.getD i 0:=by
 rw [OH,getElem?_bubble hk d hd i];by_cases h1:i=k - d
 ·rw [Vs h1,Vs h1,OH]
 ·rw [Vr h1,Vr h1];by_cases h2:k - d < i/\i<=k
  ·rw [Vs h2,Vs h2,OH]
  ·rw [Vr h2,Vr h2,OH]
theorem Up.ins(T:gW n lt){p:Array Nat}(hp:bU n p){k l:Nat}(hk:k < n)(hu:Up lt p k)(hl:l<=k)(h1:∀i,i < l->lt (p.getD i 0) (p.getD k 0)=true)(h2:∀i,l<=i->i < k->lt (p.getD k 0) (p.getD i 0)=true):Up lt (RD p k (k - l)) (k+1):=by
 have hs:=hp.size;intro i j hij hj;rw [Bv Vq Vq,Bv Vq Vq];have e:k - (k - l)=l:=Vq
 rw [e];clear hs e hk;by_cases hi:i=l
 ·rw [Vs hi,Vr Vq,Vs Vq];exact h2 _ Vq Vq
 ·rw [Vr hi];by_cases hi2:l < i/\i<=k
  ·rw [Vs hi2,Vr Vq,Vs Vq];exact hu _ _ Vq Vq
  ·rw [Vr hi2];by_cases hj1:j=l
   ·rw [Vs hj1];exact h1 _ Vq
   ·rw [Vr hj1];by_cases hj2:l < j/\j<=k
    ·rw [Vs hj2];exact hu _ _ Vq Vq
    ·rw [Vr hj2];exact hu _ _ hij Vq
theorem Bw(A:kD n lt I cmp)(T:gW n lt){Q:Array Nat->Vz->Prop}:∀(f:Nat)(p:Array Nat)(k:Nat)(s:Vz),k+f=n->bU n p->Up lt p k->I s->(∀p' s',I s'->bU n p'->Up lt p' n->Q p' s')->(kas_bin f p k).kasWp cmp Q s
 | 0,p,k,s,hf,hp,hu,hI,q=>q p s hI hp (by rw [show n=k by omega];exact hu)
 | f+1,p,k,s,hf,hp,hu,hI,q=>by
  unfold kas_bin;rw [QY];have hk:k < n:=Vq
  refine vg A T hp hk hu k 0 k s Vq Vq (Np _) hI (λi z=>by omega) (λi a b=>by omega) λl s' hI' hl h1 h2=>?_;exact Bw A T f _ (k+1) s' Vq (hp.bubble _ _) (hu.ins T hp hk hl h1 h2) hI' q
theorem Jm(A:kD n lt I cmp)(T:gW n lt)(h2:2<=n){Q:Array Nat->Vz->Prop}{s:Vz}(hI:I s)(q:∀p s',I s'->bU n p->Up lt p n->Q p s'):(kas_sort n).kasWp cmp Q s:=by
 unfold kas_sort;rw [QY];refine Jl A T h2 (ve n) hI λk p s1 hI1 k1 k2 hp hu=>?_;dsimp only;by_cases hk:k < n
 ·rw [Vs hk,show max k 1=k by omega];exact Bw A T (n - k) p k s1 Vq hp hu hI1 q
 ·rw [Vr hk];exact q p s1 hI1 hp (by rw [show n=k by omega];exact hu)
end
def aI(p q:Int×Str):Bool:=decide (p.1 < q.1) || (decide (p.1=q.1) && decide (p.2.cps.toList < q.2.cps.toList))
def gF(h:VQ)(v:Vw)(p:Int×Str):Prop:=∃a o n t u,v= .ref a/\h.get? a=some o/\o.cls= .type "tuple"/\o.data= .seq #[.int p.1 t,.str p.2 u] n
section
variable {P:VL} {w:VP} {A:VS} {E:Vw->Vz->Prop} {s:Vz}
theorem Jo{v u:Vw}{p q:Int×Str}{Q:Bool->Vz->Prop}(hv:gF s.heap v p)(hu:gF s.heap u q)(h:Q (aI p q) s):VC (VB P w) A (keyLt' (tuples' true) v u) Q E s:=by
 obtain⟨a,oa,na,t1,t2,rfl,ha,_,da⟩:=hv;obtain⟨b,ob,nb,t3,t4,rfl,hb,_,db⟩:=hu;refine kat_lt ha da hb db (kat_cons ((WV P w).eqBool (intKind_is _ _ _ _) (intKind_is _ _ _ _) (kat_go (λe1=>?_) λe1=>?_)))
 ·have e1:p.1=q.1:=by simpa using e1
  refine kat_yes (kat_cons ((PySem.strKind P w).eqBool (strKind_is _ _ _ _) (strKind_is _ _ _ _) (kat_go (λe2=>?_) λe2=>?_)))
  ·have e2:p.2=q.2:=by simpa using e2
   refine kat_yes (kat_nil ?_);have:aI p q=false:=by unfold aI;rw [e1,e2];simp
   rw [this] at h;simpa using h
  ·have e2:p.2≠q.2:=by simpa using e2
   refine kat_no (kat_one _ _ ?_);have:aI p q=decide (p.2.cps.toList < q.2.cps.toList):=by unfold aI;simp [e1]
   rw [this] at h;exact lt_str h
 ·have e1:p.1≠q.1:=by simpa using e1
  refine kat_no ?_;show VC _ _ (oneLt' true _ _) _ _ _;refine oneLt_int ?_;have:aI p q=decide (p.1 < q.1):=by unfold aI;simp [e1]
  rw [this] at h;exact h
theorem Bx{n:Nat}{kp:Nat->Int×Str}(hd:∀i j,i < n->j < n->kp i=kp j->i=j):gW n λi j=>aI (kp i) (kp j):=by
 have tl:∀a b:Str,a≠b->(decide (a.cps.toList < b.cps.toList))=!decide (b.cps.toList < a.cps.toList):=λa b h=>by
  by_cases z:a.cps.toList < b.cps.toList
  ·rw [decide_eq_true z,decide_eq_false (List.lt_asymm z)];rfl
  ·have z2:b.cps.toList<=a.cps.toList:=Ur.mp z;have:b.cps.toList < a.cps.toList:=by
    rcases Classical.em (b.cps.toList < a.cps.toList) with y | y
    ·exact y
    ·exact absurd (A0 (Ux (Ur.mp y) z2)) h
   rw [decide_eq_false z,decide_eq_true this];rfl
 refine⟨λi j hi hj hij=>?_,λi j k hi hj hk h1 h2=>?_⟩
 ·have hne:kp i≠kp j:=λe=>hij (hd i j hi hj e);unfold aI;by_cases e:(kp i).1=(kp j).1
  ·have e2:(kp i).2≠(kp j).2:=λz=>hne (Prod.ext e z);simp only [e,Int.lt_irrefl,decide_false,Ri,decide_true,P9];exact tl _ _ e2
  ·have e':(kp j).1≠(kp i).1:=λz=>e z.symm;simp only [e,e',decide_false,RE,QO];by_cases z:(kp i).1 < (kp j).1
   ·rw [decide_eq_true z,decide_eq_false Vq];rfl
   ·rw [decide_eq_false z,decide_eq_true Vq];rfl
 ·unfold aI at h1 h2⊢;simp only [PN,Oq,decide_eq_true_eq] at h1 h2⊢;rcases h1 with h1 | ⟨h1,h1'⟩ <;> rcases h2 with h2 | ⟨h2,h2'⟩
  ·left;omega
  ·left;omega
  ·left;omega
  ·right;exact⟨h1.trans h2,UW h1' h2'⟩
theorem By{ks:List Vw}{kp:Nat->Int×Str}(hk:∀i v,ks[i]?=some v->gF s.heap v (kp i))(h2:2<=ks.length){Q:SortKind->Vz->Prop}(h:Q (tuples' true) s):VC (VB P w) A (keyKind' ks.toArray) Q E s:=by
 have key:∀(ks:List Vw)(kp:Nat->Int×Str),(∀i v,ks[i]?=some v->gF s.heap v (kp i))->∃fs:List Vw,KatTups s.heap ks fs/\fs.length=ks.length/\∀v∈fs,∃n t,v=Pk n t:=by
  intro ks
  induction ks with
  | nil=>intro kp _;exact⟨[],KatTups.nil,rfl,Vu⟩
  | cons v ks ih=>
   intro kp hk;obtain⟨fs,a,b,c⟩:=ih (λi=>kp (i+1)) λi v e=>hk (i+1) v (by simpa using e);obtain⟨ad,o,n,t,u,rfl,h1,h2,h3⟩:=hk 0 v rfl;refine⟨.int (kp 0).1 t::fs,KatTups.cons h1 h2 h3 rfl a,by simp [b],λx hx=>?_⟩;rcases Ny.mp hx with rfl | hx
   ·exact⟨_,_,rfl⟩
   ·exact c x hx
 obtain⟨fs,a,b,c⟩:=key ks kp hk;refine kat_kind (T:= .type "int") a Vq (λv hv=>?_) Vp h;obtain⟨n,t,rfl⟩:=c v hv;exact .now
theorem Bz{n:Nat}{ks:List Vw}{kp:Nat->Int×Str}(hn:ks.length=n)(h2:2<=n)(hk:∀i v,ks[i]?=some v->gF s.heap v (kp i))(hd:∀i j,i < n->j < n->kp i=kp j->i=j){G:Array Nat->Vz->Prop}
 (q:∀p,bU n p->Up (λi j=>aI (kp i) (kp j)) p n->G p s):(kas_sort n).kasWp (kas_ask P w A (tuples' true) ks) G s:=by
 refine Jm (lt:=λi j=>aI (kp i) (kp j)) (I:=λs'=>s'=s) ⟨λi j C s' hi hj hij e c=>?_⟩ (Bx hd) h2 rfl λp s' e hp hu=>by subst e;exact q p hp hu
 subst e;have ei:ks[i]?=some (ks.getD i .none):=by simp [show i < ks.length by omega]
 have ej:ks[j]?=some (ks.getD j .none):=by simp [show j < ks.length by omega]
 exact Jo (hk i _ ei) (hk j _ ej) (c _ rfl)
def BA(kS D:Vy)(s:Vz)(out:List Vw)(C:Vz->Prop):Prop:=∀h' c,h'.get? D=some (VU "list" out.toArray c)->(∀b u,b≠kS->b≠D->s.heap.get? b=some u->h'.get? b=some u)->C {s with heap:=h'}
theorem BB{st:VO}{kS D:Vy}{ks out:List Vw}{e e1:Nat}{C:SJ->Vz->Prop}(hk:s.heap.get? kS=some (VU "list" ks.toArray e))(hD:s.heap.get? D=some (VU "list" #[] e1))(hne:kS≠D)(hf:Wo st=none)
 (ho:(VD st).map (·.2)=out.toArray)(h64:out.length < 64)(hk64:ks.length < 64)(q:BA kS D s out (C (.done (.ret .none)))):VC (VB P w) A (ksk_tail D false e1 (.ref kS) st) C E s:=by
 have hsl:VG=16777216:=V6;unfold ksk_tail;rw [ho];refine Vx (Wt hk rfl (Vx (wpAny_letGo ?_)) (by rw [NA];omega) (N9 _));have u1:=Oh s.heap kS (N6 λ_=>(#[]:Array Vw));have hD1:(s.heap.update kS (N6 λ_=>(#[]:Array Vw))).get? D=some (VU "list" #[] e1):=(u1.2 D (Ne.symm hne)).trans hD;refine Vx (W4 (s:={s with heap:=s.heap.update kS (N6 λ_=>(#[]:Array Vw))}) hD1 rfl ?_);rw [Vr Vu];refine Vx (Wt (s:={s with heap:=s.heap.update kS (N6 λ_=>(#[]:Array Vw))}) hD1 rfl ?_ (N9 _) (by show out.toArray.size<=_;rw [NA];omega));have u2:=Oh (s.heap.update kS (N6 λ_=>(#[]:Array Vw))) D (N6 λ_=>out.toArray);rw [hf];simp only [bne_self_eq_false,OO,if_false];exact VA (q _ _ (WG hD1 λ_=>out.toArray) λb u n1 n2 z=>(u2.2 b n2).trans ((u1.2 b n1).trans z))
theorem Jp{kS D:Vy}{vs ks:List Vw}{n e e1:Nat}{kp:Nat->Int×Str}{C:SJ->Vz->Prop}(hv:vs.length=n)(hn:ks.length=n)(h64:n < 64)(hks:s.heap.get? kS=some (VU "list" ks.toArray e))(hD:s.heap.get? D=some (VU "list" #[] e1))(hne:kS≠D)
 (hk:∀i v,ks[i]?=some v->gF s.heap v (kp i))(hd:∀i j,i < n->j < n->kp i=kp j->i=j)
 (q:∀p,bU n p->Up (λi j=>aI (kp i) (kp j)) p n->BA kS D s (p.toList.map λi=>vs.getD i .none) (C (.done (.ret .none)))):VC (VB P w) A (ksk_end D false vs.toArray e1 (.ref kS) ks.toArray) C E s:=by
 unfold ksk_end;have hz:vs.toArray.size=n:=by rw [NA];exact hv
 by_cases h2:n < 2
 ·simp only [OO,if_false,hz,h2,if_true];refine Vx (VA (Vx (VA ?_)));refine BB hks hD hne rfl (out:=vs) ?_ Vq Vq ?_
  ·show(ks.toArray.zip vs.toArray).map (·.2)=vs.toArray;apply QK.mp;simp only [Uy,Uz];rw [UA Vq]
  ·have:=q _ (ve n) (λi j a b=>by omega);have e:((T1 (OA n)).toList.map λi=>vs.getD i PH)=vs:=by
    apply PX (by simp [hv]);intro i a b;simp at a b⊢;rw [NN b];rfl
   rw [e] at this;exact this
 ·simp only [OO,if_false,hz,h2];refine Vx (By hk Vq ?_);have hl:ks.length=vs.length:=Vq
  refine Vx (V3 (kat_run (κ:=tuples' true) (E:=λ_ _=>False) (Q:=λst' s'=>s'=s/\∃p,bU n p/\Up (λi j=>aI (kp i) (kp j)) p n/\VD st'=p.map (kas_item (ks.toArray.zip vs.toArray))/\Wo st'=none) (G:=λp s'=>s'=s/\bU n p/\Up (λi j=>aI (kp i) (kp j)) p n) hl Vq Vq
   (λp st' s' a b c d=>⟨d.1,p,d.2.1,d.2.2,b,c⟩) ?_) (λr s' hr=>?_) λ_ _ x=>x.elim)
  ·rw [hv];exact Bz hn Vq hk hd λp a b=>⟨rfl,a,b⟩
  ·obtain⟨rfl,p,p1,p2,p3,p4⟩:=hr;refine BB hks hD hne p4 (kat_snds hl p3) ?_ Vq (q p p1 p2);rw [Nj,Nu,p1.size];exact h64
end
section
variable {X:Cx} {Xw:List (Vy×Obj)} {σ:St} {H:Hp} {s:Vz}
theorem af.track{o:HO}{D:Vy}{ch:List Vy}{t':Nat}{h':VQ}(I:af X Xw σ H s)(hD:D∈ch)(f:∀b∈ch,fU X Xw H b)(k:∀b u,b ∉ ch->s.heap.get? b=some u->h'.get? b=some u)(new:bV X.prog X.w (ak H D o) h' D o):af X Xw σ (ak H D o) {s with heap:=h',toks:=t'}:=by
 have nC:∀b u,H b=some u->b ∉ ch:=λb u e z=>by rw [(f b z).1] at e;cases e
 have nD:∀b u,H b=some u->b≠D:=λb u e z=>nC b u e (by rw [z];exact hD);refine I.step (g':=s.gens) (d':=s.drawn) (ch:=ch) (λb hb=>?_) (λb o _ _ hc e _=>k b o hc e) (λb o _ _ hc e _=>⟨o.slots,k b o hc e⟩) (λb o hc _ n=>by rw [aE (λz=>hc (by rw [z];exact hD))];exact n)
  (λb o hc e=>⟨o,k b o hc e⟩) (λb xs e=>by rw [aE (nD _ _ e)];exact e) (λb u xs e=>by rw [aE (nD _ _ e)];exact e) (λb ps e=>⟨#[],by rw [aE (nD _ _ e),e];simp⟩) (λm hm=>hm.at' λo e=>k _ o (λz=>(f _ z).2.1 rfl) e) (λb u e=>?_) I.bare
 ·obtain⟨f0,f1,f2,f3,f4,f5⟩:=f b hb;exact⟨f3,f1,f4,f5⟩
 ·by_cases hb:b=D
  ·subst hb;rw [aW] at e;cases e;exact new
  ·rw [aE hb] at e;refine(I.hok b u e).stay (λc v hc q=>k c v (λz=>?_) q) (λc q=>by rw [aE (nD _ _ q)];exact q) (λc xs q=>by rw [aE (nD _ _ q)];exact q);rcases hc with r | r
   ·subst r;exact nC _ _ e z
   ·exact nC _ _ r z
theorem Jq{k:Nat}{f:Vy}{fd:VN}{ps:List Str}{sp:Sp}{v:V}{u:Vw}{Q:VK}(Fk:aH X.prog X.w X.K X.mg X.base CX0 k f fd ps sp)(hr:bx k X.A.in1.in1)(hb:eX X.K fd ps [])(I:af X Xw σ H s)(r:aD v u)(h:sp [v] H Q E0):
 VC (VB X.prog X.w) X.A.in1.in1 (call (.ref f) [u]) (EP X Xw σ Q) (λ_ _=>False) s:=by
 have r2:aC [v] [u]:= .cons r .nil;have hl:([u]++[]).length=ps.length:=by
  have:=Fk.len _ _ _ _ h;simpa using this
 have hb2:=hb s [u] I.kIn hl;rw [N4] at hb2;refine wpAny_call (Wx (Fk.run X.A.in1.in1 X.stack s H ⟨[u],[]⟩ [u] [v] Q E0 hr I.env0.in1.in1 hb2 r2 h) λr s' hq=>?_);cases r with
 | error e=>exact hq.elim
 | ok fl=>
  cases fl with
  | ret u=>exact I.after hq
  | next=>exact O3 hq
  | brk=>exact O3 hq
  | cont=>exact O3 hq
def i7(X:Cx)(Xw:List (Vy×Obj))(b:Vy):Prop:=b≠X.env.locals/\b ∉ X.fs/\(b∈X.ex\/X.s₀.heap.objs.size<=b)/\(∀x c,X.env.cells.lookup x=some c->c≠b)/\∀p∈X.pn++Xw,p.1≠b
theorem af.out(I:af X Xw σ H s){b:Vy}(hb:s.heap.objs.size<=b):i7 X Xw b:=(I.fpOk (H':=H) hb (I.hok.fresh hb)).2
structure i8 (X:Cx) (Xw:List (Vy×Obj)) (σ:St) (H:Hp) (O:Ex) (kS D:Vy) (e1:Nat) (kds:List Vv) (ks:List Vw) (s:Vz):Prop where
 ex:∃H' kvs e,af X (Xw++[(kS,VU "list" ks.toArray e),(D,VU "list" #[] e1)]) σ H' s/\ao H H'/\aj X.K H' O kvs kds/\aC kvs ks
theorem i8.push{O:Ex}{kS D:Vy}{e1:Nat}{kds:List Vv}{ks:List Vw}{H':Hp}{kvs:List V}{e:Nat}{h':VQ}{kv:V}{kd:Vv}{k:Vw}(oS:i7 X Xw kS)(oD:i7 X Xw D)(hne:kS≠D)
 (I:af X (Xw++[(kS,VU "list" ks.toArray e),(D,VU "list" #[] e1)]) σ H' s)(hs:ao H H')(hk:aj X.K H' O kvs kds)(hv:aC kvs ks)(k1:Dt X.K H' O kv kd)(k2:aD kv k)
 (hu:∃e',h'.get? kS=some (VU "list" (ks++[k]).toArray e'))(kept:∀b u,b≠kS->s.heap.get? b=some u->h'.get? b=some u):i8 X Xw σ H O kS D e1 (kds++[kd]) (ks++[k]) {s with heap:=h'}:=by
 obtain⟨e',hu⟩:=hu;have pS:=I.pin (kS,VU "list" ks.toArray e) Vu;have pD:=I.pin (D,VU "list" #[] e1) Vu;have I1:af X Xw σ H' s:=I.pins_of λp hp=>I.pin p (by simp only [NQ] at hp⊢;exact .inr (.inl hp));have I2:af X Xw σ H' {s with heap:=h'}:=I1.turned (t':=s.toks) (it:=kS) kept pS.2.1 oS.1 oS.2.2.1 oS.2.2.2.1 oS.2.2.2.2;refine⟨H',kvs++[kv],e',I2.pins_of λp hp=>?_,hs,hk.append (.cons k1 .nil),hv.append (.cons k2 .nil)⟩;rcases NQ.mp hp with z | z
 ·exact I2.pin p (Ol _ z)
 ·simp only [Ny,Oe,or_false] at z;rcases z with rfl | rfl
  ·exact⟨hu,pS.2.1,oS.1,oS.2.1,λv z=>by cases z⟩
  ·exact⟨kept _ _ (Ne.symm hne) pD.1,pD.2.1,oD.1,oD.2.1,λv z=>by cases z⟩
theorem BC{k:Nat}{f:Vy}{fd:VN}{ps:List Str}{F:List Vv->(Vv->Prop)->Prop}{O:Ex}{kS D:Vy}{e1:Nat}{kd:Vv->Vv}(Fk:aH X.prog X.w X.K X.mg X.base CX0 k f fd ps (aX X.K F))(hr:bx k X.A.in1.in1)(hb:eX X.K fd ps [])(trk:∀l,O l->H l≠none)
 (oS:i7 X Xw kS)(oD:i7 X Xw D)(hne:kS≠D){body:Vw->PUnit->Sem (ForInStep PUnit)}{E:Vw->Vz->Prop}
 (hbo:∀(x:Vw) (s:Vz) (Q':Vz->Prop),VC (VB X.prog X.w) X.A.in1.in1 (call (.ref f) [x]) (λk s'=>VC (VB X.prog X.w) X.A.in1.in1 (Ra (.ref kS) (·.push k)) (λ_ s''=>Q' s'') (λ_ _=>False) s') (λ_ _=>False) s->VC (VB X.prog X.w) X.A.in1.in1 (body x ⟨⟩) (λr s'=>r= .yield ⟨⟩/\Q' s') E s):
 ∀(r:List Vw)(xr:List V)(dr:List Vv)(kds:List Vv)(ks:List Vw)(s:Vz)(Q:Vz->Prop),aC xr r->aj X.K H O xr dr->(∀d∈dr,∀R:Vv->Prop,R (kd d)->F [d] R)->i8 X Xw σ H O kS D e1 kds ks s->ks.length+r.length < 64->
  (∀ks' s',i8 X Xw σ H O kS D e1 (kds++dr.map kd) ks' s'->ks'.length=ks.length+r.length->Q s')->VC (VB X.prog X.w) X.A.in1.in1 (forIn r PUnit.unit body) (λ_ s'=>Q s') E s
 | [],xr,dr,kds,ks,s,Q,hv,hd,hF,M,hl,q=>by
  cases hv;cases hd;rw [UN];exact VA (q ks s (by rw [OD,N4];exact M) Vu)
 | x::r,xr,dr,kds,ks,s,Q,hv,hd,hF,M,hl,q=>by
  cases hv with
  | @cons v _ xr _ h1 h2=>
   cases hd with
   | @cons _ d _ dr g1 g2=>
    rw [UD];rw [NF] at hl;obtain⟨H',kvs,e,I,hs,hk,hvk⟩:=M.ex;refine Vx (V3 (hbo x s (λs'=>∃k,i8 X Xw σ H O kS D e1 (kds++[kd d]) (ks++[k]) s') (V3 (Jq (Q:=λv2 H2=>ao H' H2/\Dt X.K H2 O v2 (kd d)) Fk hr hb I h1 ⟨O,[d],λy=>y=kd d,λl z e=>trk l z (by
     cases q:H l with
     | none=>rfl
     | some u=>rw [hs _ _ q] at e;cases e),.cons (g1.mono hs) .nil,hF d Vu _ rfl,λy v2 H2 e s2 r2=>by subst e;exact⟨s2,r2⟩⟩) (λkk s' hq=>?_) λ_ _ z=>z)) (λr' s' hq=>?_) λ_ _ z=>z)
    ·obtain⟨kv,H2,I2,rk,s2,dk⟩:=hq;have pS:=I2.pin (kS,VU "list" ks.toArray e) Vu;refine Wt pS.1 rfl ⟨kk,?_⟩ (by rw [NA];have:VG=16777216:=V6;omega) (by rw [Array.size_push,NA];have:VG=16777216:=V6;omega);have u1:=Oh s'.heap kS (N6 (·.push kk));have gk:=WG pS.1 (·.push kk);rw [show ks.toArray.push kk=(ks++[kk]).toArray by simp] at gk;exact i8.push oS oD hne I2 (hs.trans s2) (hk.mono s2) hvk dk rk ⟨_,gk⟩ λb u n z=>(u1.2 b n).trans z
    ·obtain⟨rfl,kk,M'⟩:=hq;refine BC Fk hr hb trk oS oD hne hbo r xr dr (kds++[kd d]) (ks++[kk]) s' Q h2 g2 (λy hy=>hF y (by simp [hy])) M' (by simp;omega) λks' s2 M2 l2=>q ks' s2 ?_ (by rw [l2];simp;omega);rw [Nq,<-List.singleton_append,<-Ph];exact M2
def cg(p:Int×Str):Vv:= .tuple [.int p.1,.str p.2]
theorem vh{h:V}{u:Vw}{O:Ex}{p:Int×Str}(I:af X Xw σ H s)(d:Dt X.K H O h (cg p))(r:aD h u):gF s.heap u p:=by
 obtain⟨a,xs,rfl,hq,hd⟩:=(Sh.dt d).tup;cases r;obtain⟨its,rv,⟨o,e,c,n,dd⟩,_⟩:=I.tuple hq;cases hd with
 | cons g1 g2=>
  cases g2 with
  | cons g2 g3=>
   cases g3;cases g1;cases g2;cases rv with
   | cons r1 r2=>
    cases r2 with
    | cons r2 r3=>
     cases r3;obtain⟨t,rfl⟩:=r1;obtain⟨u,rfl⟩:=r2;exact⟨a,o,n,t,u,rfl,e,c,dd⟩
theorem mL{K:Nh}{H:Hp}{O:Ex}:∀{xs:List V}{ds:List Vv}{i:Nat}{d:Vv},aj K H O xs ds->ds[i]?=some d->∃x,xs[i]?=some x/\Dt K H O x d
 | _,_,0,d,.cons h r,e=>by simp at e;subst e;exact⟨_,rfl,h⟩
 | _,_,i+1,d,.cons h r,e=>by simp only [OZ] at e⊢;exact mL r e
theorem qA{xs:List V}{us:List Vw}:∀{i:Nat}{u:Vw},aC xs us->us[i]?=some u->∃x,xs[i]?=some x/\aD x u:=by
 intro i u h e;have hl:=h.length;have hi:i < us.length:=(Nz.mp e).1;obtain⟨u',e',r⟩:=h.get (show xs[i]?=some (xs[i]'Vq) by simp);rw [e] at e';cases e';exact⟨_,Vu,r⟩
theorem Jr{O:Ex}{kS D:Vy}{e1:Nat}{kps:List (Int×Str)}{ks:List Vw}(M:i8 X Xw σ H O kS D e1 (kps.map cg) ks s):(∀i v,ks[i]?=some v->gF s.heap v (kps.getD i (0,Ng "")))/\ks.length=kps.length:=by
 obtain⟨H',kvs,e,I,hs,hk,hv⟩:=M.ex;have hl:ks.length=kps.length:=by rw [<-hv.length,hk.length,Nj]
 refine⟨λi v ei=>?_,hl⟩;have hi:i < kps.length:=by rw [<-hl];exact(Nz.mp ei).1
 obtain⟨x,ex,rx⟩:=qA hv ei;obtain⟨y,ey,dy⟩:=mL (i:=i) (d:=cg kps[i]) hk (by rw [NK,NN hi];rfl);rw [ex] at ey;cases ey;have:kps.getD i (0,Ng "")=kps[i]:=by simp [hi]
 rw [this];exact vh I dy rx
theorem Js{k:Nat}{f:Vy}{fd:VN}{ps:List Str}{F:List Vv->(Vv->Prop)->Prop}{O:Ex}{D:Vy}{n0:Nat}{kf:Vv->Int×Str}{vs:List Vw}{xs:List V}{ds:List Vv}{Q:V->Hp->Prop}{C:SJ->Vz->Prop}{E:Vw->Vz->Prop}
 (Fk:aH X.prog X.w X.K X.mg X.base CX0 k f fd ps (aX X.K F))(hr:bx k X.A.in1.in1)(hb:eX X.K fd ps [])(trk:∀l,O l->H l≠none)(I:af X Xw σ H s)(oD:i7 X Xw D)(hHD:H D=none)(hD:s.heap.get? D=some (VU "list" vs.toArray n0))
 (hv:aC xs vs)(hd:aj X.K H O xs ds)(hF:∀d∈ds,∀R:Vv->Prop,R (cg (kf d))->F [d] R)(h64:ds.length < 64)(nd:(ds.map kf).Nodup)
 (q:∀(H':Hp) (xs':List V) (ds':List Vv),ao H H'->H' D=none->aj X.K H' O xs' ds'->ds'.Perm ds->ds'.Pairwise (λa b=>aI (kf a) (kf b)=true)->Q (.ref D) (ak H' D (.lst xs')))
 (fin:∀s',EP X Xw σ Q (.ref D) s'->C (.done (.ret .none)) s'):VC (VB X.prog X.w) X.A.in1.in1 (ksk_tree D (.ref f) false) C E s:=by
 have hsl:VG=16777216:=V6;have lv:vs.length=ds.length:=by rw [<-hv.length,hd.length]
 have lD:D < s.heap.objs.size:=NB hD;unfold ksk_tree;refine Vx (listItems_at hD rfl (Vx (Wt hD rfl ?_ (by rw [NA];omega) (N9 _))));have u1:=Oh s.heap D (N6 λ_=>(#[]:Array Vw));have g1:=WG hD λ_=>(#[]:Array Vw);have I1:af X Xw σ H {s with heap:=s.heap.update D (N6 λ_=>(#[]:Array Vw))}:=I.turned (t':=s.toks) (it:=D) (λb u n z=>(u1.2 b n).trans z) hHD oD.1 oD.2.2.1 oD.2.2.2.1 oD.2.2.2.2;generalize s.heap.update D (N6 λ_=>(#[]:Array Vw))=h1 at*;generalize (if (#[]:Array Vw).size==vs.toArray.size then n0 else n0+1)=e1 at*;refine Vx (W4 (s:={s with heap:=h1}) g1 rfl ?_);refine Vx (wpAny_newTuple ?_ (by show vs.length<=_;omega));have I2:af X Xw σ H {s with heap:=h1.push {cls:= .type "tuple",data:= .seq vs.toArray}}:=I1.kept (t':=s.toks) λb u z=>Nm _ z;have g2:(h1.push {cls:= .type "tuple",data:= .seq vs.toArray}).get? D=some (VU "list" #[] e1):=Nm _ g1;show VC _ _ _ _ _ {s with heap:=h1.push {cls:= .type "tuple",data:= .seq vs.toArray}};generalize h1.push {cls:= .type "tuple",data:= .seq vs.toArray}=h2 at*;refine Vx (WA (s:={s with heap:=h2}) ?_ (N9 _));have oS:i7 X Xw h2.objs.size:=I2.out (Np _);have hne:h2.objs.size≠D:=QZ (NB g2);have I3:af X Xw σ H {s with heap:=h2.push (VU "list" #[] 0)}:=I2.kept (t':=s.toks) λb u z=>Nm _ z;have hS0:H h2.objs.size=none:=I2.hok.fresh (Np _);have M0:i8 X Xw σ H O h2.objs.size D e1 [] [] {s with heap:=h2.push (VU "list" #[] 0)}:=by
  refine⟨H,[],0,I3.pins_of λp hp=>?_,ao.refl _,.nil,.nil⟩;rcases NQ.mp hp with z | z
  ·exact I3.pin p (Ol _ z)
  ·simp only [Ny,Oe,or_false] at z;rcases z with rfl | rfl
   ·exact⟨NH _ rfl,hS0,oS.1,oS.2.1,λv z=>by cases z⟩
   ·exact⟨Nm _ g2,hHD,oD.1,oD.2.1,λv z=>by cases z⟩
 refine VY ?_;unfold ksk_rest;refine Vx (Wi ?_);rw [List.forIn_toArray];refine Vx (BC (kd:=λd=>cg (kf d)) (E:=E) Fk hr hb trk oS oD hne (λx s' Q' hx=>?_) vs xs ds [] [] _ _ hv hd hF M0 (by simp;omega) λks s' M hkl=>?_)
 ·refine Vx (WO (V3 hx (λkk s2 hk=>?_) λ_ _ z=>z.elim));exact Vx (V3 hk (λ_ s3 z=>VA ⟨rfl,z⟩) λ_ _ z=>z.elim)
 ·rw [O8,<-Function.comp_def,<-NO] at M;obtain⟨hk,hkn⟩:=Jr M;rw [Nj] at hkn;obtain⟨H',kvs,e,I4,hs,_,_⟩:=M.ex;have pS:=I4.pin (h2.objs.size,VU "list" ks.toArray e) Vu;have pD:=I4.pin (D,VU "list" #[] e1) Vu;have I5:af X Xw σ H' s':=I4.pins_of λp hp=>I4.pin p (by simp only [NQ] at hp⊢;exact .inr (.inl hp));refine Vx (listItems_at pS.1 rfl ?_);refine Jp (n:=ds.length) (kp:=λi=>(ds.map kf).getD i (0,Ng "")) lv hkn h64 pS.1 pD.1 hne hk (λi j hi hj ee=>?_) λp pp pu h' c gD kept=>?_
  ·have e1':(ds.map kf).getD i (0,Ng "")=(ds.map kf)[i]'(by simpa using hi):=by simp [hi]
   have e2':(ds.map kf).getD j (0,Ng "")=(ds.map kf)[j]'(by simpa using hj):=by simp [hj]
   rw [e1',e2'] at ee;exact(QH nd).mp ee
  ·refine fin _ ⟨.ref D,ak H' D (.lst (p.toList.map λi=>xs.getD i .non)),?_,rfl,q H' _ (p.toList.map λi=>ds.getD i .none) hs pD.2.1 ?_ ?_ ?_⟩
   ·refine I5.track (t':=s'.toks) (ch:=[h2.objs.size,D]) Vu (λb hb=>?_) (λb u hb z=>kept b u (λy=>hb (by simp [y])) (λy=>hb (by simp [y])) z) ⟨?_,_,c,?_,gD⟩
    ·simp only [Ny,Oe,or_false] at hb;rcases hb with rfl | rfl
     ·exact⟨pS.2.1,oS⟩
     ·exact⟨pD.2.1,oD⟩
    ·rw [Nj,Nu,pp.size];omega
    ·have:∀l:List Nat,(∀i∈l,i < ds.length)->aC (l.map λi=>xs.getD i .non) (l.map λi=>vs.getD i .none):=by
      intro l
      induction l with
      | nil=>intro _;exact .nil
      | cons a l ih=>
       intro hl;have ha:=hl a Vu;refine .cons ?_ (ih λi hi=>hl i (by simp [hi]));obtain⟨x,ex,rx⟩:=qA hv (show vs[a]?=some (vs[a]'Vq) by simp);have e1':xs.getD a .non=x:=by simp [ex]
       have e2':vs.getD a .none=vs[a]'Vq:=by simp [show a < vs.length by omega]
       show aD (xs.getD a .non) (vs.getD a .none);rw [e1',e2'];exact rx
     exact this _ λi hi=>by simpa using pp.perm.mem_iff.mp hi
   ·have:∀l:List Nat,(∀i∈l,i < ds.length)->aj X.K H' O (l.map λi=>xs.getD i .non) (l.map λi=>ds.getD i .none):=by
     intro l
     induction l with
     | nil=>intro _;exact .nil
     | cons a l ih=>
      intro hl;have ha:=hl a Vu;refine .cons ?_ (ih λi hi=>hl i (by simp [hi]));obtain⟨x,ex,dx⟩:=mL (i:=a) (d:=ds[a]) hd (by simp [ha]);have e1':xs.getD a .non=x:=by simp [ex]
      have e2':ds.getD a .none=ds[a]:=by simp [ha]
      show Dt X.K H' O (xs.getD a .non) (ds.getD a .none);rw [e1',e2'];exact dx.mono hs
    exact this _ λi hi=>by simpa using pp.perm.mem_iff.mp hi
   ·have h1:=pp.perm.map λi=>ds.getD i .none;have e:(OA ds.length).map (λi=>ds.getD i Qx)=ds:=by
     apply PX Vu;intro i a b;simp at a b⊢;rw [NN b];rfl
    rw [e] at h1;exact h1
   ·rw [Oj,OF];intro i j hi hj hij;have:=pu i j hij (by rw [Nu,pp.size] at hj;exact hj);have ei:p.getD i 0=p.toList[i]:=by simp [Qf,show i < p.size by simpa using hi]
    have ej:p.getD j 0=p.toList[j]:=by simp [Qf,show j < p.size by simpa using hj]
    rw [ei,ej] at this;have li:p.toList[i] < ds.length:=by simpa using pp.perm.mem_iff.mp (OP hi)
    have lj:p.toList[j] < ds.length:=by simpa using pp.perm.mem_iff.mp (OP hj)
    have ff:∀a,a < ds.length->(ds.map kf).getD a (0,Ng "")=kf (ds.getD a .none):=λa ha=>by simp [ha]
    dsimp only at this;rw [ff _ li,ff _ lj] at this;exact this
theorem Jt{k:Nat}{f l:Vy}{fd:VN}{ps:List Str}{F:List Vv->(Vv->Prop)->Prop}{O:Ex}{kf:Vv->Int×Str}{xs:List V}{ds:List Vv}{Q:VK}
 (hc:X.calm=true)(Fk:aH X.prog X.w X.K X.mg X.base CX0 k f fd ps (aX X.K F))(hr:bx k X.A.in1.in1)(hb:eX X.K fd ps [])(trk:∀l,O l->H l≠none)(I:af X Xw σ H s)(hq:aL X.K H l xs)
 (hd:aj X.K H O xs ds)(hF:∀d∈ds,∀R:Vv->Prop,R (cg (kf d))->F [d] R)(h64:ds.length < 64)(nd:(ds.map kf).Nodup)
 (q:∀(H':Hp) (p:Vy) (xs':List V) (ds':List Vv),ao H H'->H' p=none->aj X.K H' O xs' ds'->ds'.Perm ds->ds'.Pairwise (λa b=>aI (kf a) (kf b)=true)->Q (.ref p) (ak H' p (.lst xs'))):
 VC (VB X.prog X.w) X.A (call (.builtin "sorted") [.ref l] [(Ng "key",.ref f)]) (EP X Xw σ Q) X.xe s:=by
 have hsl:VG=16777216:=V6;obtain⟨vs,hv,pl,hz⟩:=I.list hq;have lv:vs.length=ds.length:=by rw [<-hv.length,hd.length]
 refine call_function_entry_kw kind_sorted plain_sorted entry_sorted (ksk_s1 _ _) ?_;unfold Builtin.«sorted»;refine Vx (m:=checkCount "sorted" 1 1 _) (VA ?_);refine Vx (collect_list pl.isList ?_ Vq);have I1:af X Xw σ H {s with heap:=(s.heap.push (VU "list" #[] 0)).update s.heap.objs.size (N6 (·++vs.toArray))}:=by
  refine I.kept (t':=s.toks) λb u z=>?_;have hlt:b < s.heap.objs.size:=NB z;exact(Tx _ _ _ _ (NL hlt)).trans (Nm _ z)
 generalize (s.heap.push (VU "list" #[] 0)).update s.heap.objs.size (N6 (·++vs.toArray))=h1 at*;refine Vx (WA (s:={s with heap:=h1}) ?_ Vq);have I2:af X Xw σ H {s with heap:=h1.push (VU "list" vs.toArray 0)}:=I1.kept (t':=s.toks) λb u z=>Nm _ z;have gD:(h1.push (VU "list" vs.toArray 0)).get? h1.objs.size=some (VU "list" vs.toArray 0):=NH _ rfl;refine Vx (VY (wpAny_call_entry_kw Xi ⟨_,gD,rfl⟩ Xg ?_ (ksk_l1 _ _)));rw [ksk_t1];refine Js (kf:=kf) Fk hr hb trk I2 (I1.out (Np _)) (I1.hok.fresh (Np _)) gD hv hd hF h64 nd (Q:=Q) (λH' xs' ds' a b c d e=>q H' _ xs' ds' a b c d e) λs' hs'=>?_;exact⟨_,rfl,VA ⟨_,rfl,hs'⟩⟩
end
section
variable {P:VL} {w:VP} {A:VS} {E:Vw->Vz->Prop} {s:Vz}
theorem Ju{D:Vy}{vs:List Vw}{n n0:Nat}{kp:Nat->Int×Str}{C:SJ->Vz->Prop}(hv:vs.length=n)(h64:n < 64)(hD:s.heap.get? D=some (VU "list" vs.toArray n0))(hk:∀i v,vs[i]?=some v->gF s.heap v (kp i)/\v≠ .ref D)(hd:∀i j,i < n->j < n->kp i=kp j->i=j)
 (q:∀p,bU n p->Up (λi j=>aI (kp i) (kp j)) p n->∀h' c,h'.get? D=some (VU "list" (p.toList.map λi=>vs.getD i .none).toArray c)->(∀b u,b≠D->s.heap.get? b=some u->h'.get? b=some u)->C (.done (.ret .none)) {s with heap:=h'}):
 VC (VB P w) A (Builtin.«list.sort» ⟨[.ref D],[]⟩) C E s:=by
 have hsl:VG=16777216:=V6;rw [list_sort_plain];refine Vx (listItems_at hD rfl (Vx (Wt hD rfl ?_ (by rw [NA];omega) (N9 _))));have u1:=Oh s.heap D (N6 λ_=>(#[]:Array Vw));have g1:=WG hD λ_=>(#[]:Array Vw);have k1:∀b u,b≠D->s.heap.get? b=some u->(s.heap.update D (N6 λ_=>(#[]:Array Vw))).get? b=some u:=λb u n z=>(u1.2 b n).trans z;generalize s.heap.update D (N6 λ_=>(#[]:Array Vw))=h1 at*;generalize (if (#[]:Array Vw).size==vs.toArray.size then n0 else n0+1)=e1 at*;refine Vx (W4 (s:={s with heap:=h1}) g1 rfl ?_);refine Vx (wpAny_newTuple ?_ (by show vs.length<=_;omega));refine Vx (WA ?_ (N9 _));have g2:((h1.push {cls:= .type "tuple",data:= .seq vs.toArray}).push {cls:= .type "list",data:= .seq ([]:List Vw).toArray}).get? D=some (VU "list" #[] e1):=Nm _ (Nm _ g1);have k2:∀b u,b≠D->s.heap.get? b=some u->((h1.push {cls:= .type "tuple",data:= .seq vs.toArray}).push {cls:= .type "list",data:= .seq ([]:List Vw).toArray}).get? b=some u:=λb u n z=>Nm _ (Nm _ (k1 b u n z));show VC _ _ _ _ _ {s with heap:=(h1.push {cls:= .type "tuple",data:= .seq vs.toArray}).push {cls:= .type "list",data:= .seq ([]:List Vw).toArray}};generalize (h1.push {cls:= .type "tuple",data:= .seq vs.toArray}).push {cls:= .type "list",data:= .seq ([]:List Vw).toArray}=h2 at*;refine VY ?_;have hz:vs.toArray.size=n:=by rw [NA];exact hv
 have last:∀(st:VO)(p:Array Nat),bU n p->Up (λi j=>aI (kp i) (kp j)) p n->Wo st=none->(VD st).map (·.2)=(p.toList.map λi=>vs.getD i .none).toArray->
  VC (VB P w) A (do
   let touched:=(<-seqEpoch D) !=e1
   Ra (.ref D) λ_=>(VD st).map (·.2)
   if let some e:=Wo st then rule "list.sort.comparison-raised";throw e
   if touched then rule "list.sort.modified";raiseError "ValueError" "list modified during sort"
   ret .none) C E {s with heap:=h2}:=by
  intro st p p1 p2 hf ho;rw [ho,hf];refine Vx (W4 (s:={s with heap:=h2}) g2 rfl ?_);refine Vx (Wt (s:={s with heap:=h2}) g2 rfl ?_ (N9 _) (by rw [NA,Nj,Nu,p1.size];omega));simp only [bne_self_eq_false,OO,if_false];have u3:=Oh h2 D (N6 λ_=>(p.toList.map λi=>vs.getD i PH).toArray);exact VA (q p p1 p2 _ _ (WG g2 λ_=>(p.toList.map λi=>vs.getD i PH).toArray) λb u n z=>(u3.2 b n).trans (k2 b u n z))
 by_cases h2':n < 2
 ·simp only [hz,h2',if_true];refine Vx (VA (Vx (VA ?_)));refine last _ (T1 (OA n)) (ve n) (λi j a b=>by omega) rfl ?_;show(vs.toArray.zip vs.toArray).map (·.2)=_;apply QK.mp;simp only [Uy,Uz];rw [UA Vq];apply PX (by simp [hv]);intro i a b;simp at a b⊢;rw [NN a];rfl
 ·simp only [hz,h2',if_false];have hk2:∀i v,vs[i]?=some v->gF h2 v (kp i):=λi v e=>by
   obtain⟨⟨a,o,m,t,u,rfl,x1,x2,x3⟩,ne⟩:=hk i v e;exact⟨a,o,m,t,u,rfl,k2 a o (λz=>ne (by rw [z])) x1,x2,x3⟩
  refine Vx (By (s:={s with heap:=h2}) hk2 Vq ?_);refine Vx (V3 (kat_run (κ:=tuples' true) (ks:=vs) (s:={s with heap:=h2}) (E:=λ_ _=>False) (Q:=λst' s'=>s'={s with heap:=h2}/\∃p,bU n p/\Up (λi j=>aI (kp i) (kp j)) p n/\VD st'=p.map (kas_item (vs.toArray.zip vs.toArray))/\Wo st'=none) (G:=λp s'=>s'={s with heap:=h2}/\bU n p/\Up (λi j=>aI (kp i) (kp j)) p n) rfl Vq Vq
   (λp st' s' a b c d=>⟨d.1,p,d.2.1,d.2.2,b,c⟩) ?_) (λr s' hr=>?_) λ_ _ x=>x.elim)
  ·rw [hv];exact Bz (s:={s with heap:=h2}) hv Vq hk2 hd λp a b=>⟨rfl,a,b⟩
  ·obtain⟨rfl,p,p1,p2,p3,p4⟩:=hr;exact last _ p p1 p2 p4 (kat_snds rfl p3)
end
theorem Jv{X:Cx}:cD X (.builtin "sorted") (λxs H Q=>∃(p:Vy)(us:List V)(O:Ex)(ps:List (Int×Str)),xs=[.ref p]/\aL X.K H p us/\aj X.K H O us (ps.map cg)/\ps.length < 64/\ps.Nodup/\∀(l:Vy)(us':List V)(ps':List (Int×Str)),H l=none->aj X.K H O us' (ps'.map cg)->ps'.Perm ps->ps'.Pairwise (λa b=>aI a b=true)->Q (.ref l) (ak H l (.lst us'))):=by
 intro Xw s σ H xs ws Q I r h;obtain⟨l,us,O,ps,rfl,hq,hd,h64,nd,q⟩:=h;obtain⟨u,rfl,rx⟩:=cH r;cases rx;have hsl:VG=16777216:=V6;obtain⟨vs,hv,pl,hz⟩:=I.list hq;have lv:vs.length=ps.length:=by rw [<-hv.length,hd.length,Nj]
 refine QW kind_sorted plain_sorted entry_sorted (args_sorted1 _) ?_;unfold Builtin.«sorted»;refine Vx (m:=checkCount "sorted" 1 1 _) (VA ?_);refine Vx (collect_list pl.isList ?_ Vq);have I1:af X Xw σ H {s with heap:=(s.heap.push (VU "list" #[] 0)).update s.heap.objs.size (N6 (·++vs.toArray))}:=by
  refine I.kept (t':=s.toks) λb u z=>?_;have hlt:b < s.heap.objs.size:=NB z;exact(Tx _ _ _ _ (NL hlt)).trans (Nm _ z)
 generalize (s.heap.push (VU "list" #[] 0)).update s.heap.objs.size (N6 (·++vs.toArray))=h1 at*;refine Vx (WA (s:={s with heap:=h1}) ?_ Vq);have I2:af X Xw σ H {s with heap:=h1.push (VU "list" vs.toArray 0)}:=I1.kept (t':=s.toks) λb u z=>Nm _ z;have gD:(h1.push (VU "list" vs.toArray 0)).get? h1.objs.size=some (VU "list" vs.toArray 0):=NH _ rfl;have hH:H h1.objs.size=none:=I1.hok.fresh (Np _);have oD:i7 X Xw h1.objs.size:=I1.out (Np _);have isp:∀i v,vs[i]?=some v->gF (h1.push (VU "list" vs.toArray 0)) v (ps.getD i (0,Ng ""))/\v≠ .ref h1.objs.size:=λi v ei=>by
  have hi:i < ps.length:=by rw [<-lv];exact(Nz.mp ei).1
  obtain⟨x,ex,rx⟩:=qA hv ei;obtain⟨y,ey,dy⟩:=mL (i:=i) (d:=cg ps[i]) hd (by rw [NK,NN hi];rfl);rw [ex] at ey;cases ey;have e:ps.getD i (0,Ng "")=ps[i]:=by simp [hi]
  rw [e];have a:=vh I1 dy rx;refine⟨vh I2 dy rx,λz=>?_⟩;obtain⟨ad,o,m,t,u,e1,e2,_⟩:=a;rw [e1] at z;cases z;exact absurd (NB e2) (P7 _)
 refine Vx (VY (V7 Xi ⟨_,gD,rfl⟩ Xg ?_ (args_list_sort _)));refine Ju (s:={s with heap:=h1.push (VU "list" vs.toArray 0)}) (n:=ps.length) (kp:=λi=>ps.getD i (0,Ng "")) lv h64 gD isp (λi j hi hj ee=>?_) λp pp pu h' c g kept=>?_
 ·have e1':ps.getD i (0,Ng "")=ps[i]:=by simp [hi]
  have e2':ps.getD j (0,Ng "")=ps[j]:=by simp [hj]
  rw [e1',e2'] at ee;exact(QH nd).mp ee
 ·have lt:∀i∈p.toList,i < ps.length:=λi hi=>by simpa using pp.perm.mem_iff.mp hi
  have dm:aj X.K H O (p.toList.map λi=>us.getD i .non) ((p.toList.map λi=>ps.getD i (0,Ng "")).map cg):=by
   have:∀l:List Nat,(∀i∈l,i < ps.length)->aj X.K H O (l.map λi=>us.getD i .non) ((l.map λi=>ps.getD i (0,Ng "")).map cg):=by
    intro l
    induction l with
    | nil=>intro _;exact .nil
    | cons a l ih=>
     intro hl;have ha:=hl a Vu;refine .cons ?_ (ih λi hi=>hl i (by simp [hi]));obtain⟨x,ex,dx⟩:=mL (i:=a) (d:=cg ps[a]) hd (by rw [NK,NN ha];rfl);have e1':us.getD a .non=x:=by simp [ex]
     have e2':ps.getD a (0,Ng "")=ps[a]:=by simp [ha]
     show Dt X.K H O (us.getD a .non) (cg (ps.getD a (0,Ng "")));rw [e1',e2'];exact dx
   exact this _ lt
  have vm:aC (p.toList.map λi=>us.getD i .non) (p.toList.map λi=>vs.getD i .none):=by
   have:∀l:List Nat,(∀i∈l,i < ps.length)->aC (l.map λi=>us.getD i .non) (l.map λi=>vs.getD i .none):=by
    intro l
    induction l with
    | nil=>intro _;exact .nil
    | cons a l ih=>
     intro hl;have ha:=hl a Vu;refine .cons ?_ (ih λi hi=>hl i (by simp [hi]));obtain⟨x,ex,rx⟩:=qA hv (show vs[a]?=some (vs[a]'Vq) by simp);have e1':us.getD a .non=x:=by simp [ex]
     have e2':vs.getD a .none=vs[a]'Vq:=by simp [show a < vs.length by omega]
     show aD (us.getD a .non) (vs.getD a .none);rw [e1',e2'];exact rx
   exact this _ lt
  refine⟨_,rfl,VA ⟨_,rfl,.ref h1.objs.size,ak H h1.objs.size (.lst (p.toList.map λi=>us.getD i .non)),?_,rfl,q _ _ (p.toList.map λi=>ps.getD i (0,Ng "")) hH dm ?_ ?_⟩⟩
  ·refine I2.track (t':=s.toks) (ch:=[h1.objs.size]) Vu (λb hb=>?_) (λb u hb z=>kept b u (λy=>hb (by simp [y])) z) ⟨?_,_,c,vm,g⟩
   ·rw [NU] at hb;subst hb;exact⟨hH,oD⟩
   ·rw [Nj,Nu,pp.size];omega
  ·have h1:=pp.perm.map λi=>ps.getD i (0,Ng "");have e:(OA ps.length).map (λi=>ps.getD i (0,Ng ""))=ps:=by
    apply PX Vu;intro i a b;simp at a b⊢;rw [NN b];rfl
   rw [e] at h1;exact h1
  ·rw [Oj,OF];intro i j hi hj hij;have:=pu i j hij (by rw [Nu,pp.size] at hj;exact hj);have ei:p.getD i 0=p.toList[i]:=by simp [Qf,show i < p.size by simpa using hi]
   have ej:p.getD j 0=p.toList[j]:=by simp [Qf,show j < p.size by simpa using hj]
   rw [ei,ej] at this;exact this
section
variable {X:Cx} {H0:Hp} {O0:Ex}
def qB(t:DA):DA:=λδ Q=>t δ λds=>∃ps:List (Int×Str),ds=[.list (ps.map cg)]/\ps.length < 64/\ps.Nodup/\∀ps':List (Int×Str),ps'.Perm ps->ps'.Pairwise (λa b=>aI a b=true)->Q (ps'.map cg)
theorem BD{a:VE}{t:DA}{np p:Pos}(hg:Gl X "sorted")(hm:X.mg "sorted"=none)(hv:VW "sorted"=some (.builtin "sorted"))(ha:PA X [a] (eR X.K H0 O0 t))(he:VH [a] X.env=(false,eval a X.env)::VH [] X.env:=by rfl)(hpl:(V1 p (VH [] X.env)).any (·.1)=false:=by rfl):
 FE X H0 O0 (.Call (.Name "sorted" np) [a] [] p) (qB t):=
 (bS Jv hg hm hv ha (he:=he) (hpl:=hpl)).imp λσ H Q uu18=>by obtain⟨O,δ,Qd,w,q,k⟩:=uu18;exact⟨O,δ,_,w,q,λds vs H1 uu19 s1 r1=>by
  obtain⟨ps,e,h64,nd,q1⟩:=uu19;subst e;cases r1 with
  | cons h r=>
   cases r;obtain⟨a,us,rfl,h1,d1⟩:=h.lst;exact⟨a,us,O,ps,rfl,h1,d1,h64,nd,λl us' ps' hl hd hp hs=>k _ _ _ _ (q1 ps' hp hs) s1 hl hd⟩⟩
def qC(F:List Vv->(Vv->Prop)->Prop)(kf:Vv->Int×Str)(t:DA):DA:=λδ Q=>t δ λds0=>∃ds,ds0=[.list ds]/\(∀d∈ds,∀R:Vv->Prop,R (cg (kf d))->F [d] R)/\ds.length < 64/\(ds.map kf).Nodup/\∀ds',ds'.Perm ds->ds'.Pairwise (λa b=>aI (kf a) (kf b)=true)->Q ds'
theorem Jw{a:VE}{t:DA}{np p gp kp:Pos}{g:Str}{k:Nat}{f:Vy}{fd:VN}{ps:List Str}{F:List Vv->(Vv->Prop)->Prop}(kf:Vv->Int×Str)(hc:X.calm=true)(Fk:aH X.prog X.w X.K X.mg X.base CX0 k f fd ps (aX X.K F))(hr:bx k X.A.in1.in1)(hb:eX X.K fd ps [])
 (hgg:Gl X g)(hgm:X.mg g=some (.ref f))(hg:Gl X "sorted")(hm:X.mg "sorted"=none)(hv:VW "sorted"=some (.builtin "sorted"))(ha:PA X [a] (eR X.K H0 O0 t))(hdb:(g==("__debug__":Str))=false:=by decide)
 (he:V1 p (VH [a] X.env)=(false,eval a X.env)::V1 p (VH [] X.env):=by rfl)(hplain:(V1 p (VH [a] X.env)).any (·.1)=false:=by rfl):
 FE X H0 O0 (.Call (.Name "sorted" np) [a] [⟨some "key",.Name g gp,kp⟩] p) (qC F kf t):=by
 intro Xw s σ H Q I h;obtain⟨O,δ,Qd,w,q,kk⟩:=h;refine WD (jR I hg hm hv ?_);refine callWith_kw (aA (ha p Xw s σ H (λvs H1=>∃ds0,ao H H1/\j6 X.K H1 O vs ds0/\∃ds,ds0=[.list ds]/\(∀d∈ds,∀R:Vv->Prop,R (cg (kf d))->F [d] R)/\ds.length < 64/\(ds.map kf).Nodup/\∀ds',ds'.Perm ds->ds'.Pairwise (λa b=>aI (kf a) (kf b)=true)->Qd ds') I ⟨O,δ,_,w,q,λds0 vs H1 q1 s1 r1=>⟨ds0,s1,r1,q1⟩⟩) λus s1 hus=>?_) he hplain rfl rfl;obtain⟨vs,H1,I1,rv,ds0,s1',r1,ds,e,hF,h64,nd,q1⟩:=hus;subst e;refine kws_cons (nB I1 hgg hgm (kws_nil ?_) hdb);cases r1 with
 | cons h r=>
  cases r;obtain⟨ad,xs,rfl,hq,hd⟩:=h.lst;obtain⟨u,rfl,rx⟩:=cH rv;cases rx;exact Jt (kf:=kf) hc Fk hr hb (w.mono s1').trk I1 hq hd hF h64 nd λH' l xs' ds' a b c d e=>kk _ _ _ _ (q1 ds' d e) (s1'.trans a) b c
end
section
open PySem.SeqAt
open PySem.AutoSeq1 (wpAny_loadPart')
open PySem.MeetsSeq PySem.MeetsSeq2 PySem.MeetsSeq3
theorem Jx(l b:Vy)(n n2:Nat)(dd dd2:Option Vy)(sl sl2:Array (Option Vw))(p q:Int×Str)(t1 t2 t3 t4:Tok):
 Meets (Builtin.«tuple.__lt__» ⟨[.ref l,.ref b],[]⟩)
  (λ_ R s=>s.heap.get? l=some {cls:= .type "tuple",dict:=dd,data:= .seq #[.int p.1 t1,.str p.2 t2] n,slots:=sl}/\s.heap.get? b=some {cls:= .type "tuple",dict:=dd2,data:= .seq #[.int q.1 t3,.str q.2 t4] n2,slots:=sl2}/\
   R (.ok (.ret (.bool (aI p q)))) s):=
 .of_wp λprog w A R s h=>by
  obtain⟨hp,g,d,tk,os⟩:=s;obtain⟨hl,hb,h⟩:=h;have f2:=AutoSeq1.sub_tuple_tuple
  wp_walk using Wl hl,Wl hb,wpAny_forIn_list _ (λrest b s'=>b.1=none/\s'=⟨hp,g,d,tk,os⟩/\(rest=[(Pk p.1 t1,Pk q.1 t3),(Qi p.2 t2,Qi q.2 t4)]\/(rest=[(Qi p.2 t2,Qi q.2 t4)]/\p.1=q.1)\/(rest=[]/\p.1=q.1/\p.2=q.2))) _
  case turn=>
   rintro⟨y,x⟩ rest b s' ⟨hb',rfl,h3⟩;rcases h3 with h3 | ⟨h3,e1⟩ | ⟨h3,_⟩
   ·injection h3 with hyx hrest
    injection hyx with hy hx
    subst hy hx;obtain⟨e,he,hiff⟩:=HT.eqAt_int A.in1 ⟨hp,g,d,tk,os⟩ p.1 t1 q.1 t3;refine Vx (he prog w _ _ ?_);cases e with
    | true=>
     wp_walk
     exact⟨rfl,rfl,.inr (.inl ⟨hrest,hiff.mp rfl⟩)⟩
    | false=>
     have ne:p.1≠q.1:=λz=>absurd (hiff.mpr z) Nt;have hri:=HT.rcLt_int A.in1 ⟨hp,g,d,tk,os⟩ p.1 t1 q.1 t3 prog w;have hv:aI p q=decide (p.1 < q.1):=by unfold aI;simp [ne]
     rw [hv] at h
     wp_walk using hri
     exact⟨_,rfl,by simpa using h⟩
   ·injection h3 with hyx hrest
    injection hyx with hy hx
    subst hy hx;have he:=EqAt.str_str (A:=A.in1) (s:=⟨hp,g,d,tk,os⟩) p.2 t2 q.2 t4;refine Vx (he prog w _ _ ?_);cases e:(p.2==q.2) with
    | true=>
     wp_walk
     exact⟨rfl,rfl,.inr (.inr ⟨hrest,e1,eq_of_beq e⟩)⟩
    | false=>
     have hri:∀(E:Vw->Vz->Prop)(Q:Vw->Vz->Prop),Q (.bool (decide (p.2.cps.toList < q.2.cps.toList))) ⟨hp,g,d,tk,os⟩->VC (VB prog w) A.in1 (richCompare .Lt (.str p.2 t2) (.str q.2 t4)) Q E ⟨hp,g,d,tk,os⟩:=λE Q z=>(lt_str z:VC (VB prog w) A.in1 (VZ .Lt (.str p.2 t2) (.str q.2 t4)) Q E _);have hv:aI p q=decide (p.2.cps.toList < q.2.cps.toList):=by unfold aI;simp [e1]
     rw [hv] at h
     wp_walk using hri
     exact⟨_,rfl,by simpa using h⟩
   ·cases h3
  case fin=>
   rintro⟨b1,b2⟩ s' ⟨hb',rfl,h3⟩;simp only at hb';subst hb';rcases h3 with h3 | ⟨h3,e1⟩ | ⟨h3,e1,e2⟩
   ·cases h3
   ·cases h3
   ·have hv:aI p q=false:=by unfold aI;rw [e1,e2];simp
    rw [hv] at h
    wp_walk
    exact⟨_,rfl,by simpa [Builtin.Tuple.tupleCompareSizes] using h⟩
  case h=>
   exact⟨rfl,rfl,.inl rfl⟩
end
def BE(K:Nh):R2:=λx y H Q=>∃a b p q,x= .ref a/\y= .ref b/\br K H a [.int p.1,.str p.2]/\br K H b [.int q.1,.str q.2]/\Q (.bl (aI p q)) H
theorem BF{X:Cx}(hu:X.A.units < V9):bQ X (VZ .Lt) (BE X.K):=by
 intro Xw s σ H x y v u Q I rx ry h;obtain⟨a,b,p,q,rfl,rfl,ha,hb,z⟩:=h;cases rx;cases ry;obtain⟨its,r1,⟨⟨c1,d1,da1,s1⟩,o1,k1,n1,e1⟩,_⟩:=I.tuple ha;obtain⟨its2,r2,⟨⟨c2,d2,da2,s2⟩,o2,k2,n2,e2⟩,_⟩:=I.tuple hb;simp only at k1 e1 k2 e2;subst k1 e1 k2 e2;cases r1 with
 | cons x1 r1=>
  cases r1 with
  | cons x2 r1=>
   cases r1;obtain⟨t1,rfl⟩:=x1;obtain⟨t2,rfl⟩:=x2;cases r2 with
   | cons y1 r2=>
    cases r2 with
    | cons y2 r2=>
     cases r2;obtain⟨t3,rfl⟩:=y1;obtain⟨t4,rfl⟩:=y2;exact richCompare_meets_room (op:= .Lt) ⟨_,o1,rfl⟩ ⟨_,o2,rfl⟩ PySem.F.slot_tuple_lt PySem.F.entry_tuple_lt (PySem.F.args_tuple_lt_2 _ _) (Jx a b n1 n2 d1 d2 s1 s2 p q t1 t2 t3 t4) ⟨o1,o2,(λx=>nomatch x),.bl (aI p q),H,I,rfl,z⟩ hu
def qD:Vv->Vv->(Vv->Prop)->Prop:=λx y Q=>∃p q:Int×Str,x=cg p/\y=cg q/\Q (.bool (aI p q))
theorem BG{K:Nh}:cy K (BE K) qD:=λH O x y dx dy Qd R _ hx hy uu20 k=>by
 obtain⟨p,q,e1,e2,z⟩:=uu20;subst e1 e2;obtain⟨a,xs,rfl,h1,g1⟩:=hx.tup;obtain⟨b,ys,rfl,h2,g2⟩:=hy.tup;cases g1 with
 | cons x1 g1=>
  cases g1 with
  | cons x2 g1=>
   cases g1;cases x1;cases x2;cases g2 with
   | cons y1 g2=>
    cases g2 with
    | cons y2 g2=>
     cases g2;cases y1;cases y2;exact⟨a,b,p,q,rfl,rfl,h1,h2,k _ _ H z (ao.refl _) (.bl _)⟩
section
variable {X:Cx} {H0:Hp} {O0:Ex}
def Jy(tc:DB)(tb:DS):DS:=λE δ=>∃W:Nat->Dl->Prop,(∃m,W m δ)/\∀m δ,W m δ->tc δ λb=>if b=true then tb {E with nx:=λδ'=>∃m',m' < m/\W m' δ',ct:=λδ'=>∃m',m' < m/\W m' δ',bk:=E.nx} δ else E.nx δ
theorem BH{c:VE}{body:List VT}{tc:DB}{tb:DS}{pos:Pos}(hp:Xa (VB X.prog X.w) X.A X.env X.xe)(hc:PT X c (bT X.K H0 O0 tc))(hb:bK X body (bB X.K H0 O0 tb)):PS X (.While c body [] pos) (bB X.K H0 O0 (Jy tc tb)):=
 (xY hp hc hb).imp λD σ H uu21=>by
  obtain⟨O,δ,E,w,⟨W,⟨m0,w0⟩,st⟩,k1,k2,k3,k4⟩:=uu21;refine⟨λm σ' H'=>∃O' δ',Wd X.K H0 O0 H' O' σ' δ'/\aS H H' O O'/\W m δ',⟨m0,O,δ,w,aS.refl _ _,w0⟩,λm σ1 H1 ⟨O1,δ1,w1,S1,q1⟩=>⟨O1,δ1,_,w1,st m δ1 q1,λb H2 q2 s2=>?_⟩⟩;cases b with
  | false=>
   rw [Vr Vu] at q2⊢;exact k1 O1 δ1 σ1 H2 q2 (w1.mono s2) (S1.trans (.same s2))
  | true=>
   rw [Vs rfl] at q2⊢;refine⟨λσ' H'=>∃O' δ' m',m' < m/\Wd X.K H0 O0 H' O' σ' δ'/\aS H H' O O'/\W m' δ',λσ' H' uu23=>by obtain⟨O',δ',m',lt,w',S',q'⟩:=uu23;exact⟨m',lt,O',δ',w',S',q'⟩,O1,δ1,_,w1.mono s2,q2,?_,k2,?_,?_⟩
   ·rintro O' δ' σ' H' ⟨m',lt,q'⟩ w' S';exact⟨O',δ',m',lt,w',S1.trans ((aS.same s2).trans S'),q'⟩
   ·intro O' δ' σ' H' q' w' S';exact k1 O' δ' σ' H' q' w' (S1.trans ((aS.same s2).trans S'))
   ·rintro O' δ' σ' H' ⟨m',lt,q'⟩ w' S';exact⟨O',δ',m',lt,w',S1.trans ((aS.same s2).trans S'),q'⟩
theorem bo.vals{K:Nh}{H:Hp}{O:Ex}{kv:List (ai×V)}{kd:List (ai×Vv)}(h:bo K H O kv kd):aj K H O (kv.map (·.2)) (kd.map (·.2)):=by
 induction h with
 | nil=>exact .nil
 | cons a _ ih=>exact .cons a ih
abbrev fJ(ks:List Str)(ds:List Vv):Vv:=Ay (ks.map .str) ds
def qE(i:Nat)(t:DS):DS:=λE δ=>∃kd,δ[i]?=some (some (.k kd))/\∃ks:List Str,kd.map (·.1)=ks.map OC/\t E (δ.set i (some (.v (fJ ks (kd.map (·.2))))))
theorem cW.z{H:Hp}{a:Vy}{ob:Obj}{kvs:List (ai×V)}{k:ai}(e:H a=some (.frz ob (.dK kvs))):cW H a (kV k) (c7 kvs k):= .inl ⟨kvs,k,.inr ⟨ob,e⟩,rfl,rfl⟩
theorem af.fast{X:Cx}{Xw:List (Vy×Obj)}{σ:St}{H:Hp}{s:Vz}(I:af X Xw σ H s){a:Vy}{kv:List (ai×V)}(ha:H a=some (.dK kv)):∃o,af X Xw σ (ak H a (.frz o (.dK kv))) s:=by
 obtain⟨z,hd,vs,rel,o,es,ep,g,r1,r2,r3⟩:=I.hok a _ ha;exact⟨o,I.write (x:=a) (e:=a) (o:= .frz o (.dK kv)) (h':=s.heap) (t':=s.toks) (by rw [ha];exact OE) (.inl rfl) (λ_ _ _ q=>q) ⟨o,g⟩ ⟨g,z,hd,vs,rel,o,es,ep,g,r1,r2,r3⟩⟩
theorem Jz{st:VT}{t:TS}(h:PS X st t)(i:Nat):PS X st (λD σ H=>∃a kv,σ[i]?=some (some (.ref a))/\H a=some (.dK kv)/\∀o,t D σ (ak H a (.frz o (.dK kv)))):=by
 intro Xw s σ H D I q;obtain⟨a,kv,_,ha,q⟩:=q;obtain⟨o,I2⟩:=I.fast ha;exact h Xw s σ _ D I2 (q o)
theorem Wd.tell{K:Nh}{H0 H:Hp}{O0 O:Ex}{σ:St}{δ:Dl}(w:Wd K H0 O0 H O σ δ){i:Nat}{v:V}{d:Vv}(h:σ[i]?=some (some v))(hd:Dt K H O v d):Wd K H0 O0 H O σ (δ.set i (some (.v d))):=by
 have li:i < δ.length:=by rw [<-w.len];exact(Nz.mp h).1
 have ne:∀{j:Nat}{y:Sl},(δ.set i (some (.v d)))[j]?=some (some y)->y.own->j≠i:=λ{j y} q hy z=>by
  subst z;rw [N7 li] at q;cases q;exact hy
 refine⟨w.same,w.sub,w.new,w.trk,by simp [w.len],λj y q=>?_,λj k y z l' e1 y1 e2 z2 e3 e4=>?_⟩
 ·by_cases hj:j=i
  ·subst hj;rw [N7 li] at q;cases q;exact⟨v,by rw [h];rfl,hd⟩
  ·rw [NV (Ne.symm hj)] at q;exact w.sl j y q
 ·have n1:=ne e1 y1;have n2:=ne e2 z2;rw [NV (Ne.symm n1)] at e1;rw [NV (Ne.symm n2)] at e2;exact w.dis j k _ _ l' e1 y1 e2 z2 e3 e4
theorem BI(i:Nat){st:VT}{t:DS}(h:PS X st (bB X.K H0 O0 t)):PS X st (bB X.K H0 O0 (qE i t)):=
 (Jz h i).imp λD σ H uu24=>by
  obtain⟨O,δ,E,w,⟨kd,e,ks,ek,q⟩,k1,k2,k3,k4⟩:=uu24;obtain⟨l,kv,h,a,b,c,r⟩:=w.ownK e;refine⟨l,kv,h,c,λo=>?_⟩;obtain⟨O',w',S,n⟩:=w.frzK (y0:= .k kd) e trivial h (.frz o (.dK kv));have w2:=w'.tell (d:=fJ ks (kd.map (·.2))) h (.dic aW (by rw [r.keys];exact ek) rfl n (r.vals.step S));rw [List.set_set] at w2;exact⟨O',_,E,w2,q,λO2 δ2 σ2 H2 z2 w2 S2=>k1 O2 δ2 σ2 H2 z2 w2 (S.trans S2),k2,λO2 δ2 σ2 H2 z2 w2 S2=>k3 O2 δ2 σ2 H2 z2 w2 (S.trans S2),λO2 δ2 σ2 H2 z2 w2 S2=>k4 O2 δ2 σ2 H2 z2 w2 (S.trans S2)⟩
theorem qF:∀{a b:List Str},a.map Nl=b.map Nl->a=b
 | [],[],_=>rfl
 | [],_::_,h=>by cases h
 | _::_,[],h=>by cases h
 | x::a,y::b,h=>by
  simp only [Nq,Ot,Px] at h;rw [h.1,qF h.2]
def bX:List Str->List Vv->Str->Option Vv
 | k::ks,d::ds,z=>if k=z then some d else bX ks ds z
 | _,_,_=>none
theorem qG{K:Nh}{H:Hp}{O:Ex}{z:Str}{d:Vv}:∀{kv:List (ai×V)}{ks:List Str}{ds:List Vv},kv.map (·.1)=ks.map OC->aj K H O (kv.map (·.2)) ds->bX ks ds z=some d->∃v,c7 kv (.inr z)=some v/\Dt K H O v d
 | [],[],ds,_,_,e=>by unfold bX at e;cases e
 | [],_::_,ds,h,_,_=>by cases h
 | _::_,[],ds,h,_,_=>by cases h
 | p::kv,k::ks,ds,h,hd,e=>by
  rw [Nq] at hd;cases hd with
  | cons h1 h2=>
   simp only [Nq,Ot] at h;obtain⟨p1,p2⟩:=p;obtain⟨rfl,h⟩:=h;unfold bX at e;by_cases hk:k=z
   ·rw [Vs hk] at e;cases e;exact⟨p2,mj (by rw [hk]),h1⟩
   ·rw [Vr hk] at e;obtain⟨v,a,b⟩:=qG h h2 e;exact⟨v,by rw [kl (λq=>hk (mG.mp q))];exact a,b⟩
def qH(to tk:DT):DT:=λδ Q=>to δ λx=>∃ks ds,x=fJ ks ds/\tk δ λy=>∃z,y= .str z/\∃d,bX ks ds z=some d/\Q d
theorem iy{o e:VE}{to tk:DT}{pos:Pos}(hu:X.A.units+64 < V9)(ho:DE X H0 O0 o to)(he:DE X H0 O0 e tk)(hs:pK e):DE X H0 O0 (.Subscript o e pos) (qH to tk):=
 (AM Vq ho he hs).imp λσ H Q uu25=>by
  obtain⟨O,δ,Qd,w,q,k⟩:=uu25;refine⟨O,δ,_,w,q,λx vx H1 ⟨ks,ds,ex,q1⟩ s1 r1=>?_⟩;subst ex;refine⟨O,δ,_,w.mono s1,q1,λy vy H2 ⟨z,ey,d,ed,q2⟩ s2 r2=>?_⟩;subst ey;cases r2;cases r1 with
  | @dic a ob kv ks' kp ds h e1 e2 n rr=>
   have ek:ks'=ks:=by
    have:ks'.map Nl=ks.map Nl:=e2.symm;exact qF this
   subst ek;obtain⟨v,hv,dv⟩:=qG e1 rr ed;exact⟨a,v,rfl,by rw [<-hv];exact cW.z (k:= .inr z) (s2 _ _ h),k _ _ _ q2 (s1.trans s2) (dv.mono s2)⟩
theorem aj.ofInts{K:Nh}{H:Hp}{O:Ex}:∀(ns:List Int),aj K H O (ns.map V.int) (ns.map Nn)
 | []=>.nil
 | n::ns=>.cons (.int n) (aj.ofInts ns)
def qI(t:DT)(g:DG)(tc:DB)(te:DT)(k:Nat)(fr:List Nat):DA:=λδ Q=>ke t g tc te k fr δ Q\/kg t g tc te k fr δ Q
theorem JA{N':List Str}{k:Nat}{fr:List Nat}{scope:We}{iter elt tg:VE}{ifs:List VE}{t te:DT}{tc:DB}{g:TG}{dg:DG}{pos:Pos}(hc:X.calm=true)(S:bb X.env.scope X.N N' k fr scope)(hi:DF X H0 O0 iter t)(gd:GD X.K g dg)(hk:ip g k)(hfr:fr.Nodup)
 (hg:∀fp C s H,PG (bF X scope N' fp C s H) tg g)(hf:∀fp C s H,eO (bF X scope N' fp C s H) ifs (bT X.K H0 O0 tc))(he:∀fp C s H,PE (bF X scope N' fp C s H) elt (up X.K H0 O0 te))
 (hs:∀x,VX iter X.env x=pure x:=by intro _;rfl):FE X H0 O0 (.ListComp elt [⟨tg,iter,ifs,0⟩] scope pos) (qI t dg tc te k fr):=by
 intro Xw s σ H Q I h;obtain⟨O,δ,Qd,w,q,kk⟩:=h;rcases q with q | q
 ·exact fG hc S hi gd hk hfr hg hf he hs Xw s σ H Q I ⟨O,δ,Qd,w,q,kk⟩
 ·exact l5 hc S hi gd hk hfr hg hf he hs Xw s σ H Q I ⟨O,δ,Qd,w,q,kk⟩
end
theorem JB{fr:List Nat}{σ:St}{v u:Option V}:jm (bJ 2 fr σ) (((bJ 2 fr σ).set 0 v).set 1 u):=by
 refine⟨Vu,λi w h=>?_⟩
 match i with
 | 0=>simp [bJ,NG] at h
 | 1=>simp [bJ,NG] at h
 | i+2=>simpa [bJ,NG] using h
theorem BJ{K:Nh}{n:Nat}:ip (nG K n (lE (gL 0) (lE (gL 1) nF))) 2:=λfr σ v H' R uu28=>by obtain⟨a,xs,e,h1,h2,x,r,e1,y,r2,e2,e3,h⟩:=uu28;exact⟨a,xs,e,h1,h2,x,r,e1,y,r2,e2,e3,JB,h⟩
section
variable {X:Cx} {H0:Hp} {O0:Ex}
theorem i9{T:String}{a c:VE}{t:DT}{np p:Pos}{K':Nh}(hK:X.K=K')(hg:Gl X "isinstance")(hm:X.mg "isinstance"=none)(hv:VW "isinstance"=some (.builtin "isinstance"))(ha:DF X H0 O0 a t)(hc:PE X c (tC (.ty T)))
 (hs:VH [a,c] X.env=(false,eval a X.env)::VH [c] X.env:=by rfl)(hs2:VH [c] X.env=[(false,eval c X.env)]:=by rfl)(hb:(V1 p (VH [c] X.env)).any (·.1)=false:=by rfl):DE X H0 O0 (.Call (.Name "isinstance" np) [a,c] [] p) (mh K' T t):=by
 subst hK;exact Ht hg hm hv ha hc hs hs2 hb
end
def fh(f:Str)(d:Vv):List (Str×Vv)->List (Str×Vv)
 | []=>[(f,d)]
 | (g,x)::r=>if g=f then(g,d)::r else(g,x)::fh f d r
theorem jq.put{K:Nh}{H:Hp}{O:Ex}{f:Str}{v:V}{d:Vv}(hv:Dt K H O v d):∀{fs:List (Str×V)}{fd:List (Str×Vv)},jq K H O fs fd->jq K H O (dH f v fs) (fh f d fd)
 | [],[],_=>⟨rfl,.cons hv .nil⟩
 | [],_::_,h=>by cases h.1
 | _::_,[],h=>by cases h.1
 | (g,x)::fs,(g',y)::fd,⟨h1,h2⟩=>by
  simp only [Nq,Ot] at h1;obtain⟨rfl,h1⟩:=h1;simp only [Nq] at h2;cases h2 with
  | cons a r=>
   unfold dH fh;by_cases e:g=f
   ·rw [Vs e,Vs e];exact⟨by simp only [Nq,h1],.cons hv r⟩
   ·rw [Vr e,Vr e];obtain⟨q1,q2⟩:=jq.put hv (fs:=fs) (fd:=fd) ⟨h1,r⟩;exact⟨by simp only [Nq,q1],.cons a q2⟩
section
variable {X:Cx} {H0:Hp} {O0:Ex}
def qJ(C:Vy)(i:Nat)(f:Str)(t:DT):DS:=λE δ=>t δ λd=>∃l fd,δ[i]?=some (some (.i l C fd))/\fd.length < 1000/\E.nx (δ.set i (some (.i l C (fh f d fd))))
theorem mM{C:Vy}{i:Nat}{f:Str}{o e:VE}{t:DT}{pos pos':Pos}(hc:gO X.K C)(hn:NoAttr X.K C f)(ho:PE X o (eL i))(he:DE X H0 O0 e t)(hs:V5 e (some (.Attribute o f pos')) pos.line X.env=pure false:=by rfl):
 PS X (.Assign [.Attribute o f pos'] e pos) (bB X.K H0 O0 (qJ C i f t)):=
 (FY ho he hs).imp λD σ H ⟨O,δ,E,w,q,k1,k2,k3,k4⟩=>⟨O,δ,_,w,q,λd u H1 uu30 s1 r1=>by
  obtain⟨l,fd,e,hl,q1⟩:=uu30;have w1:=w.mono s1;obtain⟨dx,fs,h,a,b,c,r⟩:=w1.ownI e;have lf:fs.length=fd.length:=by have:=congrArg Uq r.1;simpa using this
  refine⟨.ref l,h,l,C,dx,fs,rfl,c,hc,hn,by rw [lf];exact hl,k1 _ _ _ _ q1 (w1.putY (y0:= .i l C fd) (y1:= .i l C (fh f d fd)) trivial trivial e h λS a b=>⟨dx,_,rfl,a,b,aW,?_⟩) ⟨λb' o' z n=>?_,λ_ _ n=>n⟩⟩
  ·obtain⟨z1,z2⟩:=r.put (f:=f) r1;exact⟨z1,z2.step S⟩
  ·rw [aE (λy=>n (by rw [y];exact a))];exact s1 _ _ z⟩
abbrev BK(C:Vy)(fd:List (Str×Vv)):Vv:=jo C (fd.map λp=>.str p.1) (fd.map (·.2))
inductive qK (K:Nh) (C:Vy) (F:List Vv->(Vv->Prop)->Prop) (vs:List V) (H:Hp) (Q:VK) (E:XK):Prop
 | mk (x dx:Vy) (vs':List V) (H1:Hp) (O:Ex) (ds:List Vv) (Qd:Vv->Prop):vs= .ref x::vs'->H=ak (ak H1 dx (.own x)) x (.ins C dx [])->H1 x=none->H1 dx=none->dx≠x->(∀l,O l->H1 l≠none)->aj K H1 O vs' ds->F ds Qd->
 (∀d H',Qd d->ao H1 H'->Dt K H' O (.ref x) d->Q .non H')->qK K C F vs H Q E
theorem BL{K:Nh}{C:Vy}{F:List Vv->(Vv->Prop)->Prop}{t:DA}{E:XK}:∀σ H Q,up K H0 O0 (iR F t) σ H Q->yX C (qK K C F) [] E (fD K H0 O0 t) σ H Q:=
 λσ H Q uu31=>by obtain⟨O,δ,Qd,w,q,k⟩:=uu31;exact⟨O,δ,_,w,q,λds vs H1 q1 s1 r1 x dx hx hdx ne=>⟨x,dx,vs,H1,O,ds,Qd,by rw [N4],rfl,hx,hdx,ne,(w.mono s1).trk,r1,q1,λd H2 q2 s2 r2=>⟨rfl,k d _ H2 q2 (s1.trans s2) r2⟩⟩⟩
def vi(N:List Str)(l C:Vy)(ds:List Vv):Dl:=some (.i l C [])::(gu N (.none::ds)).tail
theorem JC{K:Nh}{H1:Hp}{O:Ex}{N:List Str}{vs:List V}{ds:List Vv}{x dx C:Vy}(tr:∀l,O l->H1 l≠none)(r:aj K H1 O vs ds)(hx:H1 x=none)(hdx:H1 dx=none)(ne:dx≠x):
 Wd K H1 O (ak (ak H1 dx (.own x)) x (.ins C dx [])) (λl=>O l\/l=x) (start N (.ref x::vs)) (vi N x C ds):=by
 have w0:=AD (N:=N) tr (.cons .non r);have w1:=w0.mono (ao.new (o:=HO.own x) hdx);have hx1:(ak H1 dx (.own x)) x=none:=by rw [aE (Ne.symm ne)];exact hx
 have:=w1.setY (i:=0) (p:=x) (ho:= .ins C dx []) (y0:= .i x C []) trivial hx1 λO' S a b=>⟨dx,[],rfl,a,b,aW,rfl,.nil⟩;exact this
end
section
variable {P:VL} {w:VP} {K:Nh} {mg:Str->Option Vw} {base:VQ}
theorem fq.okI{x qual:Str}{st:VT}{f C:Vy}{fd:VN}{N ps:List Str}{k:Nat}{F:List Vv->(Vv->Prop)->Prop}(Fu:fq K x qual st f fd)(S:aT N ps (ay st))(len:∀ds Q,F ds Q->ds.length+1=ps.length)
 (hbody:∀(cdv:Vw) (A:VS) (outer:List Env) (s:Vz) (H H1:Hp) (O:Ex) (ds:List Vv) (Q:Vv->Prop) (E:XK) (l:Vy),bx k (A.deeper (W2 qual (ay st) s.heap.objs.size f cdv))->F ds Q->
  ∃t,bK (hU CX0 P w K mg base N qual (ay st) f cdv A outer s H E).nox (fm st) (bB K H1 O t)/\t {nx:=λδ=>∃fd,δ[0]?=some (some (.i l C fd))/\Q (BK C fd),rt:=λ_=>False} (vi N l C ds)):aH P w K mg base CX0 (k+1) f fd ps (qK K C F):=by
 refine Fu.ok S (λvs H Q E h=>?_) (λcdv A outer s H vs Q E hr h=>?_)
 ·obtain⟨x,dx,vs',H1,O,ds,Qd,rfl,_,_,_,_,_,r,q,_⟩:=h;rw [NF,r.length];exact len _ _ q
 ·obtain⟨x,dx,vs',H1,O,ds,Qd,rfl,rfl,hx,hdx,ne,tr,r,q,k⟩:=h;obtain⟨t,ht,q'⟩:=hbody cdv A outer s _ H1 O ds Qd E x hr q;refine⟨_,ht,_,_,_,JC tr r hx hdx ne,q',λO' δ' σ' H' z w' S'=>?_,λd v H' z s' r'=>z.elim,λ_ _ _ _ z=>z.elim,λ_ _ _ _ z=>z.elim⟩;obtain⟨fd,e,z⟩:=z;obtain⟨dx',fs,h,a,b,c,r1,r2⟩:=w'.ownI e;refine k _ _ z w'.same (.obj c ?_ b (r2.step ⟨λ_ _ y _=>y,λb' _ n z=>n (w'.sub b' z)⟩));rw [show(fd.map λp:Str×Vv=>Nl p.1)=(fd.map (·.1)).map Nl by rw [NO];rfl,<-r1,NO];rfl
end
theorem Dt.objI{K:Nh}{H:Hp}{O:Ex}{v:V}{C:Vy}{kp ds:List Vv}(h:Dt K H O v (jo C kp ds)):∃a dx fs,v= .ref a/\H a=some (.ins C dx fs)/\kp=fs.map (λp=>Nl p.1)/\aj K H O (fs.map (·.2)) ds:=by
 generalize e:jo C kp ds=x at h;cases h with
 | @obj a C' dx fs kp' ds' h1 h2 n r=>
  simp only [jo,PyData.dict.injEq,Ot,RU,PB,QL,Rb,and_true,true_and] at e;obtain⟨e1,e2,e3⟩:=e;have e1:C=C':=by exact_mod_cast e1
  subst e1 e2 e3;exact⟨a,dx,fs,rfl,h1,h2,r⟩
 | _=>first | cases e | simp [jo] at e
section
variable {X:Cx} {H0:Hp} {O0:Ex}
theorem BM{K:Nh}{H:Hp}{O:Ex}{f:Str}{d:Vv}:∀{fs:List (Str×V)}{ks:List Str}{ds:List Vv},fs.map (λp=>Nl p.1)=ks.map Nl->aj K H O (fs.map (·.2)) ds->bX ks ds f=some d->∃v,fs.lookup f=some v/\Dt K H O v d
 | [],[],ds,_,_,e=>by unfold bX at e;cases e
 | [],_::_,ds,h,_,_=>by cases h
 | _::_,[],ds,h,_,_=>by cases h
 | (g,x)::fs,k::ks,ds,h,hd,e=>by
  rw [Nq] at hd;cases hd with
  | cons h1 h2=>
   simp only [Nq,Ot,Px] at h;obtain⟨rfl,h⟩:=h;unfold bX at e;rw [N2];by_cases hk:g=f
   ·rw [Vs hk] at e;cases e;subst hk;exact⟨x,Vu,h1⟩
   ·rw [Vr hk] at e;have:(f==g)=false:=by simpa using Ne.symm hk
    rw [this];exact BM h h2 e
def qL(C:Vy)(f:Str)(t:DT):DT:=λδ Q=>t δ λx=>∃ks ds d,x=jo C (ks.map .str) ds/\bX ks ds f=some d/\Q d
theorem kE{C:Vy}{f:Str}{e:VE}{t:DT}{pos:Pos}(hc:gO X.K C)(hn:NoAttr X.K C f)(he:DE X H0 O0 e t)(hb:Wj e f X.env (eval e X.env)=eval e X.env:=by rfl):DE X H0 O0 (.Attribute e f pos) (qL C f t):=
 (FX he hb).imp λσ H Q uu32=>by obtain⟨O,δ,Qd,w,q,k⟩:=uu32;exact⟨O,δ,_,w,q,λx v H1 uu33 s1 r1=>by
  obtain⟨ks,ds,d,ex,ed,q1⟩:=uu33;subst ex;obtain⟨a,dx,fs,rfl,h1,h2,r⟩:=r1.objI;obtain⟨v,hv,dv⟩:=BM h2.symm r ed;exact⟨a,C,dx,fs,v,rfl,h1,hc,hn,hv,k _ _ _ q1 s1 dv⟩⟩
end
def fi(xs:Array Nat):Prop:=xs.toList.Pairwise (· < ·)
theorem fi.lt{xs:Array Nat}(h:fi xs){i k:Nat}(hik:i < k)(hk:k < xs.size):xs[i]'Vq < xs[k]:=by
 have:=OF.mp h i k (by simpa using(by omega:i < xs.size)) (by simpa using hk) hik;simpa using this
theorem JD{xs:Array Nat}(h:fi xs){j:Nat}:∀(f lo hi:Nat),hi - lo<=f->lo<=hi->hi<=xs.size->(∀k(hk:k < xs.size),k < lo->xs[k] < j)->(∀k(hk:k < xs.size),hi<=k->j<=xs[k])->
 lo<=QB xs j f lo hi/\QB xs j f lo hi<=hi/\(∀k(hk:k < xs.size),k < QB xs j f lo hi->xs[k] < j)/\(∀k(hk:k < xs.size),QB xs j f lo hi<=k->j<=xs[k]):=by
 intro f
 induction f with
 | zero=>
  intro lo hi a b c d e;obtain rfl:lo=hi:=Vq
  exact⟨Np _,Np _,d,e⟩
 | succ f ih=>
  intro lo hi a b c d e;unfold QB;by_cases hl:lo < hi
  ·rw [Vs hl];simp only;have hm:(lo+hi)/ 2 < xs.size:=Vq
   have eg:xs.getD ((lo+hi)/ 2) j=xs[(lo+hi)/ 2]:=by simp [Qf,hm]
   rw [eg];split
   ·rename_i hx;have d':∀k(hk:k < xs.size),k < (lo+hi)/ 2+1->xs[k] < j:=λk hk hlt=>by
     rcases PL k ((lo+hi)/ 2) with z | z
     ·exact Ru (h.lt z hm) hx
     ·obtain rfl:k=(lo+hi)/ 2:=Vq
      exact hx
    obtain⟨p,q,r,s⟩:=ih ((lo+hi)/ 2+1) hi Vq Vq c d' e;exact⟨Vq,q,r,s⟩
   ·rename_i hx;have e':∀k(hk:k < xs.size),(lo+hi)/ 2<=k->j<=xs[k]:=λk hk hge=>by
     rcases PL ((lo+hi)/ 2) k with z | z
     ·exact NP (PR hx) (Po (h.lt z hk))
     ·obtain rfl:k=(lo+hi)/ 2:=Vq
      exact PR hx
    obtain⟨p,q,r,s⟩:=ih lo ((lo+hi)/ 2) Vq Vq Vq d e';exact⟨p,Vq,r,s⟩
  ·rw [Vr hl];obtain rfl:lo=hi:=Vq
   exact⟨Np _,Np _,d,e⟩
theorem vj{xs:Array Nat}(h:fi xs)(j:Nat):OM xs j<=xs.size/\(∀k(hk:k < xs.size),k < OM xs j->xs[k] < j)/\(∀k(hk:k < xs.size),OM xs j<=k->j<=xs[k]):=by
 unfold OM;obtain⟨_,b,c,d⟩:=JD h (j:=j) xs.size 0 xs.size Vq (N9 _) (Np _) (λk hk z=>absurd z Vq) (λk hk z=>absurd hk Vq);exact⟨b,c,d⟩
theorem JE{xs:Array Nat}(h:fi xs){i:Nat}(hi:i < xs.size):OM xs (xs[i]+1)=i+1:=by
 obtain⟨a,b,c⟩:=vj h (xs[i]+1);apply Nat.le_antisymm
 ·refine PR λz=>?_;have:=b (i+1) Vq z;have:=h.lt (show i < i+1 by omega) (show i+1 < xs.size by omega);omega
 ·refine PR λz=>?_;have:=c i hi Vq;omega
theorem JF{xs:Array Nat}(h:fi xs):OM xs 0=0:=by
 obtain⟨a,b,c⟩:=vj h 0;refine Nat.eq_zero_of_not_pos λz=>?_;exact absurd (b 0 Vq z) Vq
theorem fi.ins{xs:Array Nat}(h:fi xs){j:Nat}(hj:xs[OM xs j]?≠some j):fi (SetTable.insertAt xs (OM xs j) j):=by
 obtain⟨a,b,c⟩:=vj h j;have h0:xs.toList.Pairwise (· < ·):=h;unfold fi;rw [SetTable.toList_insertAt];generalize OM xs j=p at*;rw [<-OV p xs.toList,Pe] at h0;rw [Pe];have lt1:∀x∈xs.toList.take p,x < j:=λx hx=>by
  obtain⟨k,hk,rfl⟩:=OS hx;rw [NS] at hk;rw [QC];have:=b k (by simp at hk;omega) Vq;simpa using this
 have lt2:∀x∈xs.toList.drop p,j < x:=λx hx=>by
  obtain⟨k,hk,rfl⟩:=OS hx;rw [Oo] at hk;rw [Rc];have hs:p+k < xs.size:=by simp at hk;omega
  have h1:=c (p+k) hs Vq;have h2:xs[p+k]≠j:=λe=>by
   rcases RI k with z | z
   ·subst z;exact hj (by rw [Qg (show p < xs.size from hs)];exact congrArg some e)
   ·have:=c p Vq (Np _);have:=h.lt (show p < p+k by omega) hs;omega
  have:j < xs[p+k]:=Vq
  simpa using this
 refine⟨h0.1,Og.mpr ⟨lt2,h0.2.1⟩,λx hx y hy=>?_⟩;rcases Ny.mp hy with e | hy
 ·rw [e];exact lt1 x hx
 ·exact h0.2.2 x hx y hy
theorem JG{t:Wm}{ha:Nat->Int}{h:Int}(hd:t.dummies=#[]):∀(f:Nat)(p:SetTable.Probe){j:Nat}{d:Option Nat},p.dummy=none->Uh t ha h f p=some (.empty j d)->d=none/\t.place[OM t.place j]?≠some j:=by
 intro f
 induction f with
 | zero=>intro p j d _ e;cases e
 | succ f ih=>
  intro p j d hp e;unfold Uh at e;have nd:∀k,SetTable.has t.dummies k=false:=λk=>by rw [hd];rfl
  have adv:(t.advance p).dummy=none:=by unfold SetTable.advance;split <;> exact hp
  cases hs:t.slot p.j with
  | empty=>
   rw [hs] at e;simp only [O5,SetTable.Met.empty.injEq] at e;obtain⟨rfl,rfl⟩:=e;refine⟨hp,λz=>?_⟩;unfold UX at hs;simp only [z,beq_self_eq_true,if_true] at hs;cases hs
  | dummy=>
   unfold UX at hs;simp only [nd] at hs;split at hs
   ·cases hs
   ·simp at hs
  | live i=>
   rw [hs] at e;simp only at e;split at e
   ·cases e
   ·exact ih _ adv e
structure dP (t:Wm):Prop where
 ris:fi t.place
 dum:t.dummies=#[]
theorem dP.fresh{f m:Nat}{l:Bool}:dP (.fresh f m l):=⟨.nil,rfl⟩
theorem JH(n:Nat):fi (Array.range n):=by
 unfold fi;rw [Array.toList_range];exact SS
theorem dP.standIn{t:Wm}{n:Nat}:dP (t.standIn n):=⟨JH n,rfl⟩
theorem dP.orStandIn{t:Wm}{n:Nat}(h:dP t):dP (t.orStandIn n):=by
 unfold TY;split
 ·exact h
 ·exact .standIn
theorem dP.layNew{t:Wm}(h:dP t)(es:Array (Int×Vw))(hs:Int)(x:Vw):dP (layNew t es hs x).2.1:=by
 unfold PySem.layNew;cases hf:t.freeSlot hs with
 | none=>exact .standIn
 | some q=>
  obtain⟨slot,wd⟩:=q;simp only;refine dP.orStandIn ?_;unfold SetTable.freeSlot at hf;split at hf
  ·rename_i j d hp;simp only [O5,RU] at hf;obtain⟨e1,e2⟩:=hf;obtain⟨rfl,nj⟩:=JG h.dum _ _ (by rfl) hp;simp at e1;subst e1;unfold SetTable.put;refine⟨h.ris.ins nj,?_⟩;simp only [h.dum];rfl
  ·cases hf
theorem dP.relay{t:Wm}(h:dP t)(es:Array (Int×Vw))(n:Nat):dP (W8 t es n).2.1:=by
 unfold W8;split
 ·rename_i t' order hr;dsimp only;split
  ·unfold UJ UT at hr;cases hc:Ug (TZ n - 1) (es.map (·.1)) with
   | none=>rw [hc] at hr;cases hr
   | some ow=>
    rw [hc] at hr;simp only [bind,Vh,pure,O5,RU] at hr;obtain⟨e1,_⟩:=hr;subst e1;refine⟨?_,rfl⟩;unfold fi;simp only [List.toList_toArray];rw [Oj];refine U3.filterMap _ (λa a' hl b hb b' hb'=>?_) SS;cases h1:ow.getD a none with
    | none=>rw [h1] at hb;cases hb
    | some u=>
     cases h2:ow.getD a' none with
     | none=>rw [h2] at hb';cases hb'
     | some u'=>
      rw [h1] at hb;rw [h2] at hb';cases hb;cases hb';exact hl
  ·exact .standIn
 ·exact .standIn
structure JI (P:VL) (w:VP) (o:Obj) (ss:List Int):Prop where
 ex:o.ExactSet
 da:∃es ep t,o.data= .set es ep t/\ElemsOf (WV P w) es.toList/\(∃ss',V4 (es.toList.map (·.2)) ss'/\ss'.Perm ss)/\es.size < WH/\t.fits es.size=true/\(fc w=true\/t.led=true)/\dP t
def cL(P:VL)(w:VP)(h:VQ)(a:Vy)(ss:List Int):Prop:=∃o,h.get? a=some o/\JI P w o ss
theorem BN{k:Int}:∀{vs:List Vw}{ss:List Int},V4 vs ss->((∃v∈vs,v.isInt k=true)↔k∈ss)
 | _,_,.nil=>by simp
 | _,_,.cons x t r=>by
  have ih:=BN (k:=k) r;constructor
  ·rintro⟨v,hv,e⟩;rcases Ny.mp hv with z | z
   ·subst z;obtain⟨u,e'⟩:=Ua e;cases e';exact Ob
   ·exact NY _ (ih.mp ⟨v,z,e⟩)
  ·intro hk;rcases Ny.mp hk with z | z
   ·subst z;exact⟨_,Ob,by simp [Um]⟩
   ·obtain⟨v,hv,e⟩:=ih.mpr z;exact⟨v,NY _ hv,e⟩
theorem qM{vs vs':List Vw}(p:vs'.Perm vs):∀{ss:List Int},V4 vs ss->∃ss',V4 vs' ss'/\ss'.Perm ss:=by
 induction p with
 | nil=>intro ss h;exact⟨ss,h,.refl _⟩
 | cons x p ih=>
  intro ss h;cases h with
  | cons y t r=>obtain⟨s1,a,b⟩:=ih r;exact⟨y::s1,.cons y t a,b.cons y⟩
 | swap x y l=>
  intro ss h;cases h with
  | cons a t r=>cases r with | cons b u r=>exact⟨b::a::_,.cons b u (.cons a t r),.swap _ _ _⟩
 | trans p q ih1 ih2=>
  intro ss h;obtain⟨s1,a,b⟩:=ih2 h;obtain⟨s2,c,d⟩:=ih1 a;exact⟨s2,c,d.trans b⟩
theorem BO{x:Int}{t:Tok}:∀{vs:List Vw}{ss:List Int},V4 vs ss->V4 (vs++[.int x t]) (ss++[x])
 | _,_,.nil=>.cons x t .nil
 | _,_,.cons y u r=>.cons y u (BO r)
theorem mN:∀{vs:List Vw}{ss:List Int},V4 vs ss->vs.length=ss.length
 | _,_,.nil=>rfl
 | _,_,.cons y u r=>by simp [mN r]
def cP(ss:List Int)(x:Int):List Int:=if x∈ss then ss else ss++[x]
section
variable {P:VL} {w:VP} {A:VS} {E:Vw->Vz->Prop} {s:Vz}
theorem cL.mk{h:VQ}{a:Vy}{o:Obj}{es es':Array (Int×Vw)}{ep:Nat}{t t':Wm}{ss:List Int}(o1:h.get? a=some o)(x1:o.ExactSet)(d1:o.data= .set es ep t)
 (el:ElemsOf (WV P w) es'.toList)(sp:∃ss',V4 (es'.toList.map (·.2)) ss'/\ss'.Perm ss)(b1:es'.size < WH)(f1:t'.fits es'.size=true)(l1:fc w=true\/t'.led=true)(p1:dP t'):
 (h.update a (Sd es' t')).get? a=some {o with data:= .set es' (ep+1) t'}/\cL P w (h.update a (Sd es' t')) a ss:=by
 have g:(h.update a (Sd es' t')).get? a=some {o with data:= .set es' (ep+1) t'}:=by
  have z:=OT (Sd es' t') o1 (by rw [putSet_of es' t' d1];rfl);rw [putSet_of es' t' d1] at z;exact z
 exact⟨g,_,g,x1,es',ep+1,t',rfl,el,sp,b1,f1,l1,p1⟩
theorem BP{g:Bool->Sem Unit}(hg:∀(b:Bool) (s₁:Vz) (Q':Unit->Vz->Prop),Q' () s₁->VC (VB P w) A (g b) Q' E s₁)
 {a:Vy}{o:Obj}{es:Array (Int×Vw)}{ep:Nat}{t:Wm}(o1:s.heap.get? a=some o)(x1:o.ExactSet)(d1:o.data= .set es ep t)
 {es1:Array (Int×Vw)}{t2:Wm}{ss:List Int}(el:ElemsOf (WV P w) es1.toList)(sp:∃ss',V4 (es1.toList.map (·.2)) ss'/\ss'.Perm ss)
 (b1:es1.size < WH)(f2:t2.fits es1.size=true)(l2:fc w=true\/t2.led=true)(p2:dP t2){wd:Bool}{R:Option Bool->Vz->Prop}
 (h:∀h',PK a s.heap h'->cL P w h' a ss->R (some true) {s with heap:=h'}):
 VC (VB P w) A (do
  storeSet a es1 t2
  if (!wd && t2.tooFull)=true then do
   g (W8 t2 es1 (PY es1.size)).2.2
   storeSet a (W8 t2 es1 (PY es1.size)).1 (W8 t2 es1 (PY es1.size)).2.1
   pure (some true)
   else pure (some true)) R E s:=by
 refine Vx (wpAny_storeSet_of o1 d1 ?_ (fits_of_scanBound b1));obtain⟨o2,S2⟩:=cL.mk (P:=P) o1 x1 d1 el sp b1 f2 l2 p2;have sb:=Oh s.heap a (Sd es1 t2);split
 ·have rp:=relayAll_perm t2 es1 (PY es1.size);have rf:=relayAll_fits t2 es1 (PY es1.size);have rl:=IT t2 es1 (PY es1.size);have rq:=p2.relay es1 (PY es1.size);generalize W8 t2 es1 (PY es1.size)=Z at rp rf rl rq⊢;obtain⟨es2,t3,gv⟩:=Z;dsimp only at rp rf rl rq⊢;have sz:es2.size=es1.size:=by rw [<-Nu,rp.length_eq,Nu]
  obtain⟨ss',q1,q2⟩:=sp;obtain⟨ss2,q3,q4⟩:=qM (rp.map (·.2)) q1;refine Vx (hg _ _ _ (Vx (wpAny_storeSet_of o2 rfl ?_ (fits_of_scanBound (by rw [sz];exact b1)))));obtain⟨_,S3⟩:=cL.mk (P:=P) (w:=w) (t':=t3) o2 x1 rfl (el.perm rp) ⟨ss2,q3,q4.trans q2⟩ (by rw [sz];exact b1) rf (by rw [rl];exact l2) rq;exact VA (h _ (sb.trans (Oh _ a _)) S3)
 ·exact VA (h _ sb S2)
theorem JJ{a:Vy}{ss:List Int}{x:Int}{tk:Tok}{Q:Bool->Vz->Prop}(hS:cL P w s.heap a ss)(hroom:ss.length+1 < WH)
 (h:∀h' b,PK a s.heap h'->cL P w h' a (cP ss x)->Q b {s with heap:=h'}):
 VC (VB P w) A (setAddHashed a (.int x tk) (hashInt x)) Q E s:=by
 obtain⟨o,o1,x1,es,ep,t,d1,el,⟨ss',s1,s2⟩,b1,f1,l1,p1⟩:=hS;have hk:(WV P w).is x (.int x tk)=true:=intKind_is _ _ _ _;have hsc:(Pk x tk).scannable=true:=rfl;have ln:es.size=ss.length:=by rw [<-s2.length_eq,<-mN s1,Nj,Nu]
 unfold setAddHashed setAddHashedIn;refine VY (Vx (Wu o1 d1 f1 ?_));dsimp only;rw [byScan_of hsc b1 el,Vs rfl];unfold setAddByScan;refine Vx (Vx (Wi (Vx (wpAny_setScan_of hk o1 d1 f1 el ?_))));have mem:(∃e∈es.toList,(WV P w).is x e.2=true)↔x∈ss:=by
  rw [<-s2.mem_iff,<-BN s1];constructor
  ·rintro⟨e,he,q⟩;exact⟨e.2,NC.mpr ⟨e,he,rfl⟩,q⟩
  ·rintro⟨v,hv,q⟩;obtain⟨e,he,rfl⟩:=NC.mp hv;exact⟨e,he,q⟩
 cases hr:List.findIdx? (λe=>(WV P w).is x e.2) es.toList with
 | some j=>
  obtain⟨hj,hp,_⟩:=List.findIdx?_eq_some_iff_getElem.mp hr;have hx:x∈ss:=mem.mp ⟨_,OP hj,hp⟩;refine VA (VA ?_);have z:=h s.heap false (PK.refl a s.heap) (by unfold cP;rw [Vs hx];exact⟨o,o1,x1,es,ep,t,d1,el,⟨ss',s1,s2⟩,b1,f1,l1,p1⟩);have e:s={s with heap:=s.heap}:=by cases s;rfl
  rw [e];exact z
 | none=>
  dsimp only;have hx:x ∉ ss:=λz=>by
   obtain⟨e,he,q⟩:=mem.mpr z;have:=List.findIdx?_eq_none_iff.mp hr e he;rw [q] at this;cases this
  have eS:cP ss x=ss++[x]:=Vr hx;rw [eS] at h;have lp:=layNew_perm t es (hashInt x) (.int x tk);have lf:=layNew_fits t es (hashInt x) (.int x tk);have ll:=IS t es (hashInt x) (.int x tk);have lt:=p1.layNew es (hashInt x) (.int x tk);generalize layNew t es (hashInt x) (.int x tk)=L at lp lf ll lt⊢;obtain⟨es1,t1,wd,gv⟩:=L;dsimp only at lp lf ll lt⊢;rw [Pj] at lp;have el1:ElemsOf (WV P w) es1.toList:=(el.push hk hsc).perm lp;have sp1:∃ss',V4 (es1.toList.map (·.2)) ss'/\ss'.Perm (ss++[x]):=by
   have s3:V4 ((es.toList++[(hashInt x,Pk x tk)]).map (·.2)) (ss'++[x]):=by
    rw [N8];exact BO s1
   obtain⟨s4,q1,q2⟩:=qM (lp.map (·.2)) s3;exact⟨s4,q1,q2.trans (s2.append_right _)⟩
  have n1:es1.size=es.size+1:=by rw [<-Nu,lp.length_eq];simp
  have b2:es1.size < WH:=Vq
  have l2:fc w=true\/t1.led=true:=by rw [ll];exact l1
  have gw:∀(b:Bool)(s₁:Vz)(Q':Unit->Vz->Prop),Q' () s₁->VC (VB P w) A (match b with | true=>rule "set.scan.the-table-gave-way" | false=>pure ()) Q' E s₁:=
   λb s₁ Q' z=>by cases b <;> first | exact VA z | exact Wi z
  refine Vx (gw _ _ _ ?_);split
  ·refine Vx ?_;rw [hashByValue_scannable 8 hsc];refine VA ?_;rw [Vs (show plainKind (Pk x tk)=true from rfl)];exact BP gw o1 x1 d1 el1 sp1 b2 lf l2 lt λh' sb S'=>VA (h h' true sb S')
  ·refine Vx (VA ?_);rw [Vs rfl];exact BP gw o1 x1 d1 el1 sp1 b2 lf l2 lt λh' sb S'=>VA (h h' true sb S')
end
def iz(val:Nat->Int)(i:Nat):List Int:=((OA i).map val).foldl cP []
theorem BQ(val:Nat->Int)(i:Nat):iz val (i+1)=cP (iz val i) (val i):=by
 unfold iz;rw [QU,N8,Ui];rfl
theorem BR(val:Nat->Int):∀i,(iz val i).length<=i
 | 0=>Np _
 | i+1=>by
  have ih:=BR val i;rw [BQ];unfold cP;split
  ·omega
  ·simp;omega
theorem JK{ss:List Int}{x:Int}(h:ss.Nodup):(cP ss x).Nodup:=by
 unfold cP;split
 ·exact h
 ·rename_i hx;refine R8.mpr ⟨h,Vu,λa ha b hb=>?_⟩;rw [NU] at hb;subst hb;intro e;subst e;exact hx ha
theorem JL{ss:List Int}{x y:Int}:y∈cP ss x↔y∈ss\/y=x:=by
 unfold cP;split
 ·rename_i hx;exact⟨.inl,λz=>z.elim id λe=>by subst e;exact hx⟩
 ·simp
theorem BS{y:Int}:∀{l ss:List Int},y∈l.foldl cP ss↔y∈ss\/y∈l
 | [],ss=>by simp
 | a::l,ss=>by rw [O7,BS,JL,Ny];exact or_assoc
theorem vk:∀{l ss:List Int},ss.Nodup->(l.foldl cP ss).Nodup
 | [],_,h=>h
 | a::l,_,h=>by rw [O7];exact vk (JK h)
theorem cL.stay{P:VL}{w:VP}{h h':VQ}{a:Vy}{ss:List Int}(x:cL P w h a ss)(k:∀o,h.get? a=some o->h'.get? a=some o):cL P w h' a ss:=
 let ⟨o,e,r⟩:=x;⟨o,k o e,r⟩
section
variable {P:VL} {w:VP} {A:VS} {R:Result->Vz->Prop} {I:Vy} {fp wr:List Vy} {G:Array Xs->Array Xs->Prop} {n:Nat} {Pv:Nat->Vw->Prop} {St:Nat->Vz->Prop}
theorem JM(W:WalksS P w A.in1 I fp wr G n Pv St)(S:Vy)(hSf:S ∉ fp)(val:Nat->Int)(hval:∀i v,Pv i v->∃t,v= .int (val i) t)(hb:n+1 < WH):
 ∀(k i:Nat)(s:Vz),n - i=k->i<=n->St i s->cL P w s.heap S (iz val i)->
  (∀s',Moved (S::wr) G s s'->cL P w s'.heap S (iz val n)->R (.ok (.ret .none)) s')->Ww (VB P w) A (.builtin "set.update.loop" ⟨[.ref S,.ref I],[]⟩) R s:=by
 have sw:S ∉ wr:=λz=>hSf (W.sub _ z);have sub:∀b∈wr,b∈S::wr:=λb z=>NY _ z;intro k
 induction k with
 | zero=>
  intro i s e1 e2 st hS q;obtain rfl:i=n:=Vq
  refine Wn Q1 ?_;rw [Pd P2 _];show VC _ A.in1 (WC (.ref I) >>=_) _ _ s;exact Vx (W.done s _ _ st λs' m=>VA (q s' (m.mono sub) (hS.stay λo e=>m.heap S o sw e)))
 | succ k ih=>
  intro i s e1 e2 st hS q;have lt:i < n:=Vq
  refine Wn Q1 ?_;rw [Pd P2 _];show VC _ A.in1 (WC (.ref I) >>=_) _ _ s;refine Vx (W.item i s _ _ lt st λv s' hP st' m=>?_);obtain⟨t,rfl⟩:=hval i v hP;have hS':=hS.stay (h':=s'.heap) λo e=>m.heap S o sw e;show VC _ A.in1 (WW [Pk (val i) t] (setAdd S (.int (val i) t)) >>=_) _ _ s';refine Vx (VY ?_);unfold setAdd;refine VY (Vx ((WV P w).pyHash (k:=val i) (intKind_is _ _ _ _) ?_));have rm:(iz val i).length+1 < WH:=by have:=BR val i;omega
  refine JJ (s:={s' with toks:=s'.toks+1}) hS' rm λh' b sb S2=>?_;rw [<-BQ] at S2;refine VA ⟨WB P2 _,ih (i+1) _ Vq lt (W.frame _ s' _ _ st' (Qj _) λb hb o e=>?_) S2 λs2 m2 S3=>?_⟩
  ·rw [sb.2 b (λz:b=S=>hSf (by rw [<-z];exact hb))];exact e
  ·refine q s2 (Moved.trans W.gtrans ((m.mono sub).then_heap (Qj _) λb o hb e=>?_) m2) S3;rw [sb.2 b (λz:b=S=>hb (by rw [z];exact Ob))];exact e
end
section
variable {P:VL} {w:VP} {A:VS} {E:Vw->Vz->Prop} {s:Vz}
theorem cL.fresh{h:VQ}{a:Vy}(e:h.get? a=some {cls:= .type "set",dict:=none,data:= .set #[] 0 (.fresh 0 0 (!fc w))}):cL P w h a []:=by
 refine⟨_,e,⟨rfl,rfl,rfl⟩,#[],0,_,rfl,λe he=>by simp at he,⟨[],.nil,.refl _⟩,Vp,rfl,?_,dP.fresh⟩;cases hb:fc w with
 | true=>exact .inl rfl
 | false=>exact .inr rfl
theorem JN{l:Vy}{items:Array Vw}{ss:List Int}{Q:Vw->Vz->Prop}
 (hh:A.handled=none)(hl:s.heap.IsList l items)(hi:V4 items.toList ss)(hb:items.size+1 < WH)
 (h:∀(h':VQ) (tk:Nat),cL P w h' s.heap.objs.size (ss.foldl cP [])->(∀b o,s.heap.get? b=some o->h'.get? b=some o)->Q (.ref s.heap.objs.size) {s with heap:=h',toks:=tk}):
 VC (VB P w) A (call (.type "set") [.ref l]) Q E s:=by
 obtain⟨c,tl,hmro⟩:=PySem.F.called_set.mro;have hmade:=PySem.F.called_set.made;have hsub:=PySem.F.called_set.sub;refine wpAny_call (codeAny_of_tree ?_);show VC _ _ (callAny (.type "set") _) _ _ _;refine VA ⟨Code.quiet_builtin _ cp,Wn PySem.F.entry_type_call ?_⟩;rw [Around.under_plain (weight_type_call_type "set" [.ref l] []) rfl];have h1:=PySem.F.called_set.notType;have h2:=PySem.F.called_set.canCreate;have hct:=PySem.F.typeCall_set_1 (.ref l)
 repeat (any_goals (first | assumption | wp_step))
 generalize hob:({cls:= .type "set",dict:=none,data:= .set #[] 0 (.fresh 0 0 (!fc w))}:Obj)=ob;refine Wx (IU (P:=P) (w:=w) (.ref l) (E:=E) (Q₁:=λu s₁=>u= .ref s.heap.objs.size/\s₁={s with heap:=s.heap.push ob}) (by subst hob;exact⟨rfl,rfl⟩)) λr s₁ hr=>?_;cases r with
 | error e=>exact hr
 | ok fl=>
  cases fl with
  | ret u=>
   obtain⟨rfl,rfl⟩:=hr;have hS:(s.heap.push ob).get? s.heap.objs.size=some ob:=NH _ (by subst hob;rfl);have hT:Shared.TypeIs {s with heap:=s.heap.push ob} (.ref s.heap.objs.size) "set":=⟨_,hS,by subst hob;rfl⟩;have hli:=PySem.F.called_set.init.lookup;have hbi:=PySem.F.called_set.init.bind (.ref s.heap.objs.size)
   repeat (any_goals (first | assumption | wp_step))
   refine Wx (codeAny_call_builtin (R:=wants (λr s₂=>r= .none/\∃h' tk,s₂={s with heap:=h',toks:=tk}/\cL P w h' s.heap.objs.size (ss.foldl cP [])/\∀b o,s.heap.get? b=some o->h'.get? b=some o) E)
    PySem.F.called_set.init.plain PySem.F.entry_set_init (check_set_init_1 hT ?_)) λr₂ s₂ hr₂=>?_
   ·obtain⟨ol,o1,c1,nl,d1⟩:=hl;obtain⟨oc,od,oda,osl⟩:=ol;simp only at c1 d1;subst c1;subst d1;have o2:(s.heap.push ob).get? l=some {cls:= .type "list",dict:=od,data:= .seq items nl,slots:=osl}:=Nm _ o1;have q1:=PySem.F.sub_list_set;have q2:=PySem.F.sub_list_frozenset;have q3:(Qr "list"==Qr "dict")=false:=Vp
    have l1:(s.heap.push ob).IsList l items:=⟨_,o2,rfl,nl,rfl⟩;subst hob;unfold Builtin.«set.__init__» noKeywords Builtin.Frozenset.updateFrom;generalize hPI:pyIter=PI
    wp_walk
    subst hPI;refine W0 l1 ?_;refine Vx (wpAny_runValue ?_);have ll:l < s.heap.objs.size:=NB o1;have sz:∀ob:Obj,(s.heap.push ob).objs.size=s.heap.objs.size+1:=λ_=>Ql _ _;have n1:∀ob:Obj,l≠(s.heap.push ob).objs.size:=λ_=>by rw [sz];exact NL (OI ll)
    have n2:∀ob:Obj,s.heap.objs.size ∉ [(s.heap.push ob).objs.size,l]:=λ_=>by
     rw [sz];simp only [Ny,Oe,or_false,not_or];exact⟨NL (Pw _),QZ ll⟩
    have hv:∀(i:Nat)(v:Vw),items[i]?=some v->∃t,v= .int ((λi:Nat=>(ss[i]?).getD 0) i) t:=λi v e=>by
     rw [<-OU] at e;have:∀{vs:List Vw}{ss:List Int},V4 vs ss->∀(i:Nat)(v:Vw),vs[i]?=some v->∃t,v= .int ((ss[i]?).getD 0) t:=by
      intro vs ss x
      induction x with
      | nil=>intro i v e;simp at e
      | cons y t r ih=>
       intro i v e;cases i with
       | zero=>simp at e;exact⟨t,by rw [<-e];rfl⟩
       | succ i=>simp only [OZ] at e⊢;exact ih i v e
     exact this hi i v e
    have hm:iz (λi=>(ss[i]?).getD 0) items.size=ss.foldl cP []:=by
     have e:items.size=ss.length:=by rw [<-mN hi,Nu]
     unfold iz;rw [e];congr 1;apply PX Vu;intro i a b;simp at a b⊢;rw [NN Vq];rfl
    refine JM (Ti (show A.in1.in1.in1.handled=none by simp [hh]) _ l (n1 _) items).toS s.heap.objs.size (n2 _) _ hv hb (items.size - 0) 0 _ Vq (N9 _)
     ⟨⟨_,NH _ rfl,rfl,rfl⟩,l1.push _⟩ ?hS0 ?hR
    case hS0=>
     exact cL.fresh (Nm _ hS)
    case hR=>
     intro s' m S';rw [hm] at S';obtain⟨h',g',d',tk',os'⟩:=s';obtain rfl:g'=s.gens:=m.gens;obtain rfl:d'=s.drawn:=m.drawn;obtain rfl:os'=s.os:=m.os;show VC _ _ _ _ _ _;refine VA (VA ⟨rfl,h',tk',rfl,S',λb o e=>?_⟩);have hb1:b < s.heap.objs.size:=NB e;refine m.heap b o ?_ (Nm _ (Nm _ e));rw [sz];simp only [Ny,Oe,or_false,not_or];exact⟨NL hb1,NL (OI hb1)⟩
   ·cases r₂ with
    | error e=>exact hr₂
    | ok fl₂=>
     cases fl₂ with
     | ret r=>
      obtain⟨rfl,h',tk,rfl,S',k'⟩:=hr₂
      repeat (any_goals (first | assumption | wp_step))
      exact h _ _ S' k'
     | _=>exact hr₂.elim
  | _=>exact hr.elim
end
section
variable {P:VL} {w:VP} {A:VS} {E:Vw->Vz->Prop} {s:Vz} {a:Vy} {o:Obj} {es:Array (Int×Vw)} {ep:Nat} {t:Wm}
theorem BU{slot i:Nat}{Q:Option (Vw×Nat)->Vz->Prop}(hb:fc w=false)(o1:s.heap.get? a=some o)(d1:o.data= .set es ep t)(f1:t.fits es.size=true)(hd:(!t.plain && decide (es.size > 1))=false)(hl:t.led=true)
 (h:Q (match es[OM t.place slot]?,t.place[OM t.place slot]? with | some (_,x),some j=>some (x,j+1) | _,_=>none) s):VC (VB P w) A (WZ a slot i ep) Q E s:=by
 unfold WZ setsByText;refine Vx (Wu o1 d1 f1 (Vx (Vx (Wy (VA ?_)))));rw [Vr (show ¬(VB P w).w.params.followText "set-order"=true from by show ¬fc w=true;rw [hb];decide)];show VC _ _ (if (!t.plain && decide (es.size > 1))=true then _ else _) _ _ _;rw [Vr (by rw [hd];decide)];refine Vx (m:=if (!t.led && !es.isEmpty)=true then Xn "set:maker-not-led" else pure ()) ?_;rw [Vr (by simp [hl])];exact VA (VA h)
theorem JO{ss:List Int}{Q:Vw->Vz->Prop}(hh:A.handled=none)(hS:cL P w s.heap a ss)
 (q:∀(I:Vy) (h1:VQ) (d1:Drawn) (vs:List Vw) (fp wr:List Vy) (n:Nat) (St:Nat->VQ->Prop),(∀b u,s.heap.get? b=some u->h1.get? b=some u)->(∃ss',V4 vs ss'/\ss'.Perm ss)->n=ss.length->
  Walks P w A I fp wr n (λi v=>vs[i]?=some v) St->St 0 h1->(∀b∈fp,b=a\/s.heap.objs.size<=b)->(∀b∈wr,s.heap.objs.size<=b)->vs.length=n->(∀b∈fp,b < h1.objs.size)->Q (.ref I) {s with heap:=h1,drawn:=d1}):
 VC (VB P w) A (pyIter (.ref a)) Q E s:=by
 obtain⟨o,o1,x1,es,ep,t,d1,el,⟨ss',s1,s2⟩,b1,f1,l1,p1⟩:=hS;have hT:s.TypeIs (.ref a) "set":=⟨o,o1,x1.1⟩;have la:a < s.heap.objs.size:=NB o1;have ln:es.size=ss.length:=by rw [<-s2.length_eq,<-mN s1,Nj,Nu]
 refine wpAny_pyIter_slot hT S0 (V7 S0 hT IV ?_ (PySem.F.args_set_iter_1 _));unfold Builtin.«frozenset.__iter__»;refine Vx (m:=Builtin.Frozenset.slot0 _ _) (VA ?_);refine Vx (m:=Builtin.Frozenset.sizeOf a) (Vx (Wz o1 d1 f1 (VA ?_)));refine Vx (m:=setDrawn a) ?_;unfold setDrawn setsByText;refine Vx (Wu o1 d1 f1 (Vx (Vx (Wy (VA (VA ?_))))));show VC _ _ (if (!(fc w) && (!t.plain && decide (es.size > 1)))=true then _ else _) _ _ _;have lastly:∀(f:Vw)(h1:VQ)(d:Drawn),h1.get? a=some o->(∀I h2,h2=h1.push {cls:= .type "set_iterator",data:= .fields #[f,.int (0:Nat) 0,.ref a,.int es.size 0,.int ep 0]}->I=h1.objs.size->Q (.ref I) {s with heap:=h2,drawn:=d})->
  VC (VB P w) A.in1 (setEpoch a >>=λe=>newFields "set_iterator" [f,WK 0,.ref a,WK es.size,WK e] >>=λv=>ret v)
   (λfin s'=>∃v,fin= .done (.ret v)/\∃T' r,s'.TypeIs v T'/\typeLookup (.type T') "__next__"=pure (some r)/\Q v s') E {s with heap:=h1,drawn:=d}:=by
  intro f h1 d e1 k;refine Vx (wpAny_setEpoch_of (s:={s with heap:=h1,drawn:=d}) e1 d1 f1 ?_);refine Vx (V0 (VA ?_));exact⟨_,rfl,"set_iterator",_,⟨_,NH _ rfl,rfl⟩,gU.lookup,k _ _ rfl rfl⟩
 have szp:∀(h:VQ)(ob:Obj),(h.push ob).objs.size=h.objs.size+1:=λ_ _=>Ql _ _;have n0:a≠s.heap.objs.size:=NL la;by_cases hdr:(!(fc w) && (!t.plain && decide (es.size > 1)))=true
 ·rw [Vs hdr];refine Vx (Bm es.size (OA es.size) s _ Vu λks d hp=>Vx (m:=newTuple _) (V0 ?_ ?_))
  ·have lk:ks.length=es.size:=by rw [hp.length_eq,Qz]
   refine lastly _ (s.heap.push _) d (Nm _ o1) λI h2 e2 eI=>?_;subst e2 eI;have k1:a≠(s.heap.push {cls:= .type "tuple",data:= .seq (ks.map λ(i:Nat)=>WK i).toArray}).objs.size:=by rw [szp];exact NL (OI la)
   have k2:s.heap.objs.size≠(s.heap.push {cls:= .type "tuple",data:= .seq (ks.map λ(i:Nat)=>WK i).toArray}).objs.size:=by rw [szp];exact NL (Pw _)
   have pm:(ks.map λk=>((es[k]?).map (·.2)).getD .none).Perm (es.toList.map (·.2)):=by
    refine(hp.map _).trans (.of_eq ?_);apply PX Vu;intro i a b;simp at a b⊢;rw [Qg a];rfl
   obtain⟨ss2,q3,q4⟩:=qM pm s1;refine q _ _ d _ _ _ es.size _ (λb u e=>Nm _ (Nm _ e)) ⟨ss2,q3,q4.trans s2⟩ ln
    (Jc hh _ _ k1 k2 d1 f1 _ ks rfl lk (λi k e=>?_)) ⟨⟨_,NH _ rfl,rfl,rfl⟩,Nm _ (Nm _ o1),Nm _ (NH _ rfl)⟩ (λb hb=>?_) (λb hb=>?_) (by simp [lk]) (λb hb=>?_)
   ·have hk:k < es.size:=by
     have:=hp.mem_iff.mp (NT e);simpa using this
    refine⟨es[k].1,es[k].2,by simp [hk],?_⟩;rw [NK,e];simp [hk]
   ·simp only [Ny,Oe,or_false] at hb;rcases hb with rfl | rfl | rfl
    ·right;rw [szp];exact Qj _
    ·left;rfl
    ·right;exact Np _
   ·rw [NU] at hb;rw [hb,szp];exact Qj _
   ·simp only [Ny,Oe,or_false] at hb;rw [szp,szp];rcases hb with rfl | rfl | rfl
    ·rw [szp];exact Pw _
    ·exact OI (OI la)
    ·exact OI (Pw _)
  ·unfold sizeOk;simp [hp.length_eq];have:WH=4096:=rfl;have:VG=16777216:=by first | rfl | exact V6
   omega
 ·rw [Vr hdr];refine Vx (VA ?_);have e0:s={s with heap:=s.heap,drawn:=s.drawn}:=by cases s;rfl
  show VC _ _ _ _ _ {s with heap:=s.heap,drawn:=s.drawn};refine lastly _ s.heap s.drawn o1 λI h2 e2 eI=>?_;subst e2 eI;have fpa:∀b∈[s.heap.objs.size,a],b=a\/s.heap.objs.size<=b:=λb hb=>by
   simp only [Ny,Oe,or_false] at hb;rcases hb with rfl | rfl
   ·right;exact Np _
   ·left;rfl
  have wra:∀b∈[s.heap.objs.size],s.heap.objs.size<=b:=λb hb=>by rw [NU] at hb;rw [hb];exact Np _
  have fpl:∀(ob:Obj),∀b∈[s.heap.objs.size,a],b < (s.heap.push ob).objs.size:=λob b hb=>by
   rw [szp];simp only [Ny,Oe,or_false] at hb;rcases hb with rfl | rfl
   ·exact Pw _
   ·exact OI la
  cases hb:fc w with
  | true=>
   have pm:=IW (w.params.setOrder a ep) es;obtain⟨ss2,q3,q4⟩:=qM (pm.map (·.2)) s1;have lp:((Xq (w.params.setOrder a ep) es).toList.map (·.2)).length=es.size:=by rw [Nj,pm.length_eq,Nu]
   refine q _ _ s.drawn _ _ _ es.size _ (λb u e=>Nm _ e) ⟨ss2,q3,q4.trans s2⟩ ln
    (Bq hh _ n0 d1 f1 _ lp (λ_=>0) (λs i hi E' Q' g z=>Bn hb g d1 f1 ?_) (λs E' Q' g z=>Bn hb g d1 f1 ?_)) ⟨⟨_,NH _ rfl,rfl,rfl⟩,Nm _ o1⟩ fpa wra lp (fpl _)
   ·have hi':i < (Xq (w.params.setOrder a ep) es).size:=by rw [<-Nu,<-Nj (f:=(·.2))];exact hi
    rw [Qg hi'];simpa using z
   ·have:(Xq (w.params.setOrder a ep) es).size=es.size:=by rw [<-Nu,pm.length_eq,Nu]
    rw [SU Vq];exact z
  | false=>
   have hled:t.led=true:=by
    rcases l1 with l1 | l1
    ·rw [hb] at l1;cases l1
    ·exact l1
   have hcd:(!t.plain && decide (es.size > 1))=false:=by
    cases hx:(!t.plain && decide (es.size > 1)) with
    | false=>rfl
    | true=>exfalso;apply hdr;rw [hb,hx];rfl
   have hpl:t.place.size=es.size:=by
    simp only [SetTable.fits,Oq,beq_iff_eq] at f1;exact f1.1
   have lp:(es.toList.map (·.2)).length=es.size:=by rw [Nj,Nu]
   have bel:∀i,i<=es.size->OM t.place (if i=0 then 0 else t.place.getD (i - 1) 0+1)=i:=λi hi=>by
    by_cases h0:i=0
    ·rw [Vs h0,JF p1.ris,h0]
    ·rw [Vr h0];have hlt:i - 1 < t.place.size:=Vq
     have eg:t.place.getD (i - 1) 0=t.place[i - 1]:=by simp [Qf,hlt]
     rw [eg,JE p1.ris hlt];omega
   refine q _ _ s.drawn _ _ _ es.size _ (λb u e=>Nm _ e) ⟨ss',s1,s2⟩ ln
    (Bq hh _ n0 d1 f1 _ lp (λi=>if i=0 then 0 else t.place.getD (i - 1) 0+1) (λs i hi E' Q' g z=>BU hb g d1 f1 hcd hled ?_) (λs E' Q' g z=>BU hb g d1 f1 hcd hled ?_)) ⟨⟨_,NH _ rfl,rfl,rfl⟩,Nm _ o1⟩ fpa wra lp (fpl _)
   ·have hi':i < es.size:=by rw [<-lp];exact hi
    rw [bel i Vq];have h1:es[i]?=some es[i]:=by simp [hi']
    have h2:t.place[i]?=some (t.place[i]'Vq):=by simp [show i < t.place.size by omega]
    rw [h1,h2];have eg:t.place.getD (i+1 - 1) 0=t.place[i]'Vq:=by simp [Qf,show i < t.place.size by omega]
    rw [Vr Vq,eg] at z;simpa using z
   ·rw [bel es.size (Np _)];rw [SU Vq];exact z
end
section
variable {P:VL} {w:VP} {A:VS} {E:Vw->Vz->Prop} {s:Vz} {a:Vy}
theorem JP{ss:List Int}{R:Result->Vz->Prop}(hh:A.handled=none)(hS:cL P w s.heap a ss)(S:Vy)(hSa:S≠a)(res:Vw)(c₀:Nat)(l1:s.heap.get? S=some {cls:= .type "list",data:= .seq #[] c₀})(hn:ss.length<=4096)
 (hR:∀h' tk d acc c',(∀b u,b≠S->s.heap.get? b=some u->h'.get? b=some u)->h'.get? S=some {cls:= .type "list",dict:=none,data:= .seq acc c',slots:=#[]}->(∃ss',V4 acc.toList ss'/\ss'.Perm ss)->R (.ok (.ret res)) {s with heap:=h',toks:=tk,drawn:=d}):
 VC (VB P w) A.in1 (RJ (.ref S) (.ref a) res)
  (λfin s'=>match fin with | .done f=>R (.ok f) s' | .again c'=>c'.quiet=true/\Ww (VB P w) A c' R s') (λe s'=>R (.error e) s') s:=by
 obtain⟨o,o1,x1,rest⟩:=id hS;have hT:s.TypeIs (.ref a) "set":=⟨o,o1,x1.1⟩;have lS:S < s.heap.objs.size:=NB l1;unfold RJ;refine Vx (WM hT ?_);have e1:Sk (.ref S) (.ref a)=false:=by simp [Sk,hSa]
 have e2:(Qr "set"==Qr "list")=false:=Vp
 have e3:(Qr "set"==Qr "tuple")=false:=Vp
 simp only [e1,e2,e3,QO,OO,if_false];refine Vx (JO (A:=A.in1) hh hS λI h1 d1 vs fp wr n St k1 sv en W st hf hw hlv hfl=>?_);have nf:S ∉ fp:=λz=>by
  rcases hf S z with e | e
  ·exact hSa e
  ·exact absurd lS (Nat.not_lt.mpr e)
 have key:∀(h:VQ)(c₁ tk:Nat),St 0 h->(∀b u,b≠S->s.heap.get? b=some u->h.get? b=some u)->
  h.get? S=some {cls:= .type "list",data:= .seq #[] c₁}->Ww (VB P w) A (.builtin "list.extend.loop" ⟨[.ref S,.ref I,res],[]⟩) R {s with heap:=h,toks:=tk,drawn:=d1}:=by
  intro h c₁ tk hst hk g;refine codeAny_extend_loopS W.toS (NP (by omega:n<=4096) Vp) S nf res n 0 _ #[] c₁ rfl (N9 _) hst g (ItemsOf.nil _) λs' acc c' m gq hacc=>?_;obtain⟨h',g',d',tk',os'⟩:=s';obtain rfl:g'=s.gens:=m.gens;obtain rfl:d'=d1:=m.drawn;obtain rfl:os'=s.os:=m.os;refine hR h' tk' d' acc c' (λb u hb e=>m.heap b u (λz=>?_) (hk b u hb e)) gq ?_
  ·rcases Ny.mp z with e' | z
   ·exact hb e'
   ·exact absurd (NB e) (Nat.not_lt.mpr (hw b z))
  ·have ea:acc.toList=vs:=by
    apply Uj;intro i;rcases PL i n with z | z
    ·have hz:i < acc.size:=by rw [hacc.1];exact z
     have:acc[i]?=some acc[i]:=Qg hz;rw [OU,this,hacc.2 i _ this]
    ·rw [P6 (by rw [Nu,hacc.1];exact z),P6 Vq]
   rw [ea];exact sv
 have g1:=k1 S _ l1;refine Vx (VY (Jd (s:={s with heap:=h1,drawn:=d1}) ⟨o,k1 a o o1,x1.1⟩ ?_));refine Xf (λ_=>?_) (λ_=>VA ⟨WB Se _,key _ c₀ _ st (λb u _ e=>k1 b u e) g1⟩);refine Vx (Wi (Vx ?_));show VC _ _ (updateSeq S (·.push .none) >>=λ_=>updateSeq S (·.pop)) _ _ {s with heap:=h1,drawn:=d1};refine Vx (wpAny_updateSeq g1 rfl ?_);have g2:=OT (N6 (·.push PH)) g1 rfl;refine wpAny_updateSeq (hz:=by seq_fits) g2 rfl ?_;have g3:=OT (N6 (·.pop)) g2 rfl;refine VA ⟨WB Se _,key _ _ _ (W.frame 0 _ _ st λb hb u e=>?_) (λb u hb e=>?_) g3⟩
 ·have hbS:b≠S:=λz=>nf (z▸hb);exact(Pq _ _ (Ne.symm hbS)).trans ((Pq _ _ (Ne.symm hbS)).trans e)
 ·exact(Pq _ _ (Ne.symm hb)).trans ((Pq _ _ (Ne.symm hb)).trans (k1 b u e))
theorem JQ{ss:List Int}{R:List Vw->Vz->Prop}(hh:A.handled=none)(hS:cL P w s.heap a ss)(hn:ss.length<=4096)
 (h:∀(h':VQ) (tk:Nat) (d:Drawn) (vs:List Vw),(∀b u,s.heap.get? b=some u->h'.get? b=some u)->(∃ss',V4 vs ss'/\ss'.Perm ss)->R vs {s with heap:=h',toks:=tk,drawn:=d}):
 VC (VB P w) A (collect (.ref a)) R E s:=by
 have la:a < s.heap.objs.size:=by obtain⟨o,o1,_⟩:=id hS;exact NB o1
 unfold collect;refine Vx (wpAny_runValue (Wn entry_proto_collect' ?_));rw [Pd PySem.F.plain_proto_collect _];refine Vx (m:=newList []) (V0 ?_);refine VA ⟨WB Sz _,Wn entry_list_iadd' ?_⟩;rw [Pd Sz _];have g1:(s.heap.push {cls:= .type "list",data:= .seq ([]:List Vw).toArray}).get? s.heap.objs.size=some {cls:= .type "list",data:= .seq #[]}:=NH _ rfl;have key:=JP (A:=A) (s:={s with heap:=s.heap.push {cls:= .type "list",data:= .seq ([]:List Vw).toArray}})
  (R:=λ(q:Result) (s':Vz)=>∃(h':VQ)(tk:Nat)(d:Drawn)(acc:Array Vw)(c':Nat),q= .ok (.ret (.ref s.heap.objs.size))/\s'={s with heap:=h',toks:=tk,drawn:=d}/\
   (∀b u,s.heap.get? b=some u->h'.get? b=some u)/\h'.get? s.heap.objs.size=some {cls:= .type "list",dict:=none,data:= .seq acc c',slots:=#[]}/\(∃ss',V4 acc.toList ss'/\ss'.Perm ss))
  hh (hS.stay λu e=>Nm _ e) s.heap.objs.size (QZ la) (.ref s.heap.objs.size) 0 g1 hn
  (λh' tk d acc c' hk g' hacc=>⟨h',tk,d,acc,c',rfl,rfl,λb u e=>hk b u (NL (NB e)) (Nm _ e),g',hacc⟩)
 refine V3 key (λfin s' x=>?_) λe s' x=>?_
 ·cases fin with
  | done f=>
   obtain⟨h',tk,d,acc,c',e,rfl,hk,g',hacc⟩:=x;cases e;exact Vx (m:=load s.heap.objs.size) (wpAny_load g' (VA (h h' tk d acc.toList hk hacc)))
  | again c₁=>
   refine⟨x.1,Wx x.2 λq s₂ y=>?_⟩;obtain⟨h',tk,d,acc,c',rfl,rfl,hk,g',hacc⟩:=y;exact Vx (m:=load s.heap.objs.size) (wpAny_load g' (VA (h h' tk d acc.toList hk hacc)))
 ·obtain⟨_,_,_,_,_,e',_⟩:=x;cases e'
end
def vo(P:VL)(w:VP)(a:Vy)(ss:List Int):HO:= .ext λh=>cL P w h a ss
theorem BV:∀{vs:List Vw}{ss:List Int},V4 vs ss->aC (ss.map V.int) vs
 | _,_,.nil=>.nil
 | _,_,.cons y t r=>.cons ⟨t,rfl⟩ (BV r)
theorem JR{X:Cx}:cD X (.type "set") (λxs H Q=>X.calm=true/\∃(p:Vy)(ss:List Int),xs=[.ref p]/\aL X.K H p (ss.map V.int)/\ss.length < 4000/\∀l,H l=none->Q (.ref l) (ak H l (vo X.prog X.w l (ss.foldl cP [])))):=by
 intro Xw s σ H xs us Q I r h;obtain⟨hc,p,ss,rfl,hq,h64,q⟩:=h;obtain⟨u,rfl,rx⟩:=cH r;cases rx;obtain⟨its,rv,pl,hz⟩:=I.list hq;have hlen:=rv.length;rw [Nj] at hlen;refine JN (I.ok.hd hc) pl.isList (by simpa using qv rv) (by have:WH=4096:=rfl;simp;omega) λh' tk S' k'=>?_;refine⟨.ref _,_,I.laid (t':=tk) (o:=vo X.prog X.w _ (ss.foldl cP [])) k' (Np _) ?_,rfl,q _ (I.hok.fresh (Np _))⟩;obtain⟨o,e,_⟩:=id S';exact⟨S',⟨o,e⟩,λh1 h2 x k=>x.stay k⟩
def qN:List Vv->(Vv->Prop)->Prop:=λds Q=>∃ns:List Int,ds=[.list (ns.map .int)]/\Q (.int ns.sum)
theorem JS{K:Nh}:gi K (λxs H Q=>∃(a:Vy)(ns:List Int),xs=[.ref a]/\aL K H a (ns.map V.int)/\Q (.int ns.sum) H) qN:=λH O xs ds Qd R tr hs uu34 k=>by
 obtain⟨ns,e,q⟩:=uu34;subst e;cases hs with
 | cons h r=>
  cases r;obtain⟨a,vs,rfl,h1,d1⟩:=h.lst;cases d1.intsL;exact⟨a,ns,rfl,h1,k _ _ H q (ao.refl _) (.int _)⟩
theorem JT{X:Cx}(hc:X.calm=true):cD X (.builtin "min") (λxs H Q=>∃(p:Vy)(ns:List Int),xs=[.ref p]/\aL X.K H p (ns.map V.int)/\ns≠[]/\∀M,M∈ns->(∀a∈ns,M<=a)->Q (.int M) H):=by
 intro Xw s σ H xs us Q I r h;obtain⟨p,ns,rfl,hq,hne,q⟩:=h;obtain⟨u,rfl,rx⟩:=cH r;cases rx;obtain⟨its,rv,pl,hz⟩:=I.list hq;have hi:=qv rv;obtain⟨zs,e⟩:=hi.allInts.items;have hns:ns=zs.toList.map (·.1):=by rw [<-hi.numsOf,<-nums_intItems,<-e]
 have h0:0 < zs.size:=by
  rcases RI zs.size with z | z
  ·exact absurd (by rw [hns];simp [SR.mp z]) hne
  ·exact z
 have hl:=pl.isList;rw [e] at hl;refine min_intList (I.ok.hd hc) hl h0 λv h' tk hv hk=>?_;obtain⟨t,rfl⟩:=intItems_at hv;obtain⟨h1,h2⟩:=argBest_lt (numAt zs) (zs.size - 1);refine⟨.int _,H,I.kept (t':=tk) hk,⟨t,rfl⟩,q _ ?_ λa ha=>?_⟩
 ·rw [hns,numAt_eq];exact getD_mem (by rw [Nj,Nu];omega)
 ·rw [hns] at ha;obtain⟨j,hj,rfl⟩:=mem_getD ha;rw [Nj,Nu] at hj;rw [<-numAt_eq];exact h2 j Vq
def qO:List Vv->(Vv->Prop)->Prop:=λds Q=>∃ns:List Int,ds=[.list (ns.map .int)]/\ns≠[]/\∀M,M∈ns->(∀a∈ns,M<=a)->Q (.int M)
theorem JU{K:Nh}:gi K (λxs H Q=>∃(p:Vy)(ns:List Int),xs=[.ref p]/\aL K H p (ns.map V.int)/\ns≠[]/\∀M,M∈ns->(∀a∈ns,M<=a)->Q (.int M) H) qO:=λH O xs ds Qd R tr hs uu35 k=>by
 obtain⟨ns,e,hne,q⟩:=uu35;subst e;cases hs with
 | cons h r=>
  cases r;obtain⟨a,vs,rfl,h1,d1⟩:=h.lst;cases d1.intsL;exact⟨a,ns,rfl,h1,hne,λM m1 m2=>k _ _ H (q M m1 m2) (ao.refl _) (.int _)⟩
section
variable {X:Cx} {H0:Hp} {O0:Ex}
theorem aj.rep{K:Nh}{H:Hp}{O:Ex}{vs:List V}{ds:List Vv}(h:aj K H O vs ds):∀n:Nat,aj K H O (NG n vs).flatten (NG n ds).flatten
 | 0=>.nil
 | n+1=>by rw [Pn,Pn,Qc,Qc];exact h.append (aj.rep h n)
end
end L2
namespace Day
def fK(y:Int):Bool:=decide (y % 400=0) || (decide (y % 4=0) && !decide (y % 100=0))
def ld(y:Int):Int:=if fK y=true then 1 else 0
def vp:List Int:=[31,28,31,30,31,30,31,31,30,31,30,31]
def aQ(y m:Int):Int:=if m=2/\fK y=true then 29 else vp.getD (m - 1).toNat 0
def lb(y:Int):Int:=(y - 1)/ 4 - (y - 1)/ 100+(y - 1)/ 400
def bA(y:Int):Int:=365*(y - 2000)+lb y - lb 2000
def aG(y m:Int):Int:=((OA (m - 1).toNat).map λ(i:Nat)=>aQ y (1+(i:Int))).sum
def fL(y m n:Int):Int:=bA y+aG y m+n - 1
structure iA (d y m n:Int):Prop where
 m1:1<=m
 m12:m<=12
 n1:1<=n
 nl:n<=aQ y m
 eq:fL y m n=d
theorem vq(y:Int):0<=ld y/\ld y<=1:=by unfold ld;split <;> omega
theorem mO(y:Int):fK y=true↔(y % 400=0\/(y % 4=0/\y % 100≠0)):=by
 unfold fK;simp
theorem vt(y:Int):bA (y+1)=bA y+365+ld y:=by
 unfold bA lb ld;by_cases h:fK y=true
 ·rw [Vs h];have:=(mO y).mp h;omega
 ·rw [Vr h];have:=mt (mO y).mpr h;omega
theorem BW{a b:Int}(h:a+1<=b):bA (a+1)<=bA b:=by
 unfold bA lb;omega
theorem qP(y:Int):aQ y 2=28+ld y:=by
 unfold aQ ld;by_cases h:fK y=true
 ·rw [Vs ⟨rfl,h⟩,Vs h];rfl
 ·rw [Vr (λz=>h z.2),Vr h];rfl
theorem vv{y m:Int}(h:m≠2):aQ y m=vp.getD (m - 1).toNat 0:=by
 unfold aQ;rw [Vr (λz=>h z.1)]
theorem mP(y:Int):aQ y 1=31/\aQ y 3=31/\aQ y 4=30/\aQ y 5=31/\aQ y 6=30/\aQ y 7=31/\aQ y 8=31/\aQ y 9=30/\aQ y 10=31/\aQ y 11=30/\aQ y 12=31:=by
 refine⟨?_,?_,?_,?_,?_,?_,?_,?_,?_,?_,?_⟩ <;> (rw [vv Vp];rfl)
theorem qQ{m:Int}(h1:1<=m)(h2:m<=12):m=1\/m=2\/m=3\/m=4\/m=5\/m=6\/m=7\/m=8\/m=9\/m=10\/m=11\/m=12:=by
 obtain⟨k,e⟩:=OY (show 0<=m - 1 by omega);have e:m=(k:Int)+1:=Vq
 have hk:k < 12:=Vq
 have key:∀k:Fin 12,((k.1:Nat):Int)+1=1\/((k.1:Nat):Int)+1=2\/((k.1:Nat):Int)+1=3\/((k.1:Nat):Int)+1=4\/((k.1:Nat):Int)+1=5\/((k.1:Nat):Int)+1=6\/((k.1:Nat):Int)+1=7\/((k.1:Nat):Int)+1=8\/((k.1:Nat):Int)+1=9\/((k.1:Nat):Int)+1=10\/((k.1:Nat):Int)+1=11\/((k.1:Nat):Int)+1=12:=cp
 rw [e];exact key ⟨k,hk⟩
theorem BX{y m:Int}(h1:1<=m)(h2:m<=12):28<=aQ y m/\aQ y m<=31:=by
 obtain⟨m1,m3,m4,m5,m6,m7,m8,m9,m10,m11,m12⟩:=mP y;have m2:28<=aQ y 2/\aQ y 2<=31:=by
  have:=vq y;rw [qP];clear m1 m3 m4 m5 m6 m7 m8 m9 m10 m11 m12 h1 h2;omega
 have k:∀{z:Int},z=31\/z=30->28<=z/\z<=31:=λh=>by rcases h with h | h <;> rw [h] <;> decide
 rcases qQ h1 h2 with h | h | h | h | h | h | h | h | h | h | h | h <;> subst h
 ·exact k (.inl m1)
 ·exact m2
 ·exact k (.inl m3)
 ·exact k (.inr m4)
 ·exact k (.inl m5)
 ·exact k (.inr m6)
 ·exact k (.inl m7)
 ·exact k (.inl m8)
 ·exact k (.inr m9)
 ·exact k (.inl m10)
 ·exact k (.inr m11)
 ·exact k (.inl m12)
theorem mQ(y:Int):aG y 1=0:=rfl
theorem di{y m:Int}(h:1<=m):aG y (m+1)=aG y m+aQ y m:=by
 unfold aG;have e:(m+1 - 1).toNat=(m - 1).toNat+1:=Vq
 rw [e,QU,N8,List.sum_append];have e2:(1:Int)+(((m - 1).toNat:Nat):Int)=m:=Vq
 simp only [Nq,OD,UY,List.sum_nil,e2];omega
theorem JV{a b c:Int}(l:Int)(h:a+b=c):a+(b+l)=c+l:=Vq
theorem gX{a b c:Int}(l:Int)(h:a+b=c):a+l+b=c+l:=Vq
theorem qR(y:Int):aG y 1=0/\aG y 2=31/\aG y 3=59+ld y/\aG y 4=90+ld y/\aG y 5=120+ld y/\aG y 6=151+ld y/\aG y 7=181+ld y/\aG y 8=212+ld y/\aG y 9=243+ld y/\aG y 10=273+ld y/\aG y 11=304+ld y/\aG y 12=334+ld y/\aG y 13=365+ld y:=by
 obtain⟨m1,m3,m4,m5,m6,m7,m8,m9,m10,m11,m12⟩:=mP y;have e2:aG y 2=31:=by rw [show aG y 2=aG y 1+aQ y 1 from di (m:=1) Vp,m1];rfl
 have e3:aG y 3=59+ld y:=by rw [show aG y 3=aG y 2+aQ y 2 from di (m:=2) Vp,e2,qP];exact JV _ rfl
 have e4:aG y 4=90+ld y:=by rw [show aG y 4=aG y 3+aQ y 3 from di (m:=3) Vp,e3,m3];exact gX _ rfl
 have e5:aG y 5=120+ld y:=by rw [show aG y 5=aG y 4+aQ y 4 from di (m:=4) Vp,e4,m4];exact gX _ rfl
 have e6:aG y 6=151+ld y:=by rw [show aG y 6=aG y 5+aQ y 5 from di (m:=5) Vp,e5,m5];exact gX _ rfl
 have e7:aG y 7=181+ld y:=by rw [show aG y 7=aG y 6+aQ y 6 from di (m:=6) Vp,e6,m6];exact gX _ rfl
 have e8:aG y 8=212+ld y:=by rw [show aG y 8=aG y 7+aQ y 7 from di (m:=7) Vp,e7,m7];exact gX _ rfl
 have e9:aG y 9=243+ld y:=by rw [show aG y 9=aG y 8+aQ y 8 from di (m:=8) Vp,e8,m8];exact gX _ rfl
 have e10:aG y 10=273+ld y:=by rw [show aG y 10=aG y 9+aQ y 9 from di (m:=9) Vp,e9,m9];exact gX _ rfl
 have e11:aG y 11=304+ld y:=by rw [show aG y 11=aG y 10+aQ y 10 from di (m:=10) Vp,e10,m10];exact gX _ rfl
 have e12:aG y 12=334+ld y:=by rw [show aG y 12=aG y 11+aQ y 11 from di (m:=11) Vp,e11,m11];exact gX _ rfl
 have e13:aG y 13=365+ld y:=by rw [show aG y 13=aG y 12+aQ y 12 from di (m:=12) Vp,e12,m12];exact gX _ rfl
 exact⟨mQ y,e2,e3,e4,e5,e6,e7,e8,e9,e10,e11,e12,e13⟩
theorem BY{y m:Int}(h1:1<=m):∀k:Nat,m+k<=13->aG y m<=aG y (m+k)
 | 0,_=>by simp
 | k+1,h=>by
  have ih:=BY (y:=y) h1 k Vq;have e:m+((k+1:Nat):Int)=(m+k)+1:=Vq
  rw [e,di Vq];have:=BX (y:=y) (m:=m+k) Vq Vq;omega
theorem vw{y m m':Int}(h1:1<=m)(h2:m<=m')(h3:m'<=13):aG y m<=aG y m':=by
 have:=BY (y:=y) h1 (m' - m).toNat Vq;rw [show m+(((m' - m).toNat:Nat):Int)=m' by omega] at this;exact this
theorem qS{y m:Int}(h1:1<=m)(h2:m<=12):0<=aG y m/\aG y m+aQ y m<=365+ld y:=by
 have a:=vw (y:=y) (m:=1) (m':=m) Vp h1 Vq;have b:=vw (y:=y) (m:=m+1) (m':=13) Vq Vq Vp;rw [di h1] at b;have c:=(qR y).1;have e:=(qR y).2.2.2.2.2.2.2.2.2.2.2.2;omega
theorem BZ{y m m':Int}(h1:1<=m)(h2:m < m')(h3:m'<=12):aG y m+aQ y m<=aG y m':=by
 have b:=vw (y:=y) (m:=m+1) (m':=m') Vq Vq Vq;rw [di h1] at b;exact b
theorem iA.in{d y m n:Int}(h:iA d y m n):bA y<=d/\d < bA (y+1):=by
 have:=qS (y:=y) h.m1 h.m12;have:=h.n1;have:=h.nl;have e:=h.eq;have:=vt y;unfold fL at e;omega
theorem iA.uniq{d y m n y' m' n':Int}(h:iA d y m n)(h':iA d y' m' n'):y=y'/\m=m'/\n=n':=by
 have a:=h.in;have b:=h'.in;have ey:y=y':=by
  rcases Uk y y' with z | z | z
  ·have:=BW (a:=y) (b:=y') Vq;omega
  ·exact z
  ·have:=BW (a:=y') (b:=y) Vq;omega
 subst ey;have e:=h.eq;have e':=h'.eq;unfold fL at e e';have em:m=m':=by
  rcases Uk m m' with z | z | z
  ·have:=BZ (y:=y) h.m1 z h'.m12;have:=h.nl;have:=h'.n1;omega
  ·exact z
  ·have:=BZ (y:=y) h'.m1 z h.m12;have:=h'.nl;have:=h.n1;omega
 subst em;exact⟨rfl,rfl,Vq⟩
def kF(d:Int):Int:=
 if d < bA (2000+d*400 / 146097) then 2000+d*400 / 146097 - 1
 else if bA (2000+d*400 / 146097+1)<=d then 2000+d*400 / 146097+1
 else 2000+d*400 / 146097
theorem JW(d:Int):bA (kF d)<=d/\d < bA (kF d+1):=by
 unfold kF;have e:2000+d*400 / 146097 - 1+1=2000+d*400 / 146097:=Vq
 by_cases h:d < bA (2000+d*400 / 146097)
 ·rw [Vs h,e];refine⟨?_,h⟩;unfold bA lb at*;omega
 ·rw [Vr h];by_cases h2:bA (2000+d*400 / 146097+1)<=d
  ·rw [Vs h2];refine⟨h2,?_⟩;unfold bA lb at*;omega
  ·rw [Vr h2];omega
def kG(y m n k:Int):Int:=fL ((y*12+m - 1+k)/ 12) ((y*12+m - 1+k)% 12+1) (min n (aQ ((y*12+m - 1+k)/ 12) ((y*12+m - 1+k)% 12+1)))
theorem B0(y:Int):365*(y - 2000)+(y - 2000+3)/ 4 - (y - 2000+99)/ 100+(y - 2000+399)/ 400=bA y:=by
 unfold bA lb;omega
theorem length_eq(y m:Int)(h1:1<=m)(h2:m<=12):(if m=2/\(y % 4≠0\/(y % 100=0/\y % 400≠0)) then(28:Int) else [31,29,31,30,31,30,31,31,30,31,30,31].getD (m - 1).toNat 0)=aQ y m:=by
 by_cases h:m=2
 ·subst h;rw [qP];unfold ld;by_cases l:fK y=true
  ·rw [Vs l,Vr (by have:=(mO y).mp l;omega)];rfl
  ·rw [Vr l,Vs (by have:=mt (mO y).mpr l;omega)];rfl
 ·rw [vv h,Vr (λz=>h z.1)];rcases qQ h1 h2 with z | z | z | z | z | z | z | z | z | z | z | z <;> subst z <;> first | rfl | exact absurd rfl h
def fst(M:Int):Int:=fL (M / 12) (M % 12+1) 1
def Dn(M n:Int):Int:=fst M+n - 1
end Day
namespace L2
open PySem PySem.Spec PyProof.Rows PySem.W
def d2(m:Nat):List Nat:=[48+m / 10,48+m % 10]
section
variable {X:Cx} {H0:Hp} {O0:Ex}
def qT(t:DA)(u:DT):DA:=λδ Q=>t δ λds=>ds.length<=1000/\u δ λy=>∃i:Int,y= .int i/\0<=i/\i<=1000/\Q (NG i.toNat ds).flatten
theorem JX{e f:VE}{t:DA}{u:DT}{pos:Pos}(h:FE X H0 O0 e t)(hf:DE X H0 O0 f u):FE X H0 O0 (.BinOp e .Mult f pos) (qT t u):=
 (aZ GF h hf).imp λσ H Q ⟨O,δ,Qd,w,q,k⟩=>⟨O,δ,_,w,q,λds vs p H1 q1 s1 hp r1=>⟨O,δ,_,w.mono (s1.trans (ao.new hp)),q1.2,λy v H2 uu37 s2 r2=>by
  obtain⟨i,e,i0,i1,q2⟩:=uu37;subst e;cases r2;refine⟨p,i,vs,rfl,rfl,s2 _ _ aW,Vq,Vq,?_,λp' hp'=>k _ _ p' _ q2 ((s1.trans (ao.new hp)).trans s2) hp' ((r1.rep i.toNat).mono ((ao.new hp).trans s2))⟩;have h1:=r1.length;have h2:(VG:Nat)=16777216:=Vp
  have h3:=q1.1;have h4:vs.length*i.toNat<=1000*1000:=Q7 Vq Vq;omega⟩⟩
end
open PySem PySem.Spec PyProof.Rows PySem.W PySem.Calls
def fj{α:Type}(xs:List α)(n:Nat)(y:α):List α:=xs.take n++y::xs.drop n
theorem vz{α:Type}(xs:List α)(n:Nat)(y:α):(fj xs n y).Perm (y::xs):=by
 unfold fj;refine List.perm_middle.trans ?_;rw [OV]
theorem JY{α β:Type}(f:α->β)(xs:List α)(n:Nat)(y:α):(fj xs n y).map f=fj (xs.map f) n (f y):=by
 unfold fj;rw [N8,Nq,Rj,UZ]
theorem vA{α:Type}(xs:List α)(n:Nat)(y:α):(fj xs n y).length=xs.length+1:=(vz xs n y).length_eq
def JZ:V->List V->Hp->VK->Prop:=λx vs H Q=>∃l xs y,∃n:Nat,x= .ref l/\vs=[.int (n:Int),y]/\H l=some (.lst xs)/\n<=xs.length/\xs.length < 1000000/\Q .non (ak H l (.lst (fj xs n y)))
theorem J0(l:List Vw)(k:Nat)(y:Vw):(l.toArray.extract 0 k).push y++l.toArray.extract k=(fj l k y).toArray:=by
 apply QK.mp;simp;unfold fj;congr 2;exact NI Vu
theorem J1{X:Cx}:tI X "list.insert" JZ:=by
 intro Xw s σ H x vs v us Q I rx rv h;obtain⟨l,xs,y,n,rfl,rfl,hH,hn,hz,q⟩:=h;cases rx;cases rv with
 | cons r1 r2=>
  obtain⟨u,rfl,ru⟩:=cH r2;obtain⟨t,rfl⟩:=r1;obtain⟨z,its,m,r,hl,e⟩:=I.lstM hH;have ef:P8 (n:Int)=true:=by
   unfold P8;simp;omega
  have sl:(1000000:Nat)<=VG:=Vp
  have hsz:its.toArray.size<=VG:=by rw [NA];exact NP Vq sl
  have hfi:¬(!P8 (n:Int))=true:=by rw [ef];decide
  generalize hni:(n:Int)=ni at hfi ef⊢;refine Wv Sm ⟨_,e,rfl⟩ PySem.F.entry_list_insert (PySem.F.args_list_insert_3 _ _ _) (PySem.AutoSeq1.list_insert_list_int_val_1 l its.toArray m ni t u hfi hsz) ⟨e,?_⟩;refine⟨.non,_,I.lset (its':=fj its n u) hH e ?_ ((r.take n).append (.cons ru (r.drop n))) ?_,rfl,q⟩
  ·show(its.toArray.extract 0 (if ni < 0 then(ni+(its.toArray.size:Int)).toNat else min ni.toNat its.toArray.size)).push u++its.toArray.extract (if ni < 0 then(ni+(its.toArray.size:Int)).toNat else min ni.toNat its.toArray.size)=_;subst hni;rw [Vr Vq,NA,Pg,Nat.min_eq_left Vq];have:=J0 its n u;simp only [NA] at this;exact this
  ·show(fj xs n y).length<=VG;rw [vA];exact NP Vq sl
section
variable {X:Cx} {H0:Hp} {O0:Ex}
theorem aj.takeN{K:Nh}{H:Hp}{O:Ex}:∀{vs:List V}{ds:List Vv}(n:Nat),aj K H O vs ds->aj K H O (vs.take n) (ds.take n)
 | _,_,0,_=>by rw [RF,RF];exact .nil
 | _,_,n+1,.nil=>.nil
 | _,_,n+1,.cons a r=>.cons a (aj.takeN n r)
theorem aj.dropN{K:Nh}{H:Hp}{O:Ex}:∀{vs:List V}{ds:List Vv}(n:Nat),aj K H O vs ds->aj K H O (vs.drop n) (ds.drop n)
 | _,_,0,r=>r
 | _,_,n+1,.nil=>.nil
 | _,_,n+1,.cons a r=>aj.dropN n r
def qU(i:Nat)(t1 t2:DT):DS:=λE δ=>∃ds,δ[i]?=some (some (.o ds))/\t1 δ λa=>t2 δ λd=>∃n:Nat,a= .int (n:Int)/\n<=ds.length/\ds.length < 1000000/\E.nx (δ.set i (some (.o (fj ds n d))))
theorem J3{i:Nat}{o e e2:VE}{t1 t2:DT}{apos cpos pos:Pos}(ho:PE X o (eL i))(he:DE X H0 O0 e t1)(he2:DE X H0 O0 e2 t2)(hbase:Wj o "insert" X.env (eval o X.env)=eval o X.env:=by rfl)
 (hfew:((V1 cpos (VH [e,e2] X.env)).all (λx=>!x.1) && (Xh cpos (WR [] X.env)).all (λx=>x.1.isSome) && decide ([e,e2].length+([]:List Ws).length+(if ([]:List Ws).isEmpty then 0 else 1) < 30))=true:=by rfl)
 (hline:(apos.endLine==cpos.line)=true:=by rfl)(hst:VH [e,e2] X.env=(false,eval e X.env)::VH [e2] X.env:=by rfl)(hst2:VH [e2] X.env=(false,eval e2 X.env)::VH [] X.env:=by rfl)(hplain:(V1 cpos (VH [e2] X.env)).any (·.1)=false:=by rfl)
 (hs:V5 (.Call (.Attribute o "insert" apos) [e,e2] [] cpos) none pos.line X.env=pure false:=by rfl):PS X (.Expr (.Call (.Attribute o "insert" apos) [e,e2] [] cpos) pos) (bB X.K H0 O0 (qU i t1 t2)):=
 (sU (nY Q9 Sm PySem.F.type_list_insert J1 ho (bf he (bf he2 bR hst2) hst) hbase hfew hline hst hplain) hs).imp λD σ H uu38=>by
  obtain⟨O,δ,E,w,⟨ds,e,q⟩,k1,k2,k3,k4⟩:=uu38;obtain⟨l,vs,h,a,b,c,r⟩:=w.own e;refine⟨_,h,.inl ⟨rfl,_,aL.of c⟩,O,δ,_,w,q,λx vx H1 q1 s1 r1=>?_⟩;refine⟨O,δ,_,w.mono s1,q1,λd v H2 q2 s2 r2=>?_⟩;obtain⟨n,rfl,hn,hz,q2⟩:=q2;cases r1;have rl:=r.length;have S:=s1.trans s2;refine⟨l,vs,v,n,rfl,rfl,S _ _ c,Vq,Vq,?_⟩;exact k1 _ _ _ _ q2 ((w.mono S).putO (vs:=vs) e h (((r.mono S).takeN n).append (.cons r2 ((r.mono S).dropN n)))) ⟨λb' o' z n=>by rw [aE (λy=>n (by rw [y];exact a))];exact S _ _ z,λ_ _ n=>n⟩
def ja(t:DT):DB:=λδ Q=>t δ λd=>∃ds,d= .list ds/\Q (!ds.isEmpty)
theorem vB{e:VE}{t:DT}(h:DE X H0 O0 e t)(he:∀whole,isTrue e X.env whole=(do let v<-whole;standAt e.pos;WW [v] (truthy v)):=by intro _;rfl):PT X e (bT X.K H0 O0 (ja t)):=
 (FH h he).imp λσ H Q ⟨O,δ,Qd,w,q,k⟩=>⟨O,δ,_,w,q,λd v H' uu40 s r=>by
  obtain⟨ds,e,qb⟩:=uu40;subst e;obtain⟨a,vs,rfl,hs,r⟩:=(Sh.dt r).lst;refine⟨_,.inl ⟨vs,hs,rfl⟩,?_⟩;have:(!vs.isEmpty)=!ds.isEmpty:=by cases r <;> rfl
  rw [this];exact k _ H' qb s⟩
theorem vC{K:Nh}{H:Hp}{O:Ex}{z:Str}:∀{kv:List (ai×V)}{ks:List Str}{ds:List Vv},kv.map (·.1)=ks.map OC->aj K H O (kv.map (·.2)) ds->bX ks ds z=none->c7 kv (.inr z)=none
 | [],_,ds,_,_,e=>rfl
 | _::_,[],ds,h,_,_=>by cases h
 | p::kv,k::ks,ds,h,hd,e=>by
  rw [Nq] at hd;cases hd with
  | cons h1 h2=>
   simp only [Nq,Ot] at h;obtain⟨p1,p2⟩:=p;obtain⟨rfl,h⟩:=h;unfold bX at e;by_cases hk:k=z
   ·rw [Vs hk] at e;cases e
   ·rw [Vr hk] at e;rw [kl (λq=>hk (mG.mp q))];exact vC h h2 e
def qV(to tk:DT):DT:=λδ Q=>to δ λx=>∃ks ds,x=fJ ks ds/\tk δ λy=>∃z,y= .str z/\Q ((bX ks ds z).getD .none)
theorem J4{o e:VE}{to tk:DT}{apos cpos:Pos}(hu:X.A.units+64 < V9)(ho:DE X H0 O0 o to)(he:DE X H0 O0 e tk)(m:M1 X o "get" apos e cpos):DE X H0 O0 (.Call (.Attribute o "get" apos) [e] [] cpos) (qV to tk):=
 (AR Vq ho he m).imp λσ H Q uu41=>by
  obtain⟨O,δ,Qd,w,q,k⟩:=uu41;refine⟨O,δ,_,w,q,λx vx H1 ⟨ks,ds,ex,q1⟩ s1 r1=>?_⟩;subst ex;cases r1 with
  | @dic a ob kv ks' kp ds h e1 e2 n rr=>
   have ek:ks'=ks:=by
    have:ks'.map Nl=ks.map Nl:=e2.symm;exact qF this
   subst ek;refine⟨a,rfl,.inl ⟨kv,.inr ⟨_,h⟩⟩,O,δ,_,w.mono s1,q1,λy vy H2 ⟨z,ey,q2⟩ s2 r2=>?_⟩;subst ey;cases r2;refine⟨_,cW.z (k:= .inr z) (s2 _ _ h),k _ _ _ q2 (s1.trans s2) ?_⟩;cases hd:bX ks' ds z with
   | none=>rw [vC e1 rr hd];exact .non
   | some d=>
    obtain⟨v,hv,dv⟩:=qG e1 rr hd;rw [hv];exact dv.mono s2
end
theorem J5:typeLookup (.type "list") "keys"=pure none:=by rw [typeLookup_type,Xc];kernel_rfl
theorem B1:entryFor table "dict.update.loop"=some Builtin.«dict.update.loop»:=entryFor_of_tree (by kernel_rfl)
theorem qW:plainId "dict.update.loop"=true:=cp
section
variable {P:VL} {w:VP} {A:VS} {E:Vw->Vz->Prop} {s:Vz}
theorem J6{l:Vy}{o:Obj}{xs:Array Vw}{k:Nat}{Q:Option Vw->Vz->Prop}(hx:s.heap.get? l=some o)(hc:o.cls= .type "list")(hdat:o.data= .seq xs k)(hd:o.dict=none)(hA:A.handled=none)
 (h:∀(h':VQ) (tk:Nat),(∀b u,s.heap.get? b=some u->h'.get? b=some u)->Q none {s with heap:=h',toks:=tk}):VC (VB P w) A (getAttr? (.ref l) "keys") Q E s:=by
 obtain⟨c,dct,dat,sl⟩:=o;simp only at hc hdat hd;subst hc hdat hd;obtain⟨hp,g,d,tk,os⟩:=s;have hT:∀tk',(⟨hp,g,d,tk',os⟩:Vz).TypeIs (.ref l) "list":=λ_=>⟨_,hx,rfl⟩;have f1:=sub_AttributeError;have f3:=PySem.F.slot_list_getattribute.lookup;have f4:=PySem.F.slot_list_getattribute.bind (.ref l);have f5:=am_list_getattr_none;unfold getAttr? getAttrBy? getAttrBy
 repeat (any_goals (first | assumption | exact hT _ | ((with_reducible show VC _ _ (call (Value.builtin "list.__getattribute__") _ _) _ _ _);refine Wv PySem.F.slot_list_getattribute (hT _) am_entry_list_getattribute (PySem.F.args_list_getattribute_2 _ _) (meets_getattribute_miss_list l xs k sl (Ng "keys") _ J5 cp) ⟨hx,hA,λh' tk' e hx'=>?_⟩) | wp_step))
 obtain⟨t',u',he⟩:=hx'.there;show VC _ _ (getattributeRaised _ _ _ _ _ _ _) _ _ _;unfold getattributeRaised
 repeat (any_goals (first | assumption | wp_step))
 exact h _ _ λb u e=>hx'.keeps b u e
end
def gG(val:Nat->ai×Vw)(i:Nat):List (ai×Vw):=((OA i).map val).foldl (λa p=>stored a p.1 p.2) []
theorem B2(val:Nat->ai×Vw)(i:Nat):gG val (i+1)=stored (gG val i) (val i).1 (val i).2:=by
 unfold gG;rw [QU,N8,Ui];rfl
theorem J7{K:Type} [DecidableEq K](l:List (K×Vw))(k:K)(v:Vw):(stored l k v).length<=l.length+1:=by
 unfold stored;split <;> simp
theorem B3(val:Nat->ai×Vw):∀i,(gG val i).length<=i
 | 0=>Np _
 | i+1=>by
  have ih:=B3 val i;rw [B2];have:=J7 (gG val i) (val i).1 (val i).2;omega
def mR(h:VQ)(a:Vy)(x y:Vw):Prop:=∃o m,h.get? a=some o/\o.cls= .type "tuple"/\o.data= .seq #[x,y] m
section
variable {P:VL} {w:VP} {A:VS} {R:Result->Vz->Prop} {I:Vy} {fp wr:List Vy} {G:Array Xs->Array Xs->Prop} {n:Nat} {Pv:Nat->Vw->Prop} {St:Nat->Vz->Prop}
theorem J8(W:WalksS P w A.in1 I fp wr G n Pv St)(D:Vy)(hDf:D ∉ fp)(tp:Nat->Vy)(kv:Nat->Vw)(val:Nat->ai×Vw)(hval:∀i v,Pv i v->v= .ref (tp i))(hk:∀i,i < n->(bZ P w).is (val i).1 (kv i)=true)(hw:∀i,i < n->tp i ∉ D::wr)(hb:n<=VG):
 ∀(k i:Nat)(s:Vz),n - i=k->i<=n->St i s->s.heap.DictOf (bZ P w) D (gG val i)->(∀j,j < n->mR s.heap (tp j) (kv j) (val j).2)->
  (∀s',Moved (D::wr) G s s'->s'.heap.DictOf (bZ P w) D (gG val n)->R (.ok (.ret .none)) s')->∀t,Ww (VB P w) A (.builtin "dict.update.loop" ⟨[.ref D,.ref I,.int (i:Int) t,.none],[]⟩) R s:=by
 have sw:D ∉ wr:=λz=>hDf (W.sub _ z);have sub:∀b∈wr,b∈D::wr:=λb z=>NY _ z;intro k
 induction k with
 | zero=>
  intro i s e1 e2 st hS hT q t;obtain rfl:i=n:=Vq
  refine Wn B1 ?_;rw [Pd qW _];show VC _ A.in1 (WC (.ref I) >>=_) _ _ s;exact Vx (W.done s _ _ st λs' m=>Vx (VA (VA (q s' (m.mono sub) (let ⟨o,es,ep,ho,r⟩:=hS;⟨o,es,ep,m.heap D o sw ho,r⟩)))))
 | succ k ih=>
  intro i s e1 e2 st hS hT q t;have lt:i < n:=Vq
  refine Wn B1 ?_;rw [Pd qW _];show VC _ A.in1 (WC (.ref I) >>=_) _ _ s;refine Vx (W.item i s _ _ lt st λv s' hP st' m=>?_);obtain rfl:=hval i v hP;have hS':s'.heap.DictOf (bZ P w) D (gG val i):=let ⟨o,es,ep,ho,r⟩:=hS;⟨o,es,ep,m.heap D o sw ho,r⟩
  have hT':∀j,j < n->mR s'.heap (tp j) (kv j) (val j).2:=λj hj=>let ⟨o,m2,ho,r⟩:=hT j hj;⟨o,m2,m.heap _ o (λz=>hw j hj (sub _ z)) ho,r⟩
  obtain⟨o,m2,ho,hc,hd⟩:=hT' i lt;show VC _ A.in1 (WW [N0 (tp i)] _ >>=_) _ _ s';refine Vx (VY ?_);obtain⟨oc,od,oda,osl⟩:=o;simp only at hc hd;subst hc hd;have hTy:s'.TypeIs (.ref (tp i)) "tuple":=⟨_,ho,rfl⟩;refine Vx (wpAny_tryCatch ?_);unfold Builtin.Dict.pairItems;refine Vx (WM hTy ?_);rw [Vs Vp];refine Vx (wpAny_seqItems ho rfl (VA ?_));show VC _ A.in1 (WW [kv i,(val i).2] (dictSet D (kv i) (val i).2)) _ _ s';refine VY (wpAny_dictSet_pairs (hk i lt) hS' (λh' S2 sb=>?_) (by have:=B3 val i;omega));rw [<-B2] at S2;refine VA ⟨WB qW _,ih (i+1) _ Vq lt (W.frame _ s' _ _ st' (Qj _) λb hb o e=>?_) S2 (λj hj=>?_) (λs2 m2 S3=>?_) _⟩
  ·rw [sb.2 b (λz:b=D=>hDf (by rw [<-z];exact hb))];exact e
  ·obtain⟨o,m3,ho3,r⟩:=hT' j hj;exact⟨o,m3,by rw [sb.2 _ (λz=>hw j hj (by rw [z];exact Ob))];exact ho3,r⟩
  ·refine q s2 (Moved.trans W.gtrans ((m.mono sub).then_heap (Qj _) λb o hb e=>?_) m2) S3;rw [sb.2 b (λz:b=D=>hb (by rw [z];exact Ob))];exact e
end
section
variable {P:VL} {w:VP} {A:VS} {E:Vw->Vz->Prop} {s:Vz}
theorem J9{l:Vy}{items:Array Vw}{n:Nat}(tp:Nat->Vy)(kv:Nat->Vw)(val:Nat->ai×Vw){Q:Vw->Vz->Prop}
 (hh:A.handled=none)(hl:∃o k,s.heap.get? l=some o/\o.cls= .type "list"/\o.dict=none/\o.data= .seq items k)(hn:items.size=n)(hi:∀(i:Nat) (v:Vw),items[i]?=some v->v= .ref (tp i))(hk:∀i,i < n->(bZ P w).is (val i).1 (kv i)=true)(hT:∀i,i < n->mR s.heap (tp i) (kv i) (val i).2)(hb:n<=VG)
 (h:∀(h':VQ) (tk:Nat),h'.DictOf (bZ P w) s.heap.objs.size (gG val n)->(∀b o,s.heap.get? b=some o->h'.get? b=some o)->Q (.ref s.heap.objs.size) {s with heap:=h',toks:=tk}):
 VC (VB P w) A (call (.type "dict") [.ref l]) Q E s:=by
 refine callType_codes (Q₁:=λobj s₁=>obj= .ref s.heap.objs.size/\s₁={s with heap:=s.heap.push {cls:= .type "dict",data:= .dict #[]}}) PySem.F.kt_called_dict (PySem.F.kt_typeCall_dict_1 _) PySem.F.entry_dict_init (kt_code_dict_new _ ⟨rfl,rfl⟩) ?_;rintro obj s₁ ⟨rfl,rfl⟩;have hnew:(s.heap.push {cls:= .type "dict",data:= .dict #[]}).DictOf (bZ P w) s.heap.objs.size []:=UH s.heap;refine⟨hnew.typeIs,PySem.F.args_dict_init_2 _ _,?_⟩;unfold Builtin.«dict.__init__»;refine Vx ?_;unfold Builtin.Dict.selfAndRest;refine Vx (wpAny_notOrdered_dict hnew.typeIs ?_);show VC _ _ (pure (s.heap.objs.size,[N0 l])) _ _ _;refine VA ?_;show VC _ _ (SD "dict.__init__" s.heap.objs.size (.ref l) [] .none) _ _ _;unfold SD;obtain⟨o,k,ho,hc,hd,hdat⟩:=hl;have ho2:(s.heap.push {cls:= .type "dict",data:= .dict #[]}).get? l=some o:=Nm _ ho;refine Vx (WM (T:="list") ⟨_,ho2,hc⟩ ?_);rw [Vs Vp];refine Vx (J6 (s:={s with heap:=s.heap.push {cls:= .type "dict",data:= .dict #[]}}) ho2 hc hdat hd ?_ λh' tk hk'=>?_)
 ·simp [hh]
 ·show VC _ A.in1.in1 (rule _ >>=_) _ _ _;refine Vx (Wi ?_);have o3:h'.get? l=some o:=hk' l o ho2;have l1:h'.IsList l items:=⟨_,o3,hc,k,hdat⟩;have ll:l < s.heap.objs.size:=NB ho;have nD:s.heap.objs.size < h'.objs.size:=by
   obtain⟨od,_,_,hod,_⟩:=hnew;exact NB (hk' _ _ hod)
  refine Vx (W0 l1 ?_);refine VA ⟨WB qW _,?_⟩;have tl:∀i,i < n->tp i < s.heap.objs.size:=λi hi=>by obtain⟨_,_,e,_⟩:=hT i hi;exact NB e
  have hn2:items.size<=VG:=Vq
  subst hn;refine J8 (A:=A.in1) (Ti (show A.in1.in1.handled=none by simp [hh]) _ l (NL (Ru ll nD)) items).toS s.heap.objs.size (by simp only [Ny,Oe,or_false,not_or];exact⟨NL nD,QZ ll⟩) tp kv val hi hk ?A hn2 (items.size - 0) 0 _ Vq (N9 _)
   ⟨⟨_,NH _ rfl,rfl,rfl⟩,l1.push _⟩ ?hS0 ?hT0 ?hR _
  case A=>
   intro i hi z;have t1:=tl i hi;simp only [Ny,Oe,or_false] at z;rcases z with z | z
   ·exact NL t1 z
   ·exact NL (Ru t1 nD) z
  case hT0=>
   intro j hj;obtain⟨u,m,e,r⟩:=hT j hj;exact⟨u,m,Nm _ (hk' _ _ (Nm _ e)),r⟩
  case hS0=>
   obtain⟨od,es,ep,hod,r⟩:=hnew;exact⟨od,es,ep,Nm _ (hk' _ _ hod),r⟩
  case hR=>
   intro s' m S';obtain⟨h2,g',d',tk',os'⟩:=s';obtain rfl:g'=s.gens:=m.gens;obtain rfl:d'=s.drawn:=m.drawn;obtain rfl:os'=s.os:=m.os;refine⟨rfl,h h2 tk' S' λb u e=>?_⟩;have hb1:b < s.heap.objs.size:=NB e;refine m.heap b u ?_ (Nm _ (hk' _ _ (Nm _ e)));simp only [Ny,Oe,or_false,not_or];exact⟨NL hb1,NL (Ru hb1 nD)⟩
end
def vD(K:Nh)(H:Hp)(vs:List V)(kvs:List (ai×V)):Prop:=Paired (λv (p:ai×V)=>∃b,v= .ref b/\br K H b [kV p.1,p.2]) vs kvs
theorem B4{X:Cx}{Xw:List (Vy×Obj)}{σ:St}{H:Hp}{s:Vz}(I:af X Xw σ H s):∀{vs:List V}{kvs:List (ai×V)}{its:List Vw},vD X.K H vs kvs->aC vs its->
 ∃zs:List (Vy×Vw×ai×Vw),zs.length=its.length/\KV kvs (zs.map (·.2.2))/\its=zs.map (λz=>N0 z.1)/\∀z∈zs,(bZ X.prog X.w).is z.2.2.1 z.2.1=true/\mR s.heap z.1 z.2.1 z.2.2.2
 | _,_,_,.nil,.nil=>⟨[],rfl,.nil,rfl,Vu⟩
 | _,_,_,.cons (b:=p) h t,.cons r rs=>by
  obtain⟨zs,e1,e2,e3,e4⟩:=B4 I t rs;obtain⟨b,rfl,hb⟩:=h;cases r;obtain⟨its2,r2,⟨o,ho,hc,n,hd⟩,_⟩:=I.tuple hb;cases r2 with
  | @cons _ u _ _ ru r3=>
   obtain⟨x,rfl,rx⟩:=cH r3;refine⟨(b,u,p.1,x)::zs,by simp [e1],.cons ⟨rfl,rx⟩ e2,by rw [e3];rfl,λz hz=>?_⟩;rcases Ny.mp hz with e | e
   ·subst e;exact⟨iZ ru,o,n,ho,hc,hd⟩
   ·exact e4 z e
theorem Ka{X:Cx}:cD X (.type "dict") (λxs H Q=>X.calm=true/\∃a vs kvs,xs=[.ref a]/\aL X.K H a vs/\vD X.K H vs kvs/\∀l,H l=none->Q (.ref l) (ak H l (.dK (gB [] kvs)))):=by
 intro Xw s σ H xs us Q I r h;obtain⟨hc,a,vs,kvs,rfl,ha,hp,q⟩:=h;obtain⟨u,rfl,rx⟩:=cH r;cases rx;obtain⟨its,rv,⟨o,n,ho,hcl,hdi,hda⟩,hz⟩:=I.list ha;obtain⟨zs,z1,z2,z3,z4⟩:=B4 I hp rv;have ln:vs.length=its.length:=rv.length;have hk:kvs.length=zs.length:=by rw [z2.length,Nj]
 let D:Vy×Vw×ai×Vw:=(0,.none,.inl 0,.none)
 have at_:∀i,i < its.length->∃z∈zs,(zs[i]?).getD D=z:=λi hi=>by
  rw [<-z1] at hi;exact⟨zs[i],OP hi,by rw [NN hi];rfl⟩
 refine J9 (s:=s) (n:=its.length) (λi=>((zs[i]?).getD D).1) (λi=>((zs[i]?).getD D).2.1) (λi=>((zs[i]?).getD D).2.2) (I.ok.hd hc) ⟨o,n,ho,hcl,hdi,hda⟩ Vu (λi v e=>?_) (λi hi=>?_) (λi hi=>?_) Vq λh' tk dd kp=>?_
 ·rw [List.getElem?_toArray,z3,NK] at e;cases hz':zs[i]? with
  | none=>rw [hz'] at e;cases e
  | some z=>rw [hz'] at e;cases e;rfl
 ·obtain⟨z,hz1,e⟩:=at_ i hi;show(bZ X.prog X.w).is ((zs[i]?).getD D).2.2.1 ((zs[i]?).getD D).2.1=true;rw [e];exact(z4 z hz1).1
 ·obtain⟨z,hz1,e⟩:=at_ i hi;show mR s.heap ((zs[i]?).getD D).1 ((zs[i]?).getD D).2.1 ((zs[i]?).getD D).2.2.2;rw [e];exact(z4 z hz1).2
 ·have em:gG (λi=>((zs[i]?).getD D).2.2) its.length=merged [] (zs.map (·.2.2)):=by
   unfold gG merged;congr 1;rw [<-z1];apply PX Vu;intro i a b;simp at a b⊢;rw [NN Vq];rfl
  rw [em] at dd;have zl:(gB [] kvs).length<=VG:=by
   have h1:=uc kvs [];rw [OW] at h1;omega
  exact⟨.ref _,_,I.laid (t':=tk) (o:= .dK (gB [] kvs)) kp (Np _) (t8 zl (beq_eq_false_iff_ne.mpr (Ne.symm (NL I.big))) (z2.merge .nil) dd),rfl,q _ (I.hok.fresh (Np _))⟩
section
variable {X:Cx} {H0:Hp} {O0:Ex}
def qX(t:DA):jE:=λδ Q=>t δ λds=>∃kd:List (ai×Vv),ds=[.list (kd.map λp=>.tuple [gE p.1,p.2])]/\Q (kd.foldl (λa p=>eD a p.1 p.2) [])
theorem B5{K:Nh}{H:Hp}{O:Ex}:∀{us:List V}{kd:List (ai×Vv)},aj K H O us (kd.map λp=>.tuple [gE p.1,p.2])->∃kv,vD K H us kv/\bo K H O kv kd
 | [],[],_=>⟨[],.nil,.nil⟩
 | _::_,(k,d)::kd,.cons h r=>by
  obtain⟨kv,h1,h2⟩:=B5 r;obtain⟨b,vs,rfl,hs,d2⟩:=(Sh.dt h).tup;cases d2 with
  | cons x1 x2=>
   cases x2 with
   | cons x2 x3=>
    cases x3;cases x1.key;exact⟨(k,_)::kv,.cons ⟨b,rfl,hs⟩ h1,.cons x2 h2⟩
theorem Kb{a:VE}{t:DA}{np p:Pos}(hc:X.calm=true)(hg:Gl X "dict")(hm:X.mg "dict"=none)(ha:PA X [a] (eR X.K H0 O0 t))(he:VH [a] X.env=(false,eval a X.env)::VH [] X.env:=by rfl)(hpl:(V1 p (VH [] X.env)).any (·.1)=false:=by rfl):KE X H0 O0 (.Call (.Name "dict" np) [a] [] p) (qX t):=
 (d6 Ka hg hm G7 ha (he:=he) (hpl:=hpl)).imp λσ H Q uu44=>by obtain⟨O,δ,Qd,w,q,k⟩:=uu44;exact⟨O,δ,_,w,q,λds vs H1 uu45 s1 r1=>by
  obtain⟨kd,e,q1⟩:=uu45;subst e;cases r1 with
  | cons h r=>
   cases r;obtain⟨a,us,rfl,h1,d1⟩:=h.lst;obtain⟨kv,p1,p2⟩:=B5 d1;exact⟨hc,a,us,kv,rfl,h1,p1,λl hl=>k _ _ _ _ q1 s1 hl (p2.merge .nil)⟩⟩
end
theorem Dt.dicE{K:Nh}{H:Hp}{O:Ex}{v:V}{ks:List Str}{ds:List Vv}(h:Dt K H O v (fJ ks ds)):∃a ob kv,v= .ref a/\H a=some (.frz ob (.dK kv))/\kv.map (·.1)=ks.map OC/\¬O a/\aj K H O (kv.map (·.2)) ds:=by
 cases h with
 | @dic a ob kv ks' kp ds h e1 e2 n rr=>
  have ek:ks'=ks:=qF e2.symm;subst ek;exact⟨a,ob,kv,rfl,h,e1,n,rr⟩
theorem Kc{K:Nh}{H:Hp}{O:Ex}{z:Str}{kv:List (ai×V)}{ks:List Str}{ds:List Vv}(e1:kv.map (·.1)=ks.map OC)(r:aj K H O (kv.map (·.2)) ds):(c7 kv (.inr z)).isSome=(bX ks ds z).isSome:=by
 cases hd:bX ks ds z with
 | none=>rw [vC e1 r hd];rfl
 | some d=>
  obtain⟨v,hv,_⟩:=qG e1 r hd;rw [hv];rfl
section
variable {X:Cx} {H0:Hp} {O0:Ex}
def qY(t:DT):DA:=λδ Q=>t δ λd=>∃ks ds,d=fJ ks ds/\ks.length < 64/\Q ((cO ks).map .str)
theorem Kd{o:VE}{t:DT}{np p:Pos}(hc:X.calm=true)(hg:Gl X "sorted")(hm:X.mg "sorted"=none)(hv:VW "sorted"=some (.builtin "sorted"))(ho:DE X H0 O0 o t)(he:VH [o] X.env=(false,eval o X.env)::VH [] X.env:=by rfl)(hpl:(V1 p (VH [] X.env)).any (·.1)=false:=by rfl):
 FE X H0 O0 (.Call (.Name "sorted" np) [o] [] p) (qY t):=
 (bS Bg hg hm hv (bf ho bR he) (he:=he) (hpl:=hpl)).imp λσ H Q uu46=>by obtain⟨O,δ,Qd,w,q,k⟩:=uu46;exact⟨O,δ,_,w,q,λd v H1 uu47 s1 r1=>by
  obtain⟨ks,ds,e,h64,q1⟩:=uu47;subst e;obtain⟨a,ob,kv,rfl,h,e1,n,rr⟩:=r1.dicE;exact⟨hc,a,kv,ks,rfl,.inr ⟨_,h⟩,e1,h64,λp hp=>k _ _ _ _ q1 s1 hp (aj.ofStrs _)⟩⟩
def mS(neg:Bool)(tk to:DT):DT:=λδ Q=>tk δ λy=>to δ λx=>∃z ks ds,y= .str z/\x=fJ ks ds/\Q (.bool (if neg then !(bX ks ds z).isSome else(bX ks ds z).isSome))
theorem Ke{o e:VE}{tk to:DT}(hu:X.A.units+64 < V9)(ho:DE X H0 O0 o to)(he:DE X H0 O0 e tk):PC X .In e o (up X.K H0 O0 (mS false tk to)):=λXw s σ H Q I ⟨O,δ,Qd,w,q,k⟩=>
 AN Vq he ho Xw s σ H Q I ⟨O,δ,_,w,q,λy uy H2 q2 s2 r2=>⟨O,δ,_,w.mono s2,q2,λx ux H3 uu49 s3 r3=>by
  obtain⟨z,ks,ds,ey,ex,q3⟩:=uu49;subst ey ex;cases r2;obtain⟨a,ob,kv,rfl,h,e1,n,rr⟩:=r3.dicE;exact⟨a,_,rfl,cW.z (k:= .inr z) h,by rw [Kc e1 rr];exact k _ _ _ q3 (s2.trans s3) (.bl _)⟩⟩⟩
theorem B6{o e:VE}{tk to:DT}{pos:Pos}(hu:X.A.units+64 < V9)(ho:DE X H0 O0 o to)(he:DE X H0 O0 e tk)(hm:Wa .In o=false:=by rfl):PT X (.Compare e [.In] [o] pos) (bT X.K H0 O0 (fE (mS false tk to))):=
 (sS (Ke hu ho he) hm).imp λσ H Q uu50=>by obtain⟨O,δ,Qd,w,q,k⟩:=uu50;exact⟨O,δ,_,w,q,λd v H' uu51 s r=>by obtain⟨b,e,qb⟩:=uu51;subst e;cases r;exact⟨b,rfl,k b H' qb s⟩⟩
def Kf(tl:TE):TI:=λσ H R=>tl σ H λx H1=>∃a o kv,x= .ref a/\H1 a=some (.frz o (.dK kv))/\R (vd o a kv) H1
theorem Kg{X:Cx}{tg l:VE}{tl:TE}(hl:PE X l tl):PI X tg l (Kf tl):=by
 intro Xw s σ H R I h;refine aA (hl Xw s σ H _ I h) λv s1 ⟨x,H1,I1,r1,q1⟩=>?_;obtain⟨a,o,kv,e,ha,q⟩:=q1;subst e;cases r1;obtain⟨g,z,hd,vs,rel,o',es,ep,g',r1,r2,r3⟩:=I1.hok a _ ha;rw [g] at g';cases g';have hlen:=rel.len;have hd':(a==Wh)=false:=hd;refine wpAny_pyIter_dict hd' (knd:=bZ X.prog X.w) (kvs:=vs) (ep:=ep) ⟨o,es,g,r1,r2,r3⟩ ?_;rw [hlen];refine⟨s1.heap.objs.size,[s1.heap.objs.size],_,_,_,rfl,I1.kept (t':=s1.toks) λb o e=>Nm _ e,Ji _ a o es ep kv r2,⟨_,NH _ rfl,rfl,rfl⟩,λb hb=>?_,q⟩;have e:b=s1.heap.objs.size:=by simpa using hb
 subst e;exact I1.fpOk (Np _) (I1.hok.fresh (Np _))
theorem B7{K:Nh}{H:Hp}{O:Ex}:∀{kv:List (ai×V)}{ks:List Str},kv.map (·.1)=ks.map OC->aj K H O (kv.map λp=>kV p.1) (ks.map .str)
 | [],[],_=>.nil
 | p::kv,k::ks,h=>by
  simp only [Nq,Ot] at h;obtain⟨p1,p2⟩:=p;obtain⟨rfl,h⟩:=h;exact .cons (.str _) (B7 h)
def qZ(t:DT)(dg:DG)(tb:DS):DS:=λE δ=>t δ λd=>∃ks ds,d=fJ ks ds/\l3 dg tb E (ks.map .str) δ
theorem B8{tg iter:VE}{t:DT}{g:TG}{dg:DG}{tb:DS}{body:List VT}{pos:Pos}(hp:Xa (VB X.prog X.w) X.A X.env X.xe)(hc:X.calm=true)(hi:DE X H0 O0 iter t)(hg:PG X tg g)(gd:GD X.K g dg)(hb:bK X body (bB X.K H0 O0 tb))(hs:∀x,VX iter X.env x=pure x:=by intro _;rfl):
 PS X (.For tg iter body [] pos) (bB X.K H0 O0 (qZ t dg tb)):=
 (nK hp hc (Kg hi) hg hb hs).imp λD σ H uu53=>by obtain⟨O,δ,E,w,q,k1,k2,k3,k4⟩:=uu53;exact⟨O,δ,_,w,q,λd v H1 uu54 s1 r1=>by
  obtain⟨ks,ds,e,q1⟩:=uu54;subst e;obtain⟨a,ob,kv,rfl,h,e1,n,rr⟩:=r1.dicE;exact⟨a,ob,kv,rfl,h,l4 cI.dk gd (λH' O' S=>S.keep _ _ h n) (B7 e1) (w.mono s1) q1 (λO' δ' σ' H' z w' S=>k1 O' δ' σ' H' z w' (aS.trans (.same s1) S)) k2⟩⟩
def q5:DT:=λ_ Q=>Q (fJ [] [])
theorem Kh{X:Cx}{pos:Pos}:PE X (.Dict [] [] pos) (λ_ H Q=>∀p o,H p=none->Q (.ref p) (ak H p (.frz o (.dK [])))):=λXw s σ H Q I h=>by
 have I1:=I.laid (a:=s.heap.objs.size) (o:= .dK []) (t':=s.toks) (λ_ _ q=>Nm _ q) (Np _) (t9 s.heap I.big);obtain⟨o,I2⟩:=I1.fast aW;rw [E8] at I2;exact wpAny_Dict_empty ⟨.ref s.heap.objs.size,_,I2,rfl,h _ o (I.hok.fresh (Np _))⟩
theorem vE{pos:Pos}:DE X H0 O0 (.Dict [] [] pos) q5:=Kh.imp λσ H Q uu55=>by obtain⟨O,δ,Qd,w,q,k⟩:=uu55;exact λp o hp=>k _ _ _ q (ao.new hp) (.dic (ks:=[]) aW rfl rfl (λz=>w.trk p z hp) .nil)
theorem Wd.newO{K:Nh}{H:Hp}{O:Ex}{σ:St}{δ:Dl}(w:Wd K H0 O0 H O σ δ){i:Nat}{p:Vy}(hp:H p=none):∃O',Wd K H0 O0 (ak H p (.lst [])) O' (σ.set i (some (.ref p))) (δ.set i (some (.o [])))/\aS H (ak H p (.lst [])) O O':=
 ⟨_,w.setO hp .nil,⟨λb o e _=>(ao.new hp) b o e,λb e n z=>z.elim n λy=>by
  rw [y] at e;exact e hp⟩⟩
def rg(i j:Nat):DS:=λE δ=>E.nx ((δ.set i (some (.o []))).set j (some (.o [])))
theorem Ki{i j:Nat}{x y:Str}{px py pt pos p1 p2:Pos}{kt k2 pt2}(hc:X.calm=true)(hN:X.N.Nodup)(hi:X.N[i]?=some x)(hj:X.N[j]?=some y)(hij:i≠j)
 (hx:X.env.scope.names.lookup x=some .local)(hy:X.env.scope.names.lookup y=some .local)
 (hw:W7 [.Tuple [.Name x px,.Name y py] kt pt] (.Tuple [.List [] p1,.List [] p2] k2 pt2) X.env=pure (some [x,y]))
 (hs:W6 [.Tuple [.Name x px,.Name y py] kt pt] (.Tuple [.List [] p1,.List [] p2] k2 pt2) pos.line X.env=pure false:=by rfl):
 PS X (.Assign [.Tuple [.Name x px,.Name y py] kt pt] (.Tuple [.List [] p1,.List [] p2] k2 pt2) pos) (bB X.K H0 O0 (rg i j)):=
 (xX hc hN hi hj hij hx hy (bf (nS bR) (bf (nS bR) bR)) hw hs).imp λD σ H uu56=>by
  obtain⟨O,δ,E,w,q,k1,k2,k3,k4⟩:=uu56;refine⟨Vu,λp hp=>⟨Vu,λr hr=>⟨_,_,rfl,?_⟩⟩⟩;obtain⟨O1,w1,S1⟩:=w.newO (i:=i) hp;obtain⟨O2,w2,S2⟩:=w1.newO (i:=j) hr;exact k1 _ _ _ _ q w2 (S1.trans S2)
end
theorem Kj(a b:Int):jk (.int a) (.int b)=true:=rfl
theorem Kk(a b:Str):jk (.str a) (.str b)=true:=rfl
theorem Kl(a b:Bool):jk (.bl a) (.bl b)=true:=rfl
theorem Km(b:Int):jk .non (.int b)=true:=rfl
theorem Kn(b:Int):jk (.int b) .non=true:=rfl
section
variable {x y z w:Option Sl} {l:Dl} {i j k m:Nat} {P:Vv->Prop}
theorem vF:cj j ((x::l).set 0 y) P=cj j (y::l) P:=rfl
theorem vG:cj j ((x::l).set (i+1) y) P=cj j (x::l.set i y) P:=rfl
theorem vH:cj j (((x::l).set 0 y).set k z) P=cj j ((y::l).set k z) P:=rfl
theorem vI:cj j (((x::l).set (i+1) y).set k z) P=cj j ((x::l.set i y).set k z) P:=rfl
theorem vJ:cj j ((((x::l).set 0 y).set k z).set m w) P=cj j (((y::l).set k z).set m w) P:=rfl
theorem vK:cj j ((((x::l).set (i+1) y).set k z).set m w) P=cj j (((x::l.set i y).set k z).set m w) P:=rfl
end
section
variable {K:Nh} {mg:Str->Option Vw} {h:VQ} {x q:Str} {st:VT} {f C:Vy} {fd:VN} {ps:List Str}
structure Fn (K:Nh) (mg:Str->Option Vw) (x:Str) (st:VT) (f:Vy) (fd:VN) (ps:List Str):Prop where
 F:fq K x x st f fd
 m:mg x=some (.ref f)
 b:eX K fd ps []
structure Mn (K:Nh) (x q:Str) (st:VT) (f:Vy) (fd:VN) (ps:List Str):Prop where
 F:fq K x q st f fd
 b:eX K fd ps []
structure DfT (K:Nh) (x:Str) (st:VT) (f:Vy) (fd:VN):Prop where
 a:N5 K VR x=some (some (.ref f))
 F:fq K x x st f fd
structure DmT (K:Nh) (C:Vy) (x q:Str) (st:VT) (f:Vy) (fd:VN):Prop where
 a:Py K (.ref C) x=some (some (.ref f))
 i:TQ K (.ref f)=true
 F:fq K x q st f fd
structure B9 (K:Nh) (C:Vy):Prop where
 c:gO K C
 m:SH K C=true
 k:PQ K (.ref C)=true
theorem DfT.of{oc:Vw}{od an:Option Vy}{osl:Array (Option Vw)}{kV doc pm cdv ct:Vw}(a:N5 K VR x=some (some (.ref f)))(l:K.lookup f=some ⟨oc,od,.func (Pa x x (gQ st) (fm st) (ay st) .none kV doc pm an cdv ct),osl⟩)
 (c:Q6 K cdv x=true)(k:PQ K (.ref f)=true):DfT K x st f (Pa x x (gQ st) (fm st) (ay st) .none kV doc pm an cdv ct):=⟨a,Aj l c k⟩
theorem DmT.of{oc:Vw}{od an:Option Vy}{osl:Array (Option Vw)}{kV doc pm cdv ct:Vw}(a:Py K (.ref C) x=some (some (.ref f)))(i:TQ K (.ref f)=true)(l:K.lookup f=some ⟨oc,od,.func (Pa x q (gQ st) (fm st) (ay st) .none kV doc pm an cdv ct),osl⟩)
 (c:Q6 K cdv q=true)(k:PQ K (.ref f)=true):DmT K C x q st f (Pa x q (gQ st) (fm st) (ay st) .none kV doc pm an cdv ct):=⟨a,i,Aj l c k⟩
theorem DfT.fn(D:DfT K x st f fd)(X:K.In h)(G:h.Ns VR mg)(hb:∀(kV doc pm:Vw) (an:Option Vy) (cdv ct:Vw) (us:List Vw),us.length=ps.length->bindArgs (Pa x x (gQ st) (fm st) (ay st) .none kV doc pm an cdv ct) ⟨us,[]⟩=pure (ps.zip us):=by walk_at "b"):Fn K mg x st f fd ps:=⟨D.F,Qq X G D.a,D.F.binds hb⟩
theorem DmT.fn(D:DmT K C x q st f fd)(hb:∀(kV doc pm:Vw) (an:Option Vy) (cdv ct:Vw) (us:List Vw),us.length=ps.length->bindArgs (Pa x q (gQ st) (fm st) (ay st) .none kV doc pm an cdv ct) ⟨us,[]⟩=pure (ps.zip us):=by walk_at "b"):Mn K x q st f fd ps:=⟨D.F,D.F.binds hb⟩
theorem DmT.mkk(D:DmT K C "__init__" q st f fd)(c:B9 K C):Mk K C f:=⟨c.m,D.a,D.i,c.k⟩
theorem Fn.kp(N:Fn K mg x st f fd ps):PQ K (.ref f)=true:=N.F.kp
end
section
variable {X:Cx} {k:Nat} {f:Vy} {fd:VN} {ps:List Str} {sp:Sp} {st:VT} {x:Str} {p pos:Pos} {e:VE} {es:List VE} {t:TA}
theorem dQ(F:aH X.prog X.w X.K X.mg X.base CX0 k f fd ps sp)(hr:bx k X.A)(hg:Gl X x)(N:Fn X.K X.mg x st f fd ps)
 (ha:PA X (e::es) t)(hdb:(x==("__debug__":Str))=false:=by decide)(he:VH (e::es) X.env=(false,eval e X.env)::VH es X.env:=by rfl)(hpl:(V1 pos (VH es X.env)).any (·.1)=false:=by rfl):
 PE X (.Call (.Name x p) (e::es) [] pos) (nT sp [] E0 t):=F2 F hr hg N.m N.kp N.b .nil tJ ha hdb he hpl
end
theorem bb.of{sc:We}{N N':List Str}{k:Nat}{fr:List Nat}{scope:We}(a:scope.kind= .function:=by rfl)(b:∀y∈scope.names,y.2= .cell->scope.names.lookup y.1=some .cell:=by decide+kernel)(c:∀y∈scope.names,y.2= .local->scope.names.lookup y.1=some .local:=by decide+kernel)(d:N'.Nodup:=by decide+kernel)(e:fr.map (λj=>N[j]?)=(N'.drop k).map some:=by rfl)(f:∀x∈N'.drop k,scope.names.lookup x=some .free:=by decide+kernel)(g:∀y∈scope.names,y.2= .free->sc.names.lookup y.1=some .cell\/sc.names.lookup y.1=some .free:=by decide+kernel)(h:∀x∈N'.drop k,sc.names.lookup x=some .cell\/sc.names.lookup x=some .free:=by decide+kernel)(i:N'.length=k+fr.length:=by rfl):bb sc N N' k fr scope:=⟨a,b,c,d,e,f,g,h,i⟩
theorem aT.of{N P:List Str}{sc:We}(a:sc.kind= .function:=by rfl)(b:sc.isCoroutine=false:=by rfl)(c:sc.isGenerator=false:=by rfl)(d:N.Nodup:=by decide+kernel)(e:N.take P.length=P:=by rfl)(f:∀x∈P,sc.names.lookup x=some .local\/sc.names.lookup x=some .cell:=by decide+kernel)(g:∀y∈sc.names,y.2≠ .free:=by decide+kernel):aT N P sc:=⟨a,b,c,d,e,f,g⟩
section
variable {X:Cx} {H0:Hp} {O0:Ex} {pos:Pos} {a b e:VE} {es:List VE} {ta tb t:DT} {u:DA} {r:R2} {rd:Vv->Vv->(Vv->Prop)->Prop}
theorem aJ{op:Operator}(ho:bQ X (WJ op) r)(hd:cy X.K r rd)(ha:DE X H0 O0 a ta)(hb:DE X H0 O0 b tb):DE X H0 O0 (.BinOp a op b pos) (dJ rd ta tb):=Hl ho hd (df ha) (df hb)
theorem aq(ho:jX X r)(hd:cy X.K r rd)(ha:DE X H0 O0 a ta)(hb:DE X H0 O0 b tb)(hs:∀v u,W3 b false v u=operate [v,u] (WL v u):=by intro _ _;rfl):DE X H0 O0 (.Subscript a b pos) (dJ rd ta tb):=fv ho hd (df ha) (df hb) hs
theorem aF{op:CmpOp}(ho:bQ X (VZ op) r)(hd:cy X.K r rd)(ha:DE X H0 O0 a ta)(hb:DE X H0 O0 b tb)(hm:Wa op b=false):PT X (.Compare a [op] [b] pos) (bT X.K H0 O0 (fE (dJ rd ta tb))):=Hm ho hd (df ha) (df hb) hm
theorem bz(h:DE X H0 O0 e t)(hs:PA X es (eR X.K H0 O0 u))(he:VH (e::es) X.env=(false,eval e X.env)::VH es X.env:=by rfl):PA X (e::es) (eR X.K H0 O0 (gR t u)):=ig (df h) hs he
theorem aB{k j:Nat}{f:Vy}{fd:VN}{ps:List Str}{F:List Vv->(Vv->Prop)->Prop}{st:VT}{x:Str}{p:Pos}(G:aH X.prog X.w X.K X.mg X.base CX0 k f fd ps (aX X.K F))(hr:bx j X.A)(N:Fn X.K X.mg x st f fd ps)
 (ha:PA X (e::es) (fD X.K H0 O0 u))(hk:k<=j:=by decide)(hg:Gl X x:=by exact rfl)(hdb:(x==("__debug__":Str))=false:=by decide)(he:VH (e::es) X.env=(false,eval e X.env)::VH es X.env:=by rfl)(hpl:(V1 pos (VH es X.env)).any (·.1)=false:=by rfl):
 DE X H0 O0 (.Call (.Name x p) (e::es) [] pos) (iR F u):=PE.imp (dQ G (hr.mono hk) hg N ha hdb he hpl) oz
end
def kH(lf:Bool)(ky:VF)(xs:Array VF)(bs i:Nat):StateT VO Sem (Option Bool):=do
 let x<-Wq xs (bs+i)
 if lf then lt' x ky else return (<-lt' ky x).map (!·)
def rh(lf:Bool)(ky:VF)(xs:Array VF)(bs n l0 h0:Nat):StateT VO Sem (Option Nat):=do
 let mut lo:=l0
 let mut hi:=h0
 for _ in [0:n] do
  if lo >= hi then break
  let m:=lo+(hi - lo)/ 2
  let some mo<-kH lf ky xs bs m | return none
  if mo then lo:=m+1 else hi:=m
 return some hi
def jb:Bool->VF->Array VF->Nat->Nat->Nat->StateT VO Sem (Option Nat):=sortPriv% PySem.Builtin.gallop
theorem Ko(lf:Bool)(ky:VF)(xs:Array VF)(bs n ht:Nat):jb lf ky xs bs n ht=(do
 let some rt<-kH lf ky xs bs ht | return none
 if rt then
  let mut lst:=0
  let mut ofs:=1
  for _ in [0:n] do
   if ofs >= n - ht then break
   let some mo<-kH lf ky xs bs (ht+ofs) | return none
   if !mo then break
   lst:=ofs
   ofs:=2*ofs+1
  rh lf ky xs bs n (ht+lst+1) (ht+min ofs (n - ht))
 else
  let mut lst:=0
  let mut ofs:=1
  for _ in [0:n] do
   if ofs >= ht+1 then break
   let some fo<-kH lf ky xs bs (ht - ofs) | return none
   if fo then break
   lst:=ofs
   ofs:=2*ofs+1
  rh lf ky xs bs n (ht+1 - min ofs (ht+1)) (ht - lst)):=rfl
def Sg(xs:Array VF)(lo hi:Nat):Prop:=∀i j,lo<=i->i<=j->j < hi->K xs i<=K xs j
def Bd(lf:Bool)(z x:Int):Prop:=if lf=true then x < z else x<=z
instance {lf:Bool} {z x:Int}:Decidable (Bd lf z x):=by unfold Bd;infer_instance
theorem Bd.down{lf:Bool}{z x y:Int}(h:Bd lf z y)(hx:x<=y):Bd lf z x:=by
 unfold Bd at h⊢;split at h <;> rename_i e
 ·rw [Vs e];omega
 ·rw [Vr e];omega
section
variable {prog:VL} {w:VP} {A:VS} {E:Vw->Vz->Prop} {s:Vz}
theorem rj{st:VO}{x y:VF}{a b:Int}{t u:Tok}{Q:Option Bool->VO->Prop}(hk:kindOf st=Wk)(hx:x.1= .int a t)(hy:y.1= .int b u)(h:Q (some (decide (a < b))) st):wpS (VB prog w) A E s (lt' x y) Q st:=by
 rw [lt'_eq];refine VI (WS ?_);rw [hk,keyLt'_oneType,hx,hy];exact VI (Xl (WO (oneLt_int ⟨rfl,VJ h⟩)))
theorem cQ{st:VO}{xs:Array VF}{i:Nat}{p:VF}{Q:VF->VO->Prop}(e:xs[i]?=some p)(h:Q p st):wpS (VB prog w) A E s (Wq xs i) Q st:=by
 rw [elem'_eq,e];exact VJ h
theorem dj{xs:Array VF}(ik:IntKeys xs){i:Nat}(hi:i < xs.size):∃t,xs[i]?=some xs[i]/\xs[i].1= .int (K xs i) t:=by
 have hm:xs[i]∈xs.toList:=Vu
 obtain⟨n,t,hn⟩:=ik _ hm;refine⟨t,getElem?_pos xs i hi,?_⟩;unfold K;rw [getElem?_pos xs i hi];show xs[i].1= .int (numOf xs[i].1) t;rw [hn];rfl
theorem rn{st:VO}{lf:Bool}{ky:VF}{xs:Array VF}{bs i:Nat}{z:Int}{t:Tok}{Q:Option Bool->VO->Prop}(hk:kindOf st=Wk)(ik:IntKeys xs)(kz:ky.1= .int z t)(hi:bs+i < xs.size)
 (h:Q (some (decide (Bd lf z (K xs (bs+i))))) st):wpS (VB prog w) A E s (kH lf ky xs bs i) Q st:=by
 obtain⟨u,e1,e2⟩:=dj ik hi;unfold kH;refine VI (cQ e1 ?_);cases lf with
 | true=>
  rw [Vs rfl];refine rj hk e2 kz ?_;unfold Bd at h;simpa using h
 | false=>
  rw [Vr Vp];refine VI (rj hk kz e2 (VJ ?_));unfold Bd at h;have e:(!decide (z < K xs (bs+i)))=decide (K xs (bs+i)<=z):=by
   by_cases q:z < K xs (bs+i)
   ·rw [decide_eq_true q,decide_eq_false Vq];rfl
   ·rw [decide_eq_false q,decide_eq_true Vq];rfl
  simpa [e] using h
theorem Ca{st:VO}{lf:Bool}{ky:VF}{xs:Array VF}{bs n l0 h0:Nat}{z:Int}{t:Tok}{Q:Option Nat->VO->Prop}(hk:kindOf st=Wk)(ik:IntKeys xs)(kz:ky.1= .int z t)(hz:bs+n<=xs.size)(hs:Sg xs bs (bs+n))(hl:l0<=h0)(hn:h0<=n)
 (b1:∀i,i < l0->Bd lf z (K xs (bs+i)))(b2:∀i,h0<=i->i < n->¬Bd lf z (K xs (bs+i)))
 (h:∀k,k<=n->(∀i,i < k->Bd lf z (K xs (bs+i)))->(∀i,k<=i->i < n->¬Bd lf z (K xs (bs+i)))->Q (some k) st):wpS (VB prog w) A E s (rh lf ky xs bs n l0 h0) Q st:=by
 have dn:∀i j,i<=j->j < n->Bd lf z (K xs (bs+j))->Bd lf z (K xs (bs+i)):=λi j hij hj b=>b.down (hs _ _ Vq Vq Vq);unfold rh;refine VI (Wc (V2 (I:=λx c st'=>st'=st/\∃l r,c=(none,l,r)/\l<=r/\r<=n/\r - l<=n - x/\(∀i,i < l->Bd lf z (K xs (bs+i)))/\(∀i,r<=i->i < n->¬Bd lf z (K xs (bs+i))))
  (Q:=λc st'=>st'=st/\∃l r,c=(none,l,r)/\r<=n/\(∀i,i < r->Bd lf z (K xs (bs+i)))/\(∀i,r<=i->i < n->¬Bd lf z (K xs (bs+i)))) ?_ ?_ ⟨rfl,l0,h0,rfl,hl,hn,Vq,b1,b2⟩) ?_)
 ·rintro x c st' _ hx ⟨rfl,l,r,rfl,h1,h2,h3,h4,h5⟩;dsimp only;by_cases hge:l >= r
  ·rw [Vs hge];have e:l=r:=Vq
   subst e;exact VJ ⟨rfl,l,l,rfl,h2,h4,h5⟩
  ·rw [Vr hge];refine VI (rn hk ik kz Vq ?_);dsimp only;by_cases hm:Bd lf z (K xs (bs+(l+(r - l)/ 2)))
   ·rw [Vs (decide_eq_true hm)];exact VJ ⟨rfl,l+(r - l)/ 2+1,r,rfl,Vq,Vq,Vq,λi hi=>dn i (l+(r - l)/ 2) Vq Vq hm,h5⟩
   ·rw [Vr (by simp [hm])];exact VJ ⟨rfl,l,l+(r - l)/ 2,rfl,Vq,Vq,Vq,h4,λi h6 h7 b=>hm (dn _ i h6 h7 b)⟩
 ·rintro c st' ⟨rfl,l,r,rfl,h1,h2,h3,h4,h5⟩;have e:l=r:=Vq
  subst e;exact⟨rfl,l,l,rfl,h2,h4,h5⟩
 ·rintro c st' ⟨rfl,l,r,rfl,h2,h4,h5⟩;exact VJ (h r h2 h4 h5)
theorem kI{st:VO}{lf:Bool}{ky:VF}{xs:Array VF}{bs n ht:Nat}{z:Int}{t:Tok}{Q:Option Nat->VO->Prop}(hk:kindOf st=Wk)(ik:IntKeys xs)(kz:ky.1= .int z t)(hz:bs+n<=xs.size)(hs:Sg xs bs (bs+n))(hh:ht < n)
 (h:∀k,k<=n->(∀i,i < k->Bd lf z (K xs (bs+i)))->(∀i,k<=i->i < n->¬Bd lf z (K xs (bs+i)))->Q (some k) st):wpS (VB prog w) A E s (jb lf ky xs bs n ht) Q st:=by
 have dn:∀i j,i<=j->j < n->Bd lf z (K xs (bs+j))->Bd lf z (K xs (bs+i)):=λi j hij hj b=>b.down (hs _ _ Vq Vq Vq);rw [Ko];refine VI (rn hk ik kz Vq ?_);dsimp only;by_cases hb:Bd lf z (K xs (bs+ht))
 ·rw [Vs (decide_eq_true hb)];refine VI (Wc (V2 (I:=λx c st'=>st'=st/\∃l o,c=(none,l,o)/\l < o/\x+1<=o/\ht+l < n/\Bd lf z (K xs (bs+(ht+l))))
   (Q:=λc st'=>st'=st/\∃l o,c=(none,l,o)/\l < o/\ht+l < n/\Bd lf z (K xs (bs+(ht+l)))/\(ht+o < n->¬Bd lf z (K xs (bs+(ht+o))))) ?_ ?_ ⟨rfl,0,1,rfl,Vq,Vq,Vq,hb⟩) ?_)
  ·rintro x c st' _ hx ⟨rfl,l,o,rfl,h1,h2,h3,h4⟩;dsimp only;by_cases ho:o >= n - ht
   ·rw [Vs ho];exact VJ ⟨rfl,l,o,rfl,h1,h3,h4,λz=>by omega⟩
   ·rw [Vr ho];refine VI (rn hk ik kz Vq ?_);dsimp only;by_cases hm:Bd lf z (K xs (bs+(ht+o)))
    ·rw [Vr (by simp [hm])];exact VJ ⟨rfl,o,2*o+1,rfl,Vq,Vq,Vq,hm⟩
    ·rw [Vs (by simp [hm])];exact VJ ⟨rfl,l,o,rfl,h1,h3,h4,λ_=>hm⟩
  ·rintro c st' ⟨rfl,l,o,rfl,h1,h2,h3,h4⟩;exact⟨rfl,l,o,rfl,h1,h3,h4,λz=>by omega⟩
  ·rintro c st' ⟨rfl,l,o,rfl,h1,h3,h4,h5⟩;dsimp only;refine Ca hk ik kz hz hs Vq Vq (λi hi=>dn i (ht+l) Vq h3 h4) (λi h6 h7 b=>?_) h;by_cases h8:ht+o < n
   ·exact h5 h8 (dn _ i Vq h7 b)
   ·omega
 ·rw [Vr (by simp [hb])];refine VI (Wc (V2 (I:=λx c st'=>st'=st/\∃l o,c=(none,l,o)/\l < o/\x+1<=o/\l<=ht/\¬Bd lf z (K xs (bs+(ht - l))))
   (Q:=λc st'=>st'=st/\∃l o,c=(none,l,o)/\l < o/\l<=ht/\¬Bd lf z (K xs (bs+(ht - l)))/\(o<=ht->Bd lf z (K xs (bs+(ht - o))))) ?_ ?_ ⟨rfl,0,1,rfl,Vq,Vq,Vq,hb⟩) ?_)
  ·rintro x c st' _ hx ⟨rfl,l,o,rfl,h1,h2,h3,h4⟩;dsimp only;by_cases ho:o >= ht+1
   ·rw [Vs ho];exact VJ ⟨rfl,l,o,rfl,h1,h3,h4,λz=>by omega⟩
   ·rw [Vr ho];refine VI (rn hk ik kz Vq ?_);dsimp only;by_cases hm:Bd lf z (K xs (bs+(ht - o)))
    ·rw [Vs (by simp [hm])];exact VJ ⟨rfl,l,o,rfl,h1,h3,h4,λ_=>hm⟩
    ·rw [Vr (by simp [hm])];exact VJ ⟨rfl,o,2*o+1,rfl,Vq,Vq,Vq,hm⟩
  ·rintro c st' ⟨rfl,l,o,rfl,h1,h2,h3,h4⟩;exact⟨rfl,l,o,rfl,h1,h3,h4,λz=>by omega⟩
  ·rintro c st' ⟨rfl,l,o,rfl,h1,h3,h4,h5⟩;dsimp only;refine Ca hk ik kz hz hs Vq Vq (λi hi=>?_) (λi h6 h7 b=>h4 (dn _ i Vq h7 b)) h;by_cases h8:o<=ht
   ·exact dn i (ht - o) Vq Vq (h5 h8)
   ·omega
structure SB (a₀:Array VF) (st:VO):Prop where
 perm:(VD st).Perm a₀
 kind:kindOf st=Wk
 failed:Wo st=none
variable {a₀:Array VF}
theorem SB.size{st:VO}(h:SB a₀ st):(VD st).size=a₀.size:=h.perm.size_eq
theorem SB.ik{st:VO}(h:SB a₀ st)(h0:IntKeys a₀):IntKeys (VD st):=λp hp=>h0 p ((Pu.mp h.perm).mem_iff.mp hp)
theorem SB.set{st:VO}(h:SB a₀ st){xs:Array VF}(hp:xs.Perm (VD st)):SB a₀ (WU st xs):=⟨hp.trans h.perm,h.kind,h.failed⟩
def kJ(a:Array VF):Prop:=(a.toList.map λp=>numOf p.1).Nodup
theorem SB.dn{st:VO}(h:SB a₀ st)(d:kJ a₀){i j:Nat}(hi:i < a₀.size)(hj:j < a₀.size)(e:K (VD st) i=K (VD st) j):i=j:=by
 have d':kJ (VD st):=((Pu.mp h.perm).map _).nodup_iff.mpr d;have hi':i < (VD st).size:=by rw [h.size];exact hi
 have hj':j < (VD st).size:=by rw [h.size];exact hj
 unfold K at e;rw [getElem?_pos _ i hi',getElem?_pos _ j hj'] at e;exact(QH (h₀:=by simpa using hi') (h₁:=by simpa using hj') d').mp (by simpa using e)
theorem kK{st:VO}{i j:Nat}{Q:Option Bool->VO->Prop}(hB:SB a₀ st)(h0:IntKeys a₀)(hi:i < a₀.size)(hj:j < a₀.size)(h:Q (some (decide (K (VD st) i < K (VD st) j))) st):wpS (VB prog w) A E s (ltAt' i j) Q st:=by
 have hi':i < (VD st).size:=by rw [hB.size];exact hi
 have hj':j < (VD st).size:=by rw [hB.size];exact hj
 obtain⟨t,e1,e2⟩:=dj (hB.ik h0) hi';obtain⟨u,e3,e4⟩:=dj (hB.ik h0) hj';exact wpS_ltAt (p:=(VD st)[i].2) (q:=(VD st)[j].2) hB.kind (by rw [e1,<-e2]) (by rw [e3,<-e4]) h
theorem Sg.succ{xs:Array VF}{lo m:Nat}(h:Sg xs lo m)(hl:lo < m)(hm:K xs (m - 1)<=K xs m):Sg xs lo (m+1):=λi j h1 h2 h3=>by
 by_cases e:j=m
 ·subst e;by_cases e2:i=j
  ·rw [e2];exact Qk _
  ·exact Ou (h i (j - 1) h1 Vq Vq) hm
 ·exact h i j h1 h2 Vq
theorem Sg.one{xs:Array VF}{lo:Nat}:Sg xs lo (lo+1):=λi j h1 h2 h3=>by
 have:i=j:=Vq
 rw [this];exact Qk _
theorem Kp{st:VO}{lo nrem:Nat}{Q:Option Nat->VO->Prop}(h0:IntKeys a₀)(dk:kJ a₀)(hn:lo+nrem<=a₀.size)(h1:1<=nrem)(hB:SB a₀ st)
 (h:∀m st',SB a₀ st'->VM st'=VM st->(∀i,i < lo->(VD st')[i]?=(VD st)[i]?)->1<=m->m<=nrem->Sg (VD st') lo (lo+m)->Q (some m) st'):wpS (VB prog w) A E s (countRun' lo nrem) Q st:=by
 rw [countRun'_eq];refine VI (Wc (V2 (I:=λx c st'=>st'=st/\c=(none,x)/\Sg (VD st) lo (lo+x))
  (Q:=λc st'=>st'=st/\∃n,c=(none,n)/\1<=n/\n<=nrem/\Sg (VD st) lo (lo+n)/\(n < nrem->K (VD st) (lo+n) < K (VD st) (lo+n - 1))) ?_ ?_ ⟨rfl,rfl,Sg.one⟩) ?_)
 ·rintro x c st' hx1 hx2 ⟨rfl,rfl,hs⟩;dsimp only;refine VI (kK hB h0 Vq Vq ?_);dsimp only;by_cases hm:K (VD st') (lo+x) < K (VD st') (lo+x - 1)
  ·rw [Vs (decide_eq_true hm)];exact VJ ⟨rfl,x,rfl,hx1,Vq,hs,λ_=>hm⟩
  ·rw [Vr (by simp [hm])];exact VJ ⟨rfl,rfl,hs.succ Vq Vq⟩
 ·rintro c st' ⟨rfl,rfl,hs⟩;rw [show max 1 nrem=nrem by omega] at hs;exact⟨rfl,nrem,by rw [show max 1 nrem=nrem by omega],Vq,Vq,hs,λz=>by omega⟩
 ·rintro c st' ⟨rfl,n,rfl,n1,n2,hs,hd⟩;dsimp only;by_cases en:n=nrem
  ·rw [Vs (by rw [en];exact beq_self_eq_true _)];exact VJ (h n st' hB rfl (λ_ _=>rfl) n1 n2 hs)
  rw [Vr (by simpa using en)];by_cases n3:n > 1
  ·rw [Vs n3];refine VI (kK hB h0 Vq Vq ?_);dsimp only;have ne:K (VD st') lo≠K (VD st') (lo+n - 1):=λe=>by have:=hB.dn dk Vq Vq e;omega
   have le:=hs lo (lo+n - 1) Vq Vq Vq;rw [Vs (decide_eq_true Vq)];exact VJ (h n st' hB rfl (λ_ _=>rfl) n1 n2 hs)
  rw [Vr n3];have e1:n=1:=Vq
  subst e1;have hd:=hd Vq;refine VI (Xl (Wi ⟨rfl,?_⟩));refine VI (Wc (V2 (I:=λx c st''=>st''=st'/\c=(none,x,0)/\∀i j,lo<=i->i<=j->j < lo+x->K (VD st') j<=K (VD st') i)
   (Q:=λc st''=>st''=st'/\∃m,c=(none,m,0)/\2<=m/\m<=nrem/\∀i j,lo<=i->i<=j->j < lo+m->K (VD st') j<=K (VD st') i) ?_ ?_ ⟨rfl,rfl,λi j h2 h3 h4=>?_⟩) ?_)
  ·rintro x c st'' hx1 hx2 ⟨rfl,rfl,hs2⟩;dsimp only;refine VI (kK hB h0 Vq Vq ?_);dsimp only;by_cases hm:K (VD st'') (lo+x) < K (VD st'') (lo+x - 1)
   ·rw [Vs (decide_eq_true hm),Vr Vq];refine VJ ⟨rfl,rfl,λi j h2 h3 h4=>?_⟩;by_cases ej:j=lo+x
    ·subst ej;by_cases ei:i=lo+x
     ·rw [ei];exact Qk _
     ·exact Ou (P4 hm) (hs2 i (lo+x - 1) h2 Vq Vq)
    ·exact hs2 i j h2 h3 Vq
   ·rw [Vr (by simp [hm])];refine VI (kK hB h0 Vq Vq ?_);dsimp only;have ne:K (VD st'') (lo+x)≠K (VD st'') (lo+x - 1):=λe=>by have:=hB.dn dk Vq Vq e;omega
    rw [Vs (decide_eq_true Vq)];exact VJ ⟨rfl,x,rfl,Vq,Vq,hs2⟩
  ·rintro c st'' ⟨rfl,rfl,hs2⟩;rw [show max (1+1) nrem=nrem by omega] at hs2;exact⟨rfl,nrem,by rw [show max (1+1) nrem=nrem by omega],Vq,Vq,hs2⟩
  ·by_cases ei:i=j
   ·rw [ei];exact Qk _
   ·have e2:i=lo:=Vq
    have e3:j=lo+1:=Vq
    rw [e2,e3];have:lo+1 - 1=lo:=Vq
    rw [this] at hd;exact P4 hd
  ·rintro c st'' ⟨rfl,m,rfl,m1,m2,hs2⟩;dsimp only;rw [Vr Vq];refine VI (wpS_reverse ?_);have hz:lo+m<=(VD st'').size:=by rw [hB.size];omega
   have hB3:SB a₀ (WU st'' (mirror (VD st'') lo (lo+m) ((lo+m - lo)/ 2))):=hB.set (mirror_perm _ _ _ _);have fr:∀i,i < lo->(VD (WU st'' (mirror (VD st'') lo (lo+m) ((lo+m - lo)/ 2))))[i]?=(VD st'')[i]?:=λi hi=>by
    show(mirror (VD st'') lo (lo+m) ((lo+m - lo)/ 2))[i]?=_;rw [getElem?_mirror_all hz,Vr Vq]
   have hs3:Sg (VD (WU st'' (mirror (VD st'') lo (lo+m) ((lo+m - lo)/ 2)))) lo (lo+m):=λi j h2 h3 h4=>by
    show K (mirror (VD st'') lo (lo+m) ((lo+m - lo)/ 2)) i<=K (mirror (VD st'') lo (lo+m) ((lo+m - lo)/ 2)) j;rw [K_mirror hz,K_mirror hz,Vs Vq,Vs Vq];exact hs2 _ _ Vq Vq Vq
   have pe:VM (WU st'' (mirror (VD st'') lo (lo+m) ((lo+m - lo)/ 2)))=VM st'':=rfl;generalize WU st'' (mirror (VD st'') lo (lo+m) ((lo+m - lo)/ 2))=st3 at hB3 fr hs3 pe;refine VI (Wc (V2 (I:=λx c st4=>st4=st3/\c=(none,x)/\Sg (VD st3) lo (lo+x))
    (Q:=λc st4=>st4=st3/\∃n,c=(none,n)/\1<=n/\n<=nrem/\Sg (VD st3) lo (lo+n)) ?_ ?_ ⟨rfl,rfl,hs3⟩) ?_)
   ·rintro x c st4 hx1 hx2 ⟨rfl,rfl,hs4⟩;dsimp only;refine VI (kK hB3 h0 Vq Vq ?_);dsimp only;by_cases hm:K (VD st4) (lo+x) < K (VD st4) (lo+x - 1)
    ·rw [Vs (decide_eq_true hm)];exact VJ ⟨rfl,x,rfl,Vq,Vq,hs4⟩
    ·rw [Vr (by simp [hm])];exact VJ ⟨rfl,rfl,hs4.succ Vq Vq⟩
   ·rintro c st4 ⟨rfl,rfl,hs4⟩;rw [show max m nrem=nrem by omega] at hs4;exact⟨rfl,nrem,by rw [show max m nrem=nrem by omega],Vq,Vq,hs4⟩
   ·rintro c st4 ⟨rfl,k,rfl,k1,k2,hs4⟩;exact VJ (h k st4 hB3 pe fr k1 k2 hs4)
theorem Kq{st:VO}{lo n ok:Nat}{Q:Bool->VO->Prop}(h0:IntKeys a₀)(hn:lo+n<=a₀.size)(h1:1<=ok)(hok:ok<=n)(hB:SB a₀ st)(hs:Sg (VD st) lo (lo+ok))
 (h:∀st',SB a₀ st'->VM st'=VM st->(∀i,i < lo->(VD st')[i]?=(VD st)[i]?)->Sg (VD st') lo (lo+n)->Q true st'):wpS (VB prog w) A E s (binarySort' lo n ok) Q st:=by
 rw [binarySort'_eq];refine VI (Wc (V2 (I:=λk c st'=>c=(none,())/\SB a₀ st'/\VM st'=VM st/\(∀i,i < lo->(VD st')[i]?=(VD st)[i]?)/\Sg (VD st') lo (lo+k))
  (Q:=λc st'=>c=(none,())/\SB a₀ st'/\VM st'=VM st/\(∀i,i < lo->(VD st')[i]?=(VD st)[i]?)/\Sg (VD st') lo (lo+n)) ?_ ?_ ⟨rfl,hB,rfl,λ_ _=>rfl,by rw [show max ok 1=ok by omega];exact hs⟩) ?_)
 ·rintro k c st' hk1 hk2 ⟨rfl,hB',pe,fr,hs'⟩;have hks:lo+k < (VD st').size:=by rw [hB'.size];omega
  refine VI (Wc (V2 (I:=λx c st''=>st''=st'/\∃l r,c=(none,l,r)/\l<=r/\r<=k/\r - l<=k - x/\(∀i,i < l->K (VD st') (lo+i)<=K (VD st') (lo+k))/\(∀i,r<=i->i < k->K (VD st') (lo+k) < K (VD st') (lo+i)))
   (Q:=λc st''=>st''=st'/\∃l r,c=(none,l,r)/\l<=k/\(∀i,i < l->K (VD st') (lo+i)<=K (VD st') (lo+k))/\(∀i,l<=i->i < k->K (VD st') (lo+k) < K (VD st') (lo+i))) ?_ ?_ ⟨rfl,0,k,rfl,Vq,Vq,Vq,λi hi=>by omega,λi h1 h2=>by omega⟩) ?_)
  ·rintro x c st'' _ hxk ⟨rfl,l,r,rfl,hlr,hrk,hm,hlo,hhi⟩;dsimp only;by_cases hge:l >= r
   ·rw [Vs hge];have e:l=r:=Vq
    subst e;exact VJ ⟨rfl,l,l,rfl,hrk,hlo,hhi⟩
   ·rw [Vr hge];refine VI (kK hB' h0 Vq Vq ?_);dsimp only;by_cases hless:K (VD st'') (lo+k) < K (VD st'') (lo+(l+r)/ 2)
    ·rw [Vs (decide_eq_true hless)];exact VJ ⟨rfl,l,(l+r)/ 2,rfl,Vq,Vq,Vq,hlo,λi h1 h2=>Int.lt_of_lt_of_le hless (hs' _ _ Vq Vq Vq)⟩
    ·rw [Vr (by simp [hless])];exact VJ ⟨rfl,(l+r)/ 2+1,r,rfl,Vq,Vq,Vq,λi h1=>Ou (hs' (lo+i) (lo+(l+r)/ 2) Vq Vq Vq) (UK.mp hless),hhi⟩
  ·rintro c st'' ⟨rfl,l,r,rfl,hlr,hrk,hm,hlo,hhi⟩;have e:l=r:=Vq
   subst e;exact⟨rfl,l,l,rfl,hrk,hlo,hhi⟩
  ·rintro c st'' ⟨rfl,l,r,rfl,hlk,hlo,hhi⟩;show wpS _ _ _ _ (do moveDown' (lo+k) (lo+l);pure (P5 (none,()))) _ _;rw [moveDown'_eq];refine VI (WI (VJ ⟨rfl,hB'.set (bubble_perm _ _ _),pe,λi hi=>?_,?_⟩))
   ·show(bubble (VD st'') (lo+k) (lo+k - (lo+l)))[i]?=_;rw [getElem?_bubble hks _ Vq,Vr Vq,Vr Vq];exact fr i hi
   ·intro i j h2 h3 h4;show K (bubble (VD st'') (lo+k) (lo+k - (lo+l))) i<=K (bubble (VD st'') (lo+k) (lo+k - (lo+l))) j;have lo':∀i,lo<=i->i < lo+l->K (VD st'') i<=K (VD st'') (lo+k):=λi a b=>by
     have:=hlo (i - lo) Vq
     rwa [show lo+(i - lo)=i by omega] at this
    have hi':∀i,lo+l<=i->i < lo+k->K (VD st'') (lo+k) < K (VD st'') i:=λi a b=>by
     have:=hhi (i - lo) Vq Vq
     rwa [show lo+(i - lo)=i by omega] at this
    rw [K_bubble hks Vq,K_bubble hks Vq,show lo+k - (lo+k - (lo+l))=lo+l by omega]
    repeat' split
    all_goals first
     | (exfalso;omega)
     | exact Qk _
     | exact lo' _ Vq Vq
     | exact P4 (hi' _ Vq Vq)
     | exact hs' _ _ Vq Vq Vq
 ·rintro c st' ⟨rfl,hB',pe,fr,hs'⟩;rw [show max (max ok 1) n=n by omega] at hs';exact⟨rfl,hB',pe,fr,hs'⟩
 ·rintro c st' ⟨rfl,hB',pe,fr,hs'⟩;exact VJ (h st' hB' pe fr hs')
end
abbrev Nk(p:VF):Int:=numOf p.1
def fx(l:List VF):Prop:=l.Pairwise λp q=>Nk p<=Nk q
structure MI (A B O:List VF) (i j:Nat):Prop where
 pm:O.Perm (A.take i++B.take j)
 up:fx O
 la:∀p∈O,∀q∈A.drop i,Nk p<=Nk q
 lb:∀p∈O,∀q∈B.drop j,Nk p<=Nk q
def fM(A B R:List VF):Prop:=R.Perm (A++B)/\fx R
theorem MI.symm{A B O:List VF}{i j:Nat}(h:MI A B O i j):MI B A O j i:=⟨h.pm.trans QE,h.up,h.lb,h.la⟩
theorem fM.symm{A B R:List VF}(h:fM A B R):fM B A R:=⟨h.1.trans QE,h.2⟩
theorem MI.cut{A B O:List VF}{i j:Nat}(h:MI A B O i j)(ua:fx A)(k:Nat)(hc:∀p∈(A.drop i).take k,∀q∈B.drop j,Nk p<=Nk q):MI A B (O++(A.drop i).take k) (i+k) j:=by
 have ud:fx (A.drop i):=ua.sublist (Ul _ _);have e:A.drop i=(A.drop i).take k++(A.drop i).drop k:=(OV k _).symm;have ud2:=ud;rw [e] at ud2;obtain⟨u1,u2,u3⟩:=Pe.mp ud2;refine⟨?_,Pe.mpr ⟨h.up,u1,λp hp q hq=>h.la p hp q (Pf hq)⟩,λp hp q hq=>?_,λp hp q hq=>?_⟩
 ·have e2:A.take (i+k)=A.take i++(A.drop i).take k:=by rw [U0]
  rw [e2];refine(h.pm.append_right _).trans ?_;rw [Ph,Ph];exact QE.append_left _
 ·rw [<-S4] at hq;rcases NQ.mp hp with z | z
  ·exact h.la p z q (Qh hq)
  ·exact u3 p z q hq
 ·rcases NQ.mp hp with z | z
  ·exact h.lb p z q hq
  ·exact hc p z q hq
theorem MI.fin{A B O:List VF}{i j:Nat}(h:MI A B O i j)(ua:fx A)(ub:fx B)(hc:∀p∈A.drop i,∀q∈B.drop j,Nk p<=Nk q):fM A B (O++A.drop i++B.drop j):=by
 have h1:=h.cut ua (A.drop i).length (by rw [NI (Np _)];exact hc);rw [NI (Np _)] at h1;have e:A.drop (i+(A.drop i).length)=[]:=by rw [Oo];exact Qy Vq
 have h2:=h1.symm.cut ub (B.drop j).length (λp _ q hq=>by rw [e] at hq;cases hq);rw [NI (Np _)] at h2;refine⟨h2.pm.trans ?_,h2.up⟩;rw [NI (by rw [Oo];omega),NI (by rw [Oo];omega)];exact QE
theorem kL{xs:Array VF}{i:Nat}(hi:i < xs.size):K xs i=Nk xs[i]:=K_eq hi
theorem Sg.up{xs:Array VF}(h:Sg xs 0 xs.size):fx xs.toList:=by
 unfold fx;rw [OF];intro i j hi hj hij;have hi':i < xs.size:=by simpa using hi
 have hj':j < xs.size:=by simpa using hj
 have:=h i j Vq Vq hj';rw [kL hi',kL hj'] at this;simpa using this
theorem kM{xs:Array VF}{i:Nat}{q:VF}(h:q∈xs.toList.drop i):∃m,i<=m/\m < xs.size/\Nk q=K xs m:=by
 obtain⟨k,hk,e⟩:=OS h;rw [Oo,Nu] at hk;refine⟨i+k,Vq,Vq,?_⟩;rw [kL Vq,<-e,Rc];simp
theorem vL{xs:Array VF}{i k:Nat}{q:VF}(h:q∈(xs.toList.drop i).take k):∃m,m < k/\i+m < xs.size/\Nk q=K xs (i+m):=by
 obtain⟨m,hm,e⟩:=OS h;rw [NS,Oo,Nu] at hm;refine⟨m,Vq,Vq,?_⟩;rw [kL Vq,<-e,QC,Rc];simp
theorem fN{xs:Array VF}{i j:Nat}:(xs.extract i j).toList=(xs.toList.drop i).take (j - i):=Vu
theorem Cb{xs:Array VF}{i:Nat}(hi:i < xs.size):(xs.toList.drop i).take 1=[xs[i]]:=by
 rw [PD (by simpa using hi)];simp
def eT(a b o:Array VF)(i j:Nat):Array VF:=o++a.extract i a.size++b.extract j b.size
def iB(a b o:Array VF)(i j:Nat):Array VF:=o++b.extract j b.size++a.extract i a.size
theorem Cc{a b o:Array VF}{i j:Nat}:(eT a b o i j).toList=o.toList++a.toList.drop i++b.toList.drop j:=by
 unfold eT;rw [Oz,Oz,fN,fN,NI (by rw [Oo,Nu];omega),NI (by rw [Oo,Nu];omega)]
theorem Kr{a b o:Array VF}{i j:Nat}:(iB a b o i j).toList=o.toList++b.toList.drop j++a.toList.drop i:=by
 unfold iB;rw [Oz,Oz,fN,fN,NI (by rw [Oo,Nu];omega),NI (by rw [Oo,Nu];omega)]
structure Mg (a b:Array VF):Prop where
 ia:IntKeys a
 ib:IntKeys b
 ua:Sg a 0 a.size
 ub:Sg b 0 b.size
 a1:1<=a.size
 b1:1<=b.size
 hd:K b 0<=K a 0
 ls:K b (b.size - 1)<=K a (a.size - 1)
def kN:Nat->StateT VO Sem Unit:=sortPriv% PySem.Builtin.setMinGallop
theorem Ks(g:Nat):kN g=modify (λst=>To (kindOf st) (VD st) (VM st) g (Wo st)):=rfl
abbrev S6:=Option (Array VF)×Array VF×Nat×Nat×Nat×Nat
abbrev S7:=Option (Array VF)×Array VF×Nat×Nat×Nat×Nat×Nat
abbrev S5:=Option (Array VF)×Array VF×Nat×Nat×Nat
def mT(a b:Array VF)(mg:Nat)(c:S6):StateT VO Sem (ForInStep S6):=do
 let y<-Wq b c.2.2.2.1
 let x<-Wq a c.2.2.1
 let some bw<-lt' y x | pure (.done (some (eT a b c.2.1 c.2.2.1 c.2.2.2.1),c.2.1,c.2.2.1,c.2.2.2.1,c.2.2.2.2.1,c.2.2.2.2.2))
 if bw=true then do
  let y<-Wq b c.2.2.2.1
  if (c.2.2.2.1+1==b.size)=true then pure (.done (some (eT a b (c.2.1.push y) c.2.2.1 (c.2.2.2.1+1)),c.2.1.push y,c.2.2.1,c.2.2.2.1+1,0,c.2.2.2.2.2+1))
  else if c.2.2.2.2.2+1 >= mg then pure (.done (none,c.2.1.push y,c.2.2.1,c.2.2.2.1+1,0,c.2.2.2.2.2+1))
  else pure (.yield (none,c.2.1.push y,c.2.2.1,c.2.2.2.1+1,0,c.2.2.2.2.2+1))
 else do
  let x<-Wq a c.2.2.1
  if (c.2.2.1+1+1==a.size)=true then pure (.done (some (iB a b (c.2.1.push x) (c.2.2.1+1) c.2.2.2.1),c.2.1.push x,c.2.2.1+1,c.2.2.2.1,c.2.2.2.2.1+1,0))
  else if c.2.2.2.2.1+1 >= mg then pure (.done (none,c.2.1.push x,c.2.2.1+1,c.2.2.2.1,c.2.2.2.2.1+1,0))
  else pure (.yield (none,c.2.1.push x,c.2.2.1+1,c.2.2.2.1,c.2.2.2.2.1+1,0))
def rz(a b o:Array VF)(i j mg p q:Nat):StateT VO Sem (ForInStep S7):=do
 let x<-Wq a i
 if (i+1+1==a.size)=true then pure (.done (some (iB a b (o.push x) (i+1) j),o.push x,i+1,j,mg,p,q))
 else if (decide (p < 7) && decide (q < 7))=true then pure (.done (none,o.push x,i+1,j,mg,p,q))
 else pure (.yield (none,o.push x,i+1,j,mg,p,q))
def rA(a b o:Array VF)(i j mg p q:Nat):StateT VO Sem (ForInStep S7):=do
 let y<-Wq b j
 if (j+1==b.size)=true then pure (.done (some (eT a b (o.push y) i (j+1)),o.push y,i,j+1,mg,p,q))
 else do
  let x<-Wq a i
  let some k<-jb true x b (j+1) (b.size - (j+1)) 0 | pure (.done (some (eT a b (o.push y) i (j+1)),o.push y,i,j+1,mg,p,q))
  if k > 0 then
   if (j+1+k==b.size)=true then pure (.done (some (eT a b (o.push y++b.extract (j+1) (j+1+k)) i (j+1+k)),o.push y++b.extract (j+1) (j+1+k),i,j+1+k,mg,p,k))
   else rz a b (o.push y++b.extract (j+1) (j+1+k)) i (j+1+k) mg p k
  else rz a b (o.push y) i (j+1) mg p k
def rB(a b o:Array VF)(i j mg p q:Nat):StateT VO Sem (ForInStep S7):=do
 kN mg
 let y<-Wq b j
 let some k<-jb false y a i (a.size - i) 0 | pure (.done (some (eT a b o i j),o,i,j,mg,p,q))
 if k > 0 then
  if (i+k+1==a.size)=true then pure (.done (some (iB a b (o++a.extract i (i+k)) (i+k) j),o++a.extract i (i+k),i+k,j,mg,k,q))
  else if (i+k==a.size)=true then pure (.done (some (eT a b (o++a.extract i (i+k)) (i+k) j),o++a.extract i (i+k),i+k,j,mg,k,q))
  else rA a b (o++a.extract i (i+k)) (i+k) j mg k q
 else rA a b o i j mg k q
def vM(a b:Array VF)(c:S7):StateT VO Sem (ForInStep S7):=
 if c.2.2.2.2.1 > 1 then rB a b c.2.1 c.2.2.1 c.2.2.2.1 (c.2.2.2.2.1 - 1) c.2.2.2.2.2.1 c.2.2.2.2.2.2 else rB a b c.2.1 c.2.2.1 c.2.2.2.1 c.2.2.2.2.1 c.2.2.2.2.2.1 c.2.2.2.2.2.2
def vN:Array VF->Array VF->StateT VO Sem (Array VF):=sortPriv% PySem.Builtin.mergeLo
def Cd(e:S7):StateT VO Sem (ForInStep S5):=match e.1 with
 | some r=>pure (.done (some r,e.2.1,e.2.2.1,e.2.2.2.1,e.2.2.2.2.1))
 | none=>do
  kN (e.2.2.2.2.1+1)
  pure (.yield (none,e.2.1,e.2.2.1,e.2.2.2.1,e.2.2.2.2.1+1))
def vO(a b:Array VF)(g:Nat)(d:S6):StateT VO Sem (ForInStep S5):=match d.1 with
 | some r=>pure (.done (some r,d.2.1,d.2.2.1,d.2.2.2.1,g))
 | none=>do
  rule "list.sort.gallop"
  let e<-forIn [0:a.size+b.size] ((none,d.2.1,d.2.2.1,d.2.2.2.1,g+1,d.2.2.2.2.1,d.2.2.2.2.2):S7) (λ_ e=>vM a b e)
  Cd e
def Kt(a b:Array VF)(c:S5):StateT VO Sem (ForInStep S5):=do
 let d<-forIn [0:a.size+b.size] ((none,c.2.1,c.2.2.1,c.2.2.2.1,0,0):S6) (λ_ d=>mT a b c.2.2.2.2 d)
 vO a b c.2.2.2.2 d
def Ku(c:S5):StateT VO Sem (Array VF):=match c.1 with
 | some r=>pure r
 | none=>Xn "internal:list.sort.merge-bound"
set_option smartUnfolding false in
theorem Kv(a b:Array VF):vN a b=(do
 rule "list.sort.merge-lo"
 let x<-Wq b 0
 if (1==b.size)=true then pure (eT a b #[x] 0 1)
 else if (0+1==a.size)=true then pure (iB a b #[x] 0 1)
 else do
  let z<-get
  let r<-forIn [0:a.size+b.size] ((none,#[x],0,1,gallopOf z):S5) (λ_ c=>Kt a b c)
  Ku r):=rfl
section
variable {prog:VL} {w:VP} {A:VS} {E:Vw->Vz->Prop} {s:Vz}
def GS(st st':VO):Prop:=∃g,st'=To (kindOf st) (VD st) (VM st) g (Wo st)
theorem GS.refl(st:VO):GS st st:=⟨gallopOf st,rfl⟩
theorem GS.trans{a b c:VO}(h:GS a b)(h':GS b c):GS a c:=by
 obtain⟨g,rfl⟩:=h;obtain⟨g',rfl⟩:=h';exact⟨g',rfl⟩
theorem GS.kind{a b:VO}(h:GS a b):kindOf b=kindOf a:=by obtain⟨g,rfl⟩:=h;rfl
theorem rC{st:VO}{g:Nat}{Q:Unit->VO->Prop}(h:∀st',GS st st'->Q () st'):wpS (VB prog w) A E s (kN g) Q st:=by
 rw [Ks];exact WI (h _ ⟨g,rfl⟩)
variable {a b:Array VF}
abbrev MA(a b o:Array VF)(i j:Nat):Prop:=MI a.toList b.toList o.toList i j
abbrev RA(a b r:Array VF):Prop:=fM a.toList b.toList r.toList
theorem MA.cutA{o:Array VF}{i j k:Nat}(h:MA a b o i j)(m:Mg a b)(hc:∀u,u < k->i+u < a.size->∀v,j<=v->v < b.size->K a (i+u)<=K b v):MA a b (o++a.extract i (i+k)) (i+k) j:=by
 show MI _ _ (o++a.extract i (i+k)).toList _ _;rw [Oz,fN,show i+k - i=k by omega];refine MI.cut h m.ua.up k λp hp q hq=>?_;obtain⟨u,u1,u2,e1⟩:=vL hp;obtain⟨v,v1,v2,e2⟩:=kM hq;rw [e1,e2];exact hc u u1 u2 v v1 v2
theorem MA.cutB{o:Array VF}{i j k:Nat}(h:MA a b o i j)(m:Mg a b)(hc:∀u,u < k->j+u < b.size->∀v,i<=v->v < a.size->K b (j+u)<=K a v):MA a b (o++b.extract j (j+k)) i (j+k):=by
 show MI _ _ (o++b.extract j (j+k)).toList _ _;rw [Oz,fN,show j+k - j=k by omega];refine(MI.cut h.symm m.ub.up k λp hp q hq=>?_).symm;obtain⟨u,u1,u2,e1⟩:=vL hp;obtain⟨v,v1,v2,e2⟩:=kM hq;rw [e1,e2];exact hc u u1 u2 v v1 v2
theorem Ce{o xs:Array VF}{i:Nat}(hi:i < xs.size):o.push xs[i]=o++xs.extract i (i+1):=by
 apply QK.mp;rw [Pj,Oz,fN,show i+1 - i=1 by omega,Cb hi]
theorem MA.pushA{o:Array VF}{i j:Nat}(h:MA a b o i j)(m:Mg a b)(hi:i < a.size)(hc:∀v,j<=v->v < b.size->K a i<=K b v):MA a b (o.push a[i]) (i+1) j:=by
 rw [Ce hi];exact h.cutA m λu h1 h2 v h3 h4=>by rw [show i+u=i by omega];exact hc v h3 h4
theorem MA.pushB{o:Array VF}{i j:Nat}(h:MA a b o i j)(m:Mg a b)(hj:j < b.size)(hc:∀v,i<=v->v < a.size->K b j<=K a v):MA a b (o.push b[j]) i (j+1):=by
 rw [Ce hj];exact h.cutB m λu h1 h2 v h3 h4=>by rw [show j+u=j by omega];exact hc v h3 h4
theorem MA.doneB{o:Array VF}{i:Nat}(h:MA a b o i b.size)(m:Mg a b):RA a b (eT a b o i b.size):=by
 show fM _ _ (eT a b o i b.size).toList;rw [Cc];exact MI.fin h m.ua.up m.ub.up λp _ q hq=>by
  obtain⟨v,v1,v2,_⟩:=kM hq;omega
theorem MA.doneA{o:Array VF}{j:Nat}(h:MA a b o a.size j)(m:Mg a b):RA a b (eT a b o a.size j):=by
 show fM _ _ (eT a b o a.size j).toList;rw [Cc];exact MI.fin h m.ua.up m.ub.up λp hp q _=>by
  obtain⟨v,v1,v2,_⟩:=kM hp;omega
theorem MA.last{o:Array VF}{i j:Nat}(h:MA a b o i j)(m:Mg a b)(hi:i+1=a.size):RA a b (iB a b o i j):=by
 show fM _ _ (iB a b o i j).toList;rw [Kr];refine(MI.fin h.symm m.ub.up m.ua.up λp hp q hq=>?_).symm;obtain⟨u,u1,u2,e1⟩:=kM hp;obtain⟨v,v1,v2,e2⟩:=kM hq;rw [e1,e2,show v=a.size - 1 by omega];exact Ou (m.ub u (b.size - 1) Vq Vq Vq) m.ls
abbrev In(a b o:Array VF)(i j:Nat):Prop:=MA a b o i j/\i+1 < a.size/\j < b.size
theorem Kw{st:VO}{mg i j p q:Nat}{o:Array VF}{r0:Option (Array VF)}{Q:ForInStep S6->VO->Prop}(hk:kindOf st=Wk)(m:Mg a b)(h:In a b o i j)
 (h1:∀r o i j p q,RA a b r->Q (.done (some r,o,i,j,p,q)) st)(h2:∀o' i' j' p' q',In a b o' i' j'->i'+j'=i+j+1->Q (.done (none,o',i',j',p',q')) st/\Q (.yield (none,o',i',j',p',q')) st):wpS (VB prog w) A E s (mT a b mg (r0,o,i,j,p,q)) Q st:=by
 obtain⟨M,hi,hj⟩:=h;have hi':i < a.size:=Vq
 obtain⟨t,ea,ka⟩:=dj m.ia hi';obtain⟨u,eb,kb⟩:=dj m.ib hj;unfold mT;refine VI (cQ eb (VI (cQ ea (VI (rj hk kb ka ?_)))));dsimp only;by_cases hl:K b j < K a i
 ·rw [Vs (decide_eq_true hl)];refine VI (cQ eb ?_);have M2:=M.pushB m hj λv h1 h2=>Ou (P4 hl) (m.ua i v Vq h1 h2);by_cases e:j+1=b.size
  ·rw [Vs (by simpa using e)];rw [e] at M2;refine VJ (h1 _ _ _ _ _ _ ?_);rw [e];exact M2.doneB m
  ·rw [Vr (by simpa using e)];obtain⟨q1,q2⟩:=h2 _ i (j+1) 0 (q+1) ⟨M2,hi,Vq⟩ Vq;split
   ·exact VJ q1
   ·exact VJ q2
 ·rw [Vr (by simp [hl])];refine VI (cQ ea ?_);have M2:=M.pushA m hi' λv h1 h2=>Ou (UK.mp hl) (m.ub j v Vq h1 h2);by_cases e:i+1+1=a.size
  ·rw [Vs (by simpa using e)];exact VJ (h1 _ _ _ _ _ _ (M2.last m e))
  ·rw [Vr (by simpa using e)];obtain⟨q1,q2⟩:=h2 _ (i+1) j (p+1) 0 ⟨M2,Vq,hj⟩ Vq;split
   ·exact VJ q1
   ·exact VJ q2
theorem Cf{st:VO}{mg i j p q:Nat}{o:Array VF}{Q:ForInStep S7->VO->Prop}(hk:kindOf st=Wk)(m:Mg a b)(h:In a b o i j)(hc:∀v,j<=v->v < b.size->K a i<=K b v)
 (h1:∀r o i j g p q,RA a b r->Q (.done (some r,o,i,j,g,p,q)) st)(h2:∀o' i' j' g p' q',In a b o' i' j'->i+j<=i'+j'->Q (.done (none,o',i',j',g,p',q')) st/\Q (.yield (none,o',i',j',g,p',q')) st):wpS (VB prog w) A E s (rz a b o i j mg p q) Q st:=by
 obtain⟨M,hi,hj⟩:=h;have hi':i < a.size:=Vq
 obtain⟨t,ea,ka⟩:=dj m.ia hi';unfold rz;refine VI (cQ ea ?_);have M2:=M.pushA m hi' hc;by_cases e:i+1+1=a.size
 ·rw [Vs (by simpa using e)];exact VJ (h1 _ _ _ _ _ _ _ (M2.last m e))
 ·rw [Vr (by simpa using e)];obtain⟨q1,q2⟩:=h2 _ (i+1) j mg p q ⟨M2,Vq,hj⟩ Vq;split
  ·exact VJ q1
  ·exact VJ q2
theorem Cg{st:VO}{mg i j p q:Nat}{o:Array VF}{Q:ForInStep S7->VO->Prop}(hk:kindOf st=Wk)(m:Mg a b)(h:In a b o i j)(hc:∀v,i<=v->v < a.size->K b j<=K a v)
 (h1:∀r o i j g p q,RA a b r->Q (.done (some r,o,i,j,g,p,q)) st)(h2:∀o' i' j' g p' q',In a b o' i' j'->i+j<=i'+j'->Q (.done (none,o',i',j',g,p',q')) st/\Q (.yield (none,o',i',j',g,p',q')) st):wpS (VB prog w) A E s (rA a b o i j mg p q) Q st:=by
 obtain⟨M,hi,hj⟩:=h;have hi':i < a.size:=Vq
 obtain⟨t,ea,ka⟩:=dj m.ia hi';obtain⟨u,eb,kb⟩:=dj m.ib hj;unfold rA;refine VI (cQ eb ?_);have M2:=M.pushB m hj hc;by_cases e:j+1=b.size
 ·rw [Vs (by simpa using e)];rw [e] at M2;refine VJ (h1 _ _ _ _ _ _ _ ?_);rw [e];exact M2.doneB m
 rw [Vr (by simpa using e)];refine VI (cQ ea (VI (kI (z:=K a i) hk m.ib ka Vq (λx y h3 h4 h5=>m.ub x y Vq h4 Vq) Vq λk hk1 c1 c2=>?_)));dsimp only;have lt:∀x,x < k->K b (j+1+x) < K a i:=λx hx=>by simpa [Bd] using c1 x hx
 have ge:∀v,j+1+k<=v->v < b.size->K a i<=K b v:=λv h3 h4=>by
  have:=c2 (v - (j+1)) Vq Vq;rw [show j+1+(v - (j+1))=v by omega] at this;simpa [Bd] using this
 by_cases k0:k > 0
 ·rw [Vs k0];have M3:=M2.cutB (k:=k) m λx h3 h4 v h5 h6=>Ou (P4 (lt x h3)) (m.ua i v Vq h5 h6);by_cases e2:j+1+k=b.size
  ·rw [Vs (by simpa using e2)];rw [e2] at M3;refine VJ (h1 _ _ _ _ _ _ _ ?_);rw [e2];exact M3.doneB m
  ·rw [Vr (by simpa using e2)];exact Cf hk m ⟨M3,hi,Vq⟩ ge h1 λo' i' j' g p' q' h3 h4=>h2 o' i' j' g p' q' h3 Vq
 ·rw [Vr k0];have e3:k=0:=Vq
  subst e3;exact Cf hk m ⟨M2,hi,Vq⟩ (λv h3 h4=>ge v Vq h4) h1 λo' i' j' g p' q' h3 h4=>h2 o' i' j' g p' q' h3 Vq
theorem Ci{st:VO}{mg i j p q:Nat}{o:Array VF}{Q:ForInStep S7->VO->Prop}(hk:kindOf st=Wk)(m:Mg a b)(h:In a b o i j)
 (h1:∀st' r o i j g p q,GS st st'->RA a b r->Q (.done (some r,o,i,j,g,p,q)) st')(h2:∀st' o' i' j' g p' q',GS st st'->In a b o' i' j'->i+j<=i'+j'->Q (.done (none,o',i',j',g,p',q')) st'/\Q (.yield (none,o',i',j',g,p',q')) st'):wpS (VB prog w) A E s (rB a b o i j mg p q) Q st:=by
 obtain⟨M,hi,hj⟩:=h;obtain⟨u,eb,kb⟩:=dj m.ib hj;unfold rB;refine VI (rC λst' gs=>VI (cQ eb (VI (kI (z:=K b j) (gs.kind.trans hk) m.ia kb Vq (λx y h3 h4 h5=>m.ua x y Vq h4 Vq) Vq λk hk1 c1 c2=>?_))));dsimp only;have le:∀x,x < k->K a (i+x)<=K b j:=λx hx=>by simpa [Bd] using c1 x hx
 have gt:∀v,i+k<=v->v < a.size->K b j<=K a v:=λv h3 h4=>by
  have:=c2 (v - i) Vq Vq;rw [show i+(v - i)=v by omega] at this;have:¬K a v<=K b j:=by simpa [Bd] using this
  omega
 have hk':=gs.kind.trans hk;by_cases k0:k > 0
 ·rw [Vs k0];have M3:=M.cutA (k:=k) m λx h3 h4 v h5 h6=>Ou (le x h3) (m.ub j v Vq h5 h6);by_cases e2:i+k+1=a.size
  ·rw [Vs (by simpa using e2)];exact VJ (h1 st' _ _ _ _ _ _ _ gs (M3.last m e2))
  ·rw [Vr (by simpa using e2)];by_cases e3:i+k=a.size
   ·rw [Vs (by simpa using e3)];rw [e3] at M3;refine VJ (h1 st' _ _ _ _ _ _ _ gs ?_);rw [e3];exact M3.doneA m
   ·rw [Vr (by simpa using e3)];exact Cg hk' m ⟨M3,Vq,hj⟩ gt (λr o i j g p q h3=>h1 st' r o i j g p q gs h3) λo' i' j' g p' q' h3 h4=>h2 st' o' i' j' g p' q' gs h3 Vq
 ·rw [Vr k0];have e3:k=0:=Vq
  subst e3;exact Cg hk' m ⟨M,hi,hj⟩ (λv h3 h4=>gt v Vq h4) (λr o i j g p q h3=>h1 st' r o i j g p q gs h3) λo' i' j' g p' q' h3 h4=>h2 st' o' i' j' g p' q' gs h3 Vq
def vP(a b:Array VF)(st:VO)(x:Nat)(c:S5)(st':VO):Prop:=GS st st'/\∃o i j g,c=(none,o,i,j,g)/\In a b o i j/\x+1<=i+j
def vQ(a b:Array VF)(st:VO)(c:S5)(st':VO):Prop:=GS st st'/\∃r o i j g,c=(some r,o,i,j,g)/\RA a b r
theorem Kx{st:VO}{Q:Array VF->VO->Prop}{B:Nat->S5->StateT VO Sem (ForInStep S5)}{C:S5->StateT VO Sem (Array VF)}(m:Mg a b)(h:∀r st',GS st st'->RA a b r->Q r st')
 (hB:∀x c st1,0<=x->x < a.size+b.size->vP a b st x c st1->wpS (VB prog w) A E s (B x c) (λr st'=>match r with | .done c'=>vQ a b st c' st' | .yield c'=>vP a b st (x+1) c' st') st1)
 (hC:∀c st1,vQ a b st c st1->wpS (VB prog w) A E s (C c) Q st1):
 wpS (VB prog w) A E s (do
  rule "list.sort.merge-lo"
  let x<-Wq b 0
  if (1==b.size)=true then pure (eT a b #[x] 0 1)
  else if (0+1==a.size)=true then pure (iB a b #[x] 0 1)
  else do
   let z<-get
   let r<-forIn [0:a.size+b.size] (none,#[x],0,1,gallopOf z) B
   C r) Q st:=by
 have a1:=m.a1;have b1:=m.b1;obtain⟨u,eb,kb⟩:=dj m.ib (show 0 < b.size by omega);refine VI (Xl (Wi ⟨rfl,?_⟩));refine VI (cQ eb ?_);have M0:MA a b #[b[0]] 0 1:=by
  have z:MA a b #[] 0 0:=⟨Vu,.nil,Vu,Vu⟩;exact z.pushB m Vq λv h3 h4=>Ou m.hd (m.ua 0 v Vq Vq h4)
 by_cases e1:1=b.size
 ·rw [Vs (by simpa using e1)];refine VJ (h _ _ (GS.refl st) ?_);rw [e1] at M0⊢;exact M0.doneB m
 rw [Vr (by simpa using e1)];by_cases e2:0+1=a.size
 ·rw [Vs (by simpa using e2)];exact VJ (h _ _ (GS.refl st) (M0.last m e2))
 rw [Vr (by simpa using e2)];refine VI (WS ?_);refine VI (Wc (V2 (I:=vP a b st) (Q:=vQ a b st) (λi c st1 h0 h1 hI=>Wc (hB i c st1 h0 h1 hI) λr st' hr=>by cases r <;> exact hr) ?_ ⟨GS.refl st,_,_,_,_,rfl,⟨M0,Vq,Vq⟩,Vq⟩) hC);rintro c st1 ⟨gs1,o,i,j,g,rfl,⟨_,h3,h4⟩,hij⟩;omega
theorem Ky{st:VO}{Q:Array VF->VO->Prop}(hk:kindOf st=Wk)(m:Mg a b)(h:∀r st',GS st st'->RA a b r->Q r st'):wpS (VB prog w) A E s (vN a b) Q st:=by
 rw [Kv];refine Kx m h ?_ ?_
 ·rintro x c st1 _ hx ⟨gs1,o,i,j,g,rfl,hin,hij⟩;have hk1:=gs1.kind.trans hk;show wpS (VB prog w) A E s (forIn [0:a.size+b.size] ((none,o,i,j,0,0):S6) (λ_ d=>mT a b g d) >>=λd=>vO a b g d) _ st1;refine VI (Wc (V2 (I:=λy d st'=>st'=st1/\∃o' i' j' p' q',d=(none,o',i',j',p',q')/\In a b o' i' j'/\i+j+y<=i'+j')
   (Q:=λd st'=>st'=st1/\((∃r o i j p q,d=(some r,o,i,j,p,q)/\RA a b r)\/∃o' i' j' p' q',d=(none,o',i',j',p',q')/\In a b o' i' j'/\i+j+1<=i'+j')) ?_ ?_ ⟨rfl,_,_,_,_,_,rfl,hin,Vq⟩) ?_)
  ·rintro y d st2 _ hy ⟨rfl,o',i',j',p',q',rfl,hin',hij'⟩;show wpS (VB prog w) A E s (mT a b g (none,o',i',j',p',q')) _ st2;exact Kw hk1 m hin' (λr o i j p q hr=>⟨rfl,.inl ⟨r,o,i,j,p,q,rfl,hr⟩⟩) λo2 i2 j2 p2 q2 h3 h4=>⟨⟨rfl,.inr ⟨o2,i2,j2,p2,q2,rfl,h3,Vq⟩⟩,⟨rfl,o2,i2,j2,p2,q2,rfl,h3,Vq⟩⟩
  ·rintro d st2 ⟨rfl,o',i',j',p',q',rfl,hin',hij'⟩;exact⟨rfl,.inr ⟨o',i',j',p',q',rfl,hin',Vq⟩⟩
  ·rintro d st2 ⟨rfl,⟨r,o',i',j',p',q',rfl,hr⟩ | ⟨o',i',j',p',q',rfl,hin',hij'⟩⟩
   ·show wpS (VB prog w) A E s (pure (RG (some r,o',i',j',g))) _ _;exact VJ ⟨gs1,r,_,_,_,_,rfl,hr⟩
   ·unfold vO;dsimp only;refine VI (Xl (Wi ⟨rfl,?_⟩));refine VI (Wc (V2 (I:=λy e st'=>GS st2 st'/\∃o2 i2 j2 g2 p2 q2,e=(none,o2,i2,j2,g2,p2,q2)/\In a b o2 i2 j2/\i'+j'<=i2+j2)
     (Q:=λe st'=>GS st2 st'/\((∃r o i j g p q,e=(some r,o,i,j,g,p,q)/\RA a b r)\/∃o2 i2 j2 g2 p2 q2,e=(none,o2,i2,j2,g2,p2,q2)/\In a b o2 i2 j2/\i'+j'<=i2+j2)) ?_ ?_ ⟨GS.refl _,_,_,_,_,_,_,rfl,hin',Vq⟩) ?_)
    ·rintro y e st3 _ hy ⟨gs3,o2,i2,j2,g2,p2,q2,rfl,hin2,hij2⟩;have hk3:=gs3.kind.trans hk1;show wpS (VB prog w) A E s (vM a b (none,o2,i2,j2,g2,p2,q2)) _ st3;unfold vM;dsimp only;by_cases hm:g2 > 1
     ·rw [Vs hm];exact Ci hk3 m hin2 (λst4 r o i j g p q gs4 hr=>⟨gs3.trans gs4,.inl ⟨r,o,i,j,g,p,q,rfl,hr⟩⟩) λst4 o4 i4 j4 g4 p4 q4 gs4 h3 h4=>⟨⟨gs3.trans gs4,.inr ⟨o4,i4,j4,g4,p4,q4,rfl,h3,Vq⟩⟩,⟨gs3.trans gs4,o4,i4,j4,g4,p4,q4,rfl,h3,Vq⟩⟩
     ·rw [Vr hm];exact Ci hk3 m hin2 (λst4 r o i j g p q gs4 hr=>⟨gs3.trans gs4,.inl ⟨r,o,i,j,g,p,q,rfl,hr⟩⟩) λst4 o4 i4 j4 g4 p4 q4 gs4 h3 h4=>⟨⟨gs3.trans gs4,.inr ⟨o4,i4,j4,g4,p4,q4,rfl,h3,Vq⟩⟩,⟨gs3.trans gs4,o4,i4,j4,g4,p4,q4,rfl,h3,Vq⟩⟩
    ·rintro e st3 ⟨gs3,o2,i2,j2,g2,p2,q2,rfl,hin2,hij2⟩;exact⟨gs3,.inr ⟨o2,i2,j2,g2,p2,q2,rfl,hin2,hij2⟩⟩
    ·rintro e st3 ⟨gs3,⟨r,o2,i2,j2,g2,p2,q2,rfl,hr⟩ | ⟨o2,i2,j2,g2,p2,q2,rfl,hin2,hij2⟩⟩
     ·show wpS (VB prog w) A E s (pure (RG (some r,o2,i2,j2,g2))) _ _;exact VJ ⟨gs1.trans gs3,r,_,_,_,_,rfl,hr⟩
     ·unfold Cd;dsimp only;exact VI (rC λst4 gs4=>VJ ⟨(gs1.trans gs3).trans gs4,_,_,_,_,rfl,hin2,Vq⟩)
 ·rintro c st1 ⟨gs1,r,o,i,j,g,rfl,hr⟩;exact VJ (h r st1 gs1 hr)
end
structure MH (A B R:List VF) (i j:Nat):Prop where
 pm:R.Perm (A.drop i++B.drop j)
 up:fx R
 la:∀p∈R,∀q∈A.take i,Nk q<=Nk p
 lb:∀p∈R,∀q∈B.take j,Nk q<=Nk p
theorem MH.symm{A B R:List VF}{i j:Nat}(h:MH A B R i j):MH B A R j i:=⟨h.pm.trans QE,h.up,h.lb,h.la⟩
theorem MH.cut{A B R:List VF}{i j:Nat}(h:MH A B R i j)(ua:fx A)(t:Nat)(ht:t<=i)(hc:∀p∈(A.take i).drop t,∀q∈B.take j,Nk q<=Nk p):MH A B ((A.take i).drop t++R) t j:=by
 have ud:fx (A.take i):=ua.sublist (Qb _ _);have e:A.take i=(A.take i).take t++(A.take i).drop t:=(OV t _).symm;have e1:(A.take i).take t=A.take t:=by rw [List.take_take];congr 1;omega
 have ud2:=ud;rw [e,e1] at ud2;obtain⟨u1,u2,u3⟩:=Pe.mp ud2;refine⟨?_,Pe.mpr ⟨u2,h.up,λp hp q hq=>h.la q hq p (Qh hp)⟩,λp hp q hq=>?_,λp hp q hq=>?_⟩
 ·have e2:A.drop t=(A.take i).drop t++A.drop i:=by
   conv=>lhs;rw [<-OV i A]
   by_cases hl:t<=(A.take i).length
   ·rw [List.drop_append_of_le_length hl]
   ·have hA:A.length<=i:=by rw [NS] at hl;omega
    rw [Qy hA,N4,N4]
  rw [e2,Ph];exact h.pm.append_left _
 ·rcases NQ.mp hp with z | z
  ·exact u3 q hq p z
  ·exact h.la p z q (by rw [e,e1];exact Rr _ hq)
 ·rcases NQ.mp hp with z | z
  ·exact hc p z q hq
  ·exact h.lb p z q hq
theorem MH.fin{A B R:List VF}{i j:Nat}(h:MH A B R i j)(ua:fx A)(ub:fx B)(hc:∀p∈A.take i,∀q∈B.take j,Nk p<=Nk q):fM A B (A.take i++B.take j++R):=by
 have h1:=h.symm.cut ub 0 (N9 _) (by rw [Q8];exact λp hp q hq=>hc q hq p hp);rw [Q8] at h1;have h2:=h1.symm.cut ua 0 (N9 _) (λp _ q hq=>by simp at hq);rw [Q8,<-Ph] at h2;refine⟨h2.pm.trans ?_,h2.up⟩;rw [Q8,Q8]
theorem rD{xs:Array VF}{i:Nat}(hi:i<=xs.size){q:VF}(h:q∈xs.toList.take i):∃m,m < i/\Nk q=K xs m:=by
 obtain⟨k,hk,e⟩:=OS h;rw [NS,Nu] at hk;refine⟨k,Vq,?_⟩;rw [kL Vq,<-e,QC];simp
theorem Cj{xs:Array VF}{i t:Nat}(hi:i<=xs.size){q:VF}(h:q∈(xs.toList.take i).drop t):∃m,t<=m/\m < i/\Nk q=K xs m:=by
 obtain⟨k,hk,e⟩:=OS h;rw [Oo,NS,Nu] at hk;refine⟨t+k,Vq,Vq,?_⟩;rw [kL Vq,<-e,Rc,QC];simp
def eU(a b o:Array VF)(i j:Nat):Array VF:=a.extract 0 i++b.extract 0 j++o.reverse
def iC(a b o:Array VF)(i j:Nat):Array VF:=b.extract 0 j++a.extract 0 i++o.reverse
theorem Ck{a b o:Array VF}{i j:Nat}:(eU a b o i j).toList=a.toList.take i++b.toList.take j++o.toList.reverse:=by unfold eU;simp
theorem Kz{a b o:Array VF}{i j:Nat}:(iC a b o i j).toList=b.toList.take j++a.toList.take i++o.toList.reverse:=by unfold iC;simp
abbrev H6:=Option (Array VF)×Nat×Nat×Array VF×Nat×Nat
abbrev H7:=Option (Array VF)×Nat×Nat×Array VF×Nat×Nat×Nat
def mU(a b:Array VF)(mg i j:Nat)(o:Array VF)(p q:Nat):StateT VO Sem (ForInStep H6):=do
 let y<-Wq b (j - 1)
 let x<-Wq a (i - 1)
 let some aw<-lt' y x | pure (.done (some (eU a b o i j),i,j,o,p,q))
 if aw=true then do
  let x<-Wq a (i - 1)
  if (i - 1==0)=true then pure (.done (some (eU a b (o.push x) (i - 1) j),i - 1,j,o.push x,p+1,0))
  else if p+1 >= mg then pure (.done (none,i - 1,j,o.push x,p+1,0))
  else pure (.yield (none,i - 1,j,o.push x,p+1,0))
 else do
  let y<-Wq b (j - 1)
  if (j - 1==1)=true then pure (.done (some (iC a b (o.push y) i (j - 1)),i,j - 1,o.push y,0,q+1))
  else if q+1 >= mg then pure (.done (none,i,j - 1,o.push y,0,q+1))
  else pure (.yield (none,i,j - 1,o.push y,0,q+1))
def rE(a b o:Array VF)(i j mg p q:Nat):StateT VO Sem (ForInStep H7):=do
 let x<-Wq a (i - 1)
 if (i - 1==0)=true then pure (.done (some (eU a b (o.push x) (i - 1) j),i - 1,j,o.push x,mg,p,q))
 else if (decide (p < 7) && decide (q < 7))=true then pure (.done (none,i - 1,j,o.push x,mg,p,q))
 else pure (.yield (none,i - 1,j,o.push x,mg,p,q))
def rF(a b o:Array VF)(i j mg p q:Nat):StateT VO Sem (ForInStep H7):=do
 let y<-Wq b (j - 1)
 if (j - 1==1)=true then pure (.done (some (iC a b (o.push y) i (j - 1)),i,j - 1,o.push y,mg,p,q))
 else do
  let x<-Wq a (i - 1)
  let some t<-jb true x b 0 (j - 1) (j - 1 - 1) | pure (.done (some (eU a b (o.push y) i (j - 1)),i,j - 1,o.push y,mg,p,q))
  if j - 1 - t > 0 then
   if (t==1)=true then pure (.done (some (iC a b (o.push y++(b.extract t (j - 1)).reverse) i t),i,t,o.push y++(b.extract t (j - 1)).reverse,mg,p,j - 1 - t))
   else if (t==0)=true then pure (.done (some (eU a b (o.push y++(b.extract t (j - 1)).reverse) i t),i,t,o.push y++(b.extract t (j - 1)).reverse,mg,p,j - 1 - t))
   else rE a b (o.push y++(b.extract t (j - 1)).reverse) i t mg p (j - 1 - t)
  else rE a b (o.push y) i (j - 1) mg p (j - 1 - t)
def rG(a b o:Array VF)(i j mg p q:Nat):StateT VO Sem (ForInStep H7):=do
 kN mg
 let y<-Wq b (j - 1)
 let some t<-jb false y a 0 i (i - 1) | pure (.done (some (eU a b o i j),i,j,o,mg,p,q))
 if i - t > 0 then
  if (t==0)=true then pure (.done (some (eU a b (o++(a.extract t i).reverse) t j),t,j,o++(a.extract t i).reverse,mg,i - t,q))
  else rF a b (o++(a.extract t i).reverse) t j mg (i - t) q
 else rF a b o i j mg (i - t) q
def vR:Array VF->Array VF->StateT VO Sem (Array VF):=sortPriv% PySem.Builtin.mergeHi
abbrev H5:=Option (Array VF)×Nat×Nat×Array VF×Nat
def jG(a b:Array VF)(e:H7):StateT VO Sem (ForInStep H7):=
 if e.2.2.2.2.1 > 1 then rG a b e.2.2.2.1 e.2.1 e.2.2.1 (e.2.2.2.2.1 - 1) e.2.2.2.2.2.1 e.2.2.2.2.2.2 else rG a b e.2.2.2.1 e.2.1 e.2.2.1 e.2.2.2.2.1 e.2.2.2.2.2.1 e.2.2.2.2.2.2
def Cm(e:H7):StateT VO Sem (ForInStep H5):=match e.1 with
 | some r=>pure (.done (some r,e.2.1,e.2.2.1,e.2.2.2.1,e.2.2.2.2.1))
 | none=>do
  kN (e.2.2.2.2.1+1)
  pure (.yield (none,e.2.1,e.2.2.1,e.2.2.2.1,e.2.2.2.2.1+1))
def vS(a b:Array VF)(g:Nat)(d:H6):StateT VO Sem (ForInStep H5):=match d.1 with
 | some r=>pure (.done (some r,d.2.1,d.2.2.1,d.2.2.2.1,g))
 | none=>do
  rule "list.sort.gallop"
  let e<-forIn [0:a.size+b.size] ((none,d.2.1,d.2.2.1,d.2.2.2.1,g+1,d.2.2.2.2.1,d.2.2.2.2.2):H7) (λ_ e=>jG a b e)
  Cm e
def KA(a b:Array VF)(c:H5):StateT VO Sem (ForInStep H5):=do
 let d<-forIn [0:a.size+b.size] ((none,c.2.1,c.2.2.1,c.2.2.2.1,0,0):H6) (λ_ d=>mU a b c.2.2.2.2 d.2.1 d.2.2.1 d.2.2.2.1 d.2.2.2.2.1 d.2.2.2.2.2)
 vS a b c.2.2.2.2 d
def KC(c:H5):StateT VO Sem (Array VF):=match c.1 with
 | some r=>pure r
 | none=>Xn "internal:list.sort.merge-bound"
set_option smartUnfolding false in
theorem KD(a b:Array VF):vR a b=(do
 rule "list.sort.merge-hi"
 let x<-Wq a (a.size - 1)
 if (a.size - 1==0)=true then pure (eU a b #[x] (a.size - 1) b.size)
 else if (b.size==1)=true then pure (iC a b #[x] (a.size - 1) b.size)
 else do
  let z<-get
  let r<-forIn [0:a.size+b.size] ((none,a.size - 1,b.size,#[x],gallopOf z):H5) (λ_ c=>KA a b c)
  KC r):=rfl
section
variable {prog:VL} {w:VP} {A:VS} {E:Vw->Vz->Prop} {s:Vz}
variable {a b:Array VF}
abbrev MB(a b o:Array VF)(i j:Nat):Prop:=MH a.toList b.toList o.toList.reverse i j
theorem Cn{xs:Array VF}{i t:Nat}:(xs.extract t i).toList=(xs.toList.take i).drop t:=by
 rw [fN,List.drop_take]
theorem MB.cutA{o:Array VF}{i j t:Nat}(h:MB a b o i j)(m:Mg a b)(hi:i<=a.size)(hj:j<=b.size)(ht:t<=i)(hc:∀u,t<=u->u < i->∀v,v < j->K b v<=K a u):MB a b (o++(a.extract t i).reverse) t j:=by
 show MH _ _ (o++(a.extract t i).reverse).toList.reverse _ _;rw [Oz,Rv,Tz,Tp,Cn];refine MH.cut h m.ua.up t ht λp hp q hq=>?_;obtain⟨u,u1,u2,e1⟩:=Cj hi hp;obtain⟨v,v1,e2⟩:=rD hj hq;rw [e1,e2];exact hc u u1 u2 v v1
theorem MB.cutB{o:Array VF}{i j t:Nat}(h:MB a b o i j)(m:Mg a b)(hi:i<=a.size)(hj:j<=b.size)(ht:t<=j)(hc:∀u,t<=u->u < j->∀v,v < i->K a v<=K b u):MB a b (o++(b.extract t j).reverse) i t:=by
 show MH _ _ (o++(b.extract t j).reverse).toList.reverse _ _;rw [Oz,Rv,Tz,Tp,Cn];refine(MH.cut h.symm m.ub.up t ht λp hp q hq=>?_).symm;obtain⟨u,u1,u2,e1⟩:=Cj hj hp;obtain⟨v,v1,e2⟩:=rD hi hq;rw [e1,e2];exact hc u u1 u2 v v1
theorem Co{o xs:Array VF}{i:Nat}(hi:i - 1 < xs.size)(h1:1<=i):o.push xs[i - 1]=o++(xs.extract (i - 1) i).reverse:=by
 apply QK.mp;rw [Pj,Oz,Rv,fN,show i - (i - 1)=1 by omega,Cb hi];rfl
theorem MB.pushA{o:Array VF}{i j:Nat}(h:MB a b o i j)(m:Mg a b)(h1:1<=i)(hi:i<=a.size)(hi':i - 1 < a.size)(hj:j<=b.size)(hc:∀v,v < j->K b v<=K a (i - 1)):MB a b (o.push a[i - 1]) (i - 1) j:=by
 rw [Co hi' h1];exact h.cutA m hi hj Vq λu h2 h3 v h4=>by rw [show u=i - 1 by omega];exact hc v h4
theorem MB.pushB{o:Array VF}{i j:Nat}(h:MB a b o i j)(m:Mg a b)(h1:1<=j)(hi:i<=a.size)(hj:j<=b.size)(hj':j - 1 < b.size)(hc:∀v,v < i->K a v<=K b (j - 1)):MB a b (o.push b[j - 1]) i (j - 1):=by
 rw [Co hj' h1];exact h.cutB m hi hj Vq λu h2 h3 v h4=>by rw [show u=j - 1 by omega];exact hc v h4
theorem MB.doneA{o:Array VF}{j:Nat}(h:MB a b o 0 j)(m:Mg a b):RA a b (eU a b o 0 j):=by
 show fM _ _ (eU a b o 0 j).toList;rw [Ck];exact MH.fin h m.ua.up m.ub.up λp hp=>by simp at hp
theorem MB.doneB{o:Array VF}{i:Nat}(h:MB a b o i 0)(m:Mg a b):RA a b (eU a b o i 0):=by
 show fM _ _ (eU a b o i 0).toList;rw [Ck];exact MH.fin h m.ua.up m.ub.up λp _ q hq=>by simp at hq
theorem MB.first{o:Array VF}{i:Nat}(h:MB a b o i 1)(m:Mg a b)(hi:i<=a.size):RA a b (iC a b o i 1):=by
 show fM _ _ (iC a b o i 1).toList;rw [Kz];refine(MH.fin h.symm m.ub.up m.ua.up λp hp q hq=>?_).symm;obtain⟨u,u1,e1⟩:=rD m.b1 hp;obtain⟨v,v1,e2⟩:=rD hi hq;rw [e1,e2,show u=0 by omega];exact Ou m.hd (m.ua 0 v Vq Vq Vq)
theorem MB.dA{o:Array VF}{i j:Nat}(h:MB a b o i j)(m:Mg a b)(e:i=0):RA a b (eU a b o i j):=by subst e;exact h.doneA m
theorem MB.fs{o:Array VF}{i j:Nat}(h:MB a b o i j)(m:Mg a b)(hi:i<=a.size)(e:j=1):RA a b (iC a b o i j):=by subst e;exact h.first m hi
structure Jn (a b o:Array VF) (i j:Nat):Prop where
 M:MB a b o i j
 i1:1<=i
 i2:i<=a.size
 j1:2<=j
 j2:j<=b.size
theorem KH{st:VO}{mg i j p q:Nat}{o:Array VF}{Q:ForInStep H6->VO->Prop}(hk:kindOf st=Wk)(m:Mg a b)(h:Jn a b o i j)
 (h1:∀r i j o p q,RA a b r->Q (.done (some r,i,j,o,p,q)) st)(h2:∀i' j' o' p' q',Jn a b o' i' j'->i'+j'+1=i+j->Q (.done (none,i',j',o',p',q')) st/\Q (.yield (none,i',j',o',p',q')) st):wpS (VB prog w) A E s (mU a b mg i j o p q) Q st:=by
 obtain⟨M,i1,i2,j1,j2⟩:=h;have hi':i - 1 < a.size:=Vq
 have hj':j - 1 < b.size:=Vq
 obtain⟨t,ea,ka⟩:=dj m.ia hi';obtain⟨u,eb,kb⟩:=dj m.ib hj';unfold mU;refine VI (cQ eb (VI (cQ ea (VI (rj hk kb ka ?_)))));dsimp only;by_cases hl:K b (j - 1) < K a (i - 1)
 ·rw [Vs (decide_eq_true hl)];refine VI (cQ ea ?_);have M2:=M.pushA m i1 i2 hi' j2 λv h3=>Ou (m.ub v (j - 1) Vq Vq hj') (P4 hl);by_cases e:i - 1=0
  ·rw [Vs (by simpa using e)];exact VJ (h1 _ _ _ _ _ _ (M2.dA m e))
  ·rw [Vr (by simpa using e)];obtain⟨q1,q2⟩:=h2 (i - 1) j _ (p+1) 0 ⟨M2,Vq,Vq,j1,j2⟩ Vq;split
   ·exact VJ q1
   ·exact VJ q2
 ·rw [Vr (by simp [hl])];refine VI (cQ eb ?_);have M2:=M.pushB m Vq i2 j2 hj' λv h3=>Ou (m.ua v (i - 1) Vq Vq hi') (UK.mp hl);by_cases e:j - 1=1
  ·rw [Vs (by simpa using e)];exact VJ (h1 _ _ _ _ _ _ (M2.fs m i2 e))
  ·rw [Vr (by simpa using e)];obtain⟨q1,q2⟩:=h2 i (j - 1) _ 0 (q+1) ⟨M2,i1,i2,Vq,Vq⟩ Vq;split
   ·exact VJ q1
   ·exact VJ q2
theorem Cp{st:VO}{mg i j p q:Nat}{o:Array VF}{Q:ForInStep H7->VO->Prop}(hk:kindOf st=Wk)(m:Mg a b)(h:Jn a b o i j)(hc:∀v,v < j->K b v<=K a (i - 1))
 (h1:∀r i j o g p q,RA a b r->Q (.done (some r,i,j,o,g,p,q)) st)(h2:∀i' j' o' g p' q',Jn a b o' i' j'->i'+j'<=i+j->Q (.done (none,i',j',o',g,p',q')) st/\Q (.yield (none,i',j',o',g,p',q')) st):wpS (VB prog w) A E s (rE a b o i j mg p q) Q st:=by
 obtain⟨M,i1,i2,j1,j2⟩:=h;have hi':i - 1 < a.size:=Vq
 obtain⟨t,ea,ka⟩:=dj m.ia hi';unfold rE;refine VI (cQ ea ?_);have M2:=M.pushA m i1 i2 hi' j2 hc;by_cases e:i - 1=0
 ·rw [Vs (by simpa using e)];exact VJ (h1 _ _ _ _ _ _ _ (M2.dA m e))
 ·rw [Vr (by simpa using e)];obtain⟨q1,q2⟩:=h2 (i - 1) j _ mg p q ⟨M2,Vq,Vq,j1,j2⟩ Vq;split
  ·exact VJ q1
  ·exact VJ q2
theorem Cq{st:VO}{mg i j p q:Nat}{o:Array VF}{Q:ForInStep H7->VO->Prop}(hk:kindOf st=Wk)(m:Mg a b)(h:Jn a b o i j)(hc:∀v,v < i->K a v<=K b (j - 1))
 (h1:∀r i j o g p q,RA a b r->Q (.done (some r,i,j,o,g,p,q)) st)(h2:∀i' j' o' g p' q',Jn a b o' i' j'->i'+j'<=i+j->Q (.done (none,i',j',o',g,p',q')) st/\Q (.yield (none,i',j',o',g,p',q')) st):wpS (VB prog w) A E s (rF a b o i j mg p q) Q st:=by
 obtain⟨M,i1,i2,j1,j2⟩:=h;have hi':i - 1 < a.size:=Vq
 have hj':j - 1 < b.size:=Vq
 obtain⟨t,ea,ka⟩:=dj m.ia hi';obtain⟨u,eb,kb⟩:=dj m.ib hj';unfold rF;refine VI (cQ eb ?_);have M2:=M.pushB m Vq i2 j2 hj' hc;by_cases e:j - 1=1
 ·rw [Vs (by simpa using e)];exact VJ (h1 _ _ _ _ _ _ _ (M2.fs m i2 e))
 rw [Vr (by simpa using e)];refine VI (cQ ea (VI (kI (z:=K a (i - 1)) hk m.ib ka Vq (λx y h3 h4 h5=>m.ub x y Vq h4 Vq) Vq λk hk1 c1 c2=>?_)));dsimp only;have lt:∀x,x < k->K b x < K a (i - 1):=λx hx=>by simpa [Bd] using c1 x hx
 have ge:∀v,k<=v->v < j - 1->K a (i - 1)<=K b v:=λv h3 h4=>by simpa [Bd] using c2 v h3 h4
 by_cases k0:j - 1 - k > 0
 ·rw [Vs k0];have M3:=M2.cutB (t:=k) m i2 Vq Vq λx h3 h4 v h5=>Ou (m.ua v (i - 1) Vq Vq hi') (ge x h3 h4);by_cases e2:k=1
  ·rw [Vs (by simpa using e2)];subst e2;exact VJ (h1 _ _ _ _ _ _ _ (M3.first m i2))
  ·rw [Vr (by simpa using e2)];by_cases e3:k=0
   ·rw [Vs (by simpa using e3)];subst e3;exact VJ (h1 _ _ _ _ _ _ _ (M3.doneB m))
   ·rw [Vr (by simpa using e3)];exact Cp hk m ⟨M3,i1,i2,Vq,Vq⟩ (λv h3=>P4 (lt v h3)) h1 λi' j' o' g p' q' h3 h4=>h2 i' j' o' g p' q' h3 Vq
 ·rw [Vr k0];exact Cp hk m ⟨M2,i1,i2,Vq,Vq⟩ (λv h3=>P4 (lt v Vq)) h1 λi' j' o' g p' q' h3 h4=>h2 i' j' o' g p' q' h3 Vq
theorem Cr{st:VO}{mg i j p q:Nat}{o:Array VF}{Q:ForInStep H7->VO->Prop}(hk:kindOf st=Wk)(m:Mg a b)(h:Jn a b o i j)
 (h1:∀st' r i j o g p q,GS st st'->RA a b r->Q (.done (some r,i,j,o,g,p,q)) st')(h2:∀st' i' j' o' g p' q',GS st st'->Jn a b o' i' j'->i'+j'<=i+j->Q (.done (none,i',j',o',g,p',q')) st'/\Q (.yield (none,i',j',o',g,p',q')) st'):wpS (VB prog w) A E s (rG a b o i j mg p q) Q st:=by
 obtain⟨M,i1,i2,j1,j2⟩:=h;have hj':j - 1 < b.size:=Vq
 obtain⟨u,eb,kb⟩:=dj m.ib hj';unfold rG;refine VI (rC λst' gs=>VI (cQ eb (VI (kI (z:=K b (j - 1)) (gs.kind.trans hk) m.ia kb Vq (λx y h3 h4 h5=>m.ua x y Vq h4 Vq) Vq λk hk1 c1 c2=>?_))));dsimp only;have le:∀x,x < k->K a x<=K b (j - 1):=λx hx=>by simpa [Bd] using c1 x hx
 have gt:∀v,k<=v->v < i->K b (j - 1)<=K a v:=λv h3 h4=>by
  have:=c2 v h3 h4;have:¬K a v<=K b (j - 1):=by simpa [Bd] using this
  omega
 have hk':=gs.kind.trans hk;by_cases k0:i - k > 0
 ·rw [Vs k0];have M3:=M.cutA (t:=k) m i2 j2 Vq λx h3 h4 v h5=>Ou (m.ub v (j - 1) Vq Vq hj') (gt x h3 h4);by_cases e2:k=0
  ·rw [Vs (by simpa using e2)];subst e2;exact VJ (h1 st' _ _ _ _ _ _ _ gs (M3.doneA m))
  ·rw [Vr (by simpa using e2)];exact Cq hk' m ⟨M3,Vq,Vq,j1,j2⟩ le (λr i j o g p q h3=>h1 st' r i j o g p q gs h3) λi' j' o' g p' q' h3 h4=>h2 st' i' j' o' g p' q' gs h3 Vq
 ·rw [Vr k0];exact Cq hk' m ⟨M,i1,i2,j1,j2⟩ (λv h3=>le v Vq) (λr i j o g p q h3=>h1 st' r i j o g p q gs h3) λi' j' o' g p' q' h3 h4=>h2 st' i' j' o' g p' q' gs h3 h4
theorem KI{st:VO}{Q:Array VF->VO->Prop}(hk:kindOf st=Wk)(m:Mg a b)(h:∀r st',GS st st'->RA a b r->Q r st'):wpS (VB prog w) A E s (vR a b) Q st:=by
 have a1:=m.a1;have b1:=m.b1;have ha:a.size - 1 < a.size:=Vq
 obtain⟨u,ea,ka⟩:=dj m.ia ha;rw [KD];refine VI (Xl (Wi ⟨rfl,?_⟩));refine VI (cQ ea ?_);have M0:MB a b #[a[a.size - 1]] (a.size - 1) b.size:=by
  have z:MB a b #[] a.size b.size:=by
   refine⟨?_,.nil,Vu,Vu⟩;rw [Qy Vu,Qy Vu];exact .refl _
  exact z.pushA m a1 (Np _) ha (Np _) λv h3=>Ou (m.ub v (b.size - 1) Vq Vq Vq) m.ls
 by_cases e1:a.size - 1=0
 ·rw [Vs (by simpa using e1)];exact VJ (h _ _ (GS.refl st) (M0.dA m e1))
 rw [Vr (by simpa using e1)];by_cases e2:b.size=1
 ·rw [Vs (by simpa using e2)];exact VJ (h _ _ (GS.refl st) (M0.fs m Vq e2))
 rw [Vr (by simpa using e2)];refine VI (WS ?_);refine VI (Wc (V2 (I:=λx c st'=>GS st st'/\∃i j o g,c=(none,i,j,o,g)/\Jn a b o i j/\i+j+x+1<=a.size+b.size)
  (Q:=λc st'=>GS st st'/\∃r i j o g,c=(some r,i,j,o,g)/\RA a b r) ?_ ?_ ⟨GS.refl st,_,_,_,_,rfl,⟨M0,Vq,Vq,Vq,Vq⟩,Vq⟩) ?_)
 ·rintro x c st1 _ hx ⟨gs1,i,j,o,g,rfl,hin,hij⟩;have hk1:=gs1.kind.trans hk;show wpS (VB prog w) A E s (forIn [0:a.size+b.size] ((none,i,j,o,0,0):H6) (λ_ d=>mU a b g d.2.1 d.2.2.1 d.2.2.2.1 d.2.2.2.2.1 d.2.2.2.2.2) >>=λd=>vS a b g d) _ st1;refine VI (Wc (V2 (I:=λy d st'=>st'=st1/\∃i' j' o' p' q',d=(none,i',j',o',p',q')/\Jn a b o' i' j'/\i'+j'+y<=i+j)
   (Q:=λd st'=>st'=st1/\((∃r i j o p q,d=(some r,i,j,o,p,q)/\RA a b r)\/∃i' j' o' p' q',d=(none,i',j',o',p',q')/\Jn a b o' i' j'/\i'+j'+1<=i+j)) ?_ ?_ ⟨rfl,_,_,_,_,_,rfl,hin,Vq⟩) ?_)
  ·rintro y d st2 _ hy ⟨rfl,i',j',o',p',q',rfl,hin',hij'⟩;show wpS (VB prog w) A E s (mU a b g i' j' o' p' q') _ st2;exact KH hk1 m hin' (λr i j o p q hr=>⟨rfl,.inl ⟨r,i,j,o,p,q,rfl,hr⟩⟩) λi2 j2 o2 p2 q2 h3 h4=>⟨⟨rfl,.inr ⟨i2,j2,o2,p2,q2,rfl,h3,Vq⟩⟩,⟨rfl,i2,j2,o2,p2,q2,rfl,h3,Vq⟩⟩
  ·rintro d st2 ⟨rfl,i',j',o',p',q',rfl,hin',hij'⟩;exact⟨rfl,.inr ⟨i',j',o',p',q',rfl,hin',Vq⟩⟩
  ·rintro d st2 ⟨rfl,⟨r,i',j',o',p',q',rfl,hr⟩ | ⟨i',j',o',p',q',rfl,hin',hij'⟩⟩
   ·show wpS (VB prog w) A E s (pure (RG (some r,i',j',o',g))) _ _;exact VJ ⟨gs1,r,_,_,_,_,rfl,hr⟩
   ·unfold vS;dsimp only;refine VI (Xl (Wi ⟨rfl,?_⟩));refine VI (Wc (V2 (I:=λy e st'=>GS st2 st'/\∃i2 j2 o2 g2 p2 q2,e=(none,i2,j2,o2,g2,p2,q2)/\Jn a b o2 i2 j2/\i2+j2<=i'+j')
     (Q:=λe st'=>GS st2 st'/\((∃r i j o g p q,e=(some r,i,j,o,g,p,q)/\RA a b r)\/∃i2 j2 o2 g2 p2 q2,e=(none,i2,j2,o2,g2,p2,q2)/\Jn a b o2 i2 j2/\i2+j2<=i'+j')) ?_ ?_ ⟨GS.refl _,_,_,_,_,_,_,rfl,hin',Vq⟩) ?_)
    ·rintro y e st3 _ hy ⟨gs3,i2,j2,o2,g2,p2,q2,rfl,hin2,hij2⟩;have hk3:=gs3.kind.trans hk1;show wpS (VB prog w) A E s (jG a b (none,i2,j2,o2,g2,p2,q2)) _ st3;unfold jG;dsimp only;by_cases hm:g2 > 1
     ·rw [Vs hm];exact Cr hk3 m hin2 (λst4 r i j o g p q gs4 hr=>⟨gs3.trans gs4,.inl ⟨r,i,j,o,g,p,q,rfl,hr⟩⟩) λst4 i4 j4 o4 g4 p4 q4 gs4 h3 h4=>⟨⟨gs3.trans gs4,.inr ⟨i4,j4,o4,g4,p4,q4,rfl,h3,Vq⟩⟩,⟨gs3.trans gs4,i4,j4,o4,g4,p4,q4,rfl,h3,Vq⟩⟩
     ·rw [Vr hm];exact Cr hk3 m hin2 (λst4 r i j o g p q gs4 hr=>⟨gs3.trans gs4,.inl ⟨r,i,j,o,g,p,q,rfl,hr⟩⟩) λst4 i4 j4 o4 g4 p4 q4 gs4 h3 h4=>⟨⟨gs3.trans gs4,.inr ⟨i4,j4,o4,g4,p4,q4,rfl,h3,Vq⟩⟩,⟨gs3.trans gs4,i4,j4,o4,g4,p4,q4,rfl,h3,Vq⟩⟩
    ·rintro e st3 ⟨gs3,i2,j2,o2,g2,p2,q2,rfl,hin2,hij2⟩;exact⟨gs3,.inr ⟨i2,j2,o2,g2,p2,q2,rfl,hin2,hij2⟩⟩
    ·rintro e st3 ⟨gs3,⟨r,i2,j2,o2,g2,p2,q2,rfl,hr⟩ | ⟨i2,j2,o2,g2,p2,q2,rfl,hin2,hij2⟩⟩
     ·show wpS (VB prog w) A E s (pure (RG (some r,i2,j2,o2,g2))) _ _;exact VJ ⟨gs1.trans gs3,r,_,_,_,_,rfl,hr⟩
     ·unfold Cm;dsimp only;exact VI (rC λst4 gs4=>VJ ⟨(gs1.trans gs3).trans gs4,_,_,_,_,rfl,hin2,Vq⟩)
 ·rintro c st1 ⟨gs1,i,j,o,g,rfl,⟨_,h3,h4,h5,h6⟩,hij⟩;omega
 ·rintro c st1 ⟨gs1,r,i,j,o,g,rfl,hr⟩;exact VJ (h r st1 gs1 hr)
end
def fy(xs:Array VF)(p:Nat)(l:List (VF×Nat)):Array VF:=l.foldl (λa q=>a.setIfInBounds (p+q.2) q.1) xs
theorem vT:∀(l:List VF)(xs:Array VF)(p n:Nat),p+n+l.length<=xs.size->(fy xs p (l.zipIdx n)).size=xs.size/\∀j,(fy xs p (l.zipIdx n))[j]?=if p+n<=j/\j < p+n+l.length then l[j - (p+n)]? else xs[j]?
 | [],xs,p,n,h=>⟨rfl,λj=>by
  rw [Vr (by rw [OW];omega)];rfl⟩
 | a::l,xs,p,n,h=>by
  rw [NF] at h;have ih:=vT l (xs.setIfInBounds (p+n) a) p (n+1) (by rw [Sn];omega);have e:fy xs p ((a::l).zipIdx n)=fy (xs.setIfInBounds (p+n) a) p (l.zipIdx (n+1)):=by rw [List.zipIdx_cons];rfl
  rw [e];refine⟨by rw [ih.1,Sn],λj=>?_⟩;rw [ih.2 j,Array.getElem?_setIfInBounds,NF];by_cases h1:j=p+n
  ·subst h1;rw [Vr Vq,Vs rfl,Vs Vq,Vs Vq];simp
  ·by_cases h2:p+(n+1)<=j/\j < p+(n+1)+l.length
   ·rw [Vs h2,Vs Vq];rw [show j - (p+n)=(j - (p+(n+1)))+1 by omega,OZ]
   ·rw [Vr h2,Vr (λe=>h1 e.symm),Vr Vq]
theorem jc{xs:Array VF}{u v i:Nat}(h:i < v - u)(hv:v<=xs.size):K (xs.extract u v) i=K xs (u+i):=by
 apply K_congr;rw [Array.getElem?_extract,Vs Vq]
theorem Cs{xs:Array VF}(h:IntKeys xs){u v:Nat}:IntKeys (xs.extract u v):=λp hp=>h p (by
 rw [fN] at hp;exact Qh (Pf hp))
theorem KJ:mergeAt'=λi=>(do
 let s<-get
 let (some (sa,na,pw),some (sb,nb,_)):=((VM s)[i]?,(VM s)[i+1]?) | Xn "internal:list.sort.pending"
 set (setPending s (((VM s).setIfInBounds i (sa,na+nb,pw)).eraseIdxIfInBounds (i+1)))
 let some k<-jb false (<-Wq (VD s) sb) (VD s) sa na 0 | return false
 let (sa,na):=(sa+k,na - k)
 if na==0 then return true
 let some nb<-jb true (<-Wq (VD s) (sa+na - 1)) (VD s) sb nb (nb - 1) | return false
 if nb==0 then return true
 let x:=(VD s).extract sa sb
 let y:=(VD s).extract sb (sb+nb)
 let r<-if na<=nb then vN x y else vR x y
 modify λs=>WU s (fy (VD s) sa r.toList.zipIdx)
 return (Wo (<-get)).isNone):=rfl
section
variable {prog:VL} {w:VP} {A:VS} {E:Vw->Vz->Prop} {s:Vz} {a₀:Array VF}
theorem SB.gs{st st':VO}(h:SB a₀ st)(g:GS st st'):SB a₀ st':=by obtain⟨_,rfl⟩:=g;exact⟨h.perm,h.kind,h.failed⟩
theorem KL{st st':VO}{Q:PUnit->VO->Prop}(h:Q ⟨⟩ st'):wpS (VB prog w) A E s (set st':StateT VO Sem PUnit) Q st:=by
 unfold wpS;exact VA ⟨rfl,h⟩
theorem Sg.congr{xs ys:Array VF}{lo hi:Nat}(h:Sg xs lo hi)(e:∀i,lo<=i->i < hi->ys[i]?=xs[i]?):Sg ys lo hi:=λi j h1 h2 h3=>by
 rw [K_congr (e i h1 Vq),K_congr (e j Vq h3)];exact h i j h1 h2 h3
theorem KN{xs:Array VF}{r:List VF}{p:Nat}(hp:p+r.length<=xs.size)(h:r.Perm ((xs.toList.drop p).take r.length)):(fy xs p r.zipIdx).Perm xs:=by
 obtain⟨h1,h2⟩:=vT r xs p 0 Vq;have e:(fy xs p r.zipIdx).toList=xs.toList.take p++(r++xs.toList.drop (p+r.length)):=by
  apply Uj;intro j;have:=h2 j;rw [Rx] at this;rw [OU,this];by_cases c1:j < p
  ·rw [Vr Vq,OQ (by rw [NS,Nu];omega),List.getElem?_take,Vs c1,OU]
  ·rw [Oy (by rw [NS,Nu];omega)];have lp:(xs.toList.take p).length=p:=by rw [NS,Nu];omega
   rw [lp];by_cases c2:j < p+r.length
   ·rw [Vs Vq,OQ Vq]
   ·rw [Vr Vq,Oy Vq,TU,OU];congr 1;omega
 refine Pu.mpr ?_;rw [e]
 conv=>rhs;rw [<-OV p xs.toList,<-OV r.length (xs.toList.drop p),S4]
 exact(h.append_right _).append_left _
theorem KO{st:VO}{i sa na nb pw pw2:Nat}{Q:Bool->VO->Prop}(h0:IntKeys a₀)(hB:SB a₀ st)(p1:(VM st)[i]?=some (sa,na,pw))(p2:(VM st)[i+1]?=some (sa+na,nb,pw2))(n1:1<=na)(n2:1<=nb)(hz:sa+na+nb<=a₀.size)
 (s1:Sg (VD st) sa (sa+na))(s2:Sg (VD st) (sa+na) (sa+na+nb))
 (h:∀st',SB a₀ st'->VM st'=((VM st).setIfInBounds i (sa,na+nb,pw)).eraseIdxIfInBounds (i+1)->Sg (VD st') sa (sa+na+nb)->(∀j,(j < sa\/sa+na+nb<=j)->(VD st')[j]?=(VD st)[j]?)->Q true st'):wpS (VB prog w) A E s (mergeAt' i) Q st:=by
 rw [KJ];refine VI (WS ?_);dsimp only;rw [p1,p2];dsimp only;refine VI (KL ?_);generalize hp:((VM st).setIfInBounds i (sa,na+nb,pw)).eraseIdxIfInBounds (i+1)=np at h;have hB1:SB a₀ (setPending st np):=⟨hB.perm,hB.kind,hB.failed⟩;have ik:=hB.ik h0;have sz:=hB.size;obtain⟨t,eb,kb⟩:=dj ik (i:=sa+na) Vq;refine VI (cQ eb (VI (kI (z:=K (VD st) (sa+na)) hB1.kind ik kb Vq (λx y h3 h4 h5=>s1 x y h3 h4 h5) Vq λk hk c1 c2=>?_)));dsimp only;have le:∀v,sa<=v->v < sa+k->K (VD st) v<=K (VD st) (sa+na):=λv h3 h4=>by
  have:=c1 (v - sa) Vq;rw [show sa+(v - sa)=v by omega] at this;simpa [Bd] using this
 have gt:∀v,sa+k<=v->v < sa+na->K (VD st) (sa+na)<=K (VD st) v:=λv h3 h4=>by
  have:=c2 (v - sa) Vq Vq;rw [show sa+(v - sa)=v by omega] at this;have:¬K (VD st) v<=K (VD st) (sa+na):=by simpa [Bd] using this
  omega
 by_cases e1:na - k=0
 ·rw [Vs (by simpa using e1)];refine VJ (h _ hB1 rfl (λx y h3 h4 h5=>?_) λj _=>rfl);show K (VD st) x<=K (VD st) y;by_cases c3:y < sa+na
  ·exact s1 x y h3 h4 c3
  ·by_cases c4:x < sa+na
   ·exact Ou (le x h3 Vq) (s2 (sa+na) y Vq Vq h5)
   ·exact s2 x y Vq h4 h5
 rw [Vr (by simpa using e1)];have il:sa+k+(na - k) - 1 < (VD st).size:=Vq
 obtain⟨u,ea,ka⟩:=dj ik il;refine VI (cQ ea (VI (kI (z:=K (VD st) (sa+k+(na - k) - 1)) hB1.kind ik ka Vq (λx y h3 h4 h5=>s2 x y h3 h4 h5) Vq λl hl d1 d2=>?_)));dsimp only;have ex:sa+k+(na - k) - 1=sa+na - 1:=Vq
 rw [ex] at d1 d2;have lt:∀v,sa+na<=v->v < sa+na+l->K (VD st) v < K (VD st) (sa+na - 1):=λv h3 h4=>by
  have:=d1 (v - (sa+na)) Vq;rw [show sa+na+(v - (sa+na))=v by omega] at this;simpa [Bd] using this
 have ge:∀v,sa+na+l<=v->v < sa+na+nb->K (VD st) (sa+na - 1)<=K (VD st) v:=λv h3 h4=>by
  have:=d2 (v - (sa+na)) Vq Vq;rw [show sa+na+(v - (sa+na))=v by omega] at this;simpa [Bd] using this
 by_cases e2:l=0
 ·rw [Vs (by simpa using e2)];refine VJ (h _ hB1 rfl (λx y h3 h4 h5=>?_) λj _=>rfl);show K (VD st) x<=K (VD st) y;by_cases c3:y < sa+na
  ·exact s1 x y h3 h4 c3
  ·by_cases c4:x < sa+na
   ·exact Ou (s1 x (sa+na - 1) h3 Vq Vq) (ge y Vq h5)
   ·exact s2 x y Vq h4 h5
 rw [Vr (by simpa using e2)];have zx:((VD st).extract (sa+k) (sa+na)).size=na - k:=by rw [T2];omega
 have zy:((VD st).extract (sa+na) (sa+na+l)).size=l:=by rw [T2];omega
 have m:Mg ((VD st).extract (sa+k) (sa+na)) ((VD st).extract (sa+na) (sa+na+l)):=by
  refine⟨Cs ik,Cs ik,λx y h3 h4 h5=>?_,λx y h3 h4 h5=>?_,Vq,Vq,?_,?_⟩
  ·rw [zx] at h5;rw [jc Vq Vq,jc Vq Vq];exact s1 _ _ Vq Vq Vq
  ·rw [zy] at h5;rw [jc Vq Vq,jc Vq Vq];exact s2 _ _ Vq Vq Vq
  ·rw [jc Vq Vq,jc Vq Vq];exact gt _ Vq Vq
  ·rw [zx,zy,jc Vq Vq,jc Vq Vq,show sa+k+(na - k - 1)=sa+na - 1 by omega];exact P4 (lt _ Vq Vq)
 have fin:∀(r:Array VF)(st2:VO),GS (setPending st np) st2->RA ((VD st).extract (sa+k) (sa+na)) ((VD st).extract (sa+na) (sa+na+l)) r->wpS (VB prog w) A E s (do
  modify λs=>WU s (fy (VD s) (sa+k) r.toList.zipIdx)
  return (Wo (<-get)).isNone) Q st2:=λr st2 gs hr=>by
  have hB2:=hB1.gs gs;have ea2:VD st2=VD st:=by obtain⟨g,rfl⟩:=gs;rfl
  have ep2:VM st2=np:=by obtain⟨g,rfl⟩:=gs;rfl
  have rl:r.toList.length=na - k+l:=by rw [hr.1.length_eq,Oc,Nu,Nu,zx,zy]
  have ej:((VD st).extract (sa+k) (sa+na)).toList++((VD st).extract (sa+na) (sa+na+l)).toList=((VD st).toList.drop (sa+k)).take r.toList.length:=by
   rw [rl,fN,fN,U0,S4,show sa+na - (sa+k)=na - k by omega,show sa+na+l - (sa+na)=l by omega,show sa+k+(na - k)=sa+na by omega]
  have rp:r.toList.Perm (((VD st).toList.drop (sa+k)).take r.toList.length):=by rw [<-ej];exact hr.1
  obtain⟨g1,g2⟩:=vT r.toList (VD st) (sa+k) 0 (by rw [rl];omega);have pp:=KN (xs:=VD st) (p:=sa+k) (by rw [rl];omega) rp;refine VI (WI (VI (WS (VJ ?_))));have hB3:SB a₀ (WU st2 (fy (VD st2) (sa+k) r.toList.zipIdx)):=hB2.set (by rw [ea2];exact pp);have hf:(Wo (WU st2 (fy (VD st2) (sa+k) r.toList.zipIdx))).isNone=true:=by rw [hB3.failed];rfl
  rw [hf];have at':∀j,(VD (WU st2 (fy (VD st2) (sa+k) r.toList.zipIdx)))[j]?=if sa+k<=j/\j < sa+na+l then r.toList[j - (sa+k)]? else(VD st)[j]?:=λj=>by
   show(fy (VD st2) (sa+k) r.toList.zipIdx)[j]?=_;rw [ea2,g2 j,rl];by_cases c:sa+k<=j/\j < sa+na+l
   ·rw [Vs c,Vs Vq];rfl
   ·rw [Vr c,Vr Vq]
  refine h _ hB3 ep2 (λx y h3 h4 h5=>?_) λj hj=>by rw [at' j,Vr Vq]
  generalize VD (WU st2 (fy (VD st2) (sa+k) r.toList.zipIdx))=ys at at';have inK:∀j,sa+k<=j->j < sa+na+l->∃p,r.toList[j - (sa+k)]?=some p/\p∈r.toList/\K ys j=Nk p:=λj c1 c2=>by
   have hlt:j - (sa+k) < r.toList.length:=Vq
   refine⟨r.toList[j - (sa+k)],NN hlt,OP hlt,?_⟩;unfold K;rw [at' j,Vs ⟨c1,c2⟩,NN hlt]
  have outK:∀j,(j < sa+k\/sa+na+l<=j)->K ys j=K (VD st) j:=λj c=>K_congr (by rw [at' j,Vr Vq]);have mem:∀p∈r.toList,∃v,sa+k<=v/\v < sa+na+l/\Nk p=K (VD st) v:=λp hp=>by
   obtain⟨u,u1,u2,e⟩:=vL (rp.mem_iff.mp hp);exact⟨sa+k+u,Vq,Vq,e⟩
  by_cases x1:x < sa+k
  ·rw [outK x (.inl x1)];by_cases y1:y < sa+k
   ·rw [outK y (.inl y1)];exact s1 x y h3 h4 Vq
   ·by_cases y2:y < sa+na+l
    ·obtain⟨p,_,hp,ep⟩:=inK y Vq y2;obtain⟨v,v1,v2,ev⟩:=mem p hp;rw [ep,ev];by_cases v3:v < sa+na
     ·exact s1 x v h3 Vq v3
     ·exact Ou (le x h3 x1) (s2 (sa+na) v Vq Vq Vq)
    ·rw [outK y (.inr Vq)];exact Ou (le x h3 x1) (s2 (sa+na) y Vq Vq h5)
  ·by_cases x2:x < sa+na+l
   ·obtain⟨p,ep1,hp,ep⟩:=inK x Vq x2;obtain⟨v,v1,v2,ev⟩:=mem p hp;by_cases y2:y < sa+na+l
    ·obtain⟨q,eq1,hq,eq⟩:=inK y Vq y2;rw [ep,eq];by_cases c:x=y
     ·subst c;rw [ep1] at eq1;cases eq1;exact Qk _
     ·obtain⟨l1,g1'⟩:=Nz.mp ep1;obtain⟨l2,g2'⟩:=Nz.mp eq1;have:=OF.mp hr.2 (x - (sa+k)) (y - (sa+k)) l1 l2 Vq;rw [g1',g2'] at this;exact this
    ·rw [outK y (.inr Vq),ep,ev];by_cases v3:v < sa+na
     ·exact Ou (s1 v (sa+na - 1) Vq Vq Vq) (ge y Vq h5)
     ·exact s2 v y Vq Vq h5
   ·rw [outK x (.inr Vq),outK y (.inr Vq)];exact s2 x y Vq h4 h5
 split
 ·exact VI (Ky hB1.kind m λr st2 gs hr=>fin r st2 gs hr)
 ·exact VI (KI hB1.kind m λr st2 gs hr=>fin r st2 gs hr)
end
def bO(xs:Array VF):Nat->List (Nat×Nat×Nat)->Nat->Prop
 | lo,[],hi=>lo=hi
 | lo,(u,n,_)::r,hi=>u=lo/\1<=n/\Sg xs lo (lo+n)/\bO xs (lo+n) r hi
theorem bO.len{xs:Array VF}:∀{p:List (Nat×Nat×Nat)}{lo hi:Nat},bO xs lo p hi->lo+p.length<=hi
 | [],lo,hi,h=>by have h:lo=hi:=h;simp;omega
 | (u,n,v)::r,lo,hi,⟨_,h1,_,h2⟩=>by have:=h2.len;rw [NF];omega
theorem bO.congr{xs ys:Array VF}:∀{p:List (Nat×Nat×Nat)}{lo hi:Nat},bO xs lo p hi->(∀i,lo<=i->i < hi->ys[i]?=xs[i]?)->bO ys lo p hi
 | [],_,_,h,_=>h
 | (u,n,v)::r,lo,hi,⟨h0,h1,h2,h3⟩,e=>by
  have:=h3.len;exact⟨h0,h1,h2.congr λi a b=>e i a Vq,h3.congr λi a b=>e i Vq b⟩
theorem bO.app{xs:Array VF}:∀{p q:List (Nat×Nat×Nat)}{lo hi:Nat},bO xs lo (p++q) hi↔∃m,bO xs lo p m/\bO xs m q hi
 | [],q,lo,hi=>⟨λh=>⟨lo,rfl,h⟩,λuu57=>by obtain⟨m,e,h⟩:=uu57;have e:lo=m:=e;subst e;exact h⟩
 | (u,n,v)::r,q,lo,hi=>⟨λuu58=>by
  obtain⟨h0,h1,h2,h3⟩:=uu58;obtain⟨m,a,b⟩:=bO.app.mp h3;exact⟨m,⟨h0,h1,h2,a⟩,b⟩,λuu59=>by obtain⟨m,⟨h0,h1,h2,a⟩,b⟩:=uu59;exact⟨h0,h1,h2,bO.app.mpr ⟨m,a,b⟩⟩⟩
theorem Ct{α:Type}{a b v:α}{R:List α}:∀P:List α,((P++a::b::R).set P.length v).eraseIdx (P.length+1)=P++v::R
 | []=>rfl
 | x::P=>by
  have:=Ct (a:=a) (b:=b) (v:=v) (R:=R) P;simp only [PZ,NF,Qv,Sy,this]
section
variable {prog:VL} {w:VP} {A:VS} {E:Vw->Vz->Prop} {s:Vz} {a₀:Array VF}
theorem vU{st:VO}{i hi:Nat}{Q:Bool->VO->Prop}(h0:IntKeys a₀)(hB:SB a₀ st)(R:bO (VD st) 0 (VM st).toList hi)(hh:hi<=a₀.size)(hi':i+1 < (VM st).size)
 (h:∀st',SB a₀ st'->bO (VD st') 0 (VM st').toList hi->(VM st').size+1=(VM st).size->(∀j,hi<=j->(VD st')[j]?=(VD st)[j]?)->Q true st'):wpS (VB prog w) A E s (mergeAt' i) Q st:=by
 have hl:i+1 < (VM st).toList.length:=by simpa using hi'
 obtain⟨P,u,v,T,ep,lP⟩:∃P u v T,(VM st).toList=P++u::v::T/\P.length=i:=by
  refine⟨(VM st).toList.take i,(VM st).toList[i],(VM st).toList[i+1],(VM st).toList.drop (i+2),?_,by rw [NS];omega⟩
  conv=>lhs;rw [<-OV i (VM st).toList,PD Vq,PD hl]
 obtain⟨sa,na,pw⟩:=u;obtain⟨sb,nb,pw2⟩:=v;have R0:=R;rw [ep] at R;obtain⟨m,RP,⟨e1,n1,s1,e2,n2,s2,RT⟩⟩:=bO.app.mp R;subst e1;subst e2;have lt:=RT.len;have g1:(VM st)[i]?=some (sa,na,pw):=by rw [<-OU,ep,Oy Vq,lP,Ry];rfl
 have g2:(VM st)[i+1]?=some (sa+na,nb,pw2):=by rw [<-OU,ep,Oy Vq,lP,show i+1 - i=1 by omega];rfl
 refine KO h0 hB g1 g2 n1 n2 Vq s1 s2 λst' hB' pe sg fr=>?_;have ep2:(VM st').toList=P++(sa,na+nb,pw)::T:=by
  rw [pe,Array.toList_eraseIdxIfInBounds,Array.toList_setIfInBounds,ep,<-lP];exact Ct P
 refine h st' hB' ?_ ?_ λj hj=>fr j Vq
 ·rw [ep2];have lp:=RP.len;refine bO.app.mpr ⟨sa,RP.congr λj _ h2=>fr j Vq,rfl,Vq,by rw [<-U1];exact sg,?_⟩;rw [<-U1];exact RT.congr λj h1 _=>fr j Vq
 ·rw [<-Nu,<-Nu,ep,ep2];simp;omega
theorem bO.pow{xs:Array VF}{g:Nat×Nat×Nat->Nat}:∀{p:List (Nat×Nat×Nat)}{i lo hi:Nat},bO xs lo p hi->bO xs lo (p.modify i λx=>(x.1,x.2.1,g x)) hi
 | [],i,lo,hi,h=>by rw [List.modify_nil];exact h
 | (u,n,v)::r,0,lo,hi,h=>h
 | (u,n,v)::r,i+1,lo,hi,⟨h0,h1,h2,h3⟩=>⟨h0,h1,h2,h3.pow⟩
theorem bO.snoc{xs:Array VF}{p:List (Nat×Nat×Nat)}{lo n v:Nat}(h:bO xs 0 p lo)(h1:1<=n)(h2:Sg xs lo (lo+n)):bO xs 0 (p++[(lo,n,v)]) (lo+n):=bO.app.mpr ⟨lo,h,rfl,h1,h2,rfl⟩
theorem KP{st:VO}{Q:Unit->VO->Prop}(h0:IntKeys a₀)(dk:kJ a₀)(hB:SB a₀ st)(pe0:VM st=#[])(h2:2<=a₀.size)
 (h:∀st',(VD st').Perm a₀->Wo st'=none->SortedTo (VD st') a₀.size->Q () st'):wpS (VB prog w) A E s sortRuns' Q st:=by
 rw [sortRuns'_eq];refine VI (WS ?_);dsimp only;rw [hB.size];generalize minRun' a₀.size a₀.size 0=mr;refine VI (Wc (V2
  (I:=λx c st'=>∃lo,c=(none,lo)/\SB a₀ st'/\bO (VD st') 0 (VM st').toList lo/\lo<=a₀.size/\(lo=a₀.size\/x<=lo))
  (Q:=λc st'=>c=(none,a₀.size)/\SB a₀ st'/\bO (VD st') 0 (VM st').toList a₀.size) ?_ ?_ ⟨0,rfl,hB,by rw [pe0];rfl,Vq,.inr Vq⟩) ?_)
 ·rintro x c st1 _ hx ⟨lo,rfl,hB1,R1,l1,l2⟩;dsimp only;by_cases hge:lo >= a₀.size
  ·rw [Vs hge];have e:lo=a₀.size:=Vq
   subst e;exact VJ ⟨rfl,hB1,R1⟩
  rw [Vr hge];have pre:∀st2:VO,(∀i,i < lo->(VD st2)[i]?=(VD st1)[i]?)->VM st2=VM st1->bO (VD st2) 0 (VM st2).toList lo:=λst2 fr pe=>by rw [pe];exact R1.congr λi _ h2=>fr i h2
  refine VI (Kp h0 dk Vq Vq hB1 λm st2 hB2 pe2 fr2 m1 m2 sg2=>?_);dsimp only;by_cases hm:m < mr
  ·rw [Vs hm];refine VI (Xl (Wi ⟨rfl,?_⟩));refine VI (Kq h0 (n:=min (a₀.size - lo) mr) Vq m1 Vq hB2 sg2 λst3 hB3 pe3 fr3 sg3=>?_);rw [Vr Vp];have R3:=pre st3 (λi hi=>(fr3 i hi).trans (fr2 i hi)) (pe3.trans pe2);have k1:1<=min (a₀.size - lo) mr:=Vq
   have k2:lo+min (a₀.size - lo) mr<=a₀.size:=Vq
   generalize min (a₀.size - lo) mr=k at sg3 k1 k2⊢;refine VI (WS ?_);split
   ·rename_i u v x e;refine VI (Wc (V2 (I:=λx c st'=>c=(none,())/\SB a₀ st'/\bO (VD st') 0 (VM st').toList lo/\Sg (VD st') lo (lo+k))
     (Q:=λc st'=>c=(none,())/\SB a₀ st'/\bO (VD st') 0 (VM st').toList lo/\Sg (VD st') lo (lo+k)) ?_ (λ_ _ z=>z) ⟨rfl,hB3,R3,sg3⟩) ?_)
    ·rintro y c st5 _ hy ⟨rfl,hB5,R5,sg5⟩;refine VI (WS ?_);split
     ·rename_i a b od eo;split
      ·exact VJ ⟨rfl,hB5,R5,sg5⟩
      ·have z:(VM st5).size > 1:=by
        by_cases z:(VM st5).size > 1
        ·exact z
        ·rw [Vr z] at eo;cases eo
       refine VI (vU h0 hB5 R5 Vq Vq λst6 hB6 R6 _ fr=>?_);rw [Vr Vp];exact VJ ⟨rfl,hB6,R6,sg5.congr λi h1 _=>fr i h1⟩
     ·exact VJ ⟨rfl,hB5,R5,sg5⟩
    ·rintro c st5 ⟨rfl,hB5,R5,sg5⟩;dsimp only;refine VI (WI (VI (WI (VJ ⟨_,rfl,⟨hB5.perm,hB5.kind,hB5.failed⟩,?_,Vq,.inr Vq⟩))));show bO (VD st5) 0 (((VM st5).modify ((VM st5).size - 1) λx=>(x.1,x.2.1,power' a₀.size (2*u+v) (2*u+v+v+k) a₀.size)).push (lo,k,0)).toList (lo+k);rw [Pj,TC];exact R5.pow.snoc k1 sg5
   ·refine VI (WI (VJ ⟨_,rfl,⟨hB3.perm,hB3.kind,hB3.failed⟩,?_,Vq,.inr Vq⟩));show bO (VD st3) 0 ((VM st3).push (lo,k,0)).toList (lo+k);rw [Pj];exact R3.snoc k1 sg3
  ·rw [Vr hm];have R2:=pre st2 fr2 pe2;refine VI (WS ?_);split
   ·rename_i u v x e;refine VI (Wc (V2 (I:=λx c st'=>c=(none,())/\SB a₀ st'/\bO (VD st') 0 (VM st').toList lo/\Sg (VD st') lo (lo+m))
     (Q:=λc st'=>c=(none,())/\SB a₀ st'/\bO (VD st') 0 (VM st').toList lo/\Sg (VD st') lo (lo+m)) ?_ (λ_ _ z=>z) ⟨rfl,hB2,R2,sg2⟩) ?_)
    ·rintro y c st5 _ hy ⟨rfl,hB5,R5,sg5⟩;refine VI (WS ?_);split
     ·rename_i a b od eo;split
      ·exact VJ ⟨rfl,hB5,R5,sg5⟩
      ·have z:(VM st5).size > 1:=by
        by_cases z:(VM st5).size > 1
        ·exact z
        ·rw [Vr z] at eo;cases eo
       refine VI (vU h0 hB5 R5 Vq Vq λst6 hB6 R6 _ fr=>?_);rw [Vr Vp];exact VJ ⟨rfl,hB6,R6,sg5.congr λi h1 _=>fr i h1⟩
     ·exact VJ ⟨rfl,hB5,R5,sg5⟩
    ·rintro c st5 ⟨rfl,hB5,R5,sg5⟩;dsimp only;refine VI (WI (VI (WI (VJ ⟨_,rfl,⟨hB5.perm,hB5.kind,hB5.failed⟩,?_,Vq,.inr Vq⟩))));show bO (VD st5) 0 (((VM st5).modify ((VM st5).size - 1) λx=>(x.1,x.2.1,power' a₀.size (2*u+v) (2*u+v+v+m) a₀.size)).push (lo,m,0)).toList (lo+m);rw [Pj,TC];exact R5.pow.snoc m1 sg5
   ·refine VI (WI (VJ ⟨_,rfl,⟨hB2.perm,hB2.kind,hB2.failed⟩,?_,Vq,.inr Vq⟩));show bO (VD st2) 0 ((VM st2).push (lo,m,0)).toList (lo+m);rw [Pj];exact R2.snoc m1 sg2
 ·rintro c st1 ⟨lo,rfl,hB1,R1,l1,l2⟩;have e:lo=a₀.size:=Vq
  subst e;exact⟨rfl,hB1,R1⟩
 ·rintro c st1 ⟨rfl,hB1,R1⟩;dsimp only;refine VI (Wc (V2 (I:=λx c st'=>c=(none,())/\SB a₀ st'/\bO (VD st') 0 (VM st').toList a₀.size/\((VM st').size<=1\/(VM st').size+x<=a₀.size))
   (Q:=λc st'=>c=(none,())/\SB a₀ st'/\bO (VD st') 0 (VM st').toList a₀.size/\(VM st').size<=1) ?_ ?_ ⟨rfl,hB1,R1,.inr (by have:=R1.len;rw [Nu] at this;omega)⟩) ?_)
  ·rintro x c st2 _ hx ⟨rfl,hB2,R2,l2⟩;refine VI (WS ?_);by_cases z:(VM st2).size<=1
   ·rw [Vs z];exact VJ ⟨rfl,hB2,R2,z⟩
   ·rw [Vr z];have hidx:∀b:Bool,(if b=true then(VM st2).size - 2 - 1 else(VM st2).size - 2)+1 < (VM st2).size:=λb=>by split <;> omega
    refine VI (vU h0 hB2 R2 (Np _) (hidx _) λst3 hB3 R3 sz3 _=>?_);rw [Vr Vp];exact VJ ⟨rfl,hB3,R3,Vq⟩
  ·rintro c st2 ⟨rfl,hB2,R2,l2⟩;exact⟨rfl,hB2,R2,Vq⟩
  ·rintro c st2 ⟨rfl,hB2,R2,l2⟩;refine VJ (h st2 hB2.perm hB2.failed ?_);rw [<-Nu] at l2
   match hp:(VM st2).toList,l2,R2 with
   | [],_,R2=>have:0=a₀.size:=R2;omega
   | [(u,n,v)],_,⟨_,h4,h5,h6⟩=>
    have h6:0+n=a₀.size:=h6;intro i j h7 h8;exact h5 i j Vq h7 Vq
   | _::_::_,l2,_=>simp at l2
end
section
variable {P:VL} {w:VP} {A:VS} {E:Vw->Vz->Prop} {s:Vz} {a:Vy}
theorem KQ{vs:List Vw}{ns:List Int}{n:Nat}{C:SJ->Vz->Prop}(ho:s.heap.get? a=some (VU "list" vs.toArray n))(hI:V4 vs ns)(nd:ns.Nodup)(hz:vs.length<=10000)
 (h:∀(out:Array Vw) (ns':List Int),V4 out.toList ns'->ns'.Perm ns->ns'.Pairwise (·<=·)->C (.done (.ret .none)) {s with heap:=sortedHeap s.heap a vs out}):VC (VB P w) A (Builtin.«list.sort» ⟨[.ref a],[]⟩) C E s:=by
 have hsl:VG=16777216:=V6;have ha:a < s.heap.objs.size:=NB ho;rw [list_sort_plain];refine Vx (listItems_at ho rfl (Vx (Wt ho rfl ?_ (by rw [NA];omega) (N9 _))));have g1:=WG ho λ_=>(#[]:Array Vw);refine Vx (W4 (s:={s with heap:=s.heap.update a (N6 λ_=>(#[]:Array Vw))}) g1 rfl ?_);generalize (if (#[]:Array Vw).size==vs.toArray.size then n else n+1)=e1 at g1⊢;refine Vx (wpAny_newTuple ?_ (by show vs.length<=_;omega));refine Vx (WA ?_ (N9 _));refine VY ?_;have g2:(((s.heap.update a (N6 λ_=>(#[]:Array Vw))).push (VU "tuple" vs.toArray 0)).push (VU "list" #[] 0)).get? a=some (VU "list" #[] e1):=Nm _ (Nm _ g1);show VC _ _ _ _ _ {s with heap:=((s.heap.update a (N6 λ_=>(#[]:Array Vw))).push (VU "tuple" vs.toArray 0)).push (VU "list" #[] 0)};dsimp only;have zz:(pairsOf vs).size=vs.length:=pairsOf_size vs;have last:∀st:VO,(VD st).Perm (pairsOf vs)->Wo st=none->SortedTo (VD st) (pairsOf vs).size->VC (VB P w) A (do
  let touched:=(<-seqEpoch a) !=e1
  Ra (.ref a) λ_=>(VD st).map (·.2)
  if let some e:=Wo st then rule "list.sort.comparison-raised";throw e
  if touched then rule "list.sort.modified";raiseError "ValueError" "list modified during sort"
  ret .none) C E {s with heap:=((s.heap.update a (N6 λ_=>(#[]:Array Vw))).push (VU "tuple" vs.toArray 0)).push (VU "list" #[] 0)}:=λst h1 h2 h3=>by
  obtain⟨ns',q1,q2,q3⟩:=sorted_out hI h1 h3;rw [h2];refine Vx (W4 (s:={s with heap:=((s.heap.update a (N6 λ_=>(#[]:Array Vw))).push (VU "tuple" vs.toArray 0)).push (VU "list" #[] 0)}) g2 rfl ?_);refine Vx (Wt (s:={s with heap:=((s.heap.update a (N6 λ_=>(#[]:Array Vw))).push (VU "tuple" vs.toArray 0)).push (VU "list" #[] 0)}) g2 rfl ?_ (N9 _) (by rw [Array.size_map,h1.size_eq,zz];omega));simp only [bne_self_eq_false,OO,if_false];exact VA (h _ ns' q1 q2 q3)
 by_cases h2:vs.toArray.size < 2
 ·rw [Vs h2,Vs h2];refine Vx (VA ?_);rw [StateT.run_pure];refine Vx (VA ?_);refine last (To general' (vs.toArray.zip vs.toArray) #[] 7 none) (UL _) rfl λi j h3 h4=>?_;rw [NA] at h2;have:i=j:=Vq
  subst this;exact Qk _
 ·rw [Vr h2,Vr h2];rw [NA] at h2;obtain⟨v1,v2,r,rfl⟩:∃v1 v2 r,vs=v1::v2::r:=by
   match vs,h2 with
   | [],h2=>simp at h2
   | [_],h2=>simp at h2
   | v1::v2::r,_=>exact⟨v1,v2,r,rfl⟩
  rw [keyKind_ints hI];refine Vx (VA ?_);have dn:kJ (pairsOf (v1::v2::r)):=by
   unfold kJ;rw [pairsOf_toList];have e:((v1::v2::r).zip (v1::v2::r)).map (λp=>numOf p.1)=ns:=by
    rw [show((v1::v2::r).zip (v1::v2::r)).map (λp=>numOf p.1)=(((v1::v2::r).zip (v1::v2::r)).map Prod.fst).map numOf by rw [NO];rfl,List.map_fst_zip (Np _),hI.nums]
   rw [e];exact nd
  refine Vx (V3 (KP (a₀:=pairsOf (v1::v2::r)) (st:=To Wk ((v1::v2::r).toArray.zip (v1::v2::r).toArray) #[] 7 none)
   (Q:=λ_ st'=>(VD st').Perm (pairsOf (v1::v2::r))/\Wo st'=none/\SortedTo (VD st') (pairsOf (v1::v2::r)).size) hI.intKeys dn ⟨UL _,rfl,rfl⟩ rfl (by rw [zz];simp) λst' q1 q2 q3=>⟨q1,q2,q3⟩) ?_ λ_ _ e=>e)
  rintro⟨⟨⟩,st'⟩ s' ⟨rfl,q1,q2,q3⟩;exact last st' q1 q2 q3
theorem KR{ss:List Int}{Q:Vw->Vz->Prop}(hh:A.handled=none)(hS:cL P w s.heap a ss)(nd:ss.Nodup)(hn:ss.length < 4000)
 (h:∀(h' h2:VQ) (tk:Nat) (d:Drawn) (out:Array Vw) (e:Nat) (ss':List Int),(∀b o,s.heap.get? b=some o->h'.get? b=some o)->(∀b o,h'.get? b=some o->h2.get? b=some o)->h2.get? h'.objs.size=some (VU "list" out e)->V4 out.toList ss'->ss'.Perm ss->ss'.Pairwise (·<=·)->Q (.ref h'.objs.size) {s with heap:=h2,toks:=tk,drawn:=d}):
 VC (VB P w) A (call (.builtin "sorted") [.ref a]) Q E s:=by
 refine QW kind_sorted plain_sorted entry_sorted (args_sorted1 _) ?_;unfold Builtin.«sorted»;refine Vx (m:=checkCount "sorted" 1 1 _) (VA ?_);refine Vx (JQ (A:=A.in1) hh hS Vq λh' tk d vs hk ⟨s1,sv,sp⟩=>?_);have hl:vs.length=ss.length:=by rw [mN sv,sp.length_eq]
 have hsl:VG=16777216:=V6;refine Vx (WA ?_ Vq);have hoL:(h'.push (VU "list" vs.toArray 0)).get? h'.objs.size=some (VU "list" vs.toArray 0):=NH _ rfl;refine Vx (VY (V7 Xi ⟨_,hoL,rfl⟩ Xg (KQ (s:={s with heap:=h'.push (VU "list" vs.toArray 0),toks:=tk,drawn:=d}) hoL sv (sp.nodup_iff.mpr nd) Vq λout ss' h1 h2 h3=>?_) (args_list_sort _)));obtain⟨e,he⟩:=sortedHeap_at (n:=0) (vs:=vs) (out:=out) hoL;refine⟨_,rfl,VA ⟨_,rfl,h h' _ tk d _ e ss' hk (λb o q=>?_) he h1 (h2.trans sp) h3⟩⟩;have hlt:b < h'.objs.size:=NB q;rw [sortedHeap_old (NL hlt) (by rw [size_push'];exact OI hlt),Ue _ _ _ (NL hlt)];exact q
end
theorem KS{X:Cx}:cD X (.builtin "sorted") (λxs H Q=>X.calm=true/\∃(a:Vy)(ss:List Int),xs=[.ref a]/\H a=some (vo X.prog X.w a ss)/\ss.Nodup/\ss.length < 4000/\∀(ns:List Int)(l:Vy),ns.Perm ss->ns.Pairwise (·<=·)->H l=none->Q (.ref l) (ak H l (.lst (ns.map V.int)))):=by
 intro Xw s σ H xs us Q I r h;obtain⟨hc,a,ss,rfl,ha,nd,h64,q⟩:=h;obtain⟨u,rfl,rx⟩:=cH r;cases rx;obtain⟨hS,_⟩:=I.hok a _ ha;refine KR (I.ok.hd hc) hS nd h64 λh' h2 tk d out e ss' k1 k2 lr s1 s2 s3=>?_;have hl2:ss'.length=ss.length:=s2.length_eq;have I1:af X Xw σ H {s with heap:=h',toks:=tk,drawn:=d}:=(I.kept (t':=tk) k1).drw;refine⟨.ref _,_,I1.laid (t':=tk) (o:= .lst (ss'.map V.int)) k2 (Np _) ?_,rfl,q ss' _ s2 s3 (I1.hok.fresh (Np _))⟩;refine⟨by rw [Nj,hl2];exact NP (Po h64) Vp,out.toList,e,BV s1,?_⟩;rw [lr]
section
variable {X:Cx} {H0:Hp} {O0:Ex}
theorem Cu:∀(ss acc:List Int),(ss.foldl cP acc).length<=acc.length+ss.length
 | [],acc=>by simp
 | x::ss,acc=>by
  have:=Cu ss (cP acc x);have h2:(cP acc x).length<=acc.length+1:=by unfold cP;split <;> simp
  rw [O7,NF];omega
def rH(t:DA):DA:=λδ Q=>t δ λds=>∃ss:List Int,ds=[.list (ss.map .int)]/\ss.length < 4000/\∀ns:List Int,(∀z,z∈ns↔z∈ss)->ns.Pairwise (· < ·)->Q (ns.map .int)
theorem KU{a:VE}{t:DA}{np p np' p':Pos}(hc:X.calm=true)(hg:Gl X "sorted")(hm:X.mg "sorted"=none)(hv:VW "sorted"=some (.builtin "sorted"))(hg':Gl X "set")(hm':X.mg "set"=none)(ha:PA X [a] (eR X.K H0 O0 t))
 (he:VH [a] X.env=(false,eval a X.env)::VH [] X.env:=by rfl)(hpl:(V1 p' (VH [] X.env)).any (·.1)=false:=by rfl)
 (he':VH [.Call (.Name "set" np') [a] [] p'] X.env=(false,eval (.Call (.Name "set" np') [a] [] p') X.env)::VH [] X.env:=by rfl)(hpl':(V1 p (VH [] X.env)).any (·.1)=false:=by rfl):
 FE X H0 O0 (.Call (.Name "sorted" np) [.Call (.Name "set" np') [a] [] p'] [] p) (rH t):=
 (bS KS hg hm hv (bf (d6 JR hg' hm' Je ha (he:=he) (hpl:=hpl)) bR he') (he:=he') (hpl:=hpl')).imp λσ H Q ⟨O,δ,Qd,w,q,k⟩=>⟨O,δ,_,w,q,λds vs H1 uu62 s1 r1=>by
  obtain⟨ss,e,hl,q1⟩:=uu62;subst e;cases r1 with
  | cons h r=>
   cases r;obtain⟨a,us,rfl,h1,d1⟩:=h.lst;cases d1.intsL;have hl2:=Cu ss [];refine⟨hc,a,ss,rfl,h1,hl,λl hl'=>⟨hc,l,_,rfl,aW,vk .nil,by simp at hl2;omega,λns l2 hp hs hl2=>?_⟩⟩;refine k _ _ _ _ (q1 ns (λz=>?_) ?_) (s1.trans (ao.new hl')) hl2 (aj.ofInts _)
   ·rw [hp.mem_iff,BS];simp
   ·have nd:ns.Nodup:=hp.nodup_iff.mpr (vk .nil);exact(U3.and hs nd).imp λ{a b} z=>by
     obtain⟨z1,z2⟩:=z;omega⟩
end
end L2
namespace K15
open PySem L2
def bp(i:Nat):VT:=PySem.Challenge.pw_goneday_k15_by_reckonings.main.body.getD i (.Pass ⟨0,0,0,0⟩)
abbrev vV:VT:=bp 8
abbrev vW:VT:=bp 9
abbrev vX:VT:=bp 10
abbrev vY:VT:=bp 11
abbrev vZ:VT:=bp 12
abbrev v5:VT:=bp 13
abbrev rJ:VT:=bp 14
abbrev v7:VT:=bp 15
abbrev rK:VT:=L2.inClass (bp 17) 0
abbrev v8:VT:=bp 18
abbrev rL:VT:=bp 19
abbrev v9:VT:=bp 20
abbrev mV:VT:=bp 21
abbrev rM:VT:=bp 22
abbrev rN:VT:=bp 24
abbrev rO:VT:=bp 25
abbrev rP:VT:=bp 26
abbrev rQ:VT:=bp 27
abbrev wa:VT:=bp 28
abbrev rR:VT:=bp 30
abbrev wb:VT:=bp 31
abbrev rS:VT:=bp 32
abbrev rT:VT:=bp 33
abbrev wc:VT:=bp 34
abbrev we:VT:=bp 35
abbrev wg:VT:=bp 37
abbrev wj:VT:=bp 38
abbrev wk:VT:=bp 39
abbrev mW:VT:=bp 40
abbrev wq:VT:=bp 41
abbrev wt:VT:=bp 42
abbrev rV:VT:=bp 43
abbrev wu:VT:=bp 44
abbrev wx:VT:=bp 45
abbrev wy:VT:=bp 46
abbrev rW:VT:=bp 47
abbrev wz:VT:=bp 48
abbrev rX:VT:=bp 49
abbrev jH:VT:=bp 50
abbrev rY:VT:=bp 51
abbrev mX:VT:=bp 52
abbrev mY:VT:=bp 53
abbrev kO:VT:=bp 54
abbrev rZ:VT:=bp 55
abbrev wA:VT:=bp 56
abbrev sd:VT:=bp 57
set_option genInjectivity false in
set_option genSizeOfSpec false in
structure cA where
 a_A:Vy
 d_A:VN
 a_B:Vy
 d_B:VN
 a_C:Vy
 d_C:VN
 a_D:Vy
 d_D:VN
 a_E:Vy
 d_E:VN
 a_F:Vy
 d_F:VN
 a_G:Vy
 d_G:VN
 a_H:Vy
 d_H:VN
 a_I:Vy
 d_I:VN
 a_J:Vy
 d_J:VN
 a_K:Vy
 d_K:VN
 a_L:Vy
 d_L:VN
 a_M:Vy
 d_M:VN
 a_N:Vy
 d_N:VN
 a_O:Vy
 d_O:VN
 a_P:Vy
 d_P:VN
 a_Q:Vy
 d_Q:VN
 a_R:Vy
 d_R:VN
 a_S:Vy
 d_S:VN
 a_T:Vy
 d_T:VN
 a_U:Vy
 d_U:VN
 a_V:Vy
 d_V:VN
 a_W:Vy
 d_W:VN
 a_X:Vy
 d_X:VN
 a_Y:Vy
 d_Y:VN
 a_Z:Vy
 d_Z:VN
 a_a:Vy
 d_a:VN
 a_b:Vy
 d_b:VN
 a_c:Vy
 d_c:VN
 a_d:Vy
 d_d:VN
 a_e:Vy
 d_e:VN
 a_f:Vy
 d_f:VN
 a_g:Vy
 d_g:VN
 a_h:Vy
 d_h:VN
 a_i:Vy
 d_i:VN
 a_j:Vy
 d_j:VN
 a_k:Vy
 d_k:VN
 a_l:Vy
 d_l:VN
 a_m:Vy
 d_m:VN
 a_n:Vy
 d_n:VN
 a_o:Vy
 d_o:VN
 a_p:Vy
 d_p:VN
 a_q:Vy
 d_q:VN
 a_r:Vy
 d_r:VN
 a_s:Vy
 d_s:VN
 a_t:Vy
 d_t:VN
 u_MONTH_DAYS:Vw
 u_FIRST_YEAR:Vw
 u_ROUND_DAYS:Vw
 u_ROUND_YEARS:Vw
 u_NoPaper:Vy
 u_Paper:Vy
structure Txt (K:Nh) (mg:Str->Option Vw) (t:cA):Prop where
 F_A:Fn K mg "is_leap" vV t.a_A t.d_A ["year"]
 F_B:Fn K mg "month_length" vW t.a_B t.d_B ["year","month"]
 F_C:Fn K mg "leaps_before" vX t.a_C t.d_C ["year"]
 F_D:Fn K mg "year_start" vY t.a_D t.d_D ["year"]
 F_E:Fn K mg "year_of" vZ t.a_E t.d_E ["day"]
 F_F:Fn K mg "parts_of" v5 t.a_F t.d_F ["day"]
 F_G:Fn K mg "number_of" rJ t.a_G t.d_G ["year","month","day"]
 F_H:Fn K mg "later" v7 t.a_H t.d_H ["day","many","unit"]
 F_I:Mn K "__init__" "Paper.__init__" rK t.a_I t.d_I ["self","deeds","name"]
 F_J:Fn K mg "place_of" v8 t.a_J t.d_J ["deed"]
 F_K:Fn K mg "comings" rL t.a_K t.d_K ["deeds"]
 F_L:Fn K mg "coming_of" v9 t.a_L t.d_L ["deeds","paper"]
 F_M:Fn K mg "maker_comings" mV t.a_M t.d_M ["deeds","coming"]
 F_N:Fn K mg "makers" rM t.a_N t.d_N ["deeds","paper"]
 F_O:Fn K mg "latest" rN t.a_O t.d_O ["deeds","words","day"]
 F_P:Fn K mg "rules_on" rO t.a_P t.d_P ["deeds","day"]
 F_Q:Fn K mg "happened" rP t.a_Q t.d_Q ["paper","happening"]
 F_R:Fn K mg "base_of" rQ t.a_R t.d_R ["paper","since","day"]
 F_S:Fn K mg "reckoned" wa t.a_S t.d_S ["paper","parts","day"]
 F_T:Fn K mg "rules_over" rR t.a_T t.d_T ["paper","rules","day"]
 F_U:Fn K mg "has_gone" wb t.a_U t.d_U ["gone","paper","day"]
 F_V:Fn K mg "staying" rS t.a_V t.d_V ["paper","rules","day","gone"]
 F_W:Fn K mg "going" rT t.a_W t.d_W ["paper","rules","day","gone"]
 F_X:Fn K mg "stays" wc t.a_X t.d_X ["deeds","day","paper","gone"]
 F_Y:Fn K mg "goes" we t.a_Y t.d_Y ["deeds","day","paper","gone"]
 F_Z:Fn K mg "_law_cell" wg t.a_Z t.d_Z ["_law_script","_law_k"]
 F_a:Fn K mg "_law_purse" wj t.a_a t.d_a ["_law_cell_here"]
 F_b:Fn K mg "_law_take" wk t.a_b t.d_b ["_law_purse_here","_law_many"]
 F_c:Fn K mg "_law_names" mW t.a_c t.d_c ["_law_purse_here","_law_many"]
 F_d:Fn K mg "_law_month" wq t.a_d t.d_d ["_law_year_here","_law_month_here"]
 F_e:Fn K mg "_law_year" wt t.a_e t.d_e ["_law_year_here"]
 F_f:Fn K mg "_law_day" rV t.a_f t.d_f ["_law_year_here","_law_month_here","_law_number"]
 F_g:Fn K mg "_law_later" wu t.a_g t.d_g ["_law_day_here","_law_many","_law_unit"]
 F_h:Fn K mg "_law_drawn_day" wx t.a_h t.d_h ["_law_purse_here","_law_far"]
 F_i:Fn K mg "_law_parts" wy t.a_i t.d_i ["_law_purse_here","_law_word","_law_names_here","_law_kinds","_law_far"]
 F_j:Fn K mg "_law_deed" rW t.a_j t.d_j ["_law_purse_here","_law_word","_law_names_here","_law_kinds","_law_far"]
 F_k:Fn K mg "_law_quarrels" wz t.a_k t.d_k ["_law_one","_law_other"]
 F_l:Fn K mg "_law_deeds" rX t.a_l t.d_l ["_law_script","_law_menu","_law_most"]
 F_m:Fn K mg "_law_web" jH t.a_m t.d_m ["_law_deeds_here"]
 F_n:Fn K mg "_law_standing" rY t.a_n t.d_n ["_law_deeds_here","_law_day_here","_law_word","_law_ending"]
 F_o:Fn K mg "_law_reckoned" mX t.a_o t.d_o ["_law_deeds_here","_law_parts_here","_law_name","_law_day_here","_law_coming"]
 F_p:Fn K mg "_law_called" mY t.a_p t.d_p ["_law_deeds_here","_law_day_here","_law_name","_law_gone"]
 F_q:Fn K mg "_law_days" kO t.a_q t.d_q ["_law_deeds_here"]
 F_r:Fn K mg "_law_same" rZ t.a_r t.d_r ["_law_told","_law_due"]
 F_s:Fn K mg "_law_right" wA t.a_s t.d_s ["_law_deeds_here","_law_day_here","_law_name"]
 F_t:Fn K mg "law" sd t.a_t t.d_t ["_law_script"]
 bt_t:∀(s:Vz)(u:Vw),BindsTo s t.d_t ⟨[u],[]⟩ [("_law_script",u)]
 c_MONTH_DAYS:mg "MONTH_DAYS"=some t.u_MONTH_DAYS
 e_MONTH_DAYS:∃a,t.u_MONTH_DAYS= .ref a/\∀H,br K H a [V.int 31,V.int 28,V.int 31,V.int 30,V.int 31,V.int 30,V.int 31,V.int 31,V.int 30,V.int 31,V.int 30,V.int 31]
 c_FIRST_YEAR:mg "FIRST_YEAR"=some t.u_FIRST_YEAR
 r_FIRST_YEAR:aD (.int 2000) t.u_FIRST_YEAR
 c_ROUND_DAYS:mg "ROUND_DAYS"=some t.u_ROUND_DAYS
 r_ROUND_DAYS:aD (.int 146097) t.u_ROUND_DAYS
 c_ROUND_YEARS:mg "ROUND_YEARS"=some t.u_ROUND_YEARS
 r_ROUND_YEARS:aD (.int 400) t.u_ROUND_YEARS
 c_NoPaper:mg "NoPaper"=some (.ref t.u_NoPaper)
 c_Paper:mg "Paper"=some (.ref t.u_Paper)
 cl_Paper:gO K t.u_Paper
 mk_Paper:Mk K t.u_Paper t.a_I
 na_Paper_name:NoAttr K t.u_Paper "name"
 na_Paper_coming:NoAttr K t.u_Paper "coming"
 na_Paper_kind:NoAttr K t.u_Paper "kind"
 na_Paper_makers:NoAttr K t.u_Paper "makers"
 na_Paper_happenings:NoAttr K t.u_Paper "happenings"
 n_abs:mg "abs"=none
 n_all:mg "all"=none
 n_any:mg "any"=none
 n_bool:mg "bool"=none
 n_dict:mg "dict"=none
 n_divmod:mg "divmod"=none
 n_int:mg "int"=none
 n_isinstance:mg "isinstance"=none
 n_len:mg "len"=none
 n_list:mg "list"=none
 n_max:mg "max"=none
 n_min:mg "min"=none
 n_range:mg "range"=none
 n_set:mg "set"=none
 n_sorted:mg "sorted"=none
 n_str:mg "str"=none
 n_sum:mg "sum"=none
 n_tuple:mg "tuple"=none
theorem KW:aT ["year"] ["year"] (ay vV):= .of
theorem KY:aT ["year","month"] ["year","month"] (ay vW):= .of
theorem Cv:aT ["year","past"] ["year"] (ay vX):= .of
theorem KZ:aT ["year"] ["year"] (ay vY):= .of
theorem Cw:aT ["day","year"] ["day"] (ay vZ):= .of
theorem kP:aT ["day","year","left","month"] ["day"] (ay v5):= .of
theorem Cy:aT ["year","month","day","before"] ["year","month","day"] (ay rJ):= .of
theorem kQ:aT ["day","many","unit","months","parts","place","year","month"] ["day","many","unit"] (ay v7):= .of
theorem Cz:aT ["self","deeds","name","coming"] ["self","deeds","name"] (ay rK):= .of
theorem K0:aT ["deed"] ["deed"] (ay v8):= .of
theorem K1:aT ["deeds"] ["deeds"] (ay rL):= .of
theorem CA:aT ["deeds","paper","deed"] ["deeds","paper"] (ay v9):= .of
theorem CB:aT ["deeds","coming","named"] ["deeds","coming"] (ay mV):= .of
theorem K2:aT ["deeds","paper"] ["deeds","paper"] (ay rM):= .of
theorem se:aT ["deeds","words","day","found","deed","known"] ["deeds","words","day"] (ay rN):= .of
theorem K3:aT ["deeds","day"] ["deeds","day"] (ay rO):= .of
theorem K4:aT ["paper","happening"] ["paper","happening"] (ay rP):= .of
theorem CC:aT ["paper","since","day","days"] ["paper","since","day"] (ay rQ):= .of
theorem CD:aT ["paper","parts","day","base"] ["paper","parts","day"] (ay wa):= .of
theorem K5:aT ["paper","rules","day"] ["paper","rules","day"] (ay rR):= .of
theorem CF:aT ["gone","paper","day","went"] ["gone","paper","day"] (ay wb):= .of
theorem kR:aT ["paper","rules","day","gone","left","calls","rule","parts","due"] ["paper","rules","day","gone"] (ay rS):= .of
theorem kT:aT ["paper","rules","day","gone","away","calls","rule","parts","due"] ["paper","rules","day","gone"] (ay rT):= .of
theorem K6:aT ["deeds","day","paper","gone"] ["deeds","day","paper","gone"] (ay wc):= .of
theorem K7:aT ["deeds","day","paper","gone"] ["deeds","day","paper","gone"] (ay we):= .of
theorem sf:aT ["_law_script","_law_k","_law_state","_law_cell_here"] ["_law_script","_law_k"] (ay wg):= .of
theorem wB:aT ["_law_cell_here","_law_digits"] ["_law_cell_here"] (ay wj):= .of
theorem wC:aT ["_law_purse_here","_law_many","_law_state","_law_digit"] ["_law_purse_here","_law_many"] (ay wk):= .of
theorem kU:aT ["_law_purse_here","_law_many","_law_letters","_law_stem","_law_at","_law_first","_law_step"] ["_law_purse_here","_law_many"] (ay mW):= .of
theorem CG:aT ["_law_year_here","_law_month_here","_law_leap"] ["_law_year_here","_law_month_here"] (ay wq):= .of
theorem CH:aT ["_law_year_here"] ["_law_year_here"] (ay wt):= .of
theorem K8:aT ["_law_year_here","_law_month_here","_law_number"] ["_law_year_here","_law_month_here","_law_number"] (ay rV):= .of
theorem jI:aT ["_law_day_here","_law_many","_law_unit","_law_year_here","_law_month_here","_law_left","_law_months"] ["_law_day_here","_law_many","_law_unit"] (ay wu):= .of
theorem CI:aT ["_law_purse_here","_law_far","_law_year_here","_law_month_here"] ["_law_purse_here","_law_far"] (ay wx):= .of
theorem sj:aT ["_law_purse_here","_law_word","_law_names_here","_law_kinds","_law_far","_law_kind","_law_since","_law_many"] ["_law_purse_here","_law_word","_law_names_here","_law_kinds","_law_far"] (ay wy):= .of
theorem kW:aT ["_law_purse_here","_law_word","_law_names_here","_law_kinds","_law_far","_law_day_here","_law_name","_law_some","_law_kind","_law_target"] ["_law_purse_here","_law_word","_law_names_here","_law_kinds","_law_far"] (ay rW):= .of
theorem CJ:aT ["_law_one","_law_other","_law_sorts"] ["_law_one","_law_other"] (ay wz):= .of
theorem fO:aT ["_law_script","_law_menu","_law_most","_law_head","_law_far","_law_chain","_law_names_here","_law_kinds","_law_words","_law_turn","_law_deeds_here","_law_k","_law_deed_here","_law_day_here"] ["_law_script","_law_menu","_law_most"] (ay rX):= .of
theorem kX:aT ["_law_deeds_here","_law_rows","_law_web_here","_law_name","_law_some","_law_ahead"] ["_law_deeds_here"] (ay jH):= .of
theorem wD:aT ["_law_deeds_here","_law_day_here","_law_word","_law_ending","_law_known","_law_deed_here"] ["_law_deeds_here","_law_day_here","_law_word","_law_ending"] (ay rY):= .of
theorem sk:aT ["_law_deeds_here","_law_parts_here","_law_name","_law_day_here","_law_coming","_law_days_here"] ["_law_deeds_here","_law_parts_here","_law_name","_law_day_here","_law_coming"] (ay mX):= .of
theorem gY:aT ["_law_deeds_here","_law_day_here","_law_name","_law_gone","_law_coming","_law_kind","_law_elders","_law_away","_law_here","_law_stay","_law_leave","_law_deed_here","_law_word","_law_till"] ["_law_deeds_here","_law_day_here","_law_name","_law_gone"] (ay mY):= .of
theorem jJ:aT ["_law_deeds_here","_law_days_here","_law_web_here","_law_found","_law_deed_here","_law_name","_law_some"] ["_law_deeds_here"] (ay kO):= .of
theorem K9:aT ["_law_told","_law_due"] ["_law_told","_law_due"] (ay rZ):= .of
theorem CK:aT ["_law_deeds_here","_law_day_here","_law_name","_law_due"] ["_law_deeds_here","_law_day_here","_law_name"] (ay wA):= .of
theorem iD:aT ["_law_script","_law_menu","_law_deeds_here","_law_names_here","_law_far","_law_days_here","_law_purse_here","_law_turn","_law_day_here"] ["_law_script"] (ay sd):= .of
theorem CL{α:Type}{us:List α}(h:us.length=1):∃a,us=[a]:=List.length_eq_one_iff.mp h
theorem CM{α:Type}{us:List α}(h0:us.length=2):∃a b,us=[a,b]:=by
 cases us with
 | nil=>cases h0
 | cons a us=>
  obtain⟨b,z0⟩:=CL (us:=us) (So h0);exact⟨a,b,by rw [z0]⟩
theorem CN{α:Type}{us:List α}(h0:us.length=3):∃a b c,us=[a,b,c]:=by
 cases us with
 | nil=>cases h0
 | cons a us=>
  obtain⟨b,c,z0⟩:=CM (us:=us) (So h0);exact⟨a,b,c,by rw [z0]⟩
theorem CO{α:Type}{us:List α}(h0:us.length=4):∃a b c d,us=[a,b,c,d]:=by
 cases us with
 | nil=>cases h0
 | cons a us=>
  obtain⟨b,c,d,z0⟩:=CN (us:=us) (So h0);exact⟨a,b,c,d,by rw [z0]⟩
theorem La{α:Type}{us:List α}(h0:us.length=5):∃a b c d p,us=[a,b,c,d,p]:=by
 cases us with
 | nil=>cases h0
 | cons a us=>
  obtain⟨b,c,d,p,z0⟩:=CO (us:=us) (So h0);exact⟨a,b,c,d,p,by rw [z0]⟩
local macro_rules | `(tactic| walk_at "b")=>`(tactic| (intro _ _ _ _ _ _ us hl;first | (cases ls0 (us:=us) hl;rfl) | (obtain⟨a,e⟩:=CL (us:=us) hl;subst e;rfl) | (obtain⟨a,b,e⟩:=CM (us:=us) hl;subst e;rfl) | (obtain⟨a,b,c,e⟩:=CN (us:=us) hl;subst e;rfl) | (obtain⟨a,b,c,d,e⟩:=CO (us:=us) hl;subst e;rfl) | (obtain⟨a,b,c,d,p,e⟩:=La (us:=us) hl;subst e;rfl)))
theorem txt_mk{K:Nh}{h:VQ}{mg:Str->Option Vw}(X:K.In h)(G:h.Ns VR mg)
 {f0 f1 f2 f3 f4 f5 f6 f7 f8 f9 f10 f11 f12 f13 f14 f15 f16 f17 f18 f19 f20 f21 f22 f23 f24 f25 f26 f27 f28 f29 f30 f31 f32 f33 f34 f35 f36 f37 f38 f39 f40 f41 f42 f43 f44 f45:Vy}{e0 e1 e2 e3 e4 e5 e6 e7 e8 e9 e10 e11 e12 e13 e14 e15 e16 e17 e18 e19 e20 e21 e22 e23 e24 e25 e26 e27 e28 e29 e30 e31 e32 e33 e34 e35 e36 e37 e38 e39 e40 e41 e42 e43 e44 e45:VN}
 {u_NoPaper u_Paper:Vy}
 {u_FIRST_YEAR u_ROUND_DAYS u_ROUND_YEARS:Vw}
 {A_MONTH_DAYS:Vy}{dd_MONTH_DAYS:Option Vy}{its_MONTH_DAYS:Array Vw}{n_MONTH_DAYS:Nat}{sl_MONTH_DAYS:Array (Option Vw)}
 (a0:DfT K "is_leap" vV f0 e0)
 (a1:DfT K "month_length" vW f1 e1)
 (a2:DfT K "leaps_before" vX f2 e2)
 (a3:DfT K "year_start" vY f3 e3)
 (a4:DfT K "year_of" vZ f4 e4)
 (a5:DfT K "parts_of" v5 f5 e5)
 (a6:DfT K "number_of" rJ f6 e6)
 (a7:DfT K "later" v7 f7 e7)
 (a8:DmT K u_Paper "__init__" "Paper.__init__" rK f8 e8)
 (a9:DfT K "place_of" v8 f9 e9)
 (a10:DfT K "comings" rL f10 e10)
 (a11:DfT K "coming_of" v9 f11 e11)
 (a12:DfT K "maker_comings" mV f12 e12)
 (a13:DfT K "makers" rM f13 e13)
 (a14:DfT K "latest" rN f14 e14)
 (a15:DfT K "rules_on" rO f15 e15)
 (a16:DfT K "happened" rP f16 e16)
 (a17:DfT K "base_of" rQ f17 e17)
 (a18:DfT K "reckoned" wa f18 e18)
 (a19:DfT K "rules_over" rR f19 e19)
 (a20:DfT K "has_gone" wb f20 e20)
 (a21:DfT K "staying" rS f21 e21)
 (a22:DfT K "going" rT f22 e22)
 (a23:DfT K "stays" wc f23 e23)
 (a24:DfT K "goes" we f24 e24)
 (a25:DfT K "_law_cell" wg f25 e25)
 (a26:DfT K "_law_purse" wj f26 e26)
 (a27:DfT K "_law_take" wk f27 e27)
 (a28:DfT K "_law_names" mW f28 e28)
 (a29:DfT K "_law_month" wq f29 e29)
 (a30:DfT K "_law_year" wt f30 e30)
 (a31:DfT K "_law_day" rV f31 e31)
 (a32:DfT K "_law_later" wu f32 e32)
 (a33:DfT K "_law_drawn_day" wx f33 e33)
 (a34:DfT K "_law_parts" wy f34 e34)
 (a35:DfT K "_law_deed" rW f35 e35)
 (a36:DfT K "_law_quarrels" wz f36 e36)
 (a37:DfT K "_law_deeds" rX f37 e37)
 (a38:DfT K "_law_web" jH f38 e38)
 (a39:DfT K "_law_standing" rY f39 e39)
 (a40:DfT K "_law_reckoned" mX f40 e40)
 (a41:DfT K "_law_called" mY f41 e41)
 (a42:DfT K "_law_days" kO f42 e42)
 (a43:DfT K "_law_same" rZ f43 e43)
 (a44:DfT K "_law_right" wA f44 e44)
 (a45:DfT K "law" sd f45 e45)
 (x_MONTH_DAYS:N5 K VR "MONTH_DAYS"=some (some (.ref A_MONTH_DAYS)))(y_MONTH_DAYS:K.lookup A_MONTH_DAYS=some ⟨.type "tuple",dd_MONTH_DAYS,.seq its_MONTH_DAYS n_MONTH_DAYS,sl_MONTH_DAYS⟩)(z_MONTH_DAYS:aC [V.int 31,V.int 28,V.int 31,V.int 30,V.int 31,V.int 30,V.int 31,V.int 31,V.int 30,V.int 31,V.int 30,V.int 31] its_MONTH_DAYS.toList)(w_MONTH_DAYS:its_MONTH_DAYS.size<=VG)
 (x_FIRST_YEAR:N5 K VR "FIRST_YEAR"=some (some u_FIRST_YEAR))(r_FIRST_YEAR:aD (.int 2000) u_FIRST_YEAR)
 (x_ROUND_DAYS:N5 K VR "ROUND_DAYS"=some (some u_ROUND_DAYS))(r_ROUND_DAYS:aD (.int 146097) u_ROUND_DAYS)
 (x_ROUND_YEARS:N5 K VR "ROUND_YEARS"=some (some u_ROUND_YEARS))(r_ROUND_YEARS:aD (.int 400) u_ROUND_YEARS)
 (x_NoPaper:N5 K VR "NoPaper"=some (some (.ref u_NoPaper)))
 (x_Paper:N5 K VR "Paper"=some (some (.ref u_Paper)))
 (cl_Paper:B9 K u_Paper)
 (na_Paper_name:NoAttr K u_Paper "name")
 (na_Paper_coming:NoAttr K u_Paper "coming")
 (na_Paper_kind:NoAttr K u_Paper "kind")
 (na_Paper_makers:NoAttr K u_Paper "makers")
 (na_Paper_happenings:NoAttr K u_Paper "happenings")
 (n_abs:N5 K VR "abs"=some none)
 (n_all:N5 K VR "all"=some none)
 (n_any:N5 K VR "any"=some none)
 (n_bool:N5 K VR "bool"=some none)
 (n_dict:N5 K VR "dict"=some none)
 (n_divmod:N5 K VR "divmod"=some none)
 (n_int:N5 K VR "int"=some none)
 (n_isinstance:N5 K VR "isinstance"=some none)
 (n_len:N5 K VR "len"=some none)
 (n_list:N5 K VR "list"=some none)
 (n_max:N5 K VR "max"=some none)
 (n_min:N5 K VR "min"=some none)
 (n_range:N5 K VR "range"=some none)
 (n_set:N5 K VR "set"=some none)
 (n_sorted:N5 K VR "sorted"=some none)
 (n_str:N5 K VR "str"=some none)
 (n_sum:N5 K VR "sum"=some none)
 (n_tuple:N5 K VR "tuple"=some none):∃t:cA,Txt K mg t:=by
 refine⟨⟨f0,e0,f1,e1,f2,e2,f3,e3,f4,e4,f5,e5,f6,e6,f7,e7,f8,e8,f9,e9,f10,e10,f11,e11,f12,e12,f13,e13,f14,e14,f15,e15,f16,e16,f17,e17,f18,e18,f19,e19,f20,e20,f21,e21,f22,e22,f23,e23,f24,e24,f25,e25,f26,e26,f27,e27,f28,e28,f29,e29,f30,e30,f31,e31,f32,e32,f33,e33,f34,e34,f35,e35,f36,e36,f37,e37,f38,e38,f39,e39,f40,e40,f41,e41,f42,e42,f43,e43,f44,e44,f45,e45,.ref A_MONTH_DAYS,u_FIRST_YEAR,u_ROUND_DAYS,u_ROUND_YEARS,u_NoPaper,u_Paper⟩,?_⟩;have bl:∀(s:Vz)(u:Vw),BindsTo s e45 ⟨[u],[]⟩ [("_law_script",u)]:=λs v=>by
  obtain⟨oc,od,kV,doc,pm,an,cdv,ct,osl,rfl,_⟩:=a45.F.ex;exact .of_eq rfl
 exact⟨a0.fn X G,a1.fn X G,a2.fn X G,a3.fn X G,a4.fn X G,a5.fn X G,a6.fn X G,a7.fn X G,a8.fn,a9.fn X G,a10.fn X G,a11.fn X G,a12.fn X G,a13.fn X G,a14.fn X G,a15.fn X G,a16.fn X G,a17.fn X G,a18.fn X G,a19.fn X G,a20.fn X G,a21.fn X G,a22.fn X G,a23.fn X G,a24.fn X G,a25.fn X G,a26.fn X G,a27.fn X G,a28.fn X G,a29.fn X G,a30.fn X G,a31.fn X G,a32.fn X G,a33.fn X G,a34.fn X G,a35.fn X G,a36.fn X G,a37.fn X G,a38.fn X G,a39.fn X G,a40.fn X G,a41.fn X G,a42.fn X G,a43.fn X G,a44.fn X G,a45.fn X G,bl,Qq X G x_MONTH_DAYS,⟨A_MONTH_DAYS,rfl,λH=>.inr ⟨_,_,_,y_MONTH_DAYS,rfl,rfl,w_MONTH_DAYS,z_MONTH_DAYS⟩⟩,Qq X G x_FIRST_YEAR,r_FIRST_YEAR,Qq X G x_ROUND_DAYS,r_ROUND_DAYS,Qq X G x_ROUND_YEARS,r_ROUND_YEARS,Qq X G x_NoPaper,Qq X G x_Paper,cl_Paper.c,a8.mkk cl_Paper,na_Paper_name,na_Paper_coming,na_Paper_kind,na_Paper_makers,na_Paper_happenings,N1 X G n_abs,N1 X G n_all,N1 X G n_any,N1 X G n_bool,N1 X G n_dict,N1 X G n_divmod,N1 X G n_int,N1 X G n_isinstance,N1 X G n_len,N1 X G n_list,N1 X G n_max,N1 X G n_min,N1 X G n_range,N1 X G n_set,N1 X G n_sorted,N1 X G n_str,N1 X G n_sum,N1 X G n_tuple⟩
local macro_rules | `(tactic| walk_at "o")=>`(tactic| first | exact SX rfl | exact Rt rfl)
theorem Vt{p:Prop}(h:p:=by walk_at "o"):p:=h
local macro_rules | `(tactic| walk_at "a") =>rzT "xQ xP xT xS xR lF gL eL tC jT x8 rI fV rU yE yF Kj Kk Kl Km Kn yK tB xA xB xC xH xI xJ xN nT yT yS nU yU yV nG lE nF xV xW GW GX GY GZ G0 G1 G2 G3 jU lL jj L2.start Nq OD NF OW NG PZ O8 N4 QP QQ Rx Sq Ry Qp OZ Q2 Qv O5 exists_eq_left' exists_eq_left exists_and_left exists_and_right V.int.injEq V.bl.injEq V.str.injEq V.ref.injEq Ot and_true true_and Sr exists_const decide_eq_true_eq Ss Su RV RW QA decide_eq_false_iff_not and_assoc bJ Rl Rf Rm L2.cxK L2.cmK or_true true_or"
open Day
theorem CP:bb (ay rJ) ["year","month","day","before"] ["other","year"] 1 [0] ⟨Nx,[ (Ni ".0",Xv),(Ni "other",Xv),(Ni "month_length",N3),(Ni "year",Nv)],false,false,[]⟩:= .of
section
variable {P:VL} {w:VP} {K:Nh} {mg:Str->Option Vw} {base:VQ} {t:cA}
def CQ:Sp:=λvs H Q _=>∃(y:Int),vs=[.int y]/\Q (.bl (fK y)) H
theorem Lb(T:Txt K mg t):aH P w K mg base CX0 1 t.a_A t.d_A ["year"] CQ:=by
 refine T.F_A.F.ok KW (λvs H Q E h=>?_) (λcdv A outer s H vs Q E hr h=>?_)
 ·obtain⟨y,rfl,_⟩:=h;rfl
 ·obtain⟨y,rfl,k⟩:=h;refine⟨_,(dF (d3 (xM (nP lM (aZ d4 (pv 0) aR) aR (au _)) (sT (xK (nP lM (aZ d4 (pv 0) aR) aR (au _)) (sT (nP FD (aZ d4 (pv 0) aR) aR (au _)))))))),?_⟩;walk_at "a";have e:fK y=(decide (y % 400=0) || (decide (y % 4=0) && !decide (y % 100=0))):=rfl;rw [e] at k;by_cases h1:y % 400=0
  ·simpa [h1] using k
  ·by_cases h2:y % 4=0
   ·simpa [h1,h2] using k
   ·simpa [h1,h2] using k
def CS:Sp:=λvs H Q _=>∃(y m:Int),vs=[.int y,.int m]/\1<=m/\m<=12/\Q (.int (aQ y m)) H
theorem wF(T:Txt K mg t):aH P w K mg base CX0 2 t.a_B t.d_B ["year","month"] CS:=by
 have G_A:=@Lb P w _ _ base _ T;refine T.F_B.F.ok KY (λvs H Q E h=>?_) (λcdv A outer s H vs Q E hr h=>?_)
 ·obtain⟨y,m,rfl,_⟩:=h;rfl
 ·obtain⟨y,m,rfl,h1,h2,k⟩:=h;obtain⟨a,ea,hM⟩:=T.e_MONTH_DAYS;have T_r:aD (.ref a) t.u_MONTH_DAYS:=ea;refine⟨_,(cx (ji (PW.pt (xF (gN lM (pv 1) aR (au _)) (xD (xy (dQ G_A (hr.mono Vp) rfl T.F_A (bf (pv 0) bR)))))) (dF (d3 aR)) jh)
   (dF (d3 (gb av (jS rfl T.c_MONTH_DAYS T_r) (aZ cM (pv 1) aR) (λ_ _=>rfl))))),?_⟩
  walk_at "a";simp only [CQ];walk_at "a";have fin:∀{v:Int},v=aQ y m->Q (.int v) H:=λe=>by rw [e];exact k
  have tail:aQ y m=vp.getD (m - 1).toNat 0->nX K (.ref a) (.int (m - 1)) H Q:=λe=>by
   refine⟨a,_,m - 1,.int (aQ y m),rfl,rfl,hM H,?_,k⟩;rw [e];rcases qQ h1 h2 with z | z | z | z | z | z | z | z | z | z | z | z <;> subst z <;> rfl
  by_cases hm:m=2
  ·rw [Vs hm];by_cases hl:fK y=true
   ·rw [Vs hl];exact fin (by unfold aQ;rw [Vs ⟨hm,hl⟩])
   ·rw [Vr hl];exact tail (by unfold aQ;rw [Vr (λz=>hl z.2)])
  ·rw [Vr hm];exact tail (vv hm)
def CT:Sp:=λvs H Q _=>∃(y:Int),vs=[.int y]/\Q (.int (lb y)) H
theorem Lc(T:Txt K mg t):aH P w K mg base CX0 1 t.a_C t.d_C ["year"] CT:=by
 refine T.F_C.F.ok Cv (λvs H Q E h=>?_) (λcdv A outer s H vs Q E hr h=>?_)
 ·obtain⟨y,rfl,_⟩:=h;rfl
 ·obtain⟨y,rfl,k⟩:=h;refine⟨_,(cx (cY (i:=1) Cv.nd rfl Vt (aZ cM (pv 0) aR))
   (dF (d3 (aZ bt (aZ cM (aZ fW (pv 1) aR) (aZ fW (pv 1) aR)) (aZ fW (pv 1) aR))))),?_⟩
  walk_at "a";exact k
def sq:Sp:=λvs H Q _=>∃(y:Int),vs=[.int y]/\Q (.int (bA y)) H
theorem wG(T:Txt K mg t):aH P w K mg base CX0 2 t.a_D t.d_D ["year"] sq:=by
 have G_C:=@Lc P w _ _ base _ T;refine T.F_D.F.ok KZ (λvs H Q E h=>?_) (λcdv A outer s H vs Q E hr h=>?_)
 ·obtain⟨y,rfl,_⟩:=h;rfl
 ·obtain⟨y,rfl,k⟩:=h;refine⟨_,(dF (d3 (aZ cM (aZ bt (aZ eM aR (aZ cM (pv 0) (jS rfl T.c_FIRST_YEAR T.r_FIRST_YEAR))) (dQ G_C (hr.mono Vp) rfl T.F_C (bf (pv 0) bR))) (dQ G_C (hr.mono Vp) rfl T.F_C (bf (jS rfl T.c_FIRST_YEAR T.r_FIRST_YEAR) bR))))),?_⟩;walk_at "a";simp only [CT];walk_at "a";exact k
def CU:Sp:=λvs H Q _=>∃(d:Int),vs=[.int d]/\Q (.int (kF d)) H
theorem Ld(T:Txt K mg t):aH P w K mg base CX0 3 t.a_E t.d_E ["day"] CU:=by
 have G_D:=@wG P w _ _ base _ T;refine T.F_E.F.ok Cw (λvs H Q E h=>?_) (λcdv A outer s H vs Q E hr h=>?_)
 ·obtain⟨d,rfl,_⟩:=h;rfl
 ·obtain⟨d,rfl,k⟩:=h;refine⟨_,(cx (cY (i:=1) Cw.nd rfl Vt (aZ bt (jS rfl T.c_FIRST_YEAR T.r_FIRST_YEAR) (aZ fW (aZ eM (pv 0) (jS rfl T.c_ROUND_YEARS T.r_ROUND_YEARS)) (jS rfl T.c_ROUND_DAYS T.r_ROUND_DAYS))))
   (cx (ji (gN lN (dQ G_D (hr.mono Vp) rfl T.F_D (bf (pv 1) bR)) (pv 0) (au _)) (dF (d3 (aZ cM (pv 1) aR))) jh)
   (cx (ji (gN fX (dQ G_D (hr.mono Vp) rfl T.F_D (bf (aZ bt (pv 1) aR) bR)) (pv 0) (au _)) (dF (d3 (aZ bt (pv 1) aR))) jh)
   (dF (d3 (pv 1)))))),?_⟩
  walk_at "a";simp only [sq];walk_at "a";unfold kF at k;split
  ·rename_i h;rw [Vs h] at k;exact k
  ·rename_i h;rw [Vr h] at k;split
   ·rename_i h;rw [Vs h] at k;exact k
   ·rename_i h;rw [Vr h] at k;exact k
def Le:Sp:=λvs H Q _=>∃(d:Int),vs=[.int d]/\∀(p:Vy)(H':Hp)(y m n:Int),iA d y m n->ao H H'->H p=none->H' p=some (.tup [.int y,.int m,.int n])->Q (.ref p) H'
theorem Lf(T:Txt K mg t):aH P w K mg base CX0 4 t.a_F t.d_F ["day"] Le:=by
 have G_E:=@Ld P w _ _ base _ T;have G_D:=@wG P w _ _ base _ T;have G_B:=@wF P w _ _ base _ T;refine T.F_F.F.ok kP (λvs H Q E h=>?_) (λcdv A outer s H vs Q E hr h=>?_)
 ·obtain⟨d,rfl,_⟩:=h;rfl
 ·obtain⟨d,rfl,k⟩:=h;refine⟨_,(cx (cY (i:=1) kP.nd rfl Vt (dQ G_E (hr.mono Vp) rfl T.F_E (bf (pv 0) bR)))
   (cx (cY (i:=2) kP.nd rfl Vt (aZ cM (pv 0) (dQ G_D (hr.mono Vp) rfl T.F_D (bf (pv 1) bR))))
   (cx (cY (i:=3) kP.nd rfl Vt aR)
   (cx (xY Ov (gN tw (pv 2) (dQ G_B (hr.mono Vp) rfl T.F_B (bf (pv 1) (bf (pv 3) bR))) (au _)) (cx (cY (i:=2) kP.nd rfl Vt (aZ cM (pv 2) (dQ G_B (hr.mono Vp) rfl T.F_B (bf (pv 1) (bf (pv 3) bR)))))
   (dF (cY (i:=3) kP.nd rfl Vt (aZ bt (pv 3) aR)))))
   (dF (d3 (yW (bf (pv 1) (bf (pv 3) (bf (aZ bt (pv 2) aR) bR)))))))))),?_⟩
  walk_at "a";simp only [CU];walk_at "a";simp only [sq];walk_at "a";have yo:=JW d;generalize kF d=y at*;refine⟨λm σ H'=>H'=H/\∃mo:Int,1<=mo/\mo<=12/\aG y mo<=d - bA y/\m=(12 - mo).toNat/\σ=[some (.int d),some (.int y),some (.int (d - bA y - aG y mo)),some (.int mo)],⟨11,rfl,1,Vp,Vp,?_,rfl,?_⟩,?_⟩
  ·rw [mQ];omega
  ·rw [mQ];simp
  ·rintro m σ H' ⟨rfl,mo,h1,h2,hb,rfl,rfl⟩;walk_at "a";simp only [CS];walk_at "a";refine⟨h1,h2,?_⟩;have ys:=vt y;have ba:=qS (y:=y) h1 h2;split
   ·rename_i hge;have lt12:mo < 12:=by
     by_cases z:mo < 12
     ·exact z
     ·have e:mo=12:=Vq
      subst e;have:=(qR y);have:=mP y;omega
    refine⟨_,λ_ _ h=>h,h1,h2,(12 - (mo+1)).toNat,Vq,rfl,mo+1,Vq,Vq,?_,rfl,?_⟩
    ·rw [di h1];omega
    ·rw [di h1,show d - bA y - (aG y mo+aQ y mo)=d - bA y - aG y mo - aQ y mo by omega]
   ·rename_i hlt;refine⟨by show 3<=VG;decide,λp hp=>?_⟩;refine k p _ y mo (d - bA y - aG y mo+1) ⟨h1,h2,Vq,Vq,by unfold fL;omega⟩ (ao.new hp) hp aW
def Lg:Sp:=λvs H Q _=>∃(y m n:Int),vs=[.int y,.int m,.int n]/\1<=m/\m<=12/\∀H',ao H H'->Q (.int (fL y m n)) H'
theorem Lh(T:Txt K mg t):aH P w K mg base CX0 3 t.a_G t.d_G ["year","month","day"] Lg:=by
 have G_D:=@wG P w _ _ base _ T;have G_B:=@wF P w _ _ base _ T;refine T.F_G.F.ok Cy (λvs H Q E h=>?_) (λcdv A outer s H vs Q E hr h=>?_)
 ·obtain⟨y,m,n,rfl,_⟩:=h;rfl
 ·obtain⟨y,m,n,rfl,h1,h2,k⟩:=h;refine⟨_,(cx (cY (i:=3) Cy.nd rfl Vt (bS (Ap rfl) rfl T.n_sum S8 (bf (lR rfl CP (x6 rfl T.n_range (bf aR (bf (pv 1) bR))) (λ_ _ _ _=>(aN (i:=0) CP.nd rfl Vt)) (λ_ _ _ _=>An) (λ_ _ _ _=>(dQ G_B (hr.mono Vp) rfl T.F_B (bf (pv 1) (bf (pv 0) bR))))) bR)))
   (dF (d3 (aZ cM (aZ bt (aZ bt (dQ G_D (hr.mono Vp) rfl T.F_D (bf (pv 0) bR)) (pv 3)) (pv 2)) aR)))),?_⟩
  walk_at "a";refine⟨Vq,Vq,?_⟩;refine G4 (λi=>.int (aQ y (1+(i:Int)))) Vq (λi H' R hi s1 hR=>?_) (λD H' hD s1 e1=>?_)
  ·walk_at "a";exact⟨_,_,rfl,Vq,Vq,hR H' (ao.refl _)⟩
  ·refine⟨D,rfl,(OA (m - 1).toNat).map λ(i:Nat)=>aQ y (1+(i:Int)),aL.of (by rw [e1,NO];rfl),?_⟩;simp only [sq];walk_at "a";exact k H' s1
def gZ(u:Str):Prop:=u="days"\/u="months"\/u="years"
def iE(d k:Int)(u:Str)(r:Int):Prop:=(u="days"/\r=d+k)\/(u="months"/\∃y m n,iA d y m n/\r=kG y m n k)\/(u="years"/\∃y m n,iA d y m n/\r=kG y m n (k*12))
theorem CV:¬(("months":Str)="days"):=cp
theorem CW:¬(("years":Str)="days"):=cp
theorem CY:¬(("months":Str)="years"):=cp
def Li:Sp:=λvs H Q _=>∃(d k:Int)(u:Str),vs=[.int d,.int k,.str u]/\gZ u/\∀r H',iE d k u r->ao H H'->Q (.int r) H'
theorem Lj(T:Txt K mg t):aH P w K mg base CX0 5 t.a_H t.d_H ["day","many","unit"] Li:=by
 have G_F:=@Lf P w _ _ base _ T;have G_B:=@wF P w _ _ base _ T;have G_G:=@Lh P w _ _ base _ T;refine T.F_H.F.ok kQ (λvs H Q E h=>?_) (λcdv A outer s H vs Q E hr h=>?_)
 ·obtain⟨d,k,u,rfl,_⟩:=h;rfl
 ·obtain⟨d,mk,u,rfl,hu,k⟩:=h;refine⟨_,(cx (ji (gN lM (pv 2) sR (au _)) (dF (d3 (aZ bt (pv 0) (pv 1)))) jh)
   (cx (cY (i:=3) kQ.nd rfl Vt (xO (gN lM (pv 2) sR (au _)) (aZ eM (pv 1) aR) (pv 1)))
   (cx (cY (i:=4) kQ.nd rfl Vt (dQ G_F (hr.mono Vp) rfl T.F_F (bf (pv 0) bR)))
   (cx (cY (i:=5) kQ.nd rfl Vt (aZ bt (aZ cM (aZ bt (aZ eM (gb av (pv 4) aR (λ_ _=>rfl)) aR) (gb av (pv 4) aR (λ_ _=>rfl))) aR) (pv 3)))
   (cx (cY (i:=6) kQ.nd rfl Vt (aZ fW (pv 5) aR))
   (cx (cY (i:=7) kQ.nd rfl Vt (aZ bt (aZ d4 (pv 5) aR) aR))
   (dF (d3 (dQ G_G (hr.mono Vp) rfl T.F_G (bf (pv 6) (bf (pv 7) (bf (bS (tD rfl) rfl T.n_min QF (bf (gb av (pv 4) aR (λ_ _=>rfl)) (bf (dQ G_B (hr.mono Vp) rfl T.F_B (bf (pv 6) (bf (pv 7) bR))) bR))) bR)))))))))))),?_⟩
  walk_at "a";by_cases hd:u="days"
  ·rw [Vs hd];exact k _ H (.inl ⟨hd,rfl⟩) (ao.refl _)
  ·rw [Vr hd];by_cases hy:u="years"
   ·rw [Vs hy];refine⟨d,rfl,λp H' y m n D s1 _ e1=>?_⟩;refine j3 (br.of e1) rfl ⟨y,rfl,j3 (br.of e1) rfl ⟨m,rfl,j3 (br.of e1) rfl ?_⟩⟩;refine⟨_,_,rfl,Vq,Vq,n,rfl,_,rfl,_,_,_,rfl,Vq,Vq,λH2 s2=>?_⟩;exact k _ H2 (.inr (.inr ⟨hy,y,m,n,D,by unfold kG;rw [tS]⟩)) (s1.trans s2)
   ·rw [Vr hy];have hm:u="months":=by rcases hu with z | z | z;exact absurd z hd;exact z;exact absurd z hy
    refine⟨d,rfl,λp H' y m n D s1 _ e1=>?_⟩;refine j3 (br.of e1) rfl ⟨y,rfl,j3 (br.of e1) rfl ⟨m,rfl,j3 (br.of e1) rfl ?_⟩⟩;refine⟨_,_,rfl,Vq,Vq,n,rfl,_,rfl,_,_,_,rfl,Vq,Vq,λH2 s2=>?_⟩;exact k _ H2 (.inr (.inl ⟨hm,y,m,n,D,by unfold kG;rw [tS]⟩)) (s1.trans s2)
def F_H:List Vv->(Vv->Prop)->Prop:=λds Q=>∃(d i:Int)(u:Str),ds=[.int d,.int i,.str u]/\gZ u/\∀r,iE d i u r->Q (.int r)
theorem Lk(T:Txt K mg t):aH P w K mg base CX0 5 t.a_H t.d_H ["day","many","unit"] (aX K F_H):=
 (Lj T).imp λvs H Q E uu63=>by
  obtain⟨O,ds,Qd,tr,hs,⟨d,i,u,e,hu,q⟩,k⟩:=uu63;subst e;cases hs with
  | cons a r=>cases r with
   | cons b r=>cases r with
    | cons c r=>cases r;cases a;cases b;cases c;exact⟨d,i,u,rfl,hu,λz H' L s1=>k _ _ H' (q z L) s1 (.int _)⟩
theorem Ll{d k:Int}{u:Str}{r r':Int}(h:iE d k u r)(h':iE d k u r'):r=r':=by
 rcases h with⟨e,h⟩ | ⟨e,y,m,n,D,h⟩ | ⟨e,y,m,n,D,h⟩ <;> rcases h' with⟨e',h'⟩ | ⟨e',y',m',n',D',h'⟩ | ⟨e',y',m',n',D',h'⟩
 ·rw [h,h']
 ·exact absurd (e'.symm.trans e) CV
 ·exact absurd (e'.symm.trans e) CW
 ·exact absurd (e.symm.trans e') CV
 ·obtain⟨rfl,rfl,rfl⟩:=D.uniq D';rw [h,h']
 ·exact absurd (e.symm.trans e') CY
 ·exact absurd (e.symm.trans e') CW
 ·exact absurd (e'.symm.trans e) CY
 ·obtain⟨rfl,rfl,rfl⟩:=D.uniq D';rw [h,h']
end
structure Pp where
 d:Int
 nm:Str
 kd:Str
 ms:List Str
def Pp.enc(p:Pp):Vv:= .tuple [.str (Ng "paper"),.int p.d,.str p.nm,.str p.kd,.tuple (p.ms.map .str)]
def Pp.key(p:Pp):Int×Str:=(p.d,p.nm)
def jd:Vv->Int×Str
 | .tuple (_:: .int d:: .str n::_)=>(d,n)
 | _=>(0,Ng "")
def Pp.lt(a b:Pp):Prop:=aI a.key b.key=true
instance (a b:Pp):Decidable (a.lt b):=by unfold Pp.lt;infer_instance
theorem CZ(p:Int×Str):aI p p=false:=by unfold aI;simp [List.lt_irrefl]
theorem wH{a b c:Int×Str}(h1:aI a b=true)(h2:aI b c=true):aI a c=true:=by
 unfold aI at h1 h2⊢;simp only [PN,Oq,decide_eq_true_eq] at h1 h2⊢;rcases h1 with h1 | ⟨h1,h1'⟩ <;> rcases h2 with h2 | ⟨h2,h2'⟩
 ·left;omega
 ·left;omega
 ·left;omega
 ·right;exact⟨h1.trans h2,UW h1' h2'⟩
theorem sr{a b:Int×Str}(h:aI a b=true):¬aI b a=true:=λz=>by
 have:=wH h z;rw [CZ] at this;cases this
theorem C0{a b:Int×Str}(h:a≠b):aI a b=true\/aI b a=true:=by
 have T:=Bx (n:=2) (kp:=λi=>if i=0 then a else b) (λi j hi hj e=>by
  have:i=0\/i=1:=Vq
  have:j=0\/j=1:=Vq
  rcases ‹i=0\/i=1› with rfl | rfl <;> rcases ‹j=0\/j=1› with rfl | rfl
  ·rfl
  ·exact absurd e h
  ·exact absurd e.symm h
  ·rfl)
 have:=T.tot 0 1 Vq Vq Vq;simp at this;cases hb:aI b a with
 | true=>exact .inr rfl
 | false=>rw [hb] at this;exact .inl (by simpa using this)
theorem Pp.lt_tr{a b c:Pp}(h1:a.lt b)(h2:b.lt c):a.lt c:=wH h1 h2
theorem kY{α:Type}{r:α->α->Prop}(as:∀a b,r a b->¬r b a):∀{l1 l2:List α},l1.Perm l2->l1.Pairwise r->l2.Pairwise r->l1=l2
 | [],l2,p,_,_=>by rw [p.nil_eq]
 | a::l1,[],p,_,_=>by have:=p.length_eq;simp at this
 | a::l1,b::l2,p,h1,h2=>by
  have e:a=b:=by
   have m1:a∈b::l2:=p.mem_iff.mp Vu;have m2:b∈a::l1:=p.mem_iff.mpr Vu;rcases Ny.mp m1 with e | m1
   ·exact e
   ·rcases Ny.mp m2 with e | m2
    ·exact e.symm
    ·exact absurd ((Og.mp h1).1 b m2) (as _ _ ((Og.mp h2).1 a m1))
  subst e;rw [kY as ((List.perm_cons a).mp p) (Og.mp h1).2 (Og.mp h2).2]
def kZ(x:Pp):List Pp->List Pp
 | []=>[x]
 | y::l=>if x.lt y then x::y::l else y::kZ x l
def fz(ps:List Pp):List Pp:=ps.foldr kZ []
theorem wI(x:Pp):∀l,(kZ x l).Perm (x::l)
 | []=>.refl _
 | y::l=>by
  unfold kZ;split
  ·exact .refl _
  ·exact((wI x l).cons y).trans (.swap x y l)
theorem jK:∀ps:List Pp,(fz ps).Perm ps
 | []=>.refl _
 | x::ps=>(wI x (fz ps)).trans ((jK ps).cons x)
theorem C1{x:Pp}:∀{l:List Pp},(∀y∈l,y.nm≠x.nm)->l.Pairwise Pp.lt->(kZ x l).Pairwise Pp.lt
 | [],_,_=>SE _ _
 | y::l,hn,h=>by
  have hp:=Og.mp h;unfold kZ;split
  ·rename_i hl;refine Og.mpr ⟨λz hz=>?_,h⟩;rcases Ny.mp hz with e | e
   ·subst e;exact hl
   ·exact Pp.lt_tr hl (hp.1 z e)
  ·rename_i hl;refine Og.mpr ⟨λz hz=>?_,C1 (λz hz=>hn z (by simp [hz])) hp.2⟩;rcases Ny.mp ((wI x l).mem_iff.mp hz) with e | e
   ·subst e;rcases C0 (a:=y.key) (b:=z.key) (λz=>hn y Vu (congrArg U9 z)) with w | w
    ·exact w
    ·exact absurd w hl
   ·exact hp.1 z e
theorem mZ:∀{ps:List Pp},(ps.map (·.nm)).Nodup->(fz ps).Pairwise Pp.lt
 | [],_=>.nil
 | x::ps,h=>by
  rw [Nq,OX] at h;exact C1 (λy hy e=>h.1 (by rw [<-e];exact NC.mpr ⟨y,(jK ps).mem_iff.mp hy,rfl⟩)) (mZ h.2)
theorem su{ps:List Pp}{x:Pp}:x∈fz ps↔x∈ps:=(jK ps).mem_iff
theorem Lm{ps:List Pp}:(fz ps).length=ps.length:=(jK ps).length_eq
theorem Pp.asym(a b:Pp)(h:a.lt b):¬b.lt a:=sr h
theorem Ln{ps os:List Pp}(nd:(ps.map (·.nm)).Nodup)(hp:os.Perm ps)(hs:os.Pairwise Pp.lt):os=fz ps:=
 kY Pp.asym (hp.trans (jK ps).symm) hs (mZ nd)
theorem wJ{ps:List Pp}{f:Pp->Bool}(nd:(ps.map (·.nm)).Nodup):((ps.filter f).map (·.nm)).Nodup:=nd.sublist (O6.map _)
theorem C2{ps:List Pp}{f:Pp->Bool}(nd:(ps.map (·.nm)).Nodup):fz (ps.filter f)=(fz ps).filter f:=
 (Ln (wJ nd) ((jK ps).filter f) ((mZ nd).sublist O6)).symm
theorem Lo{ps:List Pp}{ds:List Vv}(nd:(ps.map (·.nm)).Nodup)(hp:ds.Perm (ps.map Pp.enc))(hs:ds.Pairwise λa b=>aI (jd a) (jd b)=true):ds=(fz ps).map Pp.enc:=by
 refine kY (λa b h=>sr h) (hp.trans ((jK ps).symm.map _)) hs ?_;rw [Oj];exact mZ nd
theorem C3{ps:List Pp}(nd:(ps.map (·.nm)).Nodup){a b:Pp}(ha:a∈ps)(hb:b∈ps)(e:a.nm=b.nm):a=b:=by
 induction ps with
 | nil=>cases ha
 | cons x ps ih=>
  rw [Nq,OX] at nd;rcases Ny.mp ha with ea | ha1 <;> rcases Ny.mp hb with eb | hb1
  ·rw [ea,eb]
  ·subst ea;exact absurd (NC.mpr ⟨b,hb1,e.symm⟩) nd.1
  ·subst eb;exact absurd (NC.mpr ⟨a,ha1,e⟩) nd.1
  ·exact ih nd.2 ha1 hb1
structure k6 (ps:List Pp):Prop where
 ln:ps.length<=41
 nd:(ps.map (·.nm)).Nodup
 nm:∀p∈ps,Nw p.nm=true
 kd:∀p∈ps,Nw p.kd=true
 ms:∀p∈ps,(∀m∈p.ms,Nw m=true)/\p.ms.length<=50
theorem k6.filter{ps:List Pp}(g:k6 ps)(f:Pp->Bool):k6 (ps.filter f):=
 ⟨NP (Oa _ _) g.ln,wJ g.nd,λp hp=>g.nm p (NR.mp hp).1,λp hp=>g.kd p (NR.mp hp).1,λp hp=>g.ms p (NR.mp hp).1⟩
def nc(c p:Pp):Bool:=c.ms.contains p.nm && aI p.key c.key
def cR(ps:List Pp)(c:Pp):List Pp:=(fz ps).filter (nc c)
inductive De where
 | pap (p:Pp)
 | oth (w:Str) (d:Int) (nm:Str) (r:List Vv)
def De.enc:De->Vv
 | .pap p=>p.enc
 | .oth w d nm r=>.tuple (.str w:: .int d:: .str nm::r)
def De.w:De->Str
 | .pap _=>Ng "paper"
 | .oth w _ _ _=>w
def De.d:De->Int
 | .pap p=>p.d
 | .oth _ d _ _=>d
def De.nm:De->Str
 | .pap p=>p.nm
 | .oth _ _ nm _=>nm
def De.pp:De->Option Pp
 | .pap p=>some p
 | _=>none
def aK(xs:List De):List Pp:=xs.filterMap De.pp
structure je (xs:List De):Prop where
 gp:k6 (aK xs)
 np:∀w d nm r,De.oth w d nm r∈xs->w≠Ng "paper"
 ln:xs.length<=41
 w:∀x∈xs,Nw x.w=true
 nm:∀x∈xs,Nw x.nm=true
theorem sA{xs:List De}{p:Pp}:p∈aK xs↔De.pap p∈xs:=by
 unfold aK;rw [Qs];constructor
 ·rintro⟨x,hx,e⟩;cases x with
  | pap q=>cases e;exact hx
  | oth w d nm r=>cases e
 ·intro h;exact⟨_,h,rfl⟩
theorem C4(ps:List Pp):aK (ps.map De.pap)=ps:=by
 unfold aK;rw [TR];exact List.filterMap_some
theorem Lp(ps:List Pp):ps.map Pp.enc=(ps.map De.pap).map De.enc:=by rw [NO];rfl
theorem Lq:Nw (Ng "paper")=true:=cp
theorem je.of{ps:List Pp}(g:k6 ps):je (ps.map De.pap):=by
 refine⟨by rw [C4];exact g,λw d nm r h=>?_,by rw [Nj];exact g.ln,λx hx=>?_,λx hx=>?_⟩
 ·obtain⟨p,_,e⟩:=NC.mp h;cases e
 ·obtain⟨p,_,rfl⟩:=NC.mp hx;exact Lq
 ·obtain⟨p,hp,rfl⟩:=NC.mp hx;exact g.nm p hp
local macro_rules | `(tactic| walk_at "d") =>do let a <- rzT "gu Nq OD NF OW QP QQ NG PZ O8"; let b <- rzT rzS; `(tactic| ((try $a:tactic); $b:tactic))
theorem C5:bb (ay rL) ["deeds"] ["deed"] 1 [] ⟨Nx,[(Ni ".0",Xv),(Ni "deed",Xv)],false,false,[]⟩:= .of
theorem C6:bb (ay mV) ["deeds","coming","named"] ["deed","coming"] 1 [1] ⟨Nx,[ (Ni ".0",Xv),(Ni "deed",Xv),(Ni "coming",Nv)],false,false,[]⟩:= .of
theorem C7:bb (ay mV) ["deeds","coming","named"] ["deed","coming"] 1 [1] ⟨Nx,[ (Ni ".0",Xv),(Ni "deed",Xv),(Ni "place_of",N3),(Ni "coming",Nv)],false,false,[]⟩:= .of
theorem C8:bb (ay rM) ["deeds","paper"] ["deed"] 1 [] ⟨Nx,[(Ni ".0",Xv),(Ni "deed",Xv)],false,false,[]⟩:= .of
section
variable {P:VL} {w:VP} {K:Nh} {mg:Str->Option Vw} {base:VQ} {t:cA}
theorem cG{α:Type}{enc:α->Vv}{g:DG}{tc:DB}{te:DT}{δ0:Dl}{xs:List α}{Q:List Vv->Prop}(p:α->Bool)(f:α->Vv)
 (h:∀x∈xs,∀(R:Vv->Prop) (S:Prop),(if p x=true then R (f x) else S)->g (enc x) δ0 λδ2=>tc δ2 λok=>if ok=true then te δ2 R else S)(q:Q ((xs.filter p).map f)):fu g tc te δ0 (xs.map enc) Q:=by
 refine⟨λi acc=>acc=((xs.take i).filter p).map f,rfl,?_,?_⟩
 ·rintro i z acc hz rfl;rw [NK] at hz;cases hz':xs[i]? with
  | none=>rw [hz'] at hz;cases hz
  | some x=>
   rw [hz'] at hz;cases hz;refine h x (NT hz') (λy=>((xs.take i).filter p).map f++[y]=((xs.take (i+1)).filter p).map f) (((xs.take i).filter p).map f=((xs.take (i+1)).filter p).map f) ?_;rw [Ox,hz'];by_cases e:p x=true
   ·rw [Vs e];simp [e]
   ·rw [Vr e];simp [e]
 ·rintro acc rfl;rw [Nj,NI (Np _)];exact q
theorem C9{α:Type}{enc:α->Vv}{g:DG}{tc:DB}{te:DT}{δ0:Dl}{xs:List α}{Q:List Vv->Prop}(p:α->Bool)(f:α->Vv)
 (h:∀x∈xs,∀(R:Vv->Prop) (S:Prop),(p x=true->R (f x))->(p x=false->S)->g (enc x) δ0 λδ2=>tc δ2 λok=>if ok=true then te δ2 R else S)(q:Q ((xs.filter p).map f)):fu g tc te δ0 (xs.map enc) Q:=
 cG p f (λx hx R S z=>h x hx R S (λe=>by rw [Vs e] at z;exact z) (λe=>by rw [Vr (by rw [e];exact Nt)] at z;exact z)) q
theorem k7{α:Type}(l:List α):l.filter (λ_=>true)=l:=List.filter_eq_self.mpr λ_ _=>rfl
theorem bY{a b:Str}(h:a≠b):(a==b)=false:=by simpa using h
theorem Lr{ws:List Str}{w:Str}:((ws.map Nl).any λd=>NJ d (.str w))=ws.contains w:=by
 induction ws with
 | nil=>rfl
 | cons a ws ih=>
  rw [Nq,Pc,ih,iu,List.contains_cons];congr 1;by_cases h:a=w
  ·simp [h]
  ·rw [bY h,bY (Ne.symm h)]
theorem Dc{ms:List Str}(h:∀m∈ms,Nw m=true):OJ (ms.map .str)=true:=(uf (n:=1) (uz h)).1
def eV(f:Pp->Bool):De->Bool
 | .pap p=>f p
 | _=>false
theorem ng{f:Pp->Bool}:∀xs:List De,(xs.filter (eV f)).map De.enc=((aK xs).filter f).map Pp.enc
 | []=>rfl
 | .pap p::xs=>by
  have ih:=ng (f:=f) xs;show _=(SV f (p::aK xs)).map Pp.enc;rw [Ow,Ow];by_cases h:f p=true
  ·rw [Vs h,Vs (show eV f (.pap p)=true from h),Nq,Nq,ih];rfl
  ·rw [Vr h,Vr (show ¬eV f (.pap p)=true from h),ih]
 | .oth w d nm r::xs=>by
  have ih:=ng (f:=f) xs;show _=(SV f (aK xs)).map Pp.enc;rw [Ow,Vr (show ¬eV f (.oth w d nm r)=true from Nt),ih]
def wK:List Vv->(Vv->Prop)->Prop:=λds Q=>∃p:De,ds=[p.enc]/\Q (cg (p.d,p.nm))
theorem Dd(T:Txt K mg t):aH P w K mg base CX0 1 t.a_J t.d_J ["deed"] (aX K wK):=by
 refine T.F_J.F.okD K0 (λds Q h=>?_) (λ_ _ _ _ H O ds Q E hr h=>?_)
 ·obtain⟨p,rfl,_⟩:=h;rfl
 ·obtain⟨p,rfl,q⟩:=h;refine'⟨_,?A,?B⟩
  case A=>
   refine' ax ?C
   case' C=>refine' aM ?D
   case' D=>refine' bC ?E
   case' E=>refine' aa ?F ?G
   case F=>exact(aq av az (dv 0) ag)
   case' G=>refine' aa ?H ah
   case H=>exact(aq av az (dv 0) ag)
  case B=>
  clear hr T;cases p <;> simp only [De.enc,Pp.enc] <;> walk_at "d" <;> exact q
theorem Lu{d:Vv}{ps:List Pp}(h:d∈ps.map Pp.enc)(R:Vv->Prop)(q:R (cg (jd d))):wK [d] R:=by
 obtain⟨p,hp,rfl⟩:=NC.mp h;exact⟨.pap p,rfl,q⟩
theorem Lv{ps:List Pp}(nd:(ps.map (·.nm)).Nodup):(ps.map Pp.key).Nodup:=by
 rw [QM,Oj] at nd⊢;exact nd.imp λh e=>h (congrArg U9 e)
def F_K:List Vv->(Vv->Prop)->Prop:=λds Q=>∃xs:List De,(ds=[.list (xs.map De.enc)]\/ds=[.tuple (xs.map De.enc)])/\je xs/\Q (.list ((fz (aK xs)).map Pp.enc))
theorem Lw(T:Txt K mg t):aH P w K mg base CX0 4 t.a_K t.d_K ["deeds"] (aX K F_K):=by
 have G_J:=@Dd P w _ _ base _ T;refine T.F_K.F.okD K1 (λds Q h=>?_) (λ_ _ _ _ H O ds Q E hr h=>?_)
 ·obtain⟨ps,h | h,_⟩:=h <;> subst h <;> rfl
 ·obtain⟨xs,e,gd,q⟩:=h;refine'⟨_,?A,?B⟩
  case A=>
   refine' ax ?C
   case' C=>refine' aM ?D
   case D=>exact(fe (Jw jd rfl G_J (bx.in1 (bx.in1 (hr.mono Vp))) T.F_J.b rfl T.F_J.m rfl T.n_sorted OG (bz (fe (JA rfl C5 (df (dv 0)) aP cf Vp (λ_ _ _ _=>(aN (i:=0) C5.nd rfl Vt)) (λ_ _ _ _=>(cU (aF (cv hr) cw (aq av az (dv 0) ag) aO (au _)))) (λ_ _ _ _=>(dv 0)))) bg)))
  case B=>
  clear hr T G_J;have ln:=gd.ln;have pl:=gd.gp.ln;have step:∀x∈xs,∀(R:Vv->Prop)(S:Prop),(if eV (λ_=>true) x=true then R x.enc else S)->(if (x.w==Ng "paper")=true then R x.enc else S):=λx hx R S h=>by
   cases x with
   | pap p=>exact h
   | oth w d nm r=>
    rw [show((De.oth w d nm r).w==Ng "paper")=false from bY (gd.np w d nm r hx),Vr Nt];rw [Vr (show ¬eV (λ_=>true) (.oth w d nm r)=true from Nt)] at h;exact h
  have fin:∀ds':List Vv,ds'.Perm ((aK xs).map Pp.enc)->ds'.Pairwise (λa b=>aI (jd a) (jd b)=true)->Q (.list ds'):=λds' h1 h2=>by
   rw [Lo gd.gp.nd h1 h2];exact q
  have tail:(∀d∈(aK xs).map Pp.enc,∀R:Vv->Prop,R (cg (jd d))->wK [d] R)/\((aK xs).map Pp.enc).length < 64/\(((aK xs).map Pp.enc).map jd).Nodup:=by
   refine⟨λd hd R z=>Lu hd R z,by rw [Nj];omega,?_⟩;rw [NO];exact Lv gd.gp.nd
  rcases e with e | e <;> subst e <;> walk_at "d"
  ·refine⟨by rw [Nj];omega,cG (eV λ_=>true) De.enc (λx hx R S h=>?_) ?_⟩
   ·have h:=step x hx R S h;cases x <;> simp only [De.enc,De.w,Pp.enc] at h⊢<;> walk_at "d" <;> exact h
   ·rw [ng,k7];exact⟨tail.1,tail.2.1,tail.2.2,fin⟩
  ·refine⟨by rw [Nj];omega,cG (eV λ_=>true) De.enc (λx hx R S h=>?_) ?_⟩
   ·have h:=step x hx R S h;cases x <;> simp only [De.enc,De.w,Pp.enc] at h⊢<;> walk_at "d" <;> exact h
   ·rw [ng,k7];exact⟨tail.1,tail.2.1,tail.2.2,fin⟩
def Lx:List Vv->(Vv->Prop)->Prop:=λds Q=>∃(xs:List De)(c:Pp),ds=[.tuple (xs.map De.enc),.str c.nm]/\je xs/\c∈aK xs/\Q c.enc
theorem Df(T:Txt K mg t):aH P w K mg base CX0 1 t.a_L t.d_L ["deeds","paper"] (aX K Lx):=by
 refine T.F_L.F.okD CA (λds Q h=>?_) (λ_ _ _ _ H O ds Q E hr h=>?_)
 ·obtain⟨ps,c,rfl,_⟩:=h;rfl
 ·obtain⟨xs,c,rfl,gd,hc,q⟩:=h;refine'⟨_,?A,?B⟩
  case A=>
   refine' ar ?C ?D
   case C=>
    refine' oQ Ov rfl (dv 0) ?E aP ?F
    case E=>exact(aN (i:=2) CA.nd rfl Vt)
    case' F=>refine' ax ?G
    case' G=>refine' bj ?H ?I bh
    case H=>exact(PW.pt (cV (aF (cv hr) cw (aq av az (dv 2) ag) aO (au _)) (dM (aF (cn hr.units) cq (aq av az (dv 2) ag) (dv 1) (au _)))))
    case' I=>refine' ax ?J
    case J=>exact(aM (dv 2))
   case D=>refine' ax IH
  case B=>
  clear hr T;walk_at "d";refine⟨λi δ=>(∀x∈aK (xs.take i),x.nm≠c.nm)/\∃o2,δ=[some (Sl.v (.tuple (xs.map De.enc))),some (Sl.v (.str c.nm)),o2],⟨by simp [aK],_,rfl⟩,?_,?_⟩
  ·rintro i z δ hz ⟨hn,o2,rfl⟩;rw [NK] at hz;cases hz':xs[i]? with
   | none=>rw [hz'] at hz;cases hz
   | some x=>
    rw [hz'] at hz;cases hz;have hx:=NT hz';cases x with
    | pap p=>
     simp only [De.enc,Pp.enc];walk_at "d";refine⟨cz.mpr (gd.nm _ hx),cz.mpr (gd.gp.nm c hc),?_⟩;split
     ·rename_i h;have e:=C3 gd.gp.nd (sA.mpr hx) hc (eq_of_beq h);subst e;exact q
     ·rename_i h;refine⟨λy hy=>?_,_,rfl⟩;rw [Ox,hz'] at hy;unfold aK at hy;rw [Ta] at hy;rcases NQ.mp hy with z | z
      ·exact hn y z
      ·have:y=p:=by simpa [De.pp] using z
       rw [this];exact λe=>h (by rw [e];exact beq_self_eq_true _)
    | oth w d nm r=>
     simp only [De.enc];walk_at "d";rw [bY (gd.np w d nm r hx),Vr Nt];refine⟨λy hy=>?_,_,rfl⟩;rw [Ox,hz'] at hy;unfold aK at hy;rw [Ta] at hy;rcases NQ.mp hy with z | z
     ·exact hn y z
     ·simp [De.pp] at z
  ·rintro δ ⟨hn,o2,rfl⟩;rw [Nj,NI (Np _)] at hn;exact absurd rfl (hn c hc)
def Ly:List Vv->(Vv->Prop)->Prop:=λds Q=>∃(xs:List De)(c:Pp),ds=[.tuple (xs.map De.enc),c.enc]/\je xs/\c∈aK xs/\Q (.list ((cR (aK xs) c).map Pp.enc))
theorem Lz(T:Txt K mg t):aH P w K mg base CX0 5 t.a_M t.d_M ["deeds","coming"] (aX K Ly):=by
 have G_K:=@Lw P w _ _ base _ T;have G_J:=@Dd P w _ _ base _ T;refine T.F_M.F.okD CB (λds Q h=>?_) (λ_ _ _ _ H O ds Q E hr h=>?_)
 ·obtain⟨ps,c,rfl,_⟩:=h;rfl
 ·obtain⟨xs,c,rfl,gd,hc,q⟩:=h;refine'⟨_,?A,?B⟩
  case A=>
   refine' ar ?C ?D
   case C=>exact(gC (i:=2) CB.nd rfl Vt (mK rfl C6 (df (dv 0)) aP cf Vp (λ_ _ _ _=>(aN (i:=0) C6.nd rfl Vt)) (λ_ _ _ _=>(cU (PW.pt (cV (aF (cv hr) cw (aq av az (dv 0) ag) aO (au _)) (dM (aF (uh hr) mv (aq av az (dv 0) ag) (aq av az (dv 1) ag) rfl)))))) (λ_ _ _ _=>(dv 0))))
   case' D=>refine' ax ?E
   case' E=>refine' aM ?F
   case F=>exact(aB G_K hr T.F_K (aa (fe (fG rfl C7 (df (dv 2)) aP cf Vp (λ_ _ _ _=>(aN (i:=0) C7.nd rfl Vt)) (λ_ _ _ _=>(cU (aF (BF hr.units0) BG (aB G_J hr T.F_J (aa (dv 0) ah)) (aB G_J hr T.F_J (aa (dv 1) ah)) (au _)))) (λ_ _ _ _=>(dv 0)))) ah))
  case B=>
  clear hr T G_K G_J;have ln:=gd.ln;have pl:=gd.gp.ln;obtain⟨hm1,hm2⟩:=gd.gp.ms c hc;walk_at "d";refine⟨by rw [Nj];omega,cG (eV λp=>c.ms.contains p.nm) De.enc (λx hx R S h=>?_) ?_⟩
  ·cases x with
   | pap p=>
    simp only [De.enc,Pp.enc];walk_at "d";refine⟨cz.mpr (gd.nm _ hx),Dc hm1,?_⟩;rw [Lr];exact h
   | oth w d nm r=>
    simp only [De.enc];walk_at "d";rw [bY (gd.np w d nm r hx),Vr Nt];rw [Vr (show ¬eV _ (.oth w d nm r)=true from Nt)] at h;exact h
  ·rw [ng];have fl:=Oa (λp:Pp=>c.ms.contains p.nm) (aK xs);refine⟨by rw [Nj];omega,cG (λp=>aI p.key c.key) Pp.enc (λx hx R S h=>?_) ?_⟩
   ·walk_at "d";exact⟨.pap x,rfl,.pap c,rfl,x.key,rfl,c.key,rfl,h⟩
   ·rw [Lp];refine⟨_,.inl rfl,je.of ((gd.gp.filter _).filter _),?_⟩;rw [C4,C2 (wJ gd.gp.nd),C2 gd.gp.nd,T5];have e:(fz (aK xs)).filter (λa=>aI a.key c.key && c.ms.contains a.nm)=cR (aK xs) c:=by
     unfold cR nc;congr 1;funext a;rw [U2]
    rw [e];exact q
theorem sC{ps:List Pp}{c:Pp}(g:k6 ps):(cR ps c).length<=41:=by
 unfold cR;have h1:=Oa (nc c) (fz ps);have h2:=Lm (ps:=ps);have h3:=g.ln;omega
def F_N:List Vv->(Vv->Prop)->Prop:=λds Q=>∃(xs:List De)(c:Pp),ds=[.tuple (xs.map De.enc),.str c.nm]/\je xs/\c∈aK xs/\Q (.tuple (((cR (aK xs) c).map (·.nm)).map .str))
theorem LA(T:Txt K mg t):aH P w K mg base CX0 6 t.a_N t.d_N ["deeds","paper"] (aX K F_N):=by
 have G_M:=@Lz P w _ _ base _ T;have G_L:=@Df P w _ _ base _ T;refine T.F_N.F.okD K2 (λds Q h=>?_) (λ_ _ _ _ H O ds Q E hr h=>?_)
 ·obtain⟨ps,c,rfl,_⟩:=h;rfl
 ·obtain⟨xs,c,rfl,gd,hc,q⟩:=h;refine'⟨_,?A,?B⟩
  case A=>
   refine' ax ?C
   case' C=>refine' aM ?D
   case D=>exact(PE.imp (d6 hX rfl T.n_tuple gc (bz (fe (fG rfl C8 (df (aB G_M hr T.F_M (aa (dv 0) (aa (aB G_L hr T.F_L (aa (dv 0) (aa (dv 1) ah))) ah)))) aP cf Vp (λ_ _ _ _=>(aN (i:=0) C8.nd rfl Vt)) (λ_ _ _ _=>gz) (λ_ _ _ _=>(aq av az (dv 0) ag)))) bg)) (bN iq))
  case B=>
  clear hr T G_M G_L;walk_at "d";refine⟨xs,c,rfl,gd,hc,xs,c,rfl,gd,hc,⟨_,rfl,by rw [Nj];have:=sC (c:=c) gd.gp;omega,cG (λ_=>true) (λp:Pp=>.str p.nm) (λx hx R S h=>?_) ?_⟩⟩
  ·simp only [Pp.enc];walk_at "d";rw [Vs rfl] at h;exact h
  ·rw [k7];rw [NO] at q;exact q
end
local macro_rules | `(tactic| walk_at "e") =>rzT (rzS++" Sl.i.injEq exists_and_left")
theorem Dg:bb (ay rK) ["self","deeds","name","coming"] ["deed","name"] 1 [2] ⟨Nx,[ (Ni ".0",Xv),(Ni "deed",Xv),(Ni "name",Nv)],false,false,[]⟩:= .of
theorem wL:bb (ay rP) ["paper","happening"] ["day","other","happening"] 2 [1] ⟨Nx,[ (Ni ".0",Xv),(Ni "day",Xv),(Ni "other",Xv),(Ni "happening",Nv)],false,false,[]⟩:= .of
section
variable {P:VL} {w:VP} {K:Nh} {mg:Str->Option Vw} {base:VQ} {t:cA}
inductive cm where
 | com
 | fst (wd:Str)
 | lst (wd:Str)
def cm.enc:cm->Vv
 | .com=>.tuple [.str (Ng "coming")]
 | .fst wd=>.tuple [.str (Ng "first"),.str wd]
 | .lst wd=>.tuple [.str (Ng "last"),.str wd]
def cm.Ok:cm->Prop
 | .com=>True
 | .fst wd=>Nw wd=true
 | .lst wd=>Nw wd=true
inductive Pt where
 | two (w kd:Str)
 | five (w kd:Str) (s:cm) (k:Int) (u:Str)
def Pt.enc:Pt->Vv
 | .two w kd=>.tuple [.str w,.str kd]
 | .five w kd s k u=>.tuple [.str w,.str kd,s.enc,.int k,.str u]
def KG(w:Str):Prop:=w=Ng "keep"\/w=Ng "gone"
def Pt.Ok:Pt->Prop
 | .two w kd=>¬KG w/\Nw w=true/\Nw kd=true
 | .five w kd s k u=>KG w/\Nw kd=true/\s.Ok/\0<=k/\k < 1000/\gZ u
def De.isR:De->Bool
 | .oth w _ _ _=>w==Ng "rule"
 | _=>false
def De.isE:De->Bool
 | .oth w _ _ _=>w==Ng "rule" || w==Ng "end"
 | _=>false
structure dz (xs:List De):Prop where
 gx:je xs
 hp:∀d nm r,De.oth (Ng "happens") d nm r∈xs->∃wd,r=[.str wd]/\Nw wd=true
 ru:∀d nm r,De.oth (Ng "rule") d nm r∈xs->∃pt:Pt,r=[pt.enc]/\pt.Ok
 nd:xs.Nodup
 d0:∀x∈xs,0<=x.d/\x.d < 100000
 re:∀x∈xs,∀y∈xs,x.isE=true->y.isE=true->x.d=y.d->x.nm=y.nm->x=y
def fP(nm:Str):De->Bool
 | .oth w _ n _=>w==Ng "happens" && n==nm
 | _=>false
def jf:De->Int×Str
 | .oth _ d _ [.str wd]=>(d,wd)
 | x=>(x.d,Ng "")
def dZ(xs:List De)(nm:Str):List (Int×Str):=(xs.filter (fP nm)).map jf
theorem wM{xs:List De}(g:dz xs)(nm:Str):(dZ xs nm).Nodup:=by
 unfold dZ;rw [QM,Oj];refine U3.imp_of_mem (λ{a b} ha hb h e=>?_) (g.nd.sublist O6);obtain⟨a1,a2⟩:=NR.mp ha;obtain⟨b1,b2⟩:=NR.mp hb;cases a with
 | pap p=>cases a2
 | oth w d n r=>
  cases b with
  | pap p=>cases b2
  | oth w' d' n' r'=>
   simp only [fP,Oq,beq_iff_eq] at a2 b2;obtain⟨rfl,rfl⟩:=a2;obtain⟨rfl,rfl⟩:=b2;obtain⟨wd,rfl,_⟩:=g.hp _ _ _ a1;obtain⟨wd',rfl,_⟩:=g.hp _ _ _ b1;simp only [jf,RU] at e;exact h (by rw [e.1,e.2])
structure Rp where
 c:Pp
 ts:List Str
 hs:List (Int×Str)
def Rp.enc(C:Vy)(r:Rp):Vv:=BK C [(Ng "name",.str r.c.nm),(Ng "coming",.int r.c.d),(Ng "kind",.str r.c.kd),(Ng "makers",.tuple (r.ts.map .str)),(Ng "happenings",.list (r.hs.map cg))]
open Classical in
def g5(l:List (Int×Str)):List (Int×Str):=if h:∃s:List (Int×Str),s.Perm l/\s.Pairwise (λa b=>aI a b=true) then h.choose else []
theorem Dh{s l:List (Int×Str)}(h1:s.Perm l)(h2:s.Pairwise λa b=>aI a b=true):s=g5 l:=by
 unfold g5;have h:∃s:List (Int×Str),s.Perm l/\s.Pairwise (λa b=>aI a b=true):=⟨s,h1,h2⟩;rw [dif_pos h];exact kY (λa b z=>sr z) (h1.trans h.choose_spec.1.symm) h2 h.choose_spec.2
def aY(xs:List De)(c:Pp):Rp:=⟨c,(cR (aK xs) c).map (·.nm),g5 (dZ xs c.nm)⟩
theorem g6{f g:Str}{d x:Vv}{r:List (Str×Vv)}(h:g≠f):fh f d ((g,x)::r)=(g,x)::fh f d r:=by rw [fh,Vr h]
theorem LB{a b:Vv}:fh (Ng "coming") b (fh (Ng "name") a [])=[(Ng "name",a),(Ng "coming",b)]:=by
 rw [show fh (Ng "name") a []=[(Ng "name",a)] from rfl,g6 cp];rfl
theorem LC{a b c:Vv}:fh (Ng "kind") c [(Ng "name",a),(Ng "coming",b)]=[(Ng "name",a),(Ng "coming",b),(Ng "kind",c)]:=by
 rw [g6 cp,g6 cp];rfl
theorem LD{a b c d:Vv}:fh (Ng "makers") d [(Ng "name",a),(Ng "coming",b),(Ng "kind",c)]=[(Ng "name",a),(Ng "coming",b),(Ng "kind",c),(Ng "makers",d)]:=by
 rw [g6 cp,g6 cp,g6 cp];rfl
theorem LF{a b c d e:Vv}:fh (Ng "happenings") e [(Ng "name",a),(Ng "coming",b),(Ng "kind",c),(Ng "makers",d)]=[(Ng "name",a),(Ng "coming",b),(Ng "kind",c),(Ng "makers",d),(Ng "happenings",e)]:=by
 rw [g6 cp,g6 cp,g6 cp,g6 cp];rfl
def LG(C:Vy):List Vv->(Vv->Prop)->Prop:=λds Q=>∃(xs:List De)(c:Pp),ds=[.tuple (xs.map De.enc),.str c.nm]/\dz xs/\c∈aK xs/\((∀z,z∈g5 (dZ xs c.nm)↔z∈dZ xs c.nm)->(g5 (dZ xs c.nm)).Pairwise (λa b=>aI a b=true)->(g5 (dZ xs c.nm)).length<=41->Q ((aY xs c).enc C))
theorem Di(T:Txt K mg t):aH P w K mg base CX0 7 t.a_I t.d_I ["self","deeds","name"] (qK K t.u_Paper (LG t.u_Paper)):=by
 have G_L:=@Df P w _ _ base _ T;have G_N:=@LA P w _ _ base _ T;refine T.F_I.F.okI Cz (λds Q h=>?_) (λcdv A outer s H H1 O ds Q E l hr h=>?_)
 ·obtain⟨xs,c,rfl,_⟩:=h;rfl
 ·obtain⟨xs,c,rfl,gd,hc,q⟩:=h;refine'⟨_,?A,?B⟩
  case A=>
   refine' ar ?C ?D
   case C=>exact(bG (i:=3) Cz.nd rfl Vt (aB G_L hr T.F_L (aa (dv 1) (aa (dv 2) ah))))
   case' D=>refine' ar ?E ?F
   case E=>exact(mM (C:=t.u_Paper) (i:=0) T.cl_Paper T.na_Paper_name (pv 0) (aq av az (dv 3) ag))
   case' F=>refine' ar ?G ?H
   case G=>exact(mM (C:=t.u_Paper) (i:=0) T.cl_Paper T.na_Paper_coming (pv 0) (aq av az (dv 3) ag))
   case' H=>refine' ar ?I ?J
   case I=>exact(mM (C:=t.u_Paper) (i:=0) T.cl_Paper T.na_Paper_kind (pv 0) (aq av az (dv 3) ag))
   case' J=>refine' ar ?K ?L
   case K=>exact(mM (C:=t.u_Paper) (i:=0) T.cl_Paper T.na_Paper_makers (pv 0) (aB G_N hr T.F_N (aa (dv 1) (aa (dv 2) ah))))
   case' L=>refine' ax ?M
   case M=>exact(mM (C:=t.u_Paper) (i:=0) T.cl_Paper T.na_Paper_happenings (pv 0) (fe (BD rfl T.n_sorted OG (bz (fe (l5 rfl Dg (df (dv 1)) aP cf Vp (λ_ _ _ _=>(aN (i:=0) Dg.nd rfl Vt)) (λ_ _ _ _=>(cU (PW.pt (cV (aF (cv hr) cw (aq av az (dv 0) ag) aO (au _)) (dM (aF (cn hr.units) cq (aq av az (dv 0) ag) (dv 1) (au _))))))) (λ_ _ _ _=>(bC (aa (aq av az (dv 0) ag) (aa (aq av az (dv 0) ag) ah)))))) bg))))
  case B=>
  clear hr T G_L G_N;simp only [vi,gu,Nq,OD,PZ,O8,List.tail_cons,NF,OW,QP,QQ,NG];walk_at "e";refine⟨xs,c,rfl,gd.gx,hc,?_⟩;simp only [Pp.enc];walk_at "e";simp only [LB,LC,LD,LF];have ln:=gd.gx.ln;have lt:∀n:Nat,n < 10->n < 1000:=λn h=>by omega
  refine⟨lt 1 Vp,lt 2 Vp,xs,c,rfl,gd.gx,hc,⟨lt 3 Vp,by rw [Nj];omega,C9 (fP c.nm) (λx=>cg (jf x)) (λx hx R S h1 h0=>?_) ?_⟩⟩
  ·cases x with
   | pap p=>
    simp only [De.enc,Pp.enc];walk_at "d";exact h0 rfl
   | oth w d nm r=>
    simp only [De.enc];walk_at "d";by_cases e:w=Ng "happens"
    ·subst e;obtain⟨wd,rfl,_⟩:=gd.hp _ _ _ hx;rw [Vs (beq_self_eq_true _)];refine⟨cz.mpr (gd.gx.nm _ hx),cz.mpr (gd.gx.gp.nm c hc),?_⟩;split
     ·rename_i h2;exact⟨_,iY,h1 (by simp only [fP,beq_self_eq_true,P9];exact h2)⟩
     ·rename_i h2;exact h0 (by simp only [fP,beq_self_eq_true,P9];simpa using h2)
    ·rw [bY e,Vr Nt];exact h0 (by simp only [fP,bY e,RE])
  ·have hl:(dZ xs c.nm).length<=41:=by
    unfold dZ;rw [Nj];have:=Oa (fP c.nm) xs;omega
   refine⟨dZ xs c.nm,by unfold dZ;rw [NO];rfl,Vq,wM gd c.nm,λhs h1 h2=>⟨lt 4 Vp,?_⟩⟩;have e:=Dh h1 h2;have q:=q (λz=>by rw [<-e];exact h1.mem_iff) (by rw [<-e];exact h2) (by rw [<-e,h1.length_eq];exact hl);rw [e];exact q
def Dj(hs:List (Int×Str)):Prop:=hs.length<=41/\∀z∈hs,Nw z.2=true
def k8(hs:List (Int×Str))(wd:Str):List Int:=(hs.filter λz=>z.2==wd).map (·.1)
def F_Q(C:Vy):List Vv->(Vv->Prop)->Prop:=λds Q=>∃(r:Rp)(wd:Str),ds=[r.enc C,.str wd]/\Dj r.hs/\Nw wd=true/\Q (.list ((k8 r.hs wd).map .int))
theorem LH{a b c d e:Vv}:bX [Ng "name",Ng "coming",Ng "kind",Ng "makers",Ng "happenings"] [a,b,c,d,e] (Ng "happenings")=some e:=by
 simp only [bX];rw [Vr cp,Vr cp,Vr cp,Vr cp,Vs trivial]
theorem Dk{a b c d e:Vv}:bX [Ng "name",Ng "coming",Ng "kind",Ng "makers",Ng "happenings"] [a,b,c,d,e] (Ng "coming")=some b:=by
 simp only [bX];rw [Vr cp,Vs trivial]
theorem LI{a b c d e:Vv}:bX [Ng "name",Ng "coming",Ng "kind",Ng "makers",Ng "happenings"] [a,b,c,d,e] (Ng "kind")=some c:=by
 simp only [bX];rw [Vr cp,Vr cp,Vs trivial]
theorem LJ(T:Txt K mg t):aH P w K mg base CX0 1 t.a_Q t.d_Q ["paper","happening"] (aX K (F_Q t.u_Paper)):=by
 refine T.F_Q.F.okD K4 (λds Q h=>?_) (λ_ _ _ _ H O ds Q E hr h=>?_)
 ·obtain⟨r,wd,rfl,_⟩:=h;rfl
 ·obtain⟨r,wd,rfl,⟨hl,hok⟩,wok,q⟩:=h;refine'⟨_,?A,?B⟩
  case A=>
   refine' ax ?C
   case' C=>refine' aM ?D
   case' D=>refine' fe ?E
   case E=>exact(fG rfl wL (df (kE (C:=t.u_Paper) T.cl_Paper T.na_Paper_happenings (dv 0))) (jA (d7 aP (d7 aP jz))) BJ Vp (λ_ _ _ _=>(iN (n:=2) rfl (dG (aN (i:=0) wL.nd rfl Vt) (dG (aN (i:=1) wL.nd rfl Vt) iM)))) (λ_ _ _ _=>(cU (aF (cn hr.units) cq (dv 1) (dv 2) (au _)))) (λ_ _ _ _=>(dv 0)))
  case B=>
  clear hr T;walk_at "d";refine⟨[Ng "name",Ng "coming",Ng "kind",Ng "makers",Ng "happenings"],_,rfl,_,LH,_,rfl,by rw [Nj];omega,cG (λz:Int×Str=>z.2==wd) (λz=>.int z.1) (λx hx R S h=>?_) ?_⟩
  ·simp only [cg];walk_at "d";exact⟨cz.mpr (hok x hx),cz.mpr wok,h⟩
  ·unfold k8 at q;rw [NO] at q;exact q
end
theorem Dm:bb (ay rN) ["deeds","words","day","found","deed","known"] ["name","found"] 1 [3] ⟨Nx,[ (Ni ".0",Xv),(Ni "name",Xv),(Ni "found",Nv)],false,false,[]⟩:= .of
section
variable {P:VL} {w:VP} {K:Nh} {mg:Str->Option Vw} {base:VQ} {t:cA}
def F_O:List Vv->(Vv->Prop)->Prop:=λds Q=>∃(xs:List Rw)(ws:List Str)(n:Int),ds=[.tuple (xs.map Rw.enc),.tuple (ws.map .str),.int n]/\(∀x∈xs,Nw x.w=true)/\OJ (ws.map .str)=true/\xs.length < 64/\∀res,mI ws n xs res->Q (.list (res.map Rw.enc))
theorem Dp{ws:List Str}{w:Str}:((ws.map Nl).any λd=>NJ d (.str w))=decide (w∈ws):=by
 induction ws with
 | nil=>simp
 | cons a ws ih=>
  rw [Nq,Pc,ih,iu];by_cases h:a=w
  ·simp [h]
  ·have h':(a==w)=false:=by simpa using h
   rw [h'];simp [Ne.symm h]
theorem LK(T:Txt K mg t):aH P w K mg base CX0 1 t.a_O t.d_O ["deeds","words","day"] (aX K F_O):=by
 refine T.F_O.F.okD se (λds Q h=>?_) (λ_ _ _ _ H O ds Q E hr h=>?_)
 ·obtain⟨xs,ws,n,rfl,_⟩:=h;rfl
 ·obtain⟨xs,ws,n,rfl,hw,hws,h64,q⟩:=h;refine'⟨_,?A,?B⟩
  case A=>
   refine' ar ?C ?D
   case C=>exact(mE (i:=3) se.nd rfl Vt uY)
   case' D=>refine' ar ?E ?F
   case E=>
    refine' oQ Ov rfl (dv 0) ?G aP ?H
    case G=>exact(aN (i:=4) se.nd rfl Vt)
    case' H=>refine' ax ?I
    case' I=>refine' bj ?J ?K bh
    case J=>exact(PW.pt (cV (aF (uh hr) mv (aq av az (dv 4) ag) (dv 1) rfl) (dM (aF fX dX (aq av az (dv 4) ag) (dv 2) (au _)))))
    case' K=>refine' ar ?L ?M
    case L=>exact(bG (i:=5) se.nd rfl Vt (Be (i:=3) hr.units (pv 3) (aq av az (dv 4) ag) ⟨rfl,rfl,rfl,rfl⟩))
    case' M=>refine' ax ?N
    case' N=>refine' bj ?O ?P bh
    case O=>exact(PW.pt (jt (aF jV kA (dv 5) eZ (au _)) (js (aF nN dX (aq av az (dv 5) ag) (aq av az (dv 4) ag) (au _)))))
    case' P=>refine' ax ?Q
    case Q=>exact(uZ (i:=3) hr.units (pv 3) (aq av az (dv 4) ag) (dv 4))
   case' F=>refine' ax ?R
   case' R=>refine' aM ?S
   case' S=>refine' fe ?T
   case T=>exact(fG rfl Dm (df (fe (Bh (i:=3) rfl rfl T.n_sorted OG (pv 3)))) aP cf Vp (λ_ _ _ _=>(aN (i:=0) Dm.nd rfl Vt)) (λ_ _ _ _=>gz) (λ_ _ _ _=>(mF (i:=1) hr.units (pv 1) (dv 0) (λ_ _=>rfl))))
  case B=>
  clear hr T;walk_at "d";refine⟨λi δ=>∃L o4 o5,dO ws n (xs.take i) L/\δ=[some (Sl.v (.tuple (xs.map Rw.enc))),some (Sl.v (.tuple (ws.map .str))),some (Sl.v (.int n)),some (Sl.k (eF L)),o4,o5],⟨[],_,_,dO.nil _ _,rfl⟩,?_,?_⟩
  ·rintro i x δ hx ⟨L,o4,o5,hL,rfl⟩;rw [NK] at hx;cases hx':xs[i]? with
   | none=>rw [hx'] at hx;cases hx
   | some y=>
    rw [hx'] at hx;cases hx;have hy:y∈xs:=NT hx';have tk:xs.take (i+1)=xs.take i++[y]:=by rw [Ox,hx'];rfl
    simp only [Rw.enc];walk_at "d";have hle:L.length < 64:=by have:=hL.le;rw [NS] at this;omega
    have hk:(eF L).length < 16777216:=by unfold eF;rw [Nj];omega
    have en:ND (Nl y.w::Nn y.n::Nl y.nm::y.r)=y.enc:=rfl;refine⟨cz.mpr (hw y hy),hws,?_⟩;rw [Dp];by_cases hin:y.w∈ws
    ·rw [Vs (decide_eq_true hin)];by_cases hn:y.n<=n
     ·rw [Vs hn,kB,en];cases hl:cF L y.nm with
      | none=>
       rw [Vs (show isNone ((Option.map Rw.enc none).getD Qx)=true from rfl)];exact⟨hk,_,by rw [tk];exact hL.put ⟨hin,hn⟩ (λz e=>by rw [hl] at e;cases e),qo L y.nm y,_,rfl⟩
      | some z=>
       rw [Vr (by simp [isNone,Rw.enc])];refine⟨_,rfl,_,dN,_,rfl,?_⟩;split
       ·rename_i hlt;exact⟨hk,_,by rw [tk];exact hL.put ⟨hin,hn⟩ (λz' e=>by rw [hl] at e;cases e;exact hlt),qo L y.nm y,_,rfl⟩
       ·rename_i hlt;exact⟨L,by rw [tk];exact hL.keep hl hlt,rfl,_,rfl⟩
     ·rw [Vr hn];exact⟨L,by rw [tk];exact hL.skip (λz=>hn z.2),rfl,_,rfl⟩
    ·rw [Vr (by simpa using hin)];exact⟨L,by rw [tk];exact hL.skip (λz=>hin z.1),rfl,_,rfl⟩
  ·rintro δ ⟨L,o4,o5,hL,rfl⟩;walk_at "d";rw [Nj,NI (Np _)] at hL;have hle:L.length < 64:=by have:=hL.le;omega
   refine⟨L.map (·.1),by unfold eF;rw [NO,NO];rfl,by rw [Nj];exact hle,by rw [Nj,(fw _).length_eq,Nj];omega,?_⟩;refine pX (λx=>match x with | .str nm=>((cF L nm).map Rw.enc).getD .none | _=>.none) (λx hx R hR=>?_) ?_
   ·obtain⟨nm,hnm,rfl⟩:=NC.mp hx;obtain⟨z,hz⟩:=mJ ((fw _).mem_iff.mp hnm);walk_at "d";refine⟨z.enc,by rw [kB,hz];rfl,?_⟩;have hR:R (((cF L nm).map Rw.enc).getD .none):=hR;rw [hz] at hR;exact hR
   ·have e:∀l:List Str,(∀a∈l,a∈L.map (·.1))->(l.map Nl).map (λx=>match x with | .str nm=>((cF L nm).map Rw.enc).getD .none | _=>.none)=(l.filterMap (cF L)).map Rw.enc:=by
     intro l
     induction l with
     | nil=>intro _;rfl
     | cons a l ih=>
      intro hl;obtain⟨z,hz⟩:=mJ (hl a Vu);rw [Nq,Nq,Pl,hz,ih λb hb=>hl b (by simp [hb])];simp [hz]
    rw [e _ λa ha=>(fw _).mem_iff.mp ha];exact q _ hL.res
end
theorem Dq:bb (ay rO) ["deeds","day"] ["deed"] 1 [] ⟨Nx,[(Ni ".0",Xv),(Ni "deed",Xv)],false,false,[]⟩:= .of
section
variable {P:VL} {w:VP} {K:Nh} {mg:Str->Option Vw} {base:VQ} {t:cA}
def eG:List Str:=["rule","end"]
def gH(res:List Rw):List Vv:=(res.filter λx=>x.w==Ng "rule").map λx=>.tuple [.str x.nm,x.r.headD .none]
structure Dr (xs:List Rw):Prop where
 st:∀x∈xs,Nw x.w=true
 ru:∀x∈xs,x.w=Ng "rule"->∃p,x.r=[p]
 le:xs.length < 64
def LL:List Vv->(Vv->Prop)->Prop:=λds Q=>∃(xs:List Rw)(n:Int),ds=[.tuple (xs.map Rw.enc),.int n]/\Dr xs/\∀res,mI eG n xs res->Q (.tuple (gH res))
theorem LM(T:Txt K mg t):aH P w K mg base CX0 2 t.a_P t.d_P ["deeds","day"] (aX K LL):=by
 have G_O:=@LK P w _ _ base _ T;refine T.F_P.F.okD K3 (λds Q h=>?_) (λ_ _ _ _ H O ds Q E hr h=>?_)
 ·obtain⟨xs,n,rfl,_⟩:=h;rfl
 ·obtain⟨xs,n,rfl,ok,q⟩:=h;refine'⟨_,?A,?B⟩
  case A=>
   refine' ax ?C
   case' C=>generalize hG2:T6 _ _ _ _=eg2
   refine' aM ?D
   case' D=>subst hG2
   exact(PE.imp (d6 hX rfl T.n_tuple gc (bz (fe (fG rfl Dq (df (aB G_O hr T.F_O (aa (dv 0) (aa (bC (aa aO (aa aO ah))) (aa (dv 1) ah))))) aP cf Vp (λ_ _ _ _=>(aN (i:=0) Dq.nd rfl Vt)) (λ_ _ _ _=>(cU (aF (cv hr) cw (aq av az (dv 0) ag) aO (au _)))) (λ_ _ _ _=>(bC (aa (aq av az (dv 0) ag) (aa (aq av az (dv 0) ag) ah)))))) bg)) (bN iq))
  case B=>
  clear hr T G_O;walk_at "d";refine⟨xs,eG,n,rfl,ok.st,cp,ok.le,λres hres=>⟨_,rfl,?_,?_⟩⟩
  ·rw [Nj];have:=hres.le;have:=ok.le;omega
  refine IC (λx=>match x with | .tuple (.str w:: .int n:: .str nm::r)=>if (w==Ng "rule")=true then some (.tuple [.str nm,r.headD .none]) else none | _=>none) (λx hx R S h=>?_) ?_
  ·obtain⟨y,hy,rfl⟩:=NC.mp hx;simp only [Rw.enc] at h⊢;walk_at "d";by_cases hr:(y.w==Ng "rule")=true
   ·rw [Vs hr] at h⊢;obtain⟨p,hp⟩:=ok.ru y (hres.it y hy).1 (eq_of_beq hr);rw [hp] at h⊢;exact⟨p,iY,h⟩
   ·rw [Vr hr] at h⊢;exact h
  ·have e:∀l:List Rw,(l.map Rw.enc).filterMap (λx=>match x with | .tuple (.str w:: .int n:: .str nm::r)=>if (w==Ng "rule")=true then some (.tuple [.str nm,r.headD .none]) else none | _=>none)=gH l:=by
    intro l
    induction l with
    | nil=>rfl
    | cons a l ih=>
     rw [Nq,Pl,ih];unfold gH;simp only [Rw.enc,Ow];by_cases hr:(a.w==Ng "rule")=true
     ·rw [Vs hr,Vs hr];rfl
     ·rw [Vr hr,Vr hr]
   rw [e];exact q res hres
theorem LN{s s':cm}(h:s.enc=s'.enc):s=s':=by
 have n1:Ng "first"≠Ng "last":=cp
 cases s <;> cases s' <;> simp only [cm.enc,PB,Ot,Px,and_true,reduceCtorEq,and_false] at h
 ·rfl
 ·rw [h.2]
 ·exact absurd h.1 n1
 ·exact absurd h.1.symm n1
 ·rw [h.2]
theorem wN{a b:Pt}(h:a.enc=b.enc):a=b:=by
 cases a <;> cases b <;> simp only [Pt.enc,PB,Ot,Px,QL,and_true,reduceCtorEq,and_false] at h
 ·rw [h.1,h.2]
 ·obtain⟨h1,h2,h3,h4,h5⟩:=h;rw [h1,h2,LN h3,h4,h5]
theorem Ds{α β:Type}{f:α->β}:∀{l:List α},(l.map f).Nodup->∀{a b:α},a∈l->b∈l->f a=f b->a=b
 | x::l,nd,a,b,ha,hb,e=>by
  rw [Nq,OX] at nd;rcases Ny.mp ha with ea | ha1 <;> rcases Ny.mp hb with eb | hb1
  ·rw [ea,eb]
  ·subst ea;exact absurd (NC.mpr ⟨b,hb1,e.symm⟩) nd.1
  ·subst eb;exact absurd (NC.mpr ⟨a,ha1,e⟩) nd.1
  ·exact Ds nd.2 ha1 hb1 e
def De.rw:De->Rw
 | .pap p=>⟨Ng "paper",p.d,p.nm,[.str p.kd,.tuple (p.ms.map .str)]⟩
 | .oth w d nm r=>⟨w,d,nm,r⟩
theorem De.rw_enc(x:De):x.rw.enc=x.enc:=by cases x <;> rfl
theorem Du(xs:List De):(xs.map De.rw).map Rw.enc=xs.map De.enc:=by
 rw [NO];congr 1;funext x;exact x.rw_enc
def Dv(xs:List De)(n:Int)(z:Str×Pt):Prop:=∃d,d<=n/\De.oth (Ng "rule") d z.1 [z.2.enc]∈xs/\∀x∈xs,x.isE=true->x.nm=z.1->x.d<=n->x.d<=d
def k9(a b:Str×Pt):Prop:=c9 a.1 b.1=true/\a.1≠b.1
def fQ(xs:List De)(n:Int)(L:List (Str×Pt)):Prop:=L.Pairwise k9/\∀z,z∈L↔Dv xs n z
theorem LO(a b:Str×Pt)(h:k9 a b):¬k9 b a:=λz=>h.2 (A1 h.1 z.1)
theorem Dw{L:List (Str×Pt)}(h:L.Pairwise k9):L.Nodup:=h.imp λ{a b} z e=>z.2 (by rw [e])
theorem LP{L M:List (Str×Pt)}(h1:L.Pairwise k9)(h2:M.Pairwise k9)(h:∀z,z∈L↔z∈M):L=M:=
 kY LO ((RX (Dw h1) (Dw h2)).mpr h) h1 h2
open Classical in
def bM(xs:List De)(n:Int):List (Str×Pt):=if h:∃L,fQ xs n L then h.choose else []
theorem Dx{xs:List De}{n:Int}{L:List (Str×Pt)}(h:fQ xs n L):L=bM xs n:=by
 unfold bM;have e:∃L,fQ xs n L:=⟨L,h⟩;rw [dif_pos e];exact LP h.1 e.choose_spec.1 λz=>(h.2 z).trans (e.choose_spec.2 z).symm
def dB(z:Str×Pt):Vv:= .tuple [.str z.1,z.2.enc]
theorem LQ{x:De}(np:x.rw.w∈eG)(hp:∀p,x≠ .pap p):x.isE=true:=by
 cases x with
 | pap p=>exact absurd rfl (hp p)
 | oth w d nm r=>
  have:w=Ng "rule"\/w=Ng "end":=by
   have h:w∈eG:=np;unfold eG at h;rcases Ny.mp h with e | h
   ·exact .inl e
   ·rcases Ny.mp h with e | h
    ·exact .inr e
    ·cases h
  rcases this with e | e
  ·simp [De.isE,e]
  ·simp [De.isE,e]
theorem Dy{x:De}(h:x.isE=true):x.rw.w∈eG/\x.rw.nm=x.nm/\x.rw.n=x.d:=by
 cases x with
 | pap p=>cases h
 | oth w d nm r=>
  refine⟨?_,rfl,rfl⟩;simp only [De.isE,PN,beq_iff_eq] at h;show w∈eG;unfold eG;rcases h with e | e
  ·rw [e];exact Ob
  ·rw [e];exact NY _ Ob
theorem LR:Ng "paper" ∉ eG:=cp
theorem Dz{xs:List De}{n:Int}{res:List Rw}(g:dz xs)(h:mI eG n (xs.map De.rw) res):∃L,fQ xs n L/\gH res=L.map dB:=by
 have from1:∀x∈res,x.w=Ng "rule"->∃pt:Pt,pt.Ok/\x.r=[pt.enc]/\De.oth (Ng "rule") x.n x.nm [pt.enc]∈xs:=λx hx hw=>by
  obtain⟨h1,_,_⟩:=h.it x hx;obtain⟨y,hy,rfl⟩:=NC.mp h1;cases y with
  | pap p=>exact absurd hw (by show Ng "paper"≠_;decide+kernel)
  | oth w d nm r=>
   have hw:w=Ng "rule":=hw;subst hw;obtain⟨pt,e,ok⟩:=g.ru _ _ _ hy;subst e;exact⟨pt,ok,rfl,hy⟩
 have pick:∀l:List Rw,(∀x∈l,x∈res)->∃L:List (Str×Pt),gH l=L.map dB/\L.map (·.1)=(l.filter λx=>x.w==Ng "rule").map (·.nm)/\∀z∈L,∃x∈l,x.w=Ng "rule"/\x.nm=z.1/\x.r=[z.2.enc]:=by
  intro l
  induction l with
  | nil=>intro _;exact⟨[],rfl,rfl,Vu⟩
  | cons a l ih=>
   intro hl;obtain⟨L,e1,e2,e3⟩:=ih λx hx=>hl x (by simp [hx]);by_cases hr:(a.w==Ng "rule")=true
   ·obtain⟨pt,_,er,_⟩:=from1 a (hl a Vu) (eq_of_beq hr);refine⟨(a.nm,pt)::L,?_,?_,?_⟩
    ·unfold gH at e1⊢;rw [Ow,Vs hr,Nq,Nq,e1,er];rfl
    ·rw [Ow,Vs hr,Nq,Nq,e2]
    ·intro z hz;rcases Ny.mp hz with rfl | hz
     ·exact⟨a,Vu,eq_of_beq hr,rfl,er⟩
     ·obtain⟨x,hx,h'⟩:=e3 z hz;exact⟨x,by simp [hx],h'⟩
   ·refine⟨L,?_,?_,?_⟩
    ·unfold gH at e1⊢;rw [Ow,Vr hr,e1]
    ·rw [Ow,Vr hr,e2]
    ·intro z hz;obtain⟨x,hx,h'⟩:=e3 z hz;exact⟨x,by simp [hx],h'⟩
 obtain⟨L,e1,e2,e3⟩:=pick res λ_ h=>h;have key:∀x∈res,∀pt:Pt,x.r=[pt.enc]->x.w=Ng "rule"->Dv xs n (x.nm,pt):=λx hx pt er hw=>by
  obtain⟨pt',_,er',hm⟩:=from1 x hx hw;obtain⟨h1,⟨_,h2⟩,h3⟩:=h.it x hx;rw [er] at er';rw [<-(Rk er').1] at hm;refine⟨x.n,h2,hm,λy hy ye yn yd=>?_⟩;obtain⟨a,b,c⟩:=Dy ye;have:=h3 y.rw (NC.mpr ⟨y,hy,rfl⟩) ⟨a,by rw [c];exact yd⟩ (by rw [b];exact yn);rw [c] at this;exact this
 refine⟨L,⟨?_,λz=>⟨λhz=>?_,λhz=>?_⟩⟩,e1⟩
 ·have up:(L.map (·.1)).Pairwise λa b=>c9 a b=true:=by
   rw [e2];exact h.up.sublist (O6.map _)
  have nd:(L.map (·.1)).Nodup:=by
   rw [e2];exact h.nd.sublist (O6.map _)
  rw [Oj] at up;rw [QM,Oj] at nd;exact up.and nd
 ·obtain⟨x,hx,hw,hn,hr⟩:=e3 z hz;have:=key x hx z.2 hr hw;rw [hn] at this;exact this
 ·obtain⟨d,hd,hm,hal⟩:=hz;have hmr:(De.oth (Ng "rule") d z.1 [z.2.enc]).rw∈xs.map De.rw:=NC.mpr ⟨_,hm,rfl⟩;have hok:fI eG n (De.oth (Ng "rule") d z.1 [z.2.enc]).rw:=⟨Ob,hd⟩;obtain⟨x,hx,xn⟩:=h.al _ hmr hok;have xn:x.nm=z.1:=xn;obtain⟨h1,⟨h2a,h2b⟩,h3⟩:=h.it x hx;obtain⟨y,hy,ey⟩:=NC.mp h1;have hyE:y.isE=true:=LQ (by rw [ey];exact h2a) λp hp=>by
   rw [hp] at ey;rw [<-ey] at h2a;exact LR h2a
  obtain⟨_,yb,yc⟩:=Dy hyE;have dd:d<=x.n:=h3 _ hmr hok xn.symm;have dd2:x.n<=d:=by
   have:=hal y hy hyE (by rw [<-yb,ey];exact xn) (by rw [<-yc,ey];exact h2b);rw [<-yc,ey] at this;exact this
  have ee:y=De.oth (Ng "rule") d z.1 [z.2.enc]:=g.re y hy _ hm hyE (by simp [De.isE]) (by rw [<-yc,ey];exact SK dd2 dd) (by rw [<-yb,ey];exact xn);subst ee;have hw:x.w=Ng "rule":=by rw [<-ey];rfl
  have hr:x.r=[z.2.enc]:=by rw [<-ey];rfl
  have:z.1∈L.map (·.1):=by
   rw [e2];exact NC.mpr ⟨x,NR.mpr ⟨hx,by rw [hw];exact beq_self_eq_true _⟩,xn⟩
  obtain⟨v,hv,vn⟩:=NC.mp this;obtain⟨x',hx',hw',hn',hr'⟩:=e3 v hv;have exx:x'=x:=Ds h.nd hx' hx (hn'.trans (vn.trans xn.symm));rw [exx,hr] at hr';have:v=z:=by
   obtain⟨v1,v2⟩:=v;obtain⟨z1,z2⟩:=z;have a1:v1=z1:=vn;have a2:z2.enc=v2.enc:=(Rk hr').1;rw [a1,wN a2.symm]
  rw [<-this];exact hv
def LS:List Vv->(Vv->Prop)->Prop:=λds Q=>∃(xs:List De)(n:Int),ds=[.tuple (xs.map De.enc),.int n]/\dz xs/\(fQ xs n (bM xs n)->(bM xs n).length<=41->Q (.tuple ((bM xs n).map dB)))
theorem DC{xs:List De}(g:dz xs)(wok:∀w d nm r,De.oth w d nm r∈xs->Nw w=true):Dr (xs.map De.rw):=by
 refine⟨λx hx=>?_,λx hx hw=>?_,?_⟩
 ·obtain⟨y,hy,rfl⟩:=NC.mp hx;cases y with
  | pap p=>show Nw (Ng "paper")=true;decide+kernel
  | oth w d nm r=>exact wok _ _ _ _ hy
 ·obtain⟨y,hy,rfl⟩:=NC.mp hx;cases y with
  | pap p=>exact absurd hw (by show Ng "paper"≠_;decide+kernel)
  | oth w d nm r=>
   have hw:w=Ng "rule":=hw;subst hw;obtain⟨pt,e,_⟩:=g.ru _ _ _ hy;exact⟨_,e⟩
 ·rw [Nj];have:=g.gx.ln;omega
theorem DD(T:Txt K mg t):aH P w K mg base CX0 2 t.a_P t.d_P ["deeds","day"] (aX K LS):=
 (LM T).imp λvs H Q E ⟨O,ds,Qd,tr,hs,⟨xs,n,e,g,q⟩,k⟩=>⟨O,ds,Qd,tr,hs,⟨xs.map De.rw,n,by rw [Du];exact e,DC g (λw d nm r h=>g.gx.w _ h),λres hres=>by
  obtain⟨L,h1,h2⟩:=Dz g hres;have e:=Dx h1;rw [h2,e];refine q (by rw [<-e];exact h1) ?_;have hl:(gH res).length<=res.length:=by unfold gH;rw [Nj];exact Oa _ _
  have:=hres.le;rw [Nj] at this;rw [h2,Nj,e] at hl;have:=g.gx.ln;omega⟩,k⟩
end
theorem DH:bb (ay rQ) ["paper","since","day","days"] ["other","day"] 1 [2] ⟨Nx,[ (Ni ".0",Xv),(Ni "other",Xv),(Ni "day",Nv)],false,false,[]⟩:= .of
section
variable {P:VL} {w:VP} {K:Nh} {mg:Str->Option Vw} {base:VQ} {t:cA}
open Classical in
def jg(d k:Int)(u:Str):Int:=if h:∃r,iE d k u r then h.choose else 0
theorem DI{d k:Int}{u:Str}{r:Int}(h:iE d k u r):r=jg d k u:=by
 unfold jg;rw [dif_pos ⟨r,h⟩];exact Ll h (Exists.choose_spec (⟨r,h⟩:∃r,iE d k u r))
def bu:Option Int->Vv
 | none=>.none
 | some i=>.int i
def fR(r:Rp):Prop:=Dj r.hs/\Nw r.c.kd=true/\r.ts.length<=41/\∀m∈r.ts,Nw m=true
def gI(r:Rp)(wd:Str)(n:Int):List Int:=(k8 r.hs wd).filter λz=>decide (z<=n)
def nh(r:Rp)(n:Int):cm->Option Int
 | .com=>some r.c.d
 | .fst wd=>(gI r wd n).head?
 | .lst wd=>(gI r wd n).getLast?
theorem LU{l:List Int}{Q:Vv->Prop}(q:Q (bu l.head?)):if (!(l.map λz=>Nn z).isEmpty)=false then Q .none else ∃d,atI (l.map λz=>Nn z) 0=some d/\Q d:=by
 cases l with
 | nil=>rw [Vs (by rfl)];exact q
 | cons a l=>rw [Vr Vu];exact⟨.int a,d9,q⟩
theorem z9{l:List Vv}{a:Vv}:atI (l++[a]) (-1)=some a:=by
 unfold atI fY;rw [Vr Vq,Vs (by rw [Oc,Rn];omega)];rw [show((-1:Int)+((l++[a]).length:Nat)).toNat=l.length by rw [Oc,Rn];omega];simp
theorem LV{l:List Int}{Q:Vv->Prop}(q:Q (bu l.getLast?)):if (!(l.map λz=>Nn z).isEmpty)=false then Q .none else ∃d,atI (l.map λz=>Nn z) (-1)=some d/\Q d:=by
 rcases Tb l with e | ⟨l',a,e⟩
 ·subst e;rw [Vs (by rfl)];exact q
 ·rw [Tc] at e;subst e;rw [Vr Vu];refine⟨.int a,?_,?_⟩
  ·rw [N8];exact z9
  ·rw [Tq] at q;exact q
def LW(C:Vy):List Vv->(Vv->Prop)->Prop:=λds Q=>∃(r:Rp)(s:cm)(n:Int),ds=[r.enc C,s.enc,.int n]/\s.Ok/\fR r/\Q (bu (nh r n s))
theorem LX(T:Txt K mg t):aH P w K mg base CX0 2 t.a_R t.d_R ["paper","since","day"] (aX K (LW t.u_Paper)):=by
 have G_Q:=@LJ P w _ _ base _ T;refine T.F_R.F.okD CC (λds Q h=>?_) (λ_ _ _ _ H O ds Q E hr h=>?_)
 ·obtain⟨r,s,n,rfl,_⟩:=h;rfl
 ·obtain⟨r,si,n,rfl,hsi,hh,q⟩:=h;refine'⟨_,?A,?B⟩
  case A=>
   refine' ar ?C ?D
   case C=>
    refine' bj ?E ?F bh
    case E=>exact(aF (cv hr) cw (aq av az (dv 1) ag) aO (au _))
    case' F=>refine' ax ?G
    case G=>exact(aM (kE (C:=t.u_Paper) T.cl_Paper T.na_Paper_coming (dv 0)))
   case' D=>refine' ar ?H ?I
   case H=>exact(gC (i:=3) CC.nd rfl Vt (kr rfl DH (df (aB G_Q hr T.F_Q (aa (dv 0) (aa (aq av az (dv 1) ag) ah)))) aP cf Vp (λ_ _ _ _=>(aN (i:=0) DH.nd rfl Vt)) (λ_ _ _ _=>(cU (aF fX dX (dv 0) (dv 1) (au _)))) (λ_ _ _ _=>(dv 0))))
   case' I=>refine' ar ?J ?K
   case J=>
    refine' bj ?L ?M bh
    case L=>exact(lW (vB (dv 3)))
    case M=>refine' ax (aM eZ)
   case' K=>refine' ax ?N
   case' N=>refine' aM ?O
   case O=>exact(Hq (aF (cv hr) cw (aq av az (dv 1) ag) aO (au _)) (aq bI bW (dv 3) ag) (aq bI bW (dv 3) (Bb ag)))
  case B=>
  clear hr T G_Q;have dl:∀wd,(k8 r.hs wd).length<=41:=λwd=>by
   unfold k8;rw [Nj];exact NP (Oa _ _) hh.1.1
  cases si with
  | com=>
   simp only [cm.enc];walk_at "d";exact⟨[Ng "name",Ng "coming",Ng "kind",Ng "makers",Ng "happenings"],_,rfl,_,Dk,q⟩
  | fst wd=>
   simp only [cm.enc];walk_at "d";rw [bY (show Ng "first"≠Ng "coming" by decide+kernel),Vr Nt];have dl:=dl wd;refine⟨r,wd,rfl,hh.1,hsi,_,rfl,by rw [Nj];omega,cG (λz=>decide (z<=n)) (λz=>.int z) (λx hx R S h=>?_) ?_⟩
   ·walk_at "d";simpa using h
   ·have q:Q (bu (gI r wd n).head?):=q;unfold gI at q;exact LU q
  | lst wd=>
   simp only [cm.enc];walk_at "d";rw [bY (show Ng "last"≠Ng "coming" by decide+kernel),Vr Nt];have dl:=dl wd;refine⟨r,wd,rfl,hh.1,hsi,_,rfl,by rw [Nj];omega,cG (λz=>decide (z<=n)) (λz=>.int z) (λx hx R S h=>?_) ?_⟩
   ·walk_at "d";simpa using h
   ·have q:Q (bu (gI r wd n).getLast?):=q;unfold gI at q;exact LV q
def bH(r:Rp)(n:Int):Pt->Option Int
 | .five _ _ s k u=>(nh r n s).map λb=>jg b k u
 | .two _ _=>none
def LY(C:Vy):List Vv->(Vv->Prop)->Prop:=λds Q=>∃(r:Rp)(w kd:Str)(s:cm)(k:Int)(u:Str)(n:Int),ds=[r.enc C,(Pt.five w kd s k u).enc,.int n]/\s.Ok/\gZ u/\fR r/\Q (bu (bH r n (.five w kd s k u)))
theorem DJ(T:Txt K mg t):aH P w K mg base CX0 6 t.a_S t.d_S ["paper","parts","day"] (aX K (LY t.u_Paper)):=by
 have G_R:=@LX P w _ _ base _ T;have G_H:=@Lk P w _ _ base _ T;refine T.F_S.F.okD CD (λds Q h=>?_) (λ_ _ _ _ H O ds Q E hr h=>?_)
 ·obtain⟨r,w,kd,s,k,u,n,rfl,_⟩:=h;rfl
 ·obtain⟨r,wo,kd,si,k,u,n,rfl,hsi,hu,hh,q⟩:=h;refine'⟨_,?A,?B⟩
  case A=>
   refine' ar ?C ?D
   case C=>
    refine' bG (i:=3) CD.nd rfl Vt ?E (hs:=ix)
    case E=>exact(aB G_R hr T.F_R (aa (dv 0) (aa (aq av az (dv 1) ag) (aa (dv 2) ah))))
   case' D=>refine' ar ?F ?G
   case F=>
    refine' bj ?H ?I bh
    case H=>exact(aF jV kA (dv 3) eZ (au _))
    case I=>refine' ax (aM eZ)
   case' G=>refine' ax ?J
   case' J=>refine' aM ?K
   case K=>exact(aB G_H hr T.F_H (aa (dv 3) (aa (aq av az (dv 1) ag) (aa (aq av az (dv 1) ag) ah))))
  case B=>
  clear hr T G_R G_H;simp only [Pt.enc];walk_at "d";refine⟨r,si,n,rfl,hsi,hh,?_⟩;have q:Q (bu ((nh r n si).map λb=>jg b k u)):=q;cases hb:nh r n si with
  | none=>
   rw [hb] at q;simp only [bu,isNone];walk_at "d";exact q
  | some b=>
   rw [hb] at q;simp only [bu,isNone];walk_at "d";exact⟨b,k,u,rfl,hu,λx hx=>by rw [DI hx];exact q⟩
theorem sE{xs:List De}{c:Pp}(g:dz xs)(hc:c∈aK xs)(h1:∀z,z∈g5 (dZ xs c.nm)↔z∈dZ xs c.nm)(h3:(g5 (dZ xs c.nm)).length<=41):fR (aY xs c):=by
 refine⟨⟨h3,λz hz=>?_⟩,g.gx.gp.kd c hc,?_,λm hm=>?_⟩
 ·have hz:=(h1 z).mp hz;unfold dZ at hz;obtain⟨x,hx,e⟩:=NC.mp hz;obtain⟨hx1,hx2⟩:=NR.mp hx;cases x with
  | pap p=>cases hx2
  | oth w d nm r=>
   simp only [fP,Oq,beq_iff_eq] at hx2;obtain⟨rfl,rfl⟩:=hx2;obtain⟨wd,rfl,hw⟩:=g.hp _ _ _ hx1;rw [<-e];exact hw
 ·show((cR (aK xs) c).map (·.nm)).length<=41;rw [Nj];exact sC g.gx.gp
 ·obtain⟨p,hp,rfl⟩:=NC.mp hm;exact g.gx.gp.nm p (su.mp (NR.mp hp).1)
end
theorem DK:bb (ay rR) ["paper","rules","day"] ["pair","paper"] 1 [0] ⟨Nx,[ (Ni ".0",Xv),(Ni "pair",Xv),(Ni "paper",Nv)],false,false,[]⟩:= .of
theorem DL:bb (ay rS) ["paper","rules","day","gone","left","calls","rule","parts","due"] ["maker","gone","day"] 1 [3,2] ⟨Nx,[ (Ni ".0",Xv),(Ni "maker",Xv),(Ni "has_gone",N3),(Ni "day",Nv),(Ni "gone",Nv)],false,false,[]⟩:= .of
theorem DM:bb (ay rT) ["paper","rules","day","gone","away","calls","rule","parts","due"] ["maker","gone","day"] 1 [3,2] ⟨Nx,[ (Ni ".0",Xv),(Ni "maker",Xv),(Ni "has_gone",N3),(Ni "day",Nv),(Ni "gone",Nv)],false,false,[]⟩:= .of
section
variable {P:VL} {w:VP} {K:Nh} {mg:Str->Option Vw} {base:VQ} {t:cA}
structure Gn where
 ks:List Str
 gs:List Int
def Gn.enc(g:Gn):Vv:=fJ g.ks (g.gs.map .int)
def jL:List Str->List Int->Str->Option Int
 | k::ks,d::ds,z=>if k=z then some d else jL ks ds z
 | _,_,_=>none
theorem sF:∀(ks:List Str)(gs:List Int)(z:Str),bX ks (gs.map .int) z=(jL ks gs z).map .int
 | [],_,_=>rfl
 | _::_,[],_=>rfl
 | k::ks,g::gs,z=>by
  rw [Nq];unfold bX jL;by_cases h:k=z
  ·rw [Vs h,Vs h];rfl
  ·rw [Vr h,Vr h];exact sF ks gs z
def Gn.at(g:Gn)(z:Str):Option Int:=jL g.ks g.gs z
def Gn.has(g:Gn)(n:Int)(z:Str):Bool:=match g.at z with
 | some d=>decide (d<=n)
 | none=>false
def LZ:List Vv->(Vv->Prop)->Prop:=λds Q=>∃(g:Gn)(z:Str)(n:Int),ds=[g.enc,.str z,.int n]/\Q (.bool (g.has n z))
theorem DN(T:Txt K mg t):aH P w K mg base CX0 1 t.a_U t.d_U ["gone","paper","day"] (aX K LZ):=by
 refine T.F_U.F.okD CF (λds Q h=>?_) (λ_ _ _ _ H O ds Q E hr h=>?_)
 ·obtain⟨g,z,n,rfl,_⟩:=h;rfl
 ·obtain⟨g,z,n,rfl,q⟩:=h;refine'⟨_,?A,?B⟩
  case A=>
   refine' ar ?C ?D
   case C=>exact(bG (i:=3) CF.nd rfl Vt (J4 hr.units (dv 0) (dv 1) ⟨rfl,rfl,rfl,rfl⟩))
   case' D=>refine' ax ?E
   case' E=>refine' aM ?F
   case F=>exact(jv (eQ nO qh (df (dv 3)) (df eZ) (au _)) (ju (eQ fX dX (df (dv 3)) (df (dv 2)) (au _))))
  case B=>
  clear hr T;simp only [Gn.enc];walk_at "d";refine⟨g.ks,_,rfl,?_⟩;rw [sF];have q:Q (.bool (match g.at z with | some d=>decide (d<=n) | none=>false)):=q;unfold Gn.at at q;cases hd:jL g.ks g.gs z with
  | none=>
   rw [hd] at q;simp only [RB,Sj,isNone];walk_at "d";exact q
  | some d=>
   rw [hd] at q;simp only [Rz,Option.getD_some,isNone];walk_at "d";exact q
theorem DP{a b c d e:Vv}:bX [Ng "name",Ng "coming",Ng "kind",Ng "makers",Ng "happenings"] [a,b,c,d,e] (Ng "makers")=some d:=by
 simp only [bX];rw [Vr cp,Vr cp,Vr cp,Vs trivial]
def Pt.wd:Pt->Str
 | .two w _=>w
 | .five w _ _ _ _=>w
def Pt.kd:Pt->Str
 | .two _ kd=>kd
 | .five _ kd _ _ _=>kd
theorem Pt.kdOk{p:Pt}(h:p.Ok):Nw p.kd=true:=by cases p with | two w kd=>exact h.2.2 | five w kd s k u=>exact h.2.1
theorem Pt.at1(p:Pt):∃l,p.enc= .tuple l/\atI l 1=some (.str p.kd):=by cases p <;> exact⟨_,rfl,dN⟩
def lg(L:List (Str×Pt)):Prop:=L.length<=41/\∀z∈L,z.2.Ok
def cB(r:Rp)(n:Int)(L:List (Str×Pt)):List (Str×Pt):=if r.c.d > n then [] else L.filter λz=>z.2.kd==r.c.kd
def L0(C:Vy):List Vv->(Vv->Prop)->Prop:=λds Q=>∃(r:Rp)(L:List (Str×Pt))(n:Int),ds=[r.enc C,.tuple (L.map dB),.int n]/\fR r/\lg L/\Q (.list ((cB r n L).map dB))
theorem DQ(T:Txt K mg t):aH P w K mg base CX0 1 t.a_T t.d_T ["paper","rules","day"] (aX K (L0 t.u_Paper)):=by
 refine T.F_T.F.okD K5 (λds Q h=>?_) (λ_ _ _ _ H O ds Q E hr h=>?_)
 ·obtain⟨r,L,n,rfl,_⟩:=h;rfl
 ·obtain⟨r,L,n,rfl,hr',hL,q⟩:=h;refine'⟨_,?A,?B⟩
  case A=>
   refine' ar ?C ?D
   case C=>
    refine' bj ?E ?F bh
    case E=>exact(aF lN dX (kE (C:=t.u_Paper) T.cl_Paper T.na_Paper_coming (dv 0)) (dv 2) (au _))
    case' F=>refine' ax ?G
    case G=>exact(aM (fe (cN ah)))
   case' D=>refine' ax ?H
   case' H=>refine' aM ?I
   case' I=>refine' fe ?J
   case J=>exact(l5 rfl DK (df (dv 1)) aP cf Vp (λ_ _ _ _=>(aN (i:=0) DK.nd rfl Vt)) (λ_ _ _ _=>(cU (aF (cn hr.units) cq (aq av az (aq av az (dv 0) ag) ag) (kE (C:=t.u_Paper) T.cl_Paper T.na_Paper_kind (dv 1)) (au _)))) (λ_ _ _ _=>(dv 0)))
  case B=>
  clear hr T;walk_at "d";refine⟨[Ng "name",Ng "coming",Ng "kind",Ng "makers",Ng "happenings"],_,rfl,_,Dk,r.c.d,rfl,?_⟩;unfold cB at q;by_cases hd:r.c.d > n
  ·rw [Vs hd] at q⊢;exact q
  ·rw [Vr hd] at q⊢;refine⟨by rw [Nj];have:=hL.1;omega,cG (λz:Str×Pt=>z.2.kd==r.c.kd) dB (λx hx R S h=>?_) q⟩;simp only [dB];obtain⟨l,e1,e2⟩:=Pt.at1 x.2;rw [e1];walk_at "d";refine⟨_,e2,[Ng "name",Ng "coming",Ng "kind",Ng "makers",Ng "happenings"],_,rfl,_,LI,cz.mpr (Pt.kdOk (hL.2 x hx)),cz.mpr hr'.2.1,?_⟩;rw [iu];simp only [dB] at h;rw [e1] at h;exact h
def aV(z:Str×Vv):Vv:= .tuple [.str z.1,z.2]
def dD(r:Rp)(n:Int)(g:Gn):List Str:=r.ts.filter λm=>!g.has n m
def dE(r:Rp)(n:Int)(g:Gn):List Str:=r.ts.filter λm=>g.has n m
def cS(n:Int):Option Int->Bool
 | none=>true
 | some d=>decide (d > n)
def nk(r:Rp)(n:Int)(g:Gn):Pt->Option Vv
 | .five w kd s k u=>if w=Ng "keep"/\cS n (bH r n (.five w kd s k u))=true then some (bu (bH r n (.five w kd s k u))) else none
 | .two w kd=>if w=Ng "while" then(dD r n g).head?.map .str else none
def nr(r:Rp)(n:Int)(g:Gn):Pt->Option Vv
 | .five w kd s k u=>if w=Ng "gone"/\cS n (bH r n (.five w kd s k u))=false then some (bu (bH r n (.five w kd s k u))) else none
 | .two w kd=>if w=Ng "follow" then(dE r n g).head?.map .str else none
def iF(r:Rp)(n:Int)(g:Gn)(z:Str×Pt):List (Str×Vv):=((nk r n g z.2).map λb=>(z.1,b)).toList
def iG(r:Rp)(n:Int)(g:Gn)(z:Str×Pt):List (Str×Vv):=((nr r n g z.2).map λb=>(z.1,b)).toList
def dR(r:Rp)(n:Int)(g:Gn)(L:List (Str×Pt)):List (Str×Vv):=(cB r n L).flatMap (iF r n g)
def dU(r:Rp)(n:Int)(g:Gn)(L:List (Str×Pt)):List (Str×Vv):=(cB r n L).flatMap (iG r n g)
theorem sG{α β:Type}{f:α->List β}(h:∀x,(f x).length<=1):∀l:List α,(l.flatMap f).length<=l.length
 | []=>by simp
 | x::l=>by
  rw [List.flatMap_cons,Oc,NF];have:=h x;have:=sG h l;omega
theorem wO{α:Type}(o:Option α):o.toList.length<=1:=by cases o <;> simp
theorem DR{f:Str×Pt->Option Vv}(M:List (Str×Pt))(hM:M.length<=41):∃acc:Nat->List Vv,acc 0=[]/\(∀i,(acc i).length<=41)/\(∀i x,M[i]?=some x->f x=none->acc (i+1)=acc i)/\(∀i x,M[i]?=some x->∀b,f x=some b->acc (i+1)=acc i++[.tuple [.str x.1,b]])/\acc M.length=(M.flatMap λz=>((f z).map λb=>(z.1,b)).toList).map aV:=by
 refine⟨λi=>((M.take i).flatMap λz=>((f z).map λb=>(z.1,b)).toList).map aV,rfl,λi=>?_,λi x hx e=>?_,λi x hx b e=>?_,?_⟩
 ·show(NM aV _).length<=41;rw [Nj];refine NP (sG (λz=>wO _) _) ?_;rw [NS];omega
 ·show NM aV _=NM aV _;rw [Ox,hx,QR];simp [e]
 ·show NM aV _=NM aV _++_;rw [Ox,hx,QR,N8];simp [e,aV]
 ·show NM aV _=_;rw [NI (Np _)]
theorem DU{r:Rp}{n:Int}{L:List (Str×Pt)}(h:lg L):lg (cB r n L):=by
 unfold cB;split
 ·exact⟨Vu,Vu⟩
 ·exact⟨NP (Oa _ _) h.1,λz hz=>h.2 z (NR.mp hz).1⟩
def lh(C:Vy)(r:Rp)(L:List (Str×Pt))(n:Int)(g:Gn)(ms:List Str)(a:List Vv)(δ:Dl):Prop:=∃(o6 o7 o8:Option Sl),δ=[some (Sl.v (Rp.enc C r)),some (Sl.v (ND (NM dB L))),some (Sl.v (Nn n)),some (Sl.v g.enc),some (Sl.v (Od (ms.map λm=>Nl m))),some (Sl.o a),o6,o7,o8]
def F_V(C:Vy):List Vv->(Vv->Prop)->Prop:=λds Q=>∃(r:Rp)(L:List (Str×Pt))(n:Int)(g:Gn),ds=[r.enc C,.tuple (L.map dB),.int n,g.enc]/\fR r/\lg L/\Q (.tuple ((dR r n g L).map aV))
theorem L1(T:Txt K mg t):aH P w K mg base CX0 7 t.a_V t.d_V ["paper","rules","day","gone"] (aX K (F_V t.u_Paper)):=by
 have G_U:=@DN P w _ _ base _ T;have G_T:=@DQ P w _ _ base _ T;have G_S:=@DJ P w _ _ base _ T;refine T.F_V.F.okD kR (λds Q h=>?_) (λ_ _ _ _ H O ds Q E hr h=>?_)
 ·obtain⟨r,L,n,g,rfl,_⟩:=h;rfl
 ·obtain⟨r,L,n,g,rfl,hr',hL,q⟩:=h;refine'⟨_,?A,?B⟩
  case A=>
   refine' ar ?C ?D
   case C=>exact(gC (i:=4) kR.nd rfl Vt (mK rfl DL (df (kE (C:=t.u_Paper) T.cl_Paper T.na_Paper_makers (dv 0))) aP cf Vp (λ_ _ _ _=>(aN (i:=0) DL.nd rfl Vt)) (λ_ _ _ _=>(cU (lW (ic (aB G_U hr T.F_U (aa (dv 1) (aa (dv 0) (aa (dv 2) ah)))))))) (λ_ _ _ _=>(dv 0))))
   case' D=>refine' ar ?E ?F
   case E=>exact(lZ (i:=5) kR.nd rfl Vt (cN ah))
   case' F=>refine' ar ?G ?H
   case G=>
    refine' oP Ov rfl (aB G_T hr T.F_T (aa (dv 0) (aa (dv 1) (aa (dv 2) ah)))) ?I (jA (d7 aP (d7 aP jz))) ?J
    case I=>exact(iN (n:=2) rfl (dG (aN (i:=6) kR.nd rfl Vt) (dG (aN (i:=7) kR.nd rfl Vt) iM)))
    case' J=>refine' ar ?K ?L
    case K=>
     refine' bj ?M ?N bh
     case M=>exact(aF (cv hr) cw (aq av az (dv 7) ag) aO (au _))
     case' N=>refine' ar ?O ?P
     case O=>exact(bG (i:=8) kR.nd rfl Vt (aB G_S hr T.F_S (aa (dv 0) (aa (dv 7) (aa (dv 2) ah)))))
     case' P=>refine' ax ?Q
     case' Q=>refine' bj ?R ?S bh
     case R=>exact(PW.pt (jt (aF jV kA (dv 8) eZ (au _)) (js (aF lN dX (dv 8) (dv 2) (au _)))))
     case' S=>refine' ax ?T
     case T=>exact(ij (i:=5) (pv 5) (bC (aa (dv 6) (aa (dv 8) ah))))
    case' L=>refine' ax ?U
    case' U=>refine' bj ?V ?W bh
    case V=>exact(PW.pt (cV (aF (cv hr) cw (aq av az (dv 7) ag) aO (au _)) (dM (vB (dv 4)))))
    case' W=>refine' ax ?X
    case' X=>refine' ij (i:=5) (pv 5) ?Y
    case Y=>exact(bC (aa (dv 6) (aa (aq bI bW (dv 4) ag) ah)))
   case' H=>refine' ax ?Z
   case Z=>exact(aM (PE.imp (d6 hX rfl T.n_tuple gc (ig (dw 5) bg)) (bN iq)))
  case B=>
  clear hr T G_U G_T G_S;walk_at "d";refine⟨[Ng "name",Ng "coming",Ng "kind",Ng "makers",Ng "happenings"],_,rfl,_,DP,_,rfl,by rw [Nj];have:=hr'.2.2.1;omega,cG (λm=>!g.has n m) (λm=>.str m) (λx hx R S h=>?_) ?_⟩
  ·walk_at "d";exact⟨g,x,n,rfl,by simpa using h⟩
  ·refine⟨r,L,n,rfl,hr',hL,?_⟩;have ok:=DU (r:=r) (n:=n) hL;walk_at "d";have q:Q (.tuple (((cB r n L).flatMap (iF r n g)).map aV)):=q;generalize hM:cB r n L=M at ok q⊢;obtain⟨acc,a0,al,an,as,ae⟩:=DR (f:=λz:Str×Pt=>nk r n g z.2) M ok.1;generalize hE:dW.mk _ _ _ _=EE;have eN:=congrArg dW.nx hE;simp only at eN;clear hE;refine⟨λi=>lh t.u_Paper r L n g (dD r n g) (acc i),⟨none,none,none,by rw [a0];rfl⟩,?_,?_⟩
   ·rintro i z δ hz ⟨o6,o7,o8,rfl⟩;rw [NK] at hz;cases hz':M[i]? with
    | none=>rw [hz'] at hz;cases hz
    | some x=>
     rw [hz'] at hz;cases hz;have xo:=ok.2 x (NT hz');have tl:=al i;have none_:=an i x hz';have some_:=as i x hz';obtain⟨nm,pt⟩:=x;simp only [dB];have fin:∀a(o6 o7 o8:Option Sl),acc (i+1)=a->lh t.u_Paper r L n g (dD r n g) (acc (i+1)) [some (Sl.v (Rp.enc t.u_Paper r)),some (Sl.v (ND (NM dB L))),some (Sl.v (Nn n)),some (Sl.v g.enc),some (Sl.v (Od ((dD r n g).map λm=>Nl m))),some (Sl.o a),o6,o7,o8]:=λa o6 o7 o8 e=>⟨o6,o7,o8,by rw [e]⟩;generalize lh t.u_Paper r L n g (dD r n g) (acc (i+1))=NX at fin⊢;clear eN;cases pt with
     | two w2 kd=>
      have k1:w2≠Ng "keep":=λe=>xo.1 (.inl e);simp only [Pt.enc];generalize hD:fF (jw 8 _) _=TD;generalize hW:iS (ie _ (ja _)) _ _=TW;walk_at "d";rw [bY k1,Vr Nt];clear hD;subst hW;walk_at "d";by_cases hw:w2=Ng "while"
      ·subst hw;rw [Vs (beq_self_eq_true _)];cases hl:dD r n g with
       | nil=>
        rw [hl] at fin;rw [Vr Vu];exact fin _ _ _ _ (none_ (by show(if Ng "while"=Ng "while" then(dD r n g).head?.map Nl else none)=none;rw [Vs rfl,hl];rfl))
       | cons m l=>
        rw [hl] at fin;rw [Vs (by rfl)];exact⟨_,d9,Vq,fin _ _ _ _ (some_ (.str m) (by show(if Ng "while"=Ng "while" then(dD r n g).head?.map Nl else none)=some _;rw [Vs rfl,hl];rfl))⟩
      ·rw [bY hw,Vr Nt];exact fin _ _ _ _ (none_ (by show(if w2=Ng "while" then(dD r n g).head?.map Nl else none)=none;rw [Vr hw]))
     | five w2 kd si k u=>
      have k1:w2≠Ng "while":=λe=>by rcases xo.1 with z | z <;> rw [z] at e <;> exact absurd e cp
      simp only [Pt.enc];generalize hW:iS (ie _ (ja _)) _ _=TW;generalize hE2:dW.mk _ _ _ _=E2;have eN2:E2.nx=NX:=by rw [<-hE2]
      have pass:∀a(o8:Option Sl),acc (i+1)=a->TW E2 [some (Sl.v (Rp.enc t.u_Paper r)),some (Sl.v (ND (NM dB L))),some (Sl.v (Nn n)),some (Sl.v g.enc),some (Sl.v (Od ((dD r n g).map λm=>Nl m))),some (Sl.o a),some (Sl.v (Nl nm)),some (Sl.v (ND [Nl w2,Nl kd,si.enc,Nn k,Nl u])),o8]:=λa o8 e=>by
       subst hW;walk_at "d";rw [bY k1,Vr Nt,eN2];exact fin _ _ _ _ e
      clear hW hE2;walk_at "d";by_cases hw:w2=Ng "keep"
      ·subst hw;rw [Vs (beq_self_eq_true _)];refine⟨r,Ng "keep",kd,si,k,u,n,rfl,xo.2.2.1,xo.2.2.2.2.2,hr',?_⟩;have df:nk r n g (.five (Ng "keep") kd si k u)=if Ng "keep"=Ng "keep"/\cS n (bH r n (.five (Ng "keep") kd si k u))=true then some (bu (bH r n (.five (Ng "keep") kd si k u))) else none:=rfl
       cases hd:bH r n (.five (Ng "keep") kd si k u) with
       | none=>
        rw [hd] at df;simp only [bu,isNone];walk_at "d";refine⟨Vq,?_⟩;exact pass _ _ (some_ .none (by rw [df,Vs ⟨rfl,rfl⟩];rfl))
       | some d=>
        rw [hd] at df;simp only [bu,isNone];walk_at "d";by_cases hdn:n < d
        ·rw [Vs hdn];refine⟨Vq,?_⟩;exact pass _ _ (some_ (.int d) (by rw [df,Vs ⟨rfl,decide_eq_true hdn⟩];rfl))
        ·rw [Vr hdn];exact pass _ _ (none_ (by rw [df,Vr λz=>hdn (of_decide_eq_true z.2)]))
      ·rw [bY hw,Vr Nt];exact pass _ _ (none_ (by show(if w2=Ng "keep"/\cS n (bH r n (.five w2 kd si k u))=true then some (bu (bH r n (.five w2 kd si k u))) else none)=none;rw [Vr λz=>hw z.1]))
   ·rintro δ ⟨o6,o7,o8,rfl⟩;rw [<-eN,Nj,ae];walk_at "d";exact q
def F_W(C:Vy):List Vv->(Vv->Prop)->Prop:=λds Q=>∃(r:Rp)(L:List (Str×Pt))(n:Int)(g:Gn),ds=[r.enc C,.tuple (L.map dB),.int n,g.enc]/\fR r/\lg L/\Q (.tuple ((dU r n g L).map aV))
theorem L3(T:Txt K mg t):aH P w K mg base CX0 7 t.a_W t.d_W ["paper","rules","day","gone"] (aX K (F_W t.u_Paper)):=by
 have G_U:=@DN P w _ _ base _ T;have G_T:=@DQ P w _ _ base _ T;have G_S:=@DJ P w _ _ base _ T;refine T.F_W.F.okD kT (λds Q h=>?_) (λ_ _ _ _ H O ds Q E hr h=>?_)
 ·obtain⟨r,L,n,g,rfl,_⟩:=h;rfl
 ·obtain⟨r,L,n,g,rfl,hr',hL,q⟩:=h;refine'⟨_,?A,?B⟩
  case A=>
   refine' ar ?C ?D
   case C=>exact(gC (i:=4) kT.nd rfl Vt (mK rfl DM (df (kE (C:=t.u_Paper) T.cl_Paper T.na_Paper_makers (dv 0))) aP cf Vp (λ_ _ _ _=>(aN (i:=0) DM.nd rfl Vt)) (λ_ _ _ _=>(cU (ic (aB G_U hr T.F_U (aa (dv 1) (aa (dv 0) (aa (dv 2) ah))))))) (λ_ _ _ _=>(dv 0))))
   case' D=>refine' ar ?E ?F
   case E=>exact(lZ (i:=5) kT.nd rfl Vt (cN ah))
   case' F=>refine' ar ?G ?H
   case G=>
    refine' oP Ov rfl (aB G_T hr T.F_T (aa (dv 0) (aa (dv 1) (aa (dv 2) ah)))) ?I (jA (d7 aP (d7 aP jz))) ?J
    case I=>exact(iN (n:=2) rfl (dG (aN (i:=6) kT.nd rfl Vt) (dG (aN (i:=7) kT.nd rfl Vt) iM)))
    case' J=>refine' ar ?K ?L
    case K=>
     refine' bj ?M ?N bh
     case M=>exact(aF (cv hr) cw (aq av az (dv 7) ag) aO (au _))
     case' N=>refine' ar ?O ?P
     case O=>exact(bG (i:=8) kT.nd rfl Vt (aB G_S hr T.F_S (aa (dv 0) (aa (dv 7) (aa (dv 2) ah)))))
     case' P=>refine' ax ?Q
     case' Q=>refine' bj ?R ?S bh
     case R=>exact(PW.pt (cV (aF nO qh (dv 8) eZ (au _)) (dM (aF fX dX (dv 8) (dv 2) (au _)))))
     case' S=>refine' ax ?T
     case T=>exact(ij (i:=5) (pv 5) (bC (aa (dv 6) (aa (dv 8) ah))))
    case' L=>refine' ax ?U
    case' U=>refine' bj ?V ?W bh
    case V=>exact(PW.pt (cV (aF (cv hr) cw (aq av az (dv 7) ag) aO (au _)) (dM (vB (dv 4)))))
    case' W=>refine' ax ?X
    case' X=>refine' ij (i:=5) (pv 5) ?Y
    case Y=>exact(bC (aa (dv 6) (aa (aq bI bW (dv 4) ag) ah)))
   case' H=>refine' ax ?Z
   case Z=>exact(aM (PE.imp (d6 hX rfl T.n_tuple gc (ig (dw 5) bg)) (bN iq)))
  case B=>
  clear hr T G_U G_T G_S;walk_at "d";refine⟨[Ng "name",Ng "coming",Ng "kind",Ng "makers",Ng "happenings"],_,rfl,_,DP,_,rfl,by rw [Nj];have:=hr'.2.2.1;omega,cG (λm=>g.has n m) (λm=>.str m) (λx hx R S h=>?_) ?_⟩
  ·walk_at "d";exact⟨g,x,n,rfl,by simpa using h⟩
  ·refine⟨r,L,n,rfl,hr',hL,?_⟩;have ok:=DU (r:=r) (n:=n) hL;walk_at "d";have q:Q (.tuple (((cB r n L).flatMap (iG r n g)).map aV)):=q;generalize hM:cB r n L=M at ok q⊢;obtain⟨acc,a0,al,an,as,ae⟩:=DR (f:=λz:Str×Pt=>nr r n g z.2) M ok.1;generalize hE:dW.mk _ _ _ _=EE;have eN:=congrArg dW.nx hE;simp only at eN;clear hE;refine⟨λi=>lh t.u_Paper r L n g (dE r n g) (acc i),⟨none,none,none,by rw [a0];rfl⟩,?_,?_⟩
   ·rintro i z δ hz ⟨o6,o7,o8,rfl⟩;rw [NK] at hz;cases hz':M[i]? with
    | none=>rw [hz'] at hz;cases hz
    | some x=>
     rw [hz'] at hz;cases hz;have xo:=ok.2 x (NT hz');have tl:=al i;have none_:=an i x hz';have some_:=as i x hz';obtain⟨nm,pt⟩:=x;simp only [dB];have fin:∀a(o6 o7 o8:Option Sl),acc (i+1)=a->lh t.u_Paper r L n g (dE r n g) (acc (i+1)) [some (Sl.v (Rp.enc t.u_Paper r)),some (Sl.v (ND (NM dB L))),some (Sl.v (Nn n)),some (Sl.v g.enc),some (Sl.v (Od ((dE r n g).map λm=>Nl m))),some (Sl.o a),o6,o7,o8]:=λa o6 o7 o8 e=>⟨o6,o7,o8,by rw [e]⟩;generalize lh t.u_Paper r L n g (dE r n g) (acc (i+1))=NX at fin⊢;clear eN;cases pt with
     | two w2 kd=>
      have k1:w2≠Ng "gone":=λe=>xo.1 (.inr e);simp only [Pt.enc];generalize hD:fF (jw 8 _) _=TD;generalize hW:iS (ie _ (ja _)) _ _=TW;walk_at "d";rw [bY k1,Vr Nt];clear hD;subst hW;walk_at "d";by_cases hw:w2=Ng "follow"
      ·subst hw;rw [Vs (beq_self_eq_true _)];cases hl:dE r n g with
       | nil=>
        rw [hl] at fin;rw [Vr Vu];exact fin _ _ _ _ (none_ (by show(if Ng "follow"=Ng "follow" then(dE r n g).head?.map Nl else none)=none;rw [Vs rfl,hl];rfl))
       | cons m l=>
        rw [hl] at fin;rw [Vs (by rfl)];exact⟨_,d9,Vq,fin _ _ _ _ (some_ (.str m) (by show(if Ng "follow"=Ng "follow" then(dE r n g).head?.map Nl else none)=some _;rw [Vs rfl,hl];rfl))⟩
      ·rw [bY hw,Vr Nt];exact fin _ _ _ _ (none_ (by show(if w2=Ng "follow" then(dE r n g).head?.map Nl else none)=none;rw [Vr hw]))
     | five w2 kd si k u=>
      have k1:w2≠Ng "follow":=λe=>by rcases xo.1 with z | z <;> rw [z] at e <;> exact absurd e cp
      simp only [Pt.enc];generalize hW:iS (ie _ (ja _)) _ _=TW;generalize hE2:dW.mk _ _ _ _=E2;have eN2:E2.nx=NX:=by rw [<-hE2]
      have pass:∀a(o8:Option Sl),acc (i+1)=a->TW E2 [some (Sl.v (Rp.enc t.u_Paper r)),some (Sl.v (ND (NM dB L))),some (Sl.v (Nn n)),some (Sl.v g.enc),some (Sl.v (Od ((dE r n g).map λm=>Nl m))),some (Sl.o a),some (Sl.v (Nl nm)),some (Sl.v (ND [Nl w2,Nl kd,si.enc,Nn k,Nl u])),o8]:=λa o8 e=>by
       subst hW;walk_at "d";rw [bY k1,Vr Nt,eN2];exact fin _ _ _ _ e
      clear hW hE2;walk_at "d";by_cases hw:w2=Ng "gone"
      ·subst hw;rw [Vs (beq_self_eq_true _)];refine⟨r,Ng "gone",kd,si,k,u,n,rfl,xo.2.2.1,xo.2.2.2.2.2,hr',?_⟩;have df:nr r n g (.five (Ng "gone") kd si k u)=if Ng "gone"=Ng "gone"/\cS n (bH r n (.five (Ng "gone") kd si k u))=false then some (bu (bH r n (.five (Ng "gone") kd si k u))) else none:=rfl
       cases hd:bH r n (.five (Ng "gone") kd si k u) with
       | none=>
        rw [hd] at df;simp only [bu,isNone];walk_at "d";exact pass _ _ (none_ (by rw [df,Vr λz=>Bool.noConfusion (show true=false from z.2)]))
       | some d=>
        rw [hd] at df;simp only [bu,isNone];walk_at "d";by_cases hdn:d<=n
        ·rw [Vs hdn];refine⟨Vq,?_⟩;exact pass _ _ (some_ (.int d) (by rw [df,Vs ⟨rfl,decide_eq_false Vq⟩];rfl))
        ·rw [Vr hdn];exact pass _ _ (none_ (by rw [df,Vr λz=>hdn (by have:=of_decide_eq_false z.2;omega)]))
      ·rw [bY hw,Vr Nt];exact pass _ _ (none_ (by show(if w2=Ng "gone"/\cS n (bH r n (.five w2 kd si k u))=false then some (bu (bH r n (.five w2 kd si k u))) else none)=none;rw [Vr λz=>hw z.1]))
   ·rintro δ ⟨o6,o7,o8,rfl⟩;rw [<-eN,Nj,ae];walk_at "d";exact q
theorem wQ{a b:Str}:(a==b)=decide (a=b):=by
 by_cases h:a=b
 ·simp [h]
 ·rw [bY h,decide_eq_false h]
theorem L4{w:Str}(h:KG w):Nw w=true:=by rcases h with h | h <;> rw [h] <;> decide+kernel
theorem L5{w:Str}(h:gZ w):Nw w=true:=by rcases h with h | h | h <;> rw [h] <;> decide+kernel
theorem cm.lay{s:cm}(h:s.Ok):ck 2 s.enc:=by
 cases s with
 | com=>exact cX (aU (bL cp) dY)
 | fst wd=>exact cX (aU (bL cp) (aU (bL h) dY))
 | lst wd=>exact cX (aU (bL cp) (aU (bL h) dY))
theorem Pt.lay{p:Pt}(h:p.Ok):ck 3 p.enc:=by
 cases p with
 | two w kd=>exact(cX (n:=1) (aU (bL h.2.1) (aU (bL h.2.2) dY))).mono Vp
 | five w kd s k u=>exact cX (aU (bL (L4 h.1)) (aU (bL h.2.1) (aU (cm.lay h.2.2.1) (aU gT (aU (bL (L5 h.2.2.2.2.2)) dY)))))
theorem wR{xs:List De}{n:Int}(g:dz xs)(h:fQ xs n (bM xs n))(hl:(bM xs n).length<=41):lg (bM xs n):=by
 refine⟨hl,λz hz=>?_⟩;obtain⟨d,_,hm,_⟩:=(h.2 z).mp hz;obtain⟨pt,e,ok⟩:=g.ru _ _ _ hm;rw [wN (Rk e).1];exact ok
def sH(xs:List De)(n:Int)(c:Pp)(g:Gn):List (Str×Vv):=dR (aY xs c) n g (bM xs n)
def sI(xs:List De)(n:Int)(c:Pp)(g:Gn):List (Str×Vv):=dU (aY xs c) n g (bM xs n)
def F_X:List Vv->(Vv->Prop)->Prop:=λds Q=>∃(xs:List De)(n:Int)(c:Pp)(g:Gn),ds=[.tuple (xs.map De.enc),.int n,.str c.nm,g.enc]/\dz xs/\c∈aK xs/\(fQ xs n (bM xs n)->(bM xs n).length<=41->fR (aY xs c)->Q (.tuple ((sH xs n c g).map aV)))
def F_Y:List Vv->(Vv->Prop)->Prop:=λds Q=>∃(xs:List De)(n:Int)(c:Pp)(g:Gn),ds=[.tuple (xs.map De.enc),.int n,.str c.nm,g.enc]/\dz xs/\c∈aK xs/\(fQ xs n (bM xs n)->(bM xs n).length<=41->fR (aY xs c)->Q (.tuple ((sI xs n c g).map aV)))
theorem L6(T:Txt K mg t):aH P w K mg base CX0 9 t.a_X t.d_X ["deeds","day","paper","gone"] (aX K F_X):=by
 have G_I:=@Di P w _ _ base _ T;have G_P:=@DD P w _ _ base _ T;have G_V:=@L1 P w _ _ base _ T;refine T.F_X.F.okD K6 (λds Q h=>?_) (λ_ _ _ _ H O ds Q E hr h=>?_)
 ·obtain⟨xs,n,c,g,rfl,_⟩:=h;rfl
 ·obtain⟨xs,n,c,g,rfl,gd,hc,q⟩:=h;refine'⟨_,?A,?B⟩
  case A=>
   refine' ax ?C
   case' C=>refine' aM ?D
   case D=>exact(aB G_V hr T.F_V (aa (PE.imp (yY T.mk_Paper G_I (hr.mono Vp) rfl T.c_Paper T.F_I.b .nil tJ (aa (dv 0) (aa (dv 2) ah))) BL) (aa (aB G_P hr T.F_P (aa (dv 0) (aa (dv 1) ah))) (aa (dv 1) (aa (dv 3) ah)))))
  case B=>
  clear hr T G_I G_P G_V;walk_at "d";exact⟨xs,c,rfl,gd,hc,λh1 h2 h3=>⟨xs,n,rfl,gd,λh4 h5=>⟨aY xs c,_,n,g,rfl,sE gd hc h1 h3,wR gd h4 h5,q h4 h5 (sE gd hc h1 h3)⟩⟩⟩
theorem L7(T:Txt K mg t):aH P w K mg base CX0 9 t.a_Y t.d_Y ["deeds","day","paper","gone"] (aX K F_Y):=by
 have G_I:=@Di P w _ _ base _ T;have G_P:=@DD P w _ _ base _ T;have G_W:=@L3 P w _ _ base _ T;refine T.F_Y.F.okD K7 (λds Q h=>?_) (λ_ _ _ _ H O ds Q E hr h=>?_)
 ·obtain⟨xs,n,c,g,rfl,_⟩:=h;rfl
 ·obtain⟨xs,n,c,g,rfl,gd,hc,q⟩:=h;refine'⟨_,?A,?B⟩
  case A=>
   refine' ax ?C
   case' C=>refine' aM ?D
   case D=>exact(aB G_W hr T.F_W (aa (PE.imp (yY T.mk_Paper G_I (hr.mono Vp) rfl T.c_Paper T.F_I.b .nil tJ (aa (dv 0) (aa (dv 2) ah))) BL) (aa (aB G_P hr T.F_P (aa (dv 0) (aa (dv 1) ah))) (aa (dv 1) (aa (dv 3) ah)))))
  case B=>
  clear hr T G_I G_P G_W;walk_at "d";exact⟨xs,c,rfl,gd,hc,λh1 h2 h3=>⟨xs,n,rfl,gd,λh4 h5=>⟨aY xs c,_,n,g,rfl,sE gd hc h1 h3,wR gd h4 h5,q h4 h5 (sE gd hc h1 h3)⟩⟩⟩
theorem DV{H H1:Hp}{p:Vy}(hp:H p=some (gf p))(h:∀b o,b≠p->H b=some o->H1 b=some o):ao H (ak H1 p (gf p)):=λb o e=>by
 by_cases hb:b=p
 ·subst hb;rw [aW,<-hp,e]
 ·rw [aE hb];exact h b o hb e
theorem lq(T:Txt K mg t):aH P w K mg base CX0 1 t.a_b t.d_b ["_law_purse_here","_law_many"] (aX K tY):=by
 refine T.F_b.F.ok wC (λvs H Q E h=>?_) (λcdv A outer s H vs Q E hr h=>?_)
 ·obtain⟨O,ds,Qd,_,r,⟨z,rfl,_⟩,_⟩:=h;exact r.length
 ·obtain⟨O,ds,Qd,tr,r,⟨z,rfl,z0,z1,qq⟩,k⟩:=h;cases r with
  | cons r1 r2=>
   cases r2 with
   | cons r2 r3=>
    cases r3;cases r2;cases r1 with
    | @purse p hp hn=>
     refine⟨_,bK.purse (cx (nH (aZ bt (gb bI (pv 0) aR (λ_ _=>rfl)) aR) (sW (pv 0) aR tH))
   (cx (cY (i:=2) wC.nd rfl Vt (gb bI (pv 0) aR (λ_ _=>rfl)))
   (cx (nH (aZ d4 (aZ bt (aZ eM (pv 2) (aZ bt (aZ d4 (pv 2) aR) aR)) (aZ eM aR (gb bI (pv 0) aR (λ_ _=>rfl)))) aR) (sW (pv 0) aR tH))
   (cx (ji (gN lN (gb bI (pv 0) aR (λ_ _=>rfl)) aR (au _)) (cx (nH (bS FJ rfl T.n_divmod G5 (bf (gb bI (pv 0) aR (λ_ _=>rfl)) (bf (pv 1) bR))) (iN (n:=2) rfl (dG (sW (pv 0) aR tH) (dG (aN (i:=3) wC.nd rfl Vt) iM))))
   (dF (d3 (pv 3)))) jh)
   (dF (d3 (aZ d4 (aZ fW (gb bI (pv 0) aR (λ_ _=>rfl)) aR) (pv 1)))))))),p,hp,λa b c=>?_⟩
     walk_at "a";refine jZ (aL.of aW) rfl ⟨c,rfl,p,[.int a,.int b,.int c],2,2,rfl,rfl,aW,rfl,?_⟩;refine jZ (aL.of aW) rfl ⟨a,rfl,a,rfl,.inr ⟨Vq,Vq⟩,?_⟩;refine jZ (aL.of aW) rfl ⟨c+1,rfl,p,[.int a,.int b,.int (c+1)],0,0,rfl,rfl,aW,rfl,?_⟩;generalize (a*(a % 44497+21701)+86243*(c+1))% 2147483579=a';refine jZ (aL.of aW) rfl ⟨b,rfl,?_⟩;split
     ·refine jZ (aL.of aW) rfl ⟨b,rfl,z0,Vq,λq hq=>?_⟩;have hpq:p≠q:=cT aW hq;refine⟨_,br.of aW,rfl,_,_,rfl,p,[.int a',.int b,.int (c+1)],1,1,rfl,rfl,by rw [aE hpq,aW];rfl,rfl,?_⟩;refine⟨_,_,rfl,rfl,⟨_,_,_,aW⟩,k _ _ _ (qq (b % z) (UM _ Vq) (T7 _ z0)) (DV hp λx o hx e=>?_) (.int _)⟩;have hxq:x≠q:=λy=>by
       subst y;rw [aE hx,aE hx,aE hx] at hq;rw [hq] at e;cases e
      rw [aE hx,aE hxq,aE hx,aE hx,aE hx];exact e
     ·refine jZ (aL.of aW) rfl ⟨a',rfl,z0,⟨_,_,_,aW⟩,k _ _ _ (qq (a' / 16 % z) (UM _ Vq) (T7 _ z0)) (DV hp λx o hx e=>?_) (.int _)⟩;rw [aE hx,aE hx,aE hx];exact e
def L8:List Vv->(Vv->Prop)->Prop:=λds Q=>∃c:Int,ds=[.int c]/\Q fC
theorem DW(T:Txt K mg t):aH P w K mg base CX0 1 t.a_a t.d_a ["_law_cell_here"] (aX K L8):=by
 refine T.F_a.F.ok wB (λvs H Q E h=>?_) (λcdv A outer s H vs Q E hr h=>?_)
 ·obtain⟨O,ds,Qd,_,r,⟨z,rfl,_⟩,_⟩:=h;exact r.length
 ·obtain⟨O,ds,Qd,tr,r,⟨c,rfl,qq⟩,k⟩:=h;cases r with
  | cons r1 r2=>
   cases r2;cases r1;refine⟨_,bK.newPurse (cx (cY (i:=1) wB.nd rfl Vt aR)
   (cx (ji (PW.pt (xG (gN nN (pv 0) aR (au _)) (xE (gN tw (pv 0) (aZ Fz aR aR) (au _))))) (dF (cY (i:=1) wB.nd rfl Vt (bS FI rfl T.n_abs PyProof.Rows.boot_abs (bf (pv 0) bR)))) jh)
   (dF (d3 (nS (bf (aZ d4 (pv 0) aR) (bf (pv 1) (bf aR bR)))))))),?_⟩
   walk_at "a";have fin:∀(x y z:Int)(p:Vy),H p=none->(∃u v w,ak H p (HO.lst [V.int x,V.int y,V.int z]) p=some (HO.lst [V.int u,V.int v,V.int w]))/\Q (V.ref p) (ak (ak H p (HO.lst [V.int x,V.int y,V.int z])) p (gf p)):=λx y z p hp=>
    ⟨⟨_,_,_,aW⟩,k _ _ _ qq (λb o e=>by rw [aE (cT e hp),aE (cT e hp)];exact e) (.purse aW λh=>tr p h hp)⟩
   have sl:3<=VG:=Vp
   split
   ·rw [Vs trivial];exact⟨sl,fin _ _ _⟩
   ·refine⟨Vp,?_⟩;split
    ·exact⟨sl,fin _ _ _⟩
    ·exact⟨sl,fin _ _ _⟩
end
theorem DX:bb (ay mW) ["_law_purse_here","_law_many","_law_letters","_law_stem","_law_at","_law_first","_law_step"] ["_law_k","_law_letters","_law_purse_here"] 1 [2,0] ⟨Nx,[ (Ni ".0",Xv),(Ni "_law_k",Xv),(Ni "_law_take",N3),(Ni "_law_letters",Nv),(Ni "_law_purse_here",Nv)],false,false,[]⟩:= .of
theorem DY:bb (ay mW) ["_law_purse_here","_law_many","_law_letters","_law_stem","_law_at","_law_first","_law_step"] ["_law_k","_law_stem","_law_letters","_law_at","_law_first","_law_step"] 1 [3,2,4,5,6] ⟨Nx,[ (Ni ".0",Xv),(Ni "_law_k",Xv),(Ni "_law_at",Nv),(Ni "_law_first",Nv),(Ni "_law_letters",Nv),(Ni "_law_stem",Nv),(Ni "_law_step",Nv)],false,false,[]⟩:= .of
theorem DZ:bb (ay rV) ["_law_year_here","_law_month_here","_law_number"] ["_law_k","_law_year_here"] 1 [0] ⟨Nx,[ (Ni ".0",Xv),(Ni "_law_k",Xv),(Ni "_law_month",N3),(Ni "_law_year_here",Nv)],false,false,[]⟩:= .of
section
variable {P:VL} {w:VP} {K:Nh} {mg:Str->Option Vw} {base:VQ} {t:cA}
def L9:List Vv->(Vv->Prop)->Prop:=λds Q=>∃(ns:List Int)(k:Int),ds=[ft (ns.map .int),.int k]/\0<=k/\k<=1000/\∀c:Int,Q (.int c)
theorem D1(T:Txt K mg t):aH P w K mg base CX0 1 t.a_Z t.d_Z ["_law_script","_law_k"] (aX K L9):=by
 refine T.F_Z.F.okD sf (λds Q h=>?_) (λ_ _ _ _ H O ds Q E hr h=>?_)
 ·obtain⟨ns,k,rfl,_⟩:=h;rfl
 ·obtain⟨ns,k,rfl,k0,k1,q⟩:=h;refine'⟨_,?A,?B⟩
  case A=>
   refine' ar ?C ?D
   case C=>
    refine' bj ?E ?F bh
    case E=>exact(aF nN dX (dv 1) (PE.imp (bS fB rfl T.n_len ON (bz (dv 0) bg)) (bN Hr)) (au _))
    case' F=>refine' ax ?G
    case G=>exact(aM (aq bI IL (dv 0) (dv 1)))
   case' D=>refine' ar ?H ?I
   case H=>
    refine' bG (i:=2) sf.nd rfl Vt ?J (hs:=mC)
    case J=>exact(aJ d4 cJ (aJ eM cJ ag (aJ bt bE (aJ bt bE (aJ eM cJ (dv 1) (dv 1)) (aJ eM cJ ag (dv 1))) ag)) ag)
   case' I=>refine' ar ?K ?L
   case K=>
    refine' oP Ov rfl (fe (IM (df (dv 0)) iX (fb ag))) ?M aP ?N
    case M=>exact(aN (i:=3) sf.nd rfl Vt)
    case' N=>refine' ax ?O
    case' O=>refine' bG (i:=2) sf.nd rfl Vt ?P (hs:=mC)
    case P=>exact(aJ d4 cJ (aJ bt bE (aJ eM cJ (dv 2) ag) (dv 3)) ag)
   case' L=>refine' ax ?Q
   case Q=>exact(aM (dv 2))
  case B=>
  clear hr T;walk_at "d";refine⟨_,rfl,?_⟩;rw [Nj];split
  ·rename_i hlt;obtain⟨j,rfl⟩:=OY k0;have hj:j < ns.length:=Vq
   exact⟨_,rfl,.int ns[j],fZ (by simp [hj]),q _⟩
  ·refine⟨.inl ⟨Vq,Vq⟩,_,rfl,λi δ=>∃(st:Int)(o:Option Sl),δ=[some (Sl.v (ft (ns.map .int))),some (Sl.v (.int k)),some (Sl.v (.int st)),o],⟨_,_,rfl⟩,?_,?_⟩
   ·rintro i x δ hx ⟨st,o,rfl⟩;have hm:=NT hx;unfold cK at hm;have hm2:=Qh (Pf hm);obtain⟨c,_,rfl⟩:=NC.mp hm2;walk_at "d"
    first | exact⟨_,_,rfl,rfl⟩ | exact⟨_,_,rfl⟩ | exact⟨_,rfl,_,rfl⟩ | exact⟨_,rfl⟩ | exact⟨_,_,trivial⟩ | exact⟨⟨_,rfl⟩,⟨_,rfl⟩⟩
   ·rintro δ ⟨st,o,rfl⟩;walk_at "d";exact q _
def D2:List Vv->(Vv->Prop)->Prop:=λds Q=>∃y m:Int,ds=[.int y,.int m]/\1<=m/\m<=12/\Q (.int (aQ y m))
theorem wU(T:Txt K mg t):aH P w K mg base CX0 1 t.a_d t.d_d ["_law_year_here","_law_month_here"] (aX K D2):=by
 refine T.F_d.F.okD CG (λds Q h=>?_) (λ_ _ _ _ H O ds Q E hr h=>?_)
 ·obtain⟨y,m,rfl,_⟩:=h;rfl
 ·obtain⟨y,m,rfl,m1,m2,q⟩:=h;refine'⟨_,?A,?B⟩
  case A=>
   refine' ar ?C ?D
   case C=>
    generalize hG2:T6 _ _ _ _=eg2;refine' bG (i:=2) CG.nd rfl Vt ?E (hs:=by subst hG2;exact ix)
    case' E=>subst hG2
    exact(PE.imp (d6 nR rfl T.n_int lT (bz (Hn (eQ (cn hr.units) cq (df (aJ d4 cJ (dv 0) ag)) (df ag) (au _)) (ju (jv (eQ (cn hr.units) cq (df (aJ d4 cJ (dv 0) ag)) (df ag) (au _)) (ju (eQ (kh hr.units) ki (df (aJ d4 cJ (dv 0) ag)) (df ag) (au _)))))) bg)) (bN pC))
   case' D=>refine' ax ?F
   case' F=>generalize hG5:UO _ _ _=eg5
   refine' aM ?G
   case' G=>subst hG5
   refine' fv bI bW (df ?H) ?I
   case H=>
    refine' fe ?J
    case' J=>refine' cN ?K
    case' K=>refine' aa ag ?L
    case' L=>refine' aa ?M ?N
    case M=>exact(aJ bt bE ag (dv 2))
    case N=>refine' kq (ds:=[.int 31,.int 30,.int 31,.int 30,.int 31,.int 31,.int 30,.int 31,.int 30,.int 31]) (by rfl)
   case I=>exact(df (aJ cM bE (dv 1) ag))
  case B=>
  clear hr T;walk_at "d";have ma:=mP y;have key:∀l2:Int,l2=aQ y 2->∃d,atI [Nn 31,Nn l2,Nn 31,Nn 30,Nn 31,Nn 30,Nn 31,Nn 31,Nn 30,Nn 31,Nn 30,Nn 31] (m - 1)=some d/\Q d:=λl2 e=>by
   obtain⟨a1,a3,a4,a5,a6,a7,a8,a9,a10,a11,a12⟩:=ma;rcases qQ m1 m2 with z | z | z | z | z | z | z | z | z | z | z | z <;> subst z
   ·rw [a1] at q;exact⟨_,rfl,q⟩
   ·rw [<-e] at q;exact⟨_,rfl,q⟩
   ·rw [a3] at q;exact⟨_,rfl,q⟩
   ·rw [a4] at q;exact⟨_,rfl,q⟩
   ·rw [a5] at q;exact⟨_,rfl,q⟩
   ·rw [a6] at q;exact⟨_,rfl,q⟩
   ·rw [a7] at q;exact⟨_,rfl,q⟩
   ·rw [a8] at q;exact⟨_,rfl,q⟩
   ·rw [a9] at q;exact⟨_,rfl,q⟩
   ·rw [a10] at q;exact⟨_,rfl,q⟩
   ·rw [a11] at q;exact⟨_,rfl,q⟩
   ·rw [a12] at q;exact⟨_,rfl,q⟩
  have e2:=qP y;unfold ld at e2;have li:=mO y;split
  ·rename_i h;have h:=eq_of_beq h;exact key _ (by rw [e2,Vs (li.mpr (.inl h))])
  ·rename_i h;have h:¬y % 400=0:=λe=>h (by rw [e];rfl);split
   ·rename_i h4;have h4:=eq_of_beq h4;by_cases h100:y % 100=0
    ·have nl:¬fK y=true:=λz=>by rcases li.mp z with z | z;exact h z;exact z.2 h100
     have nb:¬(y % 100==0)=false:=by rw [h100];decide
     exact key _ (by rw [e2,Vr nl,Vr nb])
    ·exact key _ (by rw [e2,Vs (show fK y=true from li.mpr (.inr ⟨h4,h100⟩)),Vs (show(y % 100==0)=false by simpa using h100)])
   ·rename_i h4;have h4:¬y % 4=0:=λe=>h4 (by rw [e];rfl);exact key _ (by rw [e2,Vr (λz=>by rcases li.mp z with z | z;exact h z;exact h4 z.1)])
def Ma:List Vv->(Vv->Prop)->Prop:=λds Q=>∃y:Int,ds=[.int y]/\Q (.int (bA y))
theorem D3(T:Txt K mg t):aH P w K mg base CX0 1 t.a_e t.d_e ["_law_year_here"] (aX K Ma):=by
 refine T.F_e.F.okD CH (λds Q h=>?_) (λ_ _ _ _ H O ds Q E hr h=>?_)
 ·obtain⟨y,rfl,_⟩:=h;rfl
 ·obtain⟨y,rfl,q⟩:=h;refine'⟨_,?A,?B⟩
  case A=>
   refine' ar ?C ?D
   case C=>exact(bG (i:=0) CH.nd rfl Vt (aJ cM bE (dv 0) ag))
   case' D=>refine' ax ?E
   case' E=>generalize hG4:Expr.BinOp _ _ _ _=eg4
   refine' aM ?F
   case' F=>subst hG4
   exact(aJ cM bE (aJ bt bE (aJ cM bE (aJ bt bE (aJ eM cJ ag (aJ cM bE (dv 0) ag)) (aJ fW cJ (dv 0) ag)) (aJ fW cJ (dv 0) ag)) (aJ fW cJ (dv 0) ag)) ag)
  case B=>
  clear hr T;walk_at "d";have e:365*(y - 1 - 1999)+(y - 1)/ 4 - (y - 1)/ 100+(y - 1)/ 400 - 484=bA y:=by
   unfold bA lb;omega
  rw [e];exact q
def wV:List Vv->(Vv->Prop)->Prop:=λds Q=>∃y m n:Int,ds=[.int y,.int m,.int n]/\1<=m/\m<=12/\Q (.int (fL y m n))
theorem D4(T:Txt K mg t):aH P w K mg base CX0 2 t.a_f t.d_f ["_law_year_here","_law_month_here","_law_number"] (aX K wV):=by
 have G_e:=@D3 P w _ _ base _ T;have G_d:=@wU P w _ _ base _ T;refine T.F_f.F.okD K8 (λds Q h=>?_) (λ_ _ _ _ H O ds Q E hr h=>?_)
 ·obtain⟨y,m,n,rfl,_⟩:=h;rfl
 ·obtain⟨y,m,n,rfl,m1,m2,q⟩:=h;refine'⟨_,?A,?B⟩
  case A=>
   refine' ax ?C
   case' C=>refine' aM ?D
   case D=>exact(aJ cM bE (aJ bt bE (aJ bt bE (aB G_e hr T.F_e (aa (dv 0) ah)) (PE.imp (bS (Ap rfl) rfl T.n_sum S8 (bz (fe (Ih rfl DZ rfl T.n_range (bz ag (bz (dv 1) bg)) aP cf Vp (λ_ _ _ _=>(aN (i:=0) DZ.nd rfl Vt)) (λ_ _ _ _=>gz) (λ_ _ _ _=>(aB G_d hr T.F_d (aa (dv 1) (aa (dv 0) ah)))))) bg)) (bN JS))) (dv 2)) ag)
  case B=>
  clear hr T G_e G_d;walk_at "d";refine⟨y,rfl,by have:((16777216:Nat):Int)=16777216:=rfl;omega,Vq,Vq,?_⟩;refine pX (λx=>match x with | .int i=>.int (aQ y i) | _=>.none) (λx hx R hR=>?_) ?_
  ·obtain⟨i,hi⟩:=QN hx;obtain⟨hlt,rfl⟩:=jB hi;walk_at "d";exact⟨y,1+(i:Int),rfl,Vq,Vq,hR⟩
  ·refine⟨(OA (m - 1).toNat).map λ(i:Nat)=>aQ y (1+(i:Int)),by unfold iT;rw [NO,NO];rfl,_,rfl,?_⟩;exact q
def sJ(ss:List Str):Prop:=∀s∈ss,cu 20 s
def wX:List Str:=["paper","rule","keep","gone","deep","first","kind","leave"]
theorem Mb:∀z∈wX,cu 20 z:=by
 intro z hz;have a:wX.all (λz=>Nw z && decide (z.length<=20))=true:=cp
 have:=PV.mp a z hz;simp only [Oq,decide_eq_true_eq] at this;exact⟨this.1,this.2⟩
def sL(st:Str)(at0 fs sp:Int)(k:Nat):Str:=Txt.slice st none (some at0)++⟨#[eB ((fs+sp*(0+(k:Int)))% 26)]⟩++Txt.slice st (some at0) none
theorem Mc{st:Str}{at0 fs sp:Int}{a b:Nat}(h:sL st at0 fs sp a=sL st at0 fs sp b):eB ((fs+sp*(0+(a:Int)))% 26)=eB ((fs+sp*(0+(b:Int)))% 26):=by
 have z:=congrArg (λs:Str=>s.cps.toList) h;unfold sL at z;simp only [AS,Oz] at z;have z:=List.append_cancel_left (List.append_cancel_right z);exact(Rk z).1
def Md:List Vv->(Vv->Prop)->Prop:=λds Q=>ds=[fC,.int 8]/\∀ss:List Str,ss.length=8->sJ ss->ss.Nodup->Q (.list (ss.map .str))
theorem Me(T:Txt K mg t):aH P w K mg base CX0 2 t.a_c t.d_c ["_law_purse_here","_law_many"] (aX K Md):=by
 have G_b:=@lq P w _ _ base _ T;refine T.F_c.F.okD kU (λds Q h=>?_) (λ_ _ _ _ H O ds Q E hr h=>?_)
 ·obtain⟨rfl,_⟩:=h;rfl
 ·obtain⟨rfl,q⟩:=h;refine'⟨_,?A,?B⟩
  case A=>
   refine' ar ?C ?D
   case C=>exact(bG (i:=2) kU.nd rfl Vt aO)
   case' D=>refine' ar ?E ?F
   case E=>
    refine' bG (i:=3) kU.nd rfl Vt ?G (hs:=ix)
    case G=>exact(Hy aO (df (fe (tW rfl DX rfl T.n_range (bz (aB G_b hr T.F_b (aa (dv 0) (aa ag ah))) bg) aP cf Vp (λ_ _ _ _=>(aN (i:=0) DX.nd rfl Vt)) (λ_ _ _ _=>gz) (λ_ _ _ _=>(aq Ac AF (dv 1) (aB G_b hr T.F_b (aa (dv 2) (aa ag ah)))))))))
   case' F=>refine' ar ?H ?I
   case H=>
    refine' bG (i:=4) kU.nd rfl Vt ?J (hs:=ix)
    case J=>exact(aB G_b hr T.F_b (aa (dv 0) (aa (aJ bt bE (PE.imp (bS Gs rfl T.n_len ON (bz (dv 3) bg)) (bN Ii)) ag) ah)))
   case' I=>refine' ar ?K ?L
   case K=>
    generalize hE10_0:UQ _ _=ee10_0;exact(tU (bC (aa (aB G_b hr T.F_b (aa (dv 0) (aa ag ah))) (aa (aq bI bW (fe (ue (ds:=[.int 1,.int 3,.int 5,.int 7,.int 9,.int 11]) (by first | (subst hE10_0;rfl)))) (aB G_b hr T.F_b (aa (dv 0) (aa ag ah)))) ah))) (iN (n:=2) rfl (dG (aN (i:=5) kU.nd rfl Vt) (dG (aN (i:=6) kU.nd rfl Vt) iM))) (jA (d7 aP (d7 aP jz))))
   case' L=>refine' ar ?M ?N
   case M=>
    refine' bj ?O ?P bh
    case O=>exact(aF (cn hr.units) cq (aB G_b hr T.F_b (aa (dv 0) (aa ag ah))) ag (au _))
    case' P=>refine' ax ?Q
    case' Q=>generalize hE14_0:UQ _ _=ee14_0
    exact(aM (fe (mf (df (fe (ue (ds:=[.str "paper",.str "rule",.str "keep",.str "gone",.str "deep",.str "first",.str "kind",.str "leave"]) (by first | (subst hE14_0;rfl))))) iX (fb (dv 1)))))
   case' N=>refine' ax ?R
   case' R=>refine' aM ?S
   case' S=>refine' fe ?T
   case T=>exact(tW rfl DY rfl T.n_range (bz (dv 1) bg) aP cf Vp (λ_ _ _ _=>(aN (i:=0) DY.nd rfl Vt)) (λ_ _ _ _=>gz) (λ_ _ _ _=>(aJ yN AE (aJ yN AE (AG (df (dv 1)) iX (fb (dv 3))) (aq Ac AF (dv 2) (aJ d4 cJ (aJ bt bE (dv 4) (aJ eM cJ (dv 5) (dv 0))) ag))) (AG (df (dv 1)) (fb (dv 3)) iX))))
  case B=>
  clear hr T G_b;walk_at "d";refine⟨8,rfl,Vp,Vp,λj j0 j8=>⟨j,rfl,Vq,by have:((16777216:Nat):Int)=16777216:=rfl;omega,?_⟩⟩;refine⟨λi acc=>∃ys:List Str,acc=ys.map .str/\ys.length=i/\∀y∈ys,cu 1 y,⟨[],rfl,rfl,Vu⟩,?_,?_⟩
  ·rintro i z acc hz ⟨ys,rfl,hl,hg⟩;obtain⟨hi,rfl⟩:=jB hz;walk_at "d";refine⟨26,rfl,Vp,Vp,λa a0 a1=>?_⟩;obtain⟨x,e1,_,x1⟩:=pM a0 a1;refine⟨_,rfl,cp,x,e1,ys++[⟨#[x]⟩],by rw [N8];rfl,by simp [hl],λz hz=>?_⟩;rcases NQ.mp hz with h | h
   ·exact hg z h
   ·rw [NU] at h;rw [h];exact cu.chr x1
  ·rintro acc ⟨ys,rfl,hl,hg⟩;rw [pJ] at hl;have gj:=cu.join hg;have sl:(ys.map λx=>x.length).sum<=ys.length:=by
    clear hl gj
    induction ys with
    | nil=>simp
    | cons y ys ih=>
     rw [Nq,UY,NF];have:=(hg y Vu).le;have:=ih λz hz=>hg z (by simp [hz]);omega
   have l7:ys.length<=7:=Vq
   refine⟨ys,rfl,?_⟩;generalize hst:Txt.join (Ng "") ys=st;have gs:cu 7 st:=by rw [<-hst];exact gj.mono l7
   have e0:(Ng "").length=0:=cp
   have gl:=gs.le;refine⟨by rw [e0];omega,Vq,_,rfl,Vq,Vq,λat0 a0 a1=>⟨26,rfl,Vp,Vp,λfs f0 f1=>⟨6,rfl,Vp,Vp,λsx s0 s1=>⟨_,rfl,?_⟩⟩⟩⟩;have six:∃sp:Int,atI [Nn 1,Nn 3,Nn 5,Nn 7,Nn 9,Nn 11] sx=some (.int sp)/\(0<=sp/\sp<=11)/\(sp=1\/sp=3\/sp=5\/sp=7\/sp=9\/sp=11):=by
    have:sx=0\/sx=1\/sx=2\/sx=3\/sx=4\/sx=5:=Vq
    rcases this with h | h | h | h | h | h <;> subst h
    ·exact⟨1,rfl,Vp,Vp⟩
    ·exact⟨3,rfl,Vp,Vp⟩
    ·exact⟨5,rfl,Vp,Vp⟩
    ·exact⟨7,rfl,Vp,Vp⟩
    ·exact⟨9,rfl,Vp,Vp⟩
    ·exact⟨11,rfl,Vp,Vp⟩
   obtain⟨sp,hsp,⟨p0,p1⟩,p6⟩:=six;refine⟨_,hsp,8,rfl,Vp,Vp,λv v0 v1=>⟨gA,?_⟩⟩;rw [iw];split
   ·exact q wX rfl Mb cp
   ·have g1:=gs.slice none (some at0);have g2:=gs.slice (some at0) none;have abr:∀i:Nat,eB ((fs+sp*(0+(i:Int)))% 26) < 0x110000/\atI fH.cps.toList ((fs+sp*(0+(i:Int)))% 26)=some (eB ((fs+sp*(0+(i:Int)))% 26)):=λi=>(Ic Vq Vq).symm;refine⟨Vp,λi acc=>acc=((OA i).map λ(k:Nat)=>sL st at0 fs sp k).map .str,rfl,?_,?_⟩
    ·rintro i z acc hz rfl;obtain⟨hi,rfl⟩:=jB hz;walk_at "d";obtain⟨x1,e1⟩:=abr i;have lx:(⟨#[eB ((fs+sp*(0+(i:Int)))% 26)]⟩:Str).length=1:=rfl;have l1:=g1.le;have l2:=g2.le;have ga:=(g1.append (cu.chr x1)).append g2;have gal:=ga.le;refine⟨Vq,.inl ⟨Vq,Vq⟩,cp,_,e1,by rw [lx];omega,Vq,by rw [AU,lx];omega,?_⟩;rw [QU,N8,N8];rfl
    ·rintro acc rfl;rw [pJ];refine q _ Vu (λz hz=>?_) ?_
     ·obtain⟨k,_,rfl⟩:=NC.mp hz;exact((g1.append (cu.chr (abr k).1)).append g2).mono Vq
     ·rw [QM,Oj];refine OF.mpr λa b ha hb lt e=>?_;rw [T8,T8] at e;have hb:b < 8:=by simpa using hb
      have e2:=Mc e;have e3:=Ie Vq Vq Vq Vq e2;rcases p6 with h | h | h | h | h | h <;> subst h <;> omega
end
theorem D5:bb (ay rW) ["_law_purse_here","_law_word","_law_names_here","_law_kinds","_law_far","_law_day_here","_law_name","_law_some","_law_kind","_law_target"] ["_law_one","_law_purse_here"] 1 [0] ⟨Nx,[ (Ni ".0",Xv),(Ni "_law_one",Xv),(Ni "_law_take",N3),(Ni "_law_purse_here",Nv)],false,false,[]⟩:= .of
section
variable {P:VL} {w:VP} {K:Nh} {mg:Str->Option Vw} {base:VQ} {t:cA}
def Mf:List Vv->(Vv->Prop)->Prop:=λds Q=>∃far:Int,ds=[fC,.int far]/\∀d:Int,0<=d->d < 100000->Q (.int d)
theorem lr{a b:Vv}{i:Int}(h0:0<=i)(h1:i < 2):∃d,atI [a,b] i=some d/\(d=a\/d=b):=by
 have:i=0\/i=1:=Vq
 rcases this with e | e <;> subst e
 ·exact⟨_,d9,.inl rfl⟩
 ·exact⟨_,dN,.inr rfl⟩
theorem Mh{y m n:Int}(y0:2000<=y)(y1:y<=2269)(m1:1<=m)(m2:m<=12)(n1:1<=n)(n2:n<=aQ y m):0<=fL y m n/\fL y m n < 100000:=by
 have ba:=qS (y:=y) m1 m2;have ld:=vq y;have ys:0<=bA y/\bA y<=98300:=by unfold bA lb;omega
 unfold fL;omega
theorem Mi(T:Txt K mg t):aH P w K mg base CX0 3 t.a_h t.d_h ["_law_purse_here","_law_far"] (aX K Mf):=by
 have G_b:=@lq P w _ _ base _ T;have G_d:=@wU P w _ _ base _ T;have G_f:=@D4 P w _ _ base _ T;refine T.F_h.F.okD CI (λds Q h=>?_) (λ_ _ _ _ H O ds Q E hr h=>?_)
 ·obtain⟨far,rfl,_⟩:=h;rfl
 ·obtain⟨far,rfl,q⟩:=h;refine'⟨_,?A,?B⟩
  case A=>
   refine' ar ?C ?D
   case C=>
    refine' bj ?E ?F bh
    case E=>exact(aF (cn hr.units) cq (dv 1) ag (au _))
    case' F=>refine' ax ?G
    case G=>exact(aM (aB G_b hr T.F_b (aa (dv 0) (aa ag ah))))
   case' D=>refine' ar ?H ?I
   case H=>
    refine' bj ?J ?K bh
    case J=>exact(aF (cn hr.units) cq (aB G_b hr T.F_b (aa (dv 0) (aa ag ah))) ag (au _))
    case' K=>refine' ax ?L
    case L=>exact(aM (aB G_b hr T.F_b (aa (dv 0) (aa ag ah))))
   case' I=>refine' ar ?M ?N
   case M=>exact(j9 (i:=2) (j:=3) rfl CI.nd rfl rfl Vp rfl rfl (aa (aJ bt bE ag (aB G_b hr T.F_b (aa (dv 0) (aa ag ah)))) (aa (aJ bt bE ag (aB G_b hr T.F_b (aa (dv 0) (aa ag ah)))) ah)) (by rfl))
   case' N=>refine' ax ?O
   case' O=>refine' aM ?P
   case P=>exact(aB G_f hr T.F_f (aa (dv 2) (aa (dv 3) (aa (aq bI bW (fe (cN (aa ag (aa (aJ cM bE (aB G_d hr T.F_d (aa (dv 2) (aa (dv 3) ah))) (aB G_b hr T.F_b (aa (dv 0) (aa ag ah)))) ah)))) (aB G_b hr T.F_b (aa (dv 0) (aa ag ah)))) ah))))
  case B=>
  clear hr T G_b G_d G_f;walk_at "d";split
  ·exact⟨41,rfl,Vp,Vp,λd d0 d1=>q d d0 Vq⟩
  ·refine⟨2,rfl,Vp,Vp,λv v0 v1=>⟨gA,?_⟩⟩;rw [iw];split
   ·exact⟨100000,rfl,Vp,Vp,λd d0 d1=>q d d0 d1⟩
   ·refine⟨270,rfl,Vp,Vp,λy y0 y1=>⟨_,rfl,12,rfl,Vp,Vp,λm m0 m1=>⟨_,rfl,?_⟩⟩⟩;refine⟨2000+y,1+m,rfl,Vq,Vq,4,rfl,Vp,Vp,λz z0 z1=>⟨_,rfl,_,rfl,2,rfl,Vp,Vp,λe e0 e1=>⟨_,rfl,?_⟩⟩⟩;have mb:=BX (y:=2000+y) (m:=1+m) Vq Vq;have nb:∀n,1<=n->n<=aQ (2000+y) (1+m)->wV [.int (2000+y),.int (1+m),.int n] Q:=λn n1 n2=>by
     have:=Mh (y:=2000+y) (m:=1+m) (n:=n) Vq Vq Vq Vq n1 n2;exact⟨_,_,_,rfl,Vq,Vq,q _ this.1 this.2⟩
    obtain⟨d,hd,hd'⟩:=lr (a:=Nn 1) (b:=Nn (aQ (2000+y) (1+m) - z)) e0 e1;refine⟨d,hd,?_⟩;rcases hd' with h | h <;> rw [h]
    ·exact nb 1 Vq Vq
    ·exact nb _ Vq Vq
structure wY (ns ks:List Str) (far:Int):Prop where
 nl:ns.length=8
 no:sJ ns
 nn:ns.Nodup
 k0:2<=ks.length
 k1:ks.length<=3
 ko:sJ ks
 f0:0<=far
 f1:far<=1
def Mj:List Vv->(Vv->Prop)->Prop:=λds Q=>∃(wo:Str)(ns ks:List Str)(far:Int),ds=[fC,.str wo,.list (ns.map .str),.list (ks.map .str),.int far]/\Nw wo=true/\wY ns ks far/\∀pt:Pt,pt.Ok->pt.wd=wo->Q pt.enc
theorem iH{ss:List Str}{i:Int}(h0:0<=i)(h1:i < ss.length):∃s∈ss,atI (ss.map Nl) i=some (.str s):=by
 obtain⟨k,rfl⟩:=OY h0;have hk:k < ss.length:=Vq
 exact⟨ss[k],OP hk,fZ (by simp [hk])⟩
theorem Ml(T:Txt K mg t):aH P w K mg base CX0 2 t.a_i t.d_i ["_law_purse_here","_law_word","_law_names_here","_law_kinds","_law_far"] (aX K Mj):=by
 have G_b:=@lq P w _ _ base _ T;refine T.F_i.F.okD sj (λds Q h=>?_) (λ_ _ _ _ H O ds Q E hr h=>?_)
 ·obtain⟨wo,ns,ks,far,rfl,_⟩:=h;rfl
 ·obtain⟨wo,ns,ks,far,rfl,hw,dr,q⟩:=h;refine'⟨_,?A,?B⟩
  case A=>
   refine' ar ?C ?D
   case C=>
    refine' bG (i:=5) sj.nd rfl Vt ?E (hs:=mD)
    case' E=>refine' fv bI bW (df (dv 3)) ?F
    case F=>exact(df (aB G_b hr T.F_b (aa (dv 0) (aa (PE.imp (bS fB rfl T.n_len ON (bz (dv 3) bg)) (bN gr)) ah))))
   case' D=>refine' ar ?G ?H
   case G=>
    refine' bj ?I ?J bh
    case I=>exact(aF (AY hr) mv (dv 1) (bC (aa aO (aa aO ah))) rfl)
    case' J=>refine' ax ?K
    case K=>exact(aM (bC (aa (dv 1) (aa (dv 5) ah))))
   case' H=>refine' ar ?L ?M
   case L=>
    generalize hG10:UO _ _ _=eg10;refine' bG (i:=6) sj.nd rfl Vt ?N (hs:=by subst hG10;exact mD)
    case' N=>subst hG10
    refine' fv bI bW (df ?O) ?P
    case O=>
     refine' fe ?Q
     case' Q=>refine' cN ?R
     case' R=>refine' aa ?S ?T
     case S=>exact(bC (aa aO ah))
     case' T=>refine' aa ?U ?V
     case U=>exact(bC (aa aO (aa (aq bI bW (dv 2) ag) ah)))
     case' V=>refine' aa ?W ah
     case' W=>refine' bC ?X
     case' X=>refine' aa aO ?Y
     case' Y=>refine' aa ?Z ah
     case' Z=>refine' fv bI bW (df (dv 2)) ?a
     case a=>exact(df (aJ bt bE ag (aB G_b hr T.F_b (aa (dv 0) (aa ag ah)))))
    case P=>exact(df (aB G_b hr T.F_b (aa (dv 0) (aa ag ah))))
   case' M=>refine' ar ?b ?c
   case b=>
    refine' bj ?d ?e bh
    case d=>exact(aF (cn hr.units) cq (dv 4) ag (au _))
    case' e=>refine' ax ?f
    case' f=>refine' aM ?g
    case' g=>refine' bC ?h
    case' h=>refine' aa (dv 1) ?i
    case' i=>refine' aa (dv 5) ?j
    case' j=>refine' aa (dv 6) ?k
    case' k=>refine' aa ?l ?m
    case l=>exact(aB G_b hr T.F_b (aa (dv 0) (aa ag ah)))
    case m=>refine' aa aO ah
   case' c=>refine' ar ?n ?o
   case n=>
    refine' bG (i:=7) sj.nd rfl Vt ?p (hs:=ix)
    case p=>exact(aB G_b hr T.F_b (aa (dv 0) (aa (aq bI bW (fe (cN (kq (ds:=[.int 1000,.int 14,.int 30]) (by rfl)))) (aB G_b hr T.F_b (aa (dv 0) (aa ag ah)))) ah)))
   case' o=>refine' ax ?q
   case' q=>refine' aM ?r
   case' r=>refine' bC ?s
   case' s=>refine' aa (dv 1) ?t
   case' t=>refine' aa (dv 5) ?u
   case' u=>refine' aa (dv 6) ?v
   case' v=>refine' aa (dv 7) ?w
   case' w=>refine' aa ?x ah
   case' x=>refine' fv bI bW (df ?y) ?z
   case y=>exact(fe (cN (kq (ds:=[.str "days",.str "months",.str "years"]) (by rfl))))
   case z=>exact(df (aB G_b hr T.F_b (aa (dv 0) (aa ag ah))))
  case B=>
  clear hr T G_b;walk_at "d";refine⟨_,rfl,by rw [Nj];have:=dr.k0;omega,by rw [Nj];have:=dr.k1;omega,λi i0 i1=>⟨_,rfl,?_⟩⟩;rw [Nj] at i1;obtain⟨kd,hk,ek⟩:=iH i0 i1;have kok:=(dr.ko kd hk).ok;refine⟨_,ek,cz.mpr hw,cp,?_⟩;by_cases hg:KG wo
  ·rw [Vr (by rcases hg with e | e <;> rw [e] <;> decide+kernel)];have nl:=dr.nl;obtain⟨n6,h6,e6⟩:=iH (ss:=ns) (i:=6) Vp Vq;refine⟨_,e6,2,rfl,Vp,Vp,λj j0 j1=>⟨_,rfl,?_⟩⟩;obtain⟨n7,h7,e7⟩:=iH (ss:=ns) (i:=6+j) Vq Vq;refine⟨_,e7,3,rfl,Vp,Vp,λv v0 v1=>⟨_,rfl,?_⟩⟩;have sn:∃s:cm,s.Ok/\atI [ND [Nl (Ng "coming")],ND [Nl (Ng "first"),.str n6],ND [Nl (Ng "last"),.str n7]] v=some s.enc:=by
    have:v=0\/v=1\/v=2:=Vq
    rcases this with e | e | e <;> subst e
    ·exact⟨.com,trivial,rfl⟩
    ·exact⟨.fst n6,(dr.no n6 h6).ok,rfl⟩
    ·exact⟨.lst n7,(dr.no n7 h7).ok,rfl⟩
   obtain⟨sn,so,es⟩:=sn;refine⟨_,es,?_⟩;have fin:∀(k:Int)(u:Str),0<=k->k < 1000->gZ u->Q (ND [Nl wo,.str kd,sn.enc,.int k,.str u]):=λk u k0 k1 hu=>q (.five wo kd sn k u) ⟨hg,kok,so,k0,k1,hu⟩ rfl;split
   ·exact⟨21,rfl,Vp,Vp,λk k0 k1=>fin k _ k0 Vq (.inl rfl)⟩
   ·refine⟨3,rfl,Vp,Vp,λa a0 a1=>⟨_,rfl,?_⟩⟩;have mx:∃z:Int,0 < z/\z<=1000/\atI [Nn 1000,Nn 14,Nn 30] a=some (.int z):=by
     have:a=0\/a=1\/a=2:=Vq
     rcases this with e | e | e <;> subst e
     ·exact⟨1000,Vp,Vp,rfl⟩
     ·exact⟨14,Vp,Vp,rfl⟩
     ·exact⟨30,Vp,Vp,rfl⟩
    obtain⟨z,z0,z1,ez⟩:=mx;refine⟨_,ez,z,rfl,z0,Vq,λk k0 k1=>⟨3,rfl,Vp,Vp,λb b0 b1=>⟨_,rfl,?_⟩⟩⟩;have:b=0\/b=1\/b=2:=Vq
    rcases this with e | e | e <;> subst e
    ·exact⟨_,d9,fin k _ k0 Vq (.inl rfl)⟩
    ·exact⟨_,dN,fin k _ k0 Vq (.inr (.inl rfl))⟩
    ·exact⟨_,mi,fin k _ k0 Vq (.inr (.inr rfl))⟩
  ·rw [Vs (by
    rw [bY (λe=>hg (.inl e.symm)),bY (λe=>hg (.inr e.symm))];rfl)]
   exact q (.two wo kd) ⟨hg,hw,kok⟩ rfl
structure jM (x:De):Prop where
 w:Nw x.w=true
 nm:Nw x.nm=true
 d0:0<=x.d/\x.d < 100000
 ly:ck 4 x.enc
 pp:∀p,x= .pap p->Nw p.kd=true/\(∀m∈p.ms,Nw m=true)/\p.ms.length<=50/\p.ms.Nodup
 np:∀w d nm r,x= .oth w d nm r->w≠Ng "paper"
 hp:∀d nm r,x= .oth (Ng "happens") d nm r->∃wd,r=[.str wd]/\Nw wd=true
 ru:∀d nm r,x= .oth (Ng "rule") d nm r->∃pt:Pt,r=[pt.enc]/\pt.Ok
def lu:List Str:=["paper","happens","end","lift","hold","permit"]
def Mm(wo:Str)(x:De):Prop:=∀d nm(pt:Pt),x= .oth (Ng "rule") d nm [pt.enc]->pt.wd=wo/\wo ∉ lu
def Mo:List Vv->(Vv->Prop)->Prop:=λds Q=>∃(wo:Str)(ns ks:List Str)(far:Int),ds=[fC,.str wo,.list (ns.map .str),.list (ks.map .str),.int far]/\Nw wo=true/\wY ns ks far/\∀x:De,jM x->(wo=Ng "paper"->∃p,x= .pap p)->Mm wo x->Q x.enc
theorem Mp(T:Txt K mg t):aH P w K mg base CX0 4 t.a_j t.d_j ["_law_purse_here","_law_word","_law_names_here","_law_kinds","_law_far"] (aX K Mo):=by
 have G_b:=@lq P w _ _ base _ T;have G_h:=@Mi P w _ _ base _ T;have G_i:=@Ml P w _ _ base _ T;refine T.F_j.F.okD kW (λds Q h=>?_) (λ_ _ _ _ H O ds Q E hr h=>?_)
 ·obtain⟨wo,ns,ks,far,rfl,_⟩:=h;rfl
 ·obtain⟨wo,ns,ks,far,rfl,hw,dr,q⟩:=h;refine'⟨_,?A,?B⟩
  case A=>
   refine' ar ?C ?D
   case C=>exact(bG (i:=5) kW.nd rfl Vt (aB G_h hr T.F_h (aa (dv 0) (aa (dv 4) ah))))
   case' D=>refine' ar ?E ?F
   case E=>exact(bG (i:=6) kW.nd rfl Vt (aq bI bW (dv 2) (aB G_b hr T.F_b (aa (dv 0) (aa ag ah)))))
   case' F=>refine' ar ?G ?H
   case G=>
    refine' bj ?I ?J bh
    case I=>exact(aF (cv hr) cw (dv 1) aO (au _))
    case' J=>refine' ar ?K ?L
    case K=>exact(gC (i:=7) kW.nd rfl Vt (kr rfl D5 (df (fe (mf (df (dv 2)) iX (fb ag)))) aP cf Vp (λ_ _ _ _=>(aN (i:=0) D5.nd rfl Vt)) (λ_ _ _ _=>(cU (aF (cn hr.units) cq (aB G_b hr T.F_b (aa (dv 1) (aa ag ah))) ag (au _)))) (λ_ _ _ _=>(dv 0))))
    case' L=>refine' ax ?M
    case' M=>refine' aM ?N
    case' N=>refine' bC ?O
    case' O=>refine' aa (dv 1) ?P
    case' P=>refine' aa (dv 5) ?Q
    case' Q=>refine' aa (dv 6) ?R
    case' R=>refine' aa ?S ?T
    case S=>
     refine' fv bI bW (df (dv 3)) ?U
     case U=>exact(df (aB G_b hr T.F_b (aa (dv 0) (aa (PE.imp (bS fB rfl T.n_len ON (bz (dv 3) bg)) (bN gr)) ah))))
    case' T=>refine' aa ?V ah
    case V=>exact(PE.imp (d6 hX rfl T.n_tuple gc (bz (fe (Iq rfl T.n_sorted OG (bz (fe (mf (df (dv 7)) iX (fb ag))) bg))) bg)) (bN iq))
   case' H=>refine' ar ?W ?X
   case W=>
    refine' bj ?Y ?Z bh
    case Y=>exact(aF (cv hr) cw (dv 1) aO (au _))
    case' Z=>refine' ax ?a
    case' a=>refine' aM ?b
    case' b=>refine' bC ?c
    case' c=>refine' aa (dv 1) ?d
    case' d=>refine' aa (dv 5) ?e
    case' e=>refine' aa (dv 6) ?f
    case' f=>refine' aa ?g ah
    case' g=>refine' fv bI bW (df (dv 2)) ?h
    case h=>exact(df (aJ bt bE ag (aB G_b hr T.F_b (aa (dv 0) (aa ag ah)))))
   case' X=>refine' ar ?i ?j
   case i=>
    refine' bj ?k ?l bh
    case k=>exact(aF (pT hr) pV (dv 1) (bC (aa aO (aa aO ah))) rfl)
    case' l=>refine' ax ?m
    case m=>exact(aM (bC (aa (dv 1) (aa (dv 5) (aa (dv 6) ah)))))
   case' j=>refine' ar ?n ?o
   case n=>
    refine' bG (i:=8) kW.nd rfl Vt ?p (hs:=mD)
    case' p=>refine' fv bI bW (df (dv 3)) ?q
    case q=>exact(df (aB G_b hr T.F_b (aa (dv 0) (aa (PE.imp (bS fB rfl T.n_len ON (bz (dv 3) bg)) (bN gr)) ah))))
   case' o=>refine' ar ?r ?s
   case r=>
    refine' bj ?t ?u bh
    case t=>exact(aF (cv hr) cw (dv 1) aO (au _))
    case' u=>refine' ar ?v ?w
    case v=>
     refine' bG (i:=9) kW.nd rfl Vt ?x (hs:=mD)
     case' x=>refine' fv bI bW (df ?y) ?z
     case y=>
      refine' fe ?A0
      case' A0=>refine' cN ?A1
      case' A1=>refine' aa ?A2 ?A3
      case A2=>
       refine' bC ?A4
       case' A4=>refine' aa aO ?A5
       case' A5=>refine' aa ?A6 ah
       case A6=>exact(aq bI bW (dv 2) (aB G_b hr T.F_b (aa (dv 0) (aa ag ah))))
      case' A3=>refine' aa ?A7 ah
      case A7=>exact(bC (aa aO (aa (dv 8) ah)))
     case z=>exact(df (aB G_b hr T.F_b (aa (dv 0) (aa ag ah))))
    case' w=>refine' ax ?A8
    case' A8=>refine' aM ?A9
    case' A9=>refine' bC ?AA
    case' AA=>refine' aa (dv 1) ?AB
    case' AB=>refine' aa (dv 5) ?AC
    case' AC=>refine' aa (dv 6) ?AD
    case' AD=>refine' aa (dv 9) ?AE
    case' AE=>refine' aa ?AF ah
    case AF=>exact(eQ (cn hr.units) cq (df (aB G_b hr T.F_b (aa (dv 0) (aa ag ah)))) (df ag) (au _))
   case' s=>refine' ar ?AG ?AH
   case AG=>
    refine' bj ?AI ?AJ bh
    case AI=>exact(aF (cv hr) cw (dv 1) aO (au _))
    case' AJ=>refine' ax ?AK
    case AK=>exact(aM (bC (aa aO (aa (dv 5) (aa (dv 6) (aa (dv 8) ah))))))
   case' AH=>refine' ax ?AL
   case' AL=>refine' aM ?AM
   case' AM=>refine' bC ?AN
   case' AN=>refine' aa aO ?AO
   case' AO=>refine' aa (dv 5) ?AP
   case' AP=>refine' aa (dv 6) ?AQ
   case' AQ=>refine' aa ?AR ah
   case AR=>exact(aB G_i hr T.F_i (aa (dv 0) (aa (dv 1) (aa (dv 2) (aa (dv 3) (aa (dv 4) ah))))))
  case B=>
  clear hr T G_b G_h G_i;walk_at "d";refine⟨far,rfl,λd d0 d1=>⟨6,rfl,Vp,Vp,λi i0 i1=>⟨_,rfl,?_⟩⟩⟩;have nl:=dr.nl;have k0:=dr.k0;have k1:=dr.k1;obtain⟨nm,hn,en⟩:=iH (ss:=ns) i0 Vq;have nok:=(dr.no nm hn).ok;refine⟨_,en,?_⟩;have kinds:∀R:Vv->Prop,(∀kd∈ks,R (.str kd))->tY [fC,Nn ((NM Nl ks).length:Int)] λy=>∃x,y=Nn x/\∃x_2,atI (NM Nl ks) x=some x_2/\R x_2:=λR hR=>by
   refine⟨_,rfl,by rw [Nj];omega,by rw [Nj];omega,λi i0 i1=>⟨_,rfl,?_⟩⟩;rw [Nj] at i1;obtain⟨kd,hk,ek⟩:=iH i0 i1;exact⟨_,ek,hR kd hk⟩
  by_cases hp:wo=Ng "paper"
  ·rw [Vs (by rw [hp];exact beq_self_eq_true _)];have ec:cK (NM Nl ns) none (some 6)=(ns.take 6).map Nl:=by
    rw [t5 Vp (by simp;omega),<-Rj];rfl
   rw [ec];refine⟨by rw [Nj,NS];omega,λi acc=>∃ss:List Str,acc=ss.map .str/\ss.Sublist ((ns.take 6).take i),⟨[],rfl,List.nil_sublist _⟩,?_,?_⟩
   ·rintro i z acc hz ⟨ss,rfl,hs⟩;rw [NK] at hz;cases hz':(ns.take 6)[i]? with
    | none=>rw [hz'] at hz;cases hz
    | some x=>
     rw [hz'] at hz;cases hz;walk_at "d";refine⟨3,rfl,Vp,Vp,λv v0 v1=>⟨gA,?_⟩⟩;rw [iw];split
     ·refine⟨ss++[x],by rw [N8];rfl,?_⟩;rw [Ox,hz'];exact hs.append (.refl _)
     ·refine⟨ss,rfl,?_⟩;rw [Ox];exact hs.trans (List.sublist_append_left _ _)
   ·rintro acc ⟨ss,rfl,hs⟩;have hs:ss.Sublist (ns.take 6):=hs.trans (Qb _ _);have hl:=hs.length_le;rw [NS] at hl;have hm:∀z∈ss,z∈ns:=λz hz=>Pf (hs.subset hz);have snd:ss.Nodup:=(dr.nn.sublist (Qb _ _)).sublist hs;refine kinds (λx_2=>∃ss_1,cK (NM Nl ss) none (some 4)=NM Nl ss_1/\ss_1.length < 64/\Q (ND [Nl wo,.int d,.str nm,x_2,ND (NM Nl (cO ss_1))])) λkd hk=>?_;have cc:∃ss':List Str,cK (NM Nl ss) none (some 4)=ss'.map Nl/\ss'.length<=6/\(∀z∈ss',z∈ss)/\ss'.Nodup:=by
     by_cases h4:4<=ss.length
     ·refine⟨ss.take 4,by rw [t5 Vp (by simp;omega),<-Rj];rfl,by rw [NS];omega,λz hz=>Pf hz,snd.sublist (Qb _ _)⟩
     ·refine⟨ss,?_,Vq,λz hz=>hz,snd⟩;have:ss.length=0\/ss.length=1\/ss.length=2\/ss.length=3:=Vq
      match ss,h4 with
      | [],_=>rfl
      | [a],_=>rfl
      | [a,b],_=>rfl
      | [a,b,c],_=>rfl
      | a::b::c::e::l,h4=>exact absurd h4 Vu
    obtain⟨ss',e1,e2,e3,e4⟩:=cc;refine⟨ss',e1,Vq,?_⟩;rw [hp];have msok:∀m∈cO ss',Nw m=true:=λm hm'=>(dr.no m (hm m (e3 m ((fw ss').mem_iff.mp hm')))).ok;have msl:(cO ss').length<=50:=by rw [(fw ss').length_eq];omega
    refine q (.pap ⟨d,nm,kd,cO ss'⟩) ⟨by show Nw (Ng "paper")=true;decide+kernel,nok,⟨d0,d1⟩,?_,?_,(λ_ _ _ _ e=>by cases e),(λ_ _ _ e=>by cases e),(λ_ _ _ e=>by cases e)⟩ (λ_=>⟨_,rfl⟩) (λ_ _ _ e=>by cases e)
    ·exact cX (aU (bL cp) (aU gT (aU (bL nok) (aU (bL (dr.ko kd hk).ok) (aU ((cX (n:=1) (uz msok)).mono Vp) dY)))))
    ·intro p e;cases e;exact⟨(dr.ko kd hk).ok,msok,msl,(fw ss').nodup_iff.mpr e4⟩
  ·rw [bY hp,Vr Nt];have q:∀(w:Str)(r:List Vv),Nw w=true->w≠Ng "paper"->ck 4 (.tuple (.str w:: .int d:: .str nm::r))->(w=Ng "happens"->∃wd,r=[.str wd]/\Nw wd=true)->(w=Ng "rule"->∃pt:Pt,r=[pt.enc]/\pt.Ok/\pt.wd=wo/\wo ∉ lu)->Q (.tuple (.str w:: .int d:: .str nm::r)):=λw r wok wp wl wh wr=>
    q (.oth w d nm r) ⟨wok,nok,⟨d0,d1⟩,wl,(λp e=>by cases e),(λw' d' nm' r' e=>by cases e;exact wp),(λd' nm' r' e=>by cases e;exact wh rfl),(λd' nm' r' e=>by cases e;obtain⟨pt,a,b,_⟩:=wr rfl;exact⟨pt,a,b⟩)⟩ (λe=>absurd e hp) (λd' nm' pt' e=>by
     simp only [De.oth.injEq] at e;obtain⟨e1,_,_,e4⟩:=e;obtain⟨pt,a,_,c1,c2⟩:=wr e1;rw [a] at e4;rw [<-wN (Rk e4).1];exact⟨c1,c2⟩)
   by_cases hh:wo=Ng "happens"
   ·rw [Vs (by rw [hh];exact beq_self_eq_true _)];refine⟨2,rfl,Vp,Vp,λj j0 j1=>⟨_,rfl,?_⟩⟩;obtain⟨n7,h7,e7⟩:=iH (ss:=ns) (i:=6+j) Vq Vq;have o7:=(dr.no n7 h7).ok;exact⟨_,e7,q wo [.str n7] hw hp (cX (aU (bL hw) (aU gT (aU (bL nok) (aU (bL o7) dY))))) (λ_=>⟨n7,rfl,o7⟩) (λe=>by rw [hh] at e;exact absurd e cp)⟩
   ·rw [bY hh,Vr Nt];by_cases he:(Ng "end"==wo || Ng "lift"==wo)=true
    ·rw [Vs he];refine q wo [] hw hp (cX (aU (bL hw) (aU gT (aU (bL nok) dY)))) (λe=>absurd e hh) (λe=>?_);rw [e] at he;exact absurd he cp
    ·rw [Vr he];refine kinds _ λkd hk=>?_;have kok:=(dr.ko kd hk).ok;by_cases hb:wo=Ng "hold"
     ·rw [Vs (by rw [hb];exact beq_self_eq_true _)];refine⟨6,rfl,Vp,Vp,λj j0 j1=>⟨_,rfl,?_⟩⟩;obtain⟨n3,h3,e3⟩:=iH (ss:=ns) j0 Vq;refine⟨_,e3,2,rfl,Vp,Vp,λv v0 v1=>⟨_,rfl,?_⟩⟩;have o3:=(dr.no n3 h3).ok;obtain⟨tg,et,ht⟩:=lr (a:=ND [Nl (Ng "paper"),.str n3]) (b:=ND [Nl (Ng "kind"),.str kd]) v0 v1;have lt:ck 2 tg:=by
       rcases ht with e | e <;> rw [e]
       ·exact cX (aU (bL cp) (aU (bL o3) dY))
       ·exact cX (aU (bL cp) (aU (bL kok) dY))
      refine⟨_,et,2,rfl,Vp,Vp,λb b0 b1=>⟨gA,?_⟩⟩;exact q wo [tg,.bool _] hw hp (cX (aU (bL hw) (aU gT (aU (bL nok) (aU (lt.mono Vp) (aU IE dY)))))) (λe=>absurd e hh) (λe=>by rw [hb] at e;exact absurd e cp)
     ·rw [bY hb,Vr Nt];by_cases hm:wo=Ng "permit"
      ·rw [Vs (by rw [hm];exact beq_self_eq_true _)];exact q (Ng "leave") [.str kd] cp cp (cX (aU (bL cp) (aU gT (aU (bL nok) (aU (bL kok) dY))))) (λe=>absurd e cp) (λe=>absurd e cp)
      ·rw [bY hm,Vr Nt];refine⟨wo,ns,ks,far,rfl,hw,dr,λpt po pw=>?_⟩;exact q (Ng "rule") [pt.enc] cp cp (cX (aU (bL cp) (aU gT (aU (bL nok) (aU (Pt.lay po) dY))))) (λe=>absurd e cp) (λ_=>⟨pt,rfl,po,pw,λhin=>by
        simp only [lu,Ny,Oe,or_false] at hin;rcases hin with h | h | h | h | h | h
        ·exact hp h
        ·exact hh h
        ·rw [h] at he;exact he cp
        ·rw [h] at he;exact he cp
        ·exact hb h
        ·exact hm h⟩)
mutual
theorem wZ:∀d:Vv,d.canLay0=true->NJ d d=true
 | .none,_=>by simp [NJ]
 | .bool _,_ | .int _,_ | .str _,_=>by simp [NJ]
 | .list xs,h=>by rw [NJ];exact w6 xs (by simpa [NW] using h)
 | .tuple xs,h=>by rw [NJ];exact w6 xs (by simpa [NW] using h)
 | .dict _,h=>by simp [NW] at h
theorem w6:∀ds:List Vv,OJ ds=true->Qa ds ds=true
 | [],_=>by simp [Qa]
 | d::ds,h=>by
  rw [OJ,Oq] at h;rw [Qa,wZ d h.1,w6 ds h.2];rfl
end
def fS(x y:De):Prop:=x≠y/\(∀p r,x= .pap p->y= .pap r->p.nm≠r.nm)/\(x.isE=true->y.isE=true->¬(x.d=y.d/\x.nm=y.nm))
theorem fS.symm{x y:De}(h:fS x y):fS y x:=⟨h.1.symm,λp r e1 e2 e=>h.2.1 r p e2 e1 e.symm,λe1 e2 e=>h.2.2 e2 e1 ⟨e.1.symm,e.2.symm⟩⟩
def g7:List (ai×Vv):=[(.inr (Ng "rule"),.int 1),(.inr (Ng "end"),.int 1),(.inr (Ng "hold"),.int 2),(.inr (Ng "lift"),.int 2)]
theorem Mq:QI (λa p=>eD a p.fst p.snd) [] g7=g7:=by
 rfl
theorem w8{x:De}(h:x.isE=true):cE g7 (.inr x.w)=some (.int 1):=by
 cases x with
 | pap p=>cases h
 | oth w d nm r=>
  simp only [De.isE,PN,beq_iff_eq] at h;rcases h with e | e <;> subst e <;> rfl
theorem D6(w:Str):cE g7 (.inr w)=none\/∃i:Int,cE g7 (.inr w)=some (.int i):=by
 unfold cE;cases h:g7.find? λp=>decide (p.fst=OC w) with
 | none=>exact .inl rfl
 | some p=>
  have hp:=QX h;simp only [g7,Ny,Oe,or_false] at hp;rcases hp with e | e | e | e <;> rw [e] <;> exact .inr ⟨_,rfl⟩
theorem xa{x y:De}{Q:Vv->Prop}(gx:jM x)(gy:jM y)(nq:x≠y)(pc:∀p r,x= .pap p->y= .pap r->p.nm≠r.nm)(q:∀b:Bool,(b=false->fS x y)->Q (.bool b)):
 ∃kd:List (ai×Vv),[(Nl (Ng "rule"),Nn 1),(Nl (Ng "end"),Nn 1),(Nl (Ng "hold"),Nn 2),(Nl (Ng "lift"),Nn 2)]=NM (λp=>(gE p.fst,p.snd)) kd/\
  kd.length<=15/\(∀(p:ai×Vv),p∈kd->(match p.snd with | Qx=>true | P1 b=>true | Nn i=>true | Nl s=>true | x=>false)=true)/\
  if (cE (QI (λa p=>eD a p.fst p.snd) [] kd) (OC x.w)).isSome=false then Q (P1 false)
  else ∃x_1,cE (QI (λa p=>eD a p.fst p.snd) [] kd) (OC x.w)=some x_1/\Om x_1=true/\Om ((cE (QI (λa p=>eD a p.fst p.snd) [] kd) (OC y.w)).getD Qx)=true/\
   if x_1.eqv ((cE (QI (λa p=>eD a p.fst p.snd) [] kd) (OC y.w)).getD Qx)=false then Q (P1 false)
   else Om (ND [Nn x.d,Nl x.nm])=true/\Om (ND [Nn y.d,Nl y.nm])=true/\Q (P1 ((ND [Nn x.d,Nl x.nm]).eqv (ND [Nn y.d,Nl y.nm]))):=by
 refine⟨g7,rfl,Vp,?_,?_⟩
 ·intro p hp;simp only [g7,Ny,Oe,or_false] at hp;rcases hp with e | e | e | e <;> rw [e]
 ·rw [Mq];have no:(x.isE=true->y.isE=true->False)->Q (.bool false):=λh=>q false λ_=>⟨nq,pc,λa b=>(h a b).elim⟩;rcases D6 x.w with hx | ⟨i,hx⟩
  ·rw [hx,Vs (by rfl)];exact no λa _=>by rw [w8 a] at hx;cases hx
  ·rw [hx,Vr Vu];have sh:Om ((cE g7 (OC y.w)).getD Qx)=true:=by
    rcases D6 y.w with hy | ⟨j,hy⟩ <;> rw [hy]
    ·exact pG
    ·exact gA
   have two:∀z:De,Nw z.nm=true->Om (ND [Nn z.d,Nl z.nm])=true:=λz hz=>(cX (n:=1) (aU gT (aU (bL hz) dY))).shp Vp;refine⟨_,rfl,gA,sh,?_⟩;split
   ·rename_i hne;exact no λa b=>by
     rw [w8 a] at hx;cases hx;rw [w8 b] at hne;exact absurd hne (by simp [iw])
   ·refine⟨two x gx.nm,two y gy.nm,q _ λe=>⟨nq,pc,λ_ _ h=>?_⟩⟩;rw [h.1,h.2] at e;rw [wZ _ (cX (n:=1) (aU gT (aU (bL gy.nm) dY))).can] at e;cases e
def D7:List Vv->(Vv->Prop)->Prop:=λds Q=>∃x y:De,ds=[x.enc,y.enc]/\jM x/\jM y/\∀b:Bool,(b=false->fS x y)->Q (.bool b)
theorem Mr(T:Txt K mg t):aH P w K mg base CX0 1 t.a_k t.d_k ["_law_one","_law_other"] (aX K D7):=by
 refine T.F_k.F.okD CJ (λds Q h=>?_) (λ_ _ _ _ H O ds Q E hr h=>?_)
 ·obtain⟨x,y,rfl,_⟩:=h;rfl
 ·obtain⟨x,y,rfl,gx,gy,q⟩:=h;refine'⟨_,?A,?B⟩
  case A=>
   refine' ar ?C ?D
   case C=>
    refine' bj ?E ?F bh
    case E=>exact(PW.pt (jt (aF (cn hr.units) cq (dv 0) (dv 1) (au _)) (js (PW.pt (cV (aF (cn hr.units) cq (aq av az (dv 0) ag) (aq av az (dv 1) ag) (au _)) (cV (aF (pT hr) pV (aq av az (dv 0) ag) (bC (aa aO (aa aO ah))) rfl) (dM (aF (cn hr.units) cq (aq av az (dv 0) ag) (aq av az (dv 1) ag) (au _)))))))))
    case F=>refine' ax (aM lU)
   case' D=>refine' ar ?G ?H
   case G=>
    generalize hD6:Expr.Dict _ _ _=ed6;refine' mE (i:=2) CJ.nd rfl Vt ?I (hs:=by subst hD6;first | rfl | exact IG)
    case' I=>subst hD6
    refine' Jk ?p6_0
    case p6_0=>
     refine' qz aO ag ?p6_1
     case p6_1=>
      refine' qz aO ag ?p6_2
      case p6_2=>
       refine' qz aO ag ?p6_3
       case p6_3=>
        refine' qz aO ag ?p6_4
        case p6_4=>exact Jj
   case' H=>refine' ar ?J ?K
   case J=>
    refine' bj ?L ?M bh
    case L=>exact(PW.pt (jt (Bi (i:=2) hr.units (pv 2) (aq av az (dv 0) ag)) (js (aF (kh hr.units) ki (mF (i:=2) hr.units (pv 2) (aq av az (dv 0) ag) (λ_ _=>rfl)) (Be (i:=2) hr.units (pv 2) (aq av az (dv 1) ag) ⟨rfl,rfl,rfl,rfl⟩) (au _)))))
    case M=>refine' ax (aM lU)
   case' K=>refine' ax ?N
   case' N=>refine' aM ?O
   case O=>exact(eQ (cn hr.units) cq (df (ui (df (dv 0)) (fb ag) (fb ag))) (df (ui (df (dv 1)) (fb ag) (fb ag))) (au _))
  case B=>
  clear hr T;have sx:=gx.ly.shp Vp;have sy:=gy.ly.shp Vp;have ne:(x.enc).eqv y.enc=false->x≠y:=λh e=>by rw [e,wZ _ gy.ly.can] at h;cases h
  have ex:∃rx,x.enc= .tuple (.str x.w:: .int x.d:: .str x.nm::rx):=by cases x <;> exact⟨_,rfl⟩
  have ey:∃ry,y.enc= .tuple (.str y.w:: .int y.d:: .str y.nm::ry):=by cases y <;> exact⟨_,rfl⟩
  obtain⟨rx,ex⟩:=ex;obtain⟨ry,ey⟩:=ey;rw [ex] at sx ne⊢;rw [ey] at sy ne⊢;walk_at "d";refine⟨sx,sy,?_⟩;split
  ·exact q true λe=>by cases e
  ·rename_i h0;have nq:=ne (by simpa using h0);refine⟨cz.mpr gx.w,cz.mpr gy.w,?_⟩;split
   ·split
    ·refine⟨cz.mpr gx.nm,cz.mpr gy.nm,?_⟩;split
     ·exact q true λe=>by cases e
     ·rename_i hn;exact xa gx gy nq (λp r e1 e2 e=>hn (by rw [e1,e2];exact beq_iff_eq.mpr e)) q
    ·rename_i hn;exact xa gx gy nq (λp r e1 e2 e=>hn (by rw [e1];show(Ng "paper"==Ng "paper" || _)=true;simp)) q
   ·rename_i hn;exact xa gx gy nq (λp r e1 e2 e=>hn (by rw [e1,e2];exact beq_self_eq_true _)) q
def iI(xs:List De):Prop:=(∀x∈xs,jM x)/\xs.Pairwise fS/\xs.length<=41
theorem iI.good{xs:List De}(h:iI xs):dz xs:=by
 obtain⟨h1,h2,h3⟩:=h;have un:∀x∈xs,∀y∈xs,x≠y->fS x y:=λx hx y hy ne=>by
  obtain⟨i,hi⟩:=QN hx;obtain⟨j,hj⟩:=QN hy;obtain⟨li,ei⟩:=Nz.mp hi;obtain⟨lj,ej⟩:=Nz.mp hj;have pw:=OF.mp h2;rcases Nat.lt_trichotomy i j with h | h | h
  ·rw [<-ei,<-ej];exact pw i j li lj h
  ·subst h;exact absurd (by rw [<-ei,<-ej]) ne
  ·rw [<-ei,<-ej];exact(pw j i lj li h).symm
 have pm:∀p∈aK xs,De.pap p∈xs:=λp hp=>sA.mp hp;refine⟨⟨⟨?_,?_,λp hp=>(h1 _ (pm p hp)).nm,λp hp=>((h1 _ (pm p hp)).pp p rfl).1,λp hp=>⟨((h1 _ (pm p hp)).pp p rfl).2.1,((h1 _ (pm p hp)).pp p rfl).2.2.1⟩⟩,λw d nm r h=>(h1 _ h).np _ _ _ _ rfl,h3,λx hx=>(h1 x hx).w,λx hx=>(h1 x hx).nm⟩,λd nm r h=>(h1 _ h).hp _ _ _ rfl,λd nm r h=>(h1 _ h).ru _ _ _ rfl,h2.imp λh=>h.1,λx hx=>(h1 x hx).d0,λx hx y hy e1 e2 ed en=>?_⟩
 ·exact NP (Q4 _ _) h3
 ·unfold aK;rw [QM,Oj,List.pairwise_filterMap];refine h2.imp λ{a b} h p hp r hr=>?_;cases a with
  | oth w d nm r=>simp [De.pp] at hp
  | pap a=>
   cases b with
   | oth w d nm r=>simp [De.pp] at hr
   | pap b=>
    simp only [De.pp,O5] at hp hr;subst hp hr;exact h.2.1 a b rfl rfl
 ·by_cases e:x=y
  ·exact e
  ·exact absurd ⟨ed,en⟩ ((un x hx y hy e).2.2 e1 e2)
end
theorem D8:bb (ay rX) ["_law_script","_law_menu","_law_most","_law_head","_law_far","_law_chain","_law_names_here","_law_kinds","_law_words","_law_turn","_law_deeds_here","_law_k","_law_deed_here","_law_day_here"] ["_law_one","_law_deed_here"] 1 [12] ⟨Nx,[ (Ni ".0",Xv),(Ni "_law_one",Xv),(Ni "_law_quarrels",N3),(Ni "_law_deed_here",Nv)],false,false,[]⟩:= .of
section
variable {P:VL} {w:VP} {K:Nh} {mg:Str->Option Vw} {base:VQ} {t:cA}
theorem Ms{ns:List Str}(l u:Option Int):∃ms:List Str,cK (NM Nl ns) l u=ms.map Nl/\(∀m∈ms,m∈ns)/\ms.length<=ns.length/\ms.Sublist ns:=by
 unfold cK;rw [<-UZ,<-Rj];exact⟨_,rfl,λm hm=>Qh (Pf hm),by rw [NS,Oo];omega,(Qb _ _).trans (Ul _ _)⟩
def D9(me:List Str)(x:De):Prop:=∀d nm(pt:Pt),x= .oth (Ng "rule") d nm [pt.enc]->pt.wd∈me/\pt.wd ∉ lu
def nu(me:List Str)(x:De):Prop:=jM x/\D9 me x
def Mt:List Vv->(Vv->Prop)->Prop:=λds Q=>∃(cs:List Int)(me:List Str)(mo:Int),ds=[ft (cs.map .int),.list (me.map .str),.int mo]/\me≠[]/\me.length<=1000/\(∀m∈me,Nw m=true/\m≠Ng "paper")/\0 < mo/\mo<=18/\∀(xs:List De)(ns:List Str)(far:Int),iI xs->(xs.length:Int)<=4+2*mo->(∀x∈xs,D9 me x)->xs≠[]->ns.length=8->sJ ns->Q (.tuple [.tuple (xs.map De.enc),.list (ns.map .str),.int far])
theorem Mu(T:Txt K mg t):aH P w K mg base CX0 5 t.a_l t.d_l ["_law_script","_law_menu","_law_most"] (aX K Mt):=by
 have G_b:=@lq P w _ _ base _ T;have G_a:=@DW P w _ _ base _ T;have G_Z:=@D1 P w _ _ base _ T;have G_c:=@Me P w _ _ base _ T;have G_j:=@Mp P w _ _ base _ T;have G_k:=@Mr P w _ _ base _ T;refine T.F_l.F.okD fO (λds Q h=>?_) (λ_ _ _ _ H O ds Q E hr h=>?_)
 ·obtain⟨cs,me,mo,rfl,_⟩:=h;rfl
 ·obtain⟨cs,me,mo,rfl,me0,mel,meo,mo0,mo1,q⟩:=h;refine'⟨_,?A,?B⟩
  case A=>
   refine' ar ?C ?D
   case C=>exact(bG (i:=3) fO.nd rfl Vt (aB G_a hr T.F_a (aa (aB G_Z hr T.F_Z (aa (dv 0) (aa ag ah))) ah)))
   case' D=>refine' ar ?E ?F
   case E=>exact(j9 (i:=4) (j:=5) rfl fO.nd rfl rfl Vp rfl rfl (aa (aB G_b hr T.F_b (aa (dv 3) (aa ag ah))) (aa (eQ (cn hr.units) cq (df (aB G_b hr T.F_b (aa (dv 3) (aa ag ah)))) (df ag) (au _)) ah)) (by rfl))
   case' F=>refine' ar ?G ?H
   case G=>exact(bG (i:=6) fO.nd rfl Vt (aB G_c hr T.F_c (aa (dv 3) (aa ag ah))))
   case' H=>refine' ar ?I ?J
   case I=>
    refine' bG (i:=7) fO.nd rfl Vt ?K (hs:=mD)
    case' K=>refine' fe ?L
    case L=>exact(mf (df (dv 6)) iX (fb (aJ bt bE ag (aB G_b hr T.F_b (aa (dv 3) (aa ag ah))))))
   case' J=>refine' ar ?M ?N
   case M=>
    refine' lZ (i:=8) fO.nd rfl Vt ?O (hs:=mC)
    case O=>exact(JX (cN (aa aO ah)) (aJ bt bE ag (aB G_b hr T.F_b (aa (dv 3) (aa ag ah)))))
   case' N=>refine' ar ?P ?Q
   case P=>
    refine' tV Ov rfl rfl T.n_range (aa (aB G_b hr T.F_b (aa (dv 3) (aa (aq bI bW (fe (cN (aa (dv 2) (aa (aJ eM cJ ag (dv 2)) ah)))) (PE.imp (d6 nR rfl T.n_int lT (bz (eQ (cn hr.units) cq (df (aB G_b hr T.F_b (aa (dv 3) (aa ag ah)))) (df ag) (au _)) bg)) (bN pC))) ah))) ah) ?R aP ?S
    case R=>exact(aN (i:=9) fO.nd rfl Vt)
    case' S=>refine' ax ?T
    case' T=>refine' ij (i:=8) (pv 8) ?U
    case' U=>refine' fv bI bW (df (dv 1)) ?V
    case V=>exact(df (aB G_b hr T.F_b (aa (dv 3) (aa (PE.imp (bS fB rfl T.n_len ON (bz (dv 1) bg)) (bN gr)) ah))))
   case' Q=>refine' ar ?W ?X
   case W=>exact(lZ (i:=10) fO.nd rfl Vt (cN ah))
   case' X=>refine' ar ?Y ?Z
   case Y=>
    refine' tV Ov rfl rfl T.n_range (aa (PE.imp (bS fB rfl T.n_len ON (ig (dw 8) bg)) (bN gr)) ah) ?a aP ?b
    case a=>exact(aN (i:=11) fO.nd rfl Vt)
    case' b=>refine' ar ?c ?d
    case c=>
     refine' bG (i:=12) fO.nd rfl Vt ?e (hs:=ix)
     case e=>exact(aB G_j hr T.F_j (aa (aB G_a hr T.F_a (aa (aB G_Z hr T.F_Z (aa (dv 0) (aa (aJ bt bE ag (dv 11)) ah))) ah)) (aa (fv bI bW (dw 8) (df (dv 11))) (aa (dv 6) (aa (dv 7) (aa (dv 4) ah))))))
    case' d=>refine' ar ?f ?g
    case f=>
     refine' bj ?h ?i bh
     case h=>exact(PW.pt (cV (ic (dv 5)) (dM (aF (cv hr) cw (fv bI bW (dw 8) (df (dv 11))) aO (au _)))))
     case' i=>refine' ar ?j ?k
     case j=>
      refine' bG (i:=13) fO.nd rfl Vt ?l (hs:=mC)
      case l=>exact(aJ bt bE (aJ eM cJ (aq bI bW (fe (cN (aa ag (aa ag ah)))) (dv 4)) (dv 11)) (aJ d4 cJ (aq av az (dv 12) ag) ag))
     case' k=>refine' ax ?m
     case' m=>refine' bG (i:=12) fO.nd rfl Vt ?n (hs:=IF)
     case' n=>refine' bC ?o
     case' o=>refine' aa aO ?p
     case' p=>refine' aa (dv 13) ?q
     case' q=>refine' aa ?r ?s
     case r=>exact(aq bI bW (dv 6) (dv 11))
     case' s=>refine' aa ?t ?u
     case t=>exact(aq av az (dv 12) ag)
     case' u=>refine' aa ?v ah
     case v=>exact(PE.imp (d6 hX rfl T.n_tuple gc (bz (fe (mf (df (dv 6)) (fb (PE.imp (bS (yO rfl) rfl T.n_max Rq (bz ag (bz (aJ cM bE (dv 11) ag) bg))) (bN ph))) (fb (dv 11)))) bg)) (bN iq))
    case' g=>refine' ax ?w
    case' w=>refine' bj ?x ?y bh
    case x=>exact(lW (ic (PE.imp (bS (Ha rfl) rfl T.n_any Hb (bz (fe (fG rfl D8 (dw 10) aP cf Vp (λ_ _ _ _=>(aN (i:=0) D8.nd rfl Vt)) (λ_ _ _ _=>gz) (λ_ _ _ _=>(aB G_k hr T.F_k (aa (dv 0) (aa (dv 1) ah)))))) bg)) (bN tX))))
    case' y=>refine' ax ?z
    case z=>exact(J3 (i:=10) (pv 10) (aB G_b hr T.F_b (aa (dv 3) (aa (aJ bt bE (PE.imp (bS fB rfl T.n_len ON (ig (dw 10) bg)) (bN gr)) ag) ah))) (dv 12))
   case' Z=>refine' ax ?A0
   case A0=>exact(aM (bC (aa (PE.imp (d6 hX rfl T.n_tuple gc (ig (dw 10) bg)) (bN iq)) (aa (dv 6) (aa (dv 4) ah)))))
  case B=>
  clear hr T G_b G_a G_Z G_c G_j G_k;walk_at "d";refine⟨cs,0,rfl,Vp,Vp,λc=>⟨c,rfl,2,rfl,Vp,Vp,λfar f0 f1=>⟨8,rfl,Vp,Vp,λch c0 c1=>⟨gA,rfl,λns nl nok nnd=>⟨2,rfl,Vp,Vp,λkk kk0 kk1=>⟨_,rfl,_,rfl,5,rfl,Vp,Vp,λpc p0 p1=>⟨_,rfl,Vq,Vq,8,rfl,Vp,Vp,λe e0 e1=>⟨gA,?_⟩⟩⟩⟩⟩⟩⟩⟩;have hz:∃z:Int,atI [Nn mo,Nn (2*mo)] (if (Nn e).eqv (Nn 3)=true then 1 else 0)=some (.int z)/\0 < z/\z<=2*mo:=by
   split
   ·exact⟨_,dN,Vq,Vq⟩
   ·exact⟨_,d9,Vq,Vq⟩
  obtain⟨z,ez,z0,z1⟩:=hz;refine⟨_,ez,z,rfl,z0,Vq,λj j0 j1=>⟨j,rfl,Vq,Vq,?_⟩⟩;obtain⟨ks,ek,dr⟩:∃ks:List Str,cK (NM Nl ns) none (some (2+kk))=ks.map Nl/\wY ns ks far:=by
   refine⟨ns.take (2+kk).toNat,by rw [t5 Vq (by simp;omega),<-Rj],nl,nok,nnd,by rw [NS];omega,by rw [NS];omega,λz hz=>nok z (Pf hz),f0,Vq⟩
  rw [ek];have er:(NG (1+pc).toNat [Nl (Ng "paper")]).flatten=(NG (1+pc).toNat (Ng "paper")).map Nl:=by
   rw [List.flatten_replicate_singleton,List.map_replicate]
  rw [er];generalize (Nn ch).eqv (Nn 5)=cb;have n0:1<=(1+pc).toNat:=Vq
  have n1:(1+pc).toNat<=5:=Vq
  generalize (1+pc).toNat=n at n0 n1⊢;refine⟨λi δ=>∃(ms:List Str)(o9:Option Sl),ms.length=i/\(∀m∈ms,m∈me)/\δ=[some (Sl.v (ft (NM Nn cs))),some (Sl.v (Od (NM Nl me))),some (Sl.v (Nn mo)),some (Sl.v fC),some (Sl.v (.int far)),some (Sl.v (.bool cb)),some (Sl.v (.list (ns.map .str))),some (Sl.v (.list (ks.map .str))),some (Sl.o ((NG n (Ng "paper")++ms).map Nl)),o9,none,none,none,none],⟨[],_,rfl,Vu,by rw [N4]⟩,?_,?_⟩
  ·rintro i x δ hx ⟨ms,o9,hl,hm,rfl⟩;obtain⟨hi,rfl⟩:=jB hx;walk_at "d";have ml:0 < me.length:=TF.mpr me0;refine⟨_,rfl,by rw [Nj];omega,by rw [Nj];omega,λv v0 v1=>⟨_,rfl,?_⟩⟩;rw [Nj] at v1;obtain⟨m,hm1,em⟩:=iH v0 v1;refine⟨_,em,by rw [Nj,Oc,Pz];omega,ms++[m],by simp [hl],λz hz=>?_,?_⟩
   ·rcases NQ.mp hz with h | h
    ·exact hm z h
    ·rw [NU] at h;rw [h];exact hm1
   ·refine⟨?_,_,rfl⟩;rw [<-Ph,N8 (l₂:=[m])];rfl
  ·rintro δ ⟨ms,o9,hl,hm,rfl⟩;rw [pJ] at hl;have wl:((NG n (Ng "paper")++ms).length:Int)<=4+2*mo:=by rw [Oc,Pz];omega
   have w0:1<=(NG n (Ng "paper")++ms).length:=by rw [Oc,Pz];omega
   have wok:∀w∈NG n (Ng "paper")++ms,Nw w=true:=λw hw=>by
    rcases NQ.mp hw with h | h
    ·rw [(T9.mp h).2];decide+kernel
    ·exact(meo w (hm w h)).1
   have wm:∀w∈NG n (Ng "paper")++ms,w=Ng "paper"\/w∈me:=λw hw=>by
    rcases NQ.mp hw with h | h
    ·exact .inl (T9.mp h).2
    ·exact .inr (hm w h)
   have wp:∀k:Nat,(NG n (Ng "paper")++ms)[k]?=some (Ng "paper")->k < 5:=λk hk=>by
    by_cases h:k < n
    ·omega
    ·rw [Oy (by rw [Pz];omega)] at hk;exact absurd rfl (meo _ (hm _ (NT hk))).2
   generalize NG n (Ng "paper")++ms=ws at wl w0 wok wp wm⊢;walk_at "d";rw [Nj];refine⟨Vq,Vq,?_⟩;refine⟨λi δ=>∃(xs:List De)(o11 o12 o13:Option Sl),(∀x∈xs,nu me x)/\xs.Pairwise fS/\xs.length<=i/\(0 < i->xs≠[])/\δ=[some (Sl.v (ft (NM Nn cs))),some (Sl.v (Od (NM Nl me))),some (Sl.v (Nn mo)),some (Sl.v fC),some (Sl.v (.int far)),some (Sl.v (.bool cb)),some (Sl.v (.list (ns.map .str))),some (Sl.v (.list (ks.map .str))),some (Sl.o (ws.map Nl)),o9,some (Sl.o (xs.map De.enc)),o11,o12,o13],⟨[],_,_,_,Vu,.nil,Vu,Vu,rfl⟩,?_,?_⟩
   ·rintro i x δ hx ⟨xs,o11,o12,o13,xg,xq,xl,x0,rfl⟩;obtain⟨hi,rfl⟩:=jB hx;walk_at "d";have hi:i < ws.length:=Vq
    have hw:ws[i]?=some ws[i]:=Nz.mpr ⟨hi,rfl⟩;have aw:atI (NM Nl ws) (0+(i:Int))=some (.str ws[i]):=by rw [Va];exact fZ (by simp [hi])
    have wo:=wok _ (OP hi);generalize ws[i]=wi at hw aw wo;have tail:∀(y:De)(o:Option Sl),nu me y->((NM De.enc xs).length<=16777216/\fu (jx 0) iV (iR D7 (gR (cj 0) (gR (cj 1) jr))) [none,some (Sl.v y.enc)] (NM De.enc xs) λds=>∃bs,ds=NM P1 bs/\
     if bs.any id=false then tY [fC,Nn (((NM De.enc xs).length:Int)+1)] λa=>∃n:Nat,a=Nn (n:Int)/\n<=(NM De.enc xs).length/\(NM De.enc xs).length < 1000000/\∃xs_1:List De,(∀x∈xs_1,nu me x)/\U3 fS xs_1/\xs_1.length<=i+1/\(0 < i+1->¬xs_1=[])/\fj (NM De.enc xs) n y.enc=NM De.enc xs_1/\∃x,o=x
     else ∃xs_1:List De,(∀x∈xs_1,nu me x)/\U3 fS xs_1/\xs_1.length<=i+1/\(0 < i+1->¬xs_1=[])/\NM De.enc xs=NM De.enc xs_1/\∃x,o=x):=λy o gy=>by
     refine⟨by rw [Nj];omega,λk acc=>∃bs:List Bool,acc=bs.map P1/\bs.length=k/\(bs.any id=false->∀x∈xs.take k,fS x y),⟨[],rfl,rfl,Vu⟩,?_,?_⟩
     ·rintro k x acc hk ⟨bs,rfl,bl,bq⟩;rw [NK] at hk;cases hk':xs[k]? with
      | none=>rw [hk'] at hk;cases hk
      | some x=>
       rw [hk'] at hk;cases hk;walk_at "d";refine⟨x,y,rfl,(xg x (NT hk')).1,gy.1,λb hb=>⟨bs++[b],by rw [N8];rfl,by simp [bl],λh x' hx'=>?_⟩⟩;rw [List.any_append,Bool.or_eq_false_iff] at h;rw [Ox,hk'] at hx';rcases NQ.mp hx' with z | z
       ·exact bq h.1 x' z
       ·have:x'=x:=by simpa using z
        rw [this];exact hb (by simpa using h.2)
     ·rintro acc ⟨bs,rfl,bl,bq⟩;rw [Nj] at bl bq⊢;rw [NI (Np _)] at bq;refine⟨bs,rfl,?_⟩;split
      ·rename_i h;refine⟨_,rfl,Vq,Vq,λv v0 v1=>?_⟩;obtain⟨n,rfl⟩:=OY v0;refine⟨n,rfl,Vq,Vq,fj xs n y,λx hx=>?_,?_,by rw [vA];omega,λ_ e=>?_,(JY _ _ _ _).symm,_,rfl⟩
       ·rcases Ny.mp ((vz xs n y).mem_iff.mp hx) with e | e
        ·rw [e];exact gy
        ·exact xg x e
       ·refine(List.Perm.pairwise_iff (λh=>fS.symm h) (vz xs n y)).mpr (Og.mpr ⟨λx hx=>(bq h x hx).symm,xq⟩)
       ·have:=congrArg Uq e;rw [vA] at this;simp at this
      ·rename_i h;refine⟨xs,xg,xq,Vq,λ_ e=>?_,rfl,_,rfl⟩;rw [e] at bl;have:bs=[]:=List.length_eq_zero_iff.mp bl;rw [this] at h;exact h rfl
    refine⟨cs,_,rfl,Vq,Vq,λc=>⟨c,rfl,_,aw,wi,ns,ks,far,rfl,wo,dr,λy gy yp yr=>?_⟩⟩;have gm:nu me y:=⟨gy,λd nm pt e=>by
     obtain⟨a,b⟩:=yr d nm pt e;rw [a];refine⟨?_,b⟩;rcases wm wi (NT hw) with h | h
     ·rw [h] at b;exact absurd Ob b
     ·exact h⟩
    split
    ·refine⟨_,aw,rfl,?_⟩;rw [iu];split
     ·rename_i hp;have hp:=eq_of_beq hp;obtain⟨p,rfl⟩:=yp hp;have i5:=wp i (by rw [hw,hp]);have hf:∃z:Int,atI [Nn 5,Nn 9000] far=some (.int z)/\0<=z/\z<=9000:=by
       have:far=0\/far=1:=Vq
       rcases this with h | h <;> rw [h]
       ·exact⟨5,rfl,Vp,Vp⟩
       ·exact⟨9000,rfl,Vp,Vp⟩
      obtain⟨z,ez,z0,z1⟩:=hf;obtain⟨nm,hn,en⟩:=iH (ss:=ns) (i:=0+(i:Int)) Vq Vq;have pk:=(gy.pp p rfl).1;refine⟨_,ez,_,rfl,.inr ⟨Vq,Vq⟩,_,rfl,_,dN,_,rfl,_,en,_,rfl,_,iY,?_⟩;obtain⟨ms,em,hm,ml,msub⟩:=Ms (ns:=ns) (some (if 0+(i:Int) - 1 > 0 then 0+(i:Int) - 1 else 0)) (some (0+(i:Int)));rw [em];have nok':=(nok nm hn).ok;have msok:∀m∈ms,Nw m=true:=λm h=>(nok m (hm m h)).ok;have zi:0<=z*(0+(i:Int))/\z*(0+(i:Int))<=36000:=by
       have:i=0\/i=1\/i=2\/i=3\/i=4:=Vq
       rcases this with h | h | h | h | h <;> subst h <;> simp <;> omega
      refine tail (.pap ⟨z*(0+(i:Int))+p.d % 5,nm,p.kd,ms⟩) _ ⟨⟨by show Nw (Ng "paper")=true;decide+kernel,nok',⟨?_,?_⟩,?_,?_,(λ_ _ _ _ e=>by cases e),(λ_ _ _ e=>by cases e),(λ_ _ _ e=>by cases e)⟩,λ_ _ _ e=>by cases e⟩
      ·show 0<=z*(0+(i:Int))+p.d % 5;omega
      ·show z*(0+(i:Int))+p.d % 5 < 100000;omega
      ·exact cX (aU (bL cp) (aU gT (aU (bL nok') (aU (bL pk) (aU ((cX (n:=1) (uz msok)).mono Vp) dY)))))
      ·intro p' e;cases e;exact⟨pk,msok,by show ms.length<=50;omega,nnd.sublist msub⟩
     ·exact tail y _ gm
    ·exact tail y _ gm
   ·rintro δ ⟨xs,o11,o12,o13,xg,xq,xl,x0,rfl⟩;rw [pJ] at xl x0;walk_at "d";exact q xs ns far ⟨λx hx=>(xg x hx).1,xq,Vq⟩ Vq (λx hx=>(xg x hx).2) (x0 Vq) nl nok
def xb:List Vv->(Vv->Prop)->Prop:=λds Q=>∃(d k:Int)(u:Str),ds=[.int d,.int k,.str u]/\gZ u/\0<=d/\Q (.int (jg d k u))
theorem Mv(k:Int)(h:0<=k):bA (2000+k)<=366*k:=by
 unfold bA lb;omega
theorem Mw(T:Txt K mg t):aH P w K mg base CX0 3 t.a_g t.d_g ["_law_day_here","_law_many","_law_unit"] (aX K xb):=by
 have G_e:=@D3 P w _ _ base _ T;have G_d:=@wU P w _ _ base _ T;have G_f:=@D4 P w _ _ base _ T;refine T.F_g.F.okD jI (λds Q h=>?_) (λ_ _ _ _ H O ds Q E hr h=>?_)
 ·obtain⟨d,k,u,rfl,_⟩:=h;rfl
 ·obtain⟨d,k,u,rfl,hu,d0,q⟩:=h;refine'⟨_,?A,?B⟩
  case A=>
   refine' ar ?C ?D
   case C=>
    refine' bj ?E ?F bh
    case E=>exact(aF (cv hr) cw (dv 2) aO (au _))
    case' F=>refine' ax ?G
    case G=>exact(aM (aJ bt bE (dv 0) (dv 1)))
   case' D=>refine' ar ?H ?I
   case H=>exact(bG (i:=3) jI.nd rfl Vt (aJ bt bE ag (aJ fW cJ (dv 0) ag)))
   case' I=>refine' ar ?J ?K
   case J=>
    refine' BH Ov ?L ?M
    case L=>exact(aF fX dX (aB G_e hr T.F_e (aa (aJ bt bE (dv 3) ag) ah)) (dv 0) (au _))
    case' M=>refine' ax ?N
    case N=>exact(bG (i:=3) jI.nd rfl Vt (aJ bt bE (dv 3) ag))
   case' K=>refine' ar ?O ?P
   case O=>exact(j9 (i:=4) (j:=5) rfl jI.nd rfl rfl Vp rfl rfl (aa ag (aa (aJ cM bE (dv 0) (aB G_e hr T.F_e (aa (dv 3) ah))) ah)) (by rfl))
   case' P=>refine' ar ?Q ?R
   case Q=>
    refine' BH Ov ?S ?T
    case S=>exact(aF tw dX (dv 5) (aB G_d hr T.F_d (aa (dv 3) (aa (dv 4) ah))) (au _))
    case' T=>refine' ax ?U
    case U=>exact(j9 (i:=5) (j:=4) rfl jI.nd rfl rfl Vp rfl rfl (aa (aJ cM bE (dv 5) (aB G_d hr T.F_d (aa (dv 3) (aa (dv 4) ah)))) (aa (aJ bt bE (dv 4) ag) ah)) (by rfl))
   case' R=>refine' ar ?V ?W
   case V=>
    refine' bG (i:=6) jI.nd rfl Vt ?X (hs:=mC)
    case X=>exact(aJ bt bE (aJ cM bE (dv 4) ag) (aJ eM cJ (dv 1) (aq bI bW (fe (cN (aa ag (aa ag ah)))) (PE.imp (d6 nR rfl T.n_int lT (bz (eQ (cv hr) cw (df (dv 2)) (df aO) (au _)) bg)) (bN pC)))))
   case' W=>refine' ar ?Y ?Z
   case Y=>exact(j9 (i:=3) (j:=4) rfl jI.nd rfl rfl Vp rfl rfl (aa (aJ bt bE (dv 3) (aJ fW cJ (dv 6) ag)) (aa (aJ bt bE (aJ d4 cJ (dv 6) ag) ag) ah)) (by rfl))
   case' Z=>refine' ax ?a
   case' a=>refine' aM ?b
   case b=>exact(aB G_f hr T.F_f (aa (dv 3) (aa (dv 4) (aa (PE.imp (bS (tD rfl) rfl T.n_min QF (bz (aJ bt bE (dv 5) ag) (bz (aB G_d hr T.F_d (aa (dv 3) (aa (dv 4) ah))) bg))) (bN ph)) ah))))
  case B=>
  clear hr T G_e G_d G_f;walk_at "d";have le1:=λ{r:Int} (h:iE d k u r)=>DI h;by_cases hd:u=Ng "days"
  ·rw [Vs (by rw [hd];exact beq_self_eq_true _),le1 (.inl ⟨hd,rfl⟩)];exact q
  ·rw [bY hd,Vr Nt];have y0:=Mv (d / 366) Vq;refine⟨λm δ=>∃y:Int,2000<=y/\bA y<=d/\m=(d - bA y).toNat/\δ=[some (Sl.v (Nn d)),some (Sl.v (Nn k)),some (Sl.v (Nl u)),some (Sl.v (Nn y)),none,none,none],⟨_,_,Vq,Vq,rfl,rfl⟩,?_⟩;rintro m δ ⟨y,hy,hyd,rfl,rfl⟩;have ys:=vt y;have l01:=vq y;walk_at "d";refine⟨_,rfl,_,rfl,?_⟩;by_cases hs:bA (y+1)<=d
   ·rw [Vs hs];exact⟨_,Vq,y+1,Vq,hs,rfl,rfl⟩
   ·rw [Vr hs];refine⟨_,rfl,_,rfl,?_⟩;refine⟨λm δ=>∃mo:Int,1<=mo/\mo<=12/\aG y mo<=d - bA y/\m=(12 - mo).toNat/\δ=[some (Sl.v (Nn d)),some (Sl.v (Nn k)),some (Sl.v (Nl u)),some (Sl.v (Nn y)),some (Sl.v (Nn mo)),some (Sl.v (Nn (d - bA y - aG y mo))),none],⟨_,1,Vp,Vp,by rw [mQ];omega,rfl,by rw [mQ,Int.sub_zero]⟩,?_⟩;rintro m δ ⟨mo,m1,m12,hb,rfl,rfl⟩;have ba:=qS (y:=y) m1 m12;walk_at "d";refine⟨y,mo,rfl,m1,m12,_,rfl,?_⟩;by_cases hm:aQ y mo<=d - bA y - aG y mo
    ·rw [Vs hm];have lt12:mo < 12:=by
      by_cases z:mo < 12
      ·exact z
      ·have e:mo=12:=Vq
       subst e;have:=(qR y);have:=mP y;omega
     refine⟨y,mo,rfl,m1,m12,_,rfl,_,?_,mo+1,Vq,Vq,?_,rfl,rfl,?_⟩
     ·omega
     ·rw [di m1];omega
     ·rw [di m1];omega
    ·rw [Vr hm];have D:iA d y mo (d - bA y - aG y mo+1):=⟨m1,m12,Vq,Vq,by unfold fL;omega⟩;have fin:∀x:Int,iE d k u (kG y mo (d - bA y - aG y mo+1) (k*x))->D2 [Nn (y+(mo - 1+k*x)/ 12),Nn ((mo - 1+k*x)% 12+1)] λd_2=>∃x_1,d_2=Nn x_1/\wV [Nn (y+(mo - 1+k*x)/ 12),Nn ((mo - 1+k*x)% 12+1),Nn (if x_1 < d - bA y - aG y mo+1 then x_1 else d - bA y - aG y mo+1)] Q:=λx hx=>by
      generalize hkx:k*x=kx at hx⊢;have e1:(y*12+mo - 1+kx)/ 12=y+(mo - 1+kx)/ 12:=Vq
      have e2:(y*12+mo - 1+kx)% 12=(mo - 1+kx)% 12:=Vq
      refine⟨_,_,rfl,Vq,Vq,_,rfl,_,_,_,rfl,Vq,Vq,?_⟩;have e3:=le1 hx;unfold kG at e3;rw [e1,e2] at e3;rw [tS,e3];exact q
     have z:u=Ng "months"\/u=Ng "years":=by
      rcases hu with z | z | z
      ·exact absurd z hd
      ·exact .inl z
      ·exact .inr z
     rcases z with z | z
     ·rw [Vr (by rw [z];decide+kernel)];exact⟨_,d9,_,rfl,.inr ⟨Vp,Vp⟩,fin 1 (.inr (.inl ⟨z,y,mo,_,D,by rw [Ve]⟩))⟩
     ·rw [Vs (by rw [z];decide+kernel)];exact⟨_,dN,_,rfl,.inr ⟨Vp,Vp⟩,fin 12 (.inr (.inr ⟨z,y,mo,_,D,rfl⟩))⟩
end
theorem Ea:bb (ay rY) ["_law_deeds_here","_law_day_here","_law_word","_law_ending","_law_known","_law_deed_here"] ["_law_name","_law_known","_law_word"] 1 [4,2] ⟨Nx,[ (Ni ".0",Xv),(Ni "_law_name",Xv),(Ni "_law_known",Nv),(Ni "_law_word",Nv)],false,false,[]⟩:= .of
section
variable {P:VL} {w:VP} {K:Nh} {mg:Str->Option Vw} {base:VQ} {t:cA}
def nv(z:Int×Str×Pt):Vv:= .tuple [.str (Ng "rule"),.int z.1,.str z.2.1,z.2.2.enc]
def Mx:List Vv->(Vv->Prop)->Prop:=λds Q=>∃(xs:List De)(n:Int),ds=[.tuple (xs.map De.enc),.int n,.str (Ng "rule"),.str (Ng "end")]/\dz xs/\∀L:List (Int×Str×Pt),L.map (·.2)=bM xs n->(bM xs n).length<=41->fQ xs n (bM xs n)->Q (.list (L.map nv))
theorem Eb:∀(R:List Rw)(M:List (Str×Pt)),(∀x∈R,x.w=Ng "rule"/\∃p,x.r=[p])->R.map (λx=>ND [.str x.nm,x.r.headD .none])=M.map dB->∃L:List (Int×Str×Pt),L.map (·.2)=M/\R.map Rw.enc=L.map nv
 | [],[],_,_=>⟨[],rfl,rfl⟩
 | [],_::_,_,h=>by cases h
 | _::_,[],_,h=>by cases h
 | x::R,m::M,h,e=>by
  simp only [Nq,Ot] at e;obtain⟨L,h1,h2⟩:=Eb R M (λy hy=>h y (by simp [hy])) e.2;obtain⟨hw,p,hp⟩:=h x Vu;refine⟨(x.n,m)::L,by simp [h1],?_⟩;have e1:=e.1;rw [hp] at e1;simp only [dB,List.headD_cons,PB,Ot,Px,and_true] at e1;simp only [Nq,h2,Ot,and_true];unfold Rw.enc nv;rw [hw,hp,e1.1,e1.2]
def lz(L:Ls)(nm:Str):Bool:=match cF L nm with
 | some z=>z.w==Ng "rule"
 | none=>false
theorem Ec(L:Ls):∀ns:List Str,(∀a∈ns,a∈L.map (·.1))->(ns.filter (lz L)).map (λnm=>((cF L nm).map Rw.enc).getD .none)=((ns.filterMap (cF L)).filter λx=>x.w==Ng "rule").map Rw.enc
 | [],_=>rfl
 | a::ns,h=>by
  obtain⟨z,hz⟩:=mJ (h a Vu);have ih:=Ec L ns λb hb=>h b (by simp [hb]);rw [Ow,Pl,hz];simp only [Ow];have e:lz L a=(z.w==Ng "rule"):=by unfold lz;rw [hz]
  rw [e];by_cases hr:(z.w==Ng "rule")=true
  ·rw [Vs hr,Vs hr,Nq,Nq,ih,hz];rfl
  ·rw [Vr hr,Vr hr,ih]
theorem My(T:Txt K mg t):aH P w K mg base CX0 1 t.a_n t.d_n ["_law_deeds_here","_law_day_here","_law_word","_law_ending"] (aX K Mx):=by
 refine T.F_n.F.okD wD (λds Q h=>?_) (λ_ _ _ _ H O ds Q E hr h=>?_)
 ·obtain⟨xs,n,rfl,_⟩:=h;rfl
 ·obtain⟨xs,n,rfl,g,q⟩:=h;refine'⟨_,?A,?B⟩
  case A=>
   refine' ar ?C ?D
   case C=>exact(mE (i:=4) wD.nd rfl Vt uY)
   case' D=>refine' ar ?E ?F
   case E=>
    refine' oQ Ov rfl (dv 0) ?G aP ?H
    case G=>exact(aN (i:=5) wD.nd rfl Vt)
    case' H=>refine' ax ?I
    case' I=>refine' bj ?J ?K bh
    case J=>exact(PW.pt (cV (aF (uh hr) mv (aq av az (dv 5) ag) (bC (aa (dv 2) (aa (dv 3) ah))) rfl) (dM (aF fX dX (aq av az (dv 5) ag) (dv 1) (au _)))))
    case' K=>refine' ax ?L
    case' L=>refine' bj ?M ?N bh
    case M=>exact(PW.pt (jt (Bi (i:=4) hr.units (pv 4) (aq av az (dv 5) ag)) (js (aF nN dX (aq av az (mF (i:=4) hr.units (pv 4) (aq av az (dv 5) ag) (λ_ _=>rfl)) ag) (aq av az (dv 5) ag) (au _)))))
    case' N=>refine' ax ?O
    case O=>exact(uZ (i:=4) hr.units (pv 4) (aq av az (dv 5) ag) (dv 5))
   case' F=>refine' ax ?P
   case' P=>refine' aM ?Q
   case' Q=>refine' fe ?R
   case R=>exact(fG rfl Ea (df (fe (Bh (i:=4) rfl rfl T.n_sorted OG (pv 4)))) aP cf Vp (λ_ _ _ _=>(aN (i:=0) Ea.nd rfl Vt)) (λ_ _ _ _=>(cU (aF (cn hr.units) cq (aq av az (mF (i:=1) hr.units (pv 1) (dv 0) (λ_ _=>rfl)) ag) (dv 2) (au _)))) (λ_ _ _ _=>(mF (i:=1) hr.units (pv 1) (dv 0) (λ_ _=>rfl))))
  case B=>
  clear hr T;walk_at "d";rw [<-Du];have wok:∀x∈xs.map De.rw,Nw x.w=true:=λx hx=>by
   obtain⟨y,hy,rfl⟩:=NC.mp hx;have:=g.gx.w y hy;cases y <;> exact this
  have nok:∀x∈xs.map De.rw,Nw x.nm=true:=λx hx=>by
   obtain⟨y,hy,rfl⟩:=NC.mp hx;have:=g.gx.nm y hy;cases y <;> exact this
  have h64:(xs.map De.rw).length<=41:=by rw [Nj];exact g.gx.ln
  have q:∀res,mI eG n (xs.map De.rw) res->Q (.list ((res.filter λx=>x.w==Ng "rule").map Rw.enc)):=λres hres=>by
   obtain⟨M,h1,h2⟩:=Dz g hres;have e:=Dx h1;obtain⟨L,l1,l2⟩:=Eb (res.filter λx=>x.w==Ng "rule") M (λx hx=>by
    obtain⟨hx1,hx2⟩:=NR.mp hx;exact⟨eq_of_beq hx2,(DC g (λw d nm r h=>g.gx.w _ h)).ru x (hres.it x hx1).1 (eq_of_beq hx2)⟩) h2
   rw [l2];refine q L (l1.trans e) ?_ (by rw [<-e];exact h1);have hl:(gH res).length<=res.length:=by unfold gH;rw [Nj];exact Oa _ _
   have:=hres.le;rw [Nj] at this;rw [h2,Nj,e] at hl;have:=g.gx.ln;omega
  generalize xs.map De.rw=ys at wok nok h64 q⊢;clear g;refine⟨λi δ=>∃L o5,dO eG n (ys.take i) L/\δ=[some (Sl.v (.tuple (ys.map Rw.enc))),some (Sl.v (.int n)),some (Sl.v (.str (Ng "rule"))),some (Sl.v (.str (Ng "end"))),some (Sl.k (eF L)),o5],⟨[],_,dO.nil _ _,rfl⟩,?_,?_⟩
  ·rintro i x δ hx ⟨L,o5,hL,rfl⟩;rw [NK] at hx;cases hx':ys[i]? with
   | none=>rw [hx'] at hx;cases hx
   | some y=>
    rw [hx'] at hx;cases hx;have hy:y∈ys:=NT hx';have tk:ys.take (i+1)=ys.take i++[y]:=by rw [Ox,hx'];rfl
    simp only [Rw.enc];walk_at "d";have hle:L.length < 64:=by have:=hL.le;rw [NS] at this;omega
    have hk:(eF L).length < 16777216:=by unfold eF;rw [Nj];omega
    have en:ND (Nl y.w::Nn y.n::Nl y.nm::y.r)=y.enc:=rfl;refine⟨cz.mpr (wok y hy),cp,?_⟩;have ein:(Ng "rule"==y.w || Ng "end"==y.w)=decide (y.w∈eG):=by
     rw [wQ,wQ,<-Bool.decide_or];refine decide_eq_decide.mpr ?_;unfold eG;rw [Ny,Ny];exact⟨λh=>h.imp Eq.symm λh=>.inl h.symm,λh=>h.imp Eq.symm λh=>h.elim Eq.symm λh=>absurd h Oe⟩
    rw [ein];by_cases hin:y.w∈eG
    ·rw [Vs (decide_eq_true hin)];by_cases hn:y.n<=n
     ·rw [Vs hn,kB,en];cases hl:cF L y.nm with
      | none=>
       rw [Vs (by rfl)];exact⟨hk,_,by rw [tk];exact hL.put ⟨hin,hn⟩ (λz e=>by rw [hl] at e;cases e),qo L y.nm y,_,rfl⟩
      | some z=>
       rw [Vr Vu];refine⟨_,rfl,_,rfl,_,dN,_,rfl,?_⟩;split
       ·rename_i hlt;exact⟨hk,_,by rw [tk];exact hL.put ⟨hin,hn⟩ (λz' e=>by rw [hl] at e;cases e;exact hlt),qo L y.nm y,_,rfl⟩
       ·rename_i hlt;exact⟨L,by rw [tk];exact hL.keep hl hlt,rfl,_,rfl⟩
     ·rw [Vr hn];exact⟨L,by rw [tk];exact hL.skip (λz=>hn z.2),rfl,_,rfl⟩
    ·rw [Vr (by simpa using hin)];exact⟨L,by rw [tk];exact hL.skip (λz=>hin z.1),rfl,_,rfl⟩
  ·rintro δ ⟨L,o5,hL,rfl⟩;walk_at "d";rw [Nj,NI (Np _)] at hL;have hle:L.length < 64:=by have:=hL.le;omega
   have sp:=fw (L.map (·.1));refine⟨L.map (·.1),by unfold eF;rw [NO,NO];rfl,by rw [Nj];exact hle,by rw [Nj,sp.length_eq,Nj];omega,?_⟩;refine cG (lz L) (λnm=>((cF L nm).map Rw.enc).getD .none) (λnm hnm R S h=>?_) ?_
   ·obtain⟨z,hz⟩:=mJ (sp.mem_iff.mp hnm);walk_at "d";refine⟨z.enc,by rw [kB,hz];rfl,_,rfl,_,d9,?_⟩;obtain⟨p,hp,_,e⟩:=mH hz;have zy:z∈ys:=by rw [<-e];exact(hL.it p hp).2.1
    have e2:lz L nm=(z.w==Ng "rule"):=by unfold lz;rw [hz]
    rw [e2,hz] at h;refine⟨cz.mpr (wok z zy),cp,?_⟩;rw [iu];split
    ·rename_i h1;rw [Vs h1] at h;exact⟨z.enc,by rw [kB,hz];rfl,h⟩
    ·rename_i h1;rw [Vr h1] at h;exact h
   ·rw [Ec L _ λa ha=>sp.mem_iff.mp ha];exact q _ hL.res
end
theorem Ed:bb (ay mX) ["_law_deeds_here","_law_parts_here","_law_name","_law_day_here","_law_coming","_law_days_here"] ["_law_deed_here","_law_name","_law_parts_here"] 1 [2,1] ⟨Nx,[ (Ni ".0",Xv),(Ni "_law_deed_here",Xv),(Ni "_law_name",Nv),(Ni "_law_parts_here",Nv)],false,false,[]⟩:= .of
theorem Ee:bb (ay mX) ["_law_deeds_here","_law_parts_here","_law_name","_law_day_here","_law_coming","_law_days_here"] ["_law_one","_law_day_here"] 1 [3] ⟨Nx,[ (Ni ".0",Xv),(Ni "_law_one",Xv),(Ni "_law_day_here",Nv)],false,false,[]⟩:= .of
section
def lA(x:Int×Str):List (Int×Str)->List (Int×Str)
 | []=>[x]
 | y::l=>if aI x y=true then x::y::l else y::lA x l
theorem xc(x:Int×Str):∀l,(lA x l).Perm (x::l)
 | []=>.refl _
 | y::l=>by
  unfold lA;split
  ·exact .refl _
  ·exact((xc x l).cons y).trans (.swap x y l)
theorem Ef{x:Int×Str}:∀{l:List (Int×Str)},(∀y∈l,y≠x)->l.Pairwise (λa b=>aI a b=true)->(lA x l).Pairwise λa b=>aI a b=true
 | [],_,_=>SE _ _
 | y::l,hn,h=>by
  have hp:=Og.mp h;unfold lA;split
  ·rename_i hl;refine Og.mpr ⟨λz hz=>?_,h⟩;rcases Ny.mp hz with e | e
   ·subst e;exact hl
   ·exact wH hl (hp.1 z e)
  ·rename_i hl;refine Og.mpr ⟨λz hz=>?_,Ef (λz hz=>hn z (by simp [hz])) hp.2⟩;rcases Ny.mp ((xc x l).mem_iff.mp hz) with e | e
   ·subst e;rcases C0 (a:=y) (b:=z) (hn y Vu) with w | w
    ·exact w
    ·exact absurd w hl
   ·exact hp.1 z e
theorem Eg:∀{l:List (Int×Str)},l.Nodup->∃s:List (Int×Str),s.Perm l/\s.Pairwise λa b=>aI a b=true
 | [],_=>⟨[],.refl _,.nil⟩
 | x::l,nd=>by
  rw [OX] at nd;obtain⟨s,h1,h2⟩:=Eg nd.2;exact⟨lA x s,(xc x s).trans (h1.cons x),Ef (λy hy e=>nd.1 (by rw [<-e];exact h1.mem_iff.mp hy)) h2⟩
theorem Eh{l:List (Int×Str)}(nd:l.Nodup):(g5 l).Perm l/\(g5 l).Pairwise λa b=>aI a b=true:=by
 obtain⟨s,h1,h2⟩:=Eg nd;rw [<-Dh h1 h2];exact⟨h1,h2⟩
def fA(nm wd:Str)(x:De):Bool:=fP nm x && (jf x).2==wd
theorem sM{xs:List De}(g:dz xs)(c:Pp)(wd:Str)(n:Int):(gI (aY xs c) wd n).Perm (((xs.filter (fA c.nm wd)).map λx=>x.d).filter λz=>decide (z<=n)):=by
 have e:((dZ xs c.nm).filter λz=>z.2==wd).map (·.1)=(xs.filter (fA c.nm wd)).map λx=>x.d:=by
  unfold dZ;rw [List.filter_map,NO,T5];have e1:xs.filter (λa=>((λz:Int×Str=>z.2==wd)∘ jf) a && fP c.nm a)=xs.filter (fA c.nm wd):=by
   congr 1;funext a;unfold fA;rw [U2];rfl
  rw [e1];refine Tw λx hx=>?_;cases x with
  | pap p=>rfl
  | oth w d nm r=>
   show(jf (De.oth w d nm r)).1=d;unfold jf;split
   ·rename_i h;cases h;rfl
   ·rfl
 have p:=(Eh (wM g c.nm)).1;have p2:=((p.filter λz=>z.2==wd).map (·.1)).filter λz=>decide (z<=n);rw [e] at p2;exact p2
theorem Ei{xs:List De}(g:dz xs)(c:Pp)(wd:Str)(n:Int):(gI (aY xs c) wd n).Pairwise (·<=·):=by
 unfold gI k8;refine Td O6 ?_;rw [Oj];refine Td O6 ((Eh (wM g c.nm)).2.imp λ{a b} h=>?_);unfold aI at h;simp only [PN,Oq,decide_eq_true_eq] at h;rcases h with h | h <;> omega
end
section
variable {P:VL} {w:VP} {K:Nh} {mg:Str->Option Vw} {base:VQ} {t:cA}
def Mz:List Vv->(Vv->Prop)->Prop:=λds Q=>∃(xs:List De)(c:Pp)(wo kd:Str)(si:cm)(k:Int)(u:Str)(n:Int),ds=[.tuple (xs.map De.enc),(Pt.five wo kd si k u).enc,.str c.nm,.int n,.int c.d]/\dz xs/\c∈aK xs/\si.Ok/\gZ u/\Q (bu (bH (aY xs c) n (.five wo kd si k u)))
theorem Ej{n:Nat}{ds:List Vv}(h:∀d∈ds,ck n d):ck (n+1) (.list ds):=by
 have:=cX h;exact⟨by have:=this.can;simpa [NW] using this,by have:=this.dep;simpa [PM] using this⟩
theorem MC(ns:List Int):ck 2 (.list (ns.map Nn)):=Ej λd hd=>by
 obtain⟨i,_,rfl⟩:=NC.mp hd;exact AW
theorem xf{Q:Vv->Prop}{k:Int}{u:Str}(hu:gZ u){ns:List Int}{j:Int}{ob:Option Int}(h:∀M M1:Int,M∈ns->(∀a∈ns,M<=a)->M1∈ns->(∀a∈ns,a<=M1)->∃b:Int,atI [Nn M,Nn M1] j=some (.int b)/\ob=some b/\0<=b)(h0:ns=[]->ob=none)(q:Q (bu (ob.map λb=>jg b k u))):
 Om (Od (ns.map Nn))=true/\Om (Od [])=true/\if (Od (ns.map Nn)).eqv (Od [])=true then Q Qx else ∃ns_1,ns.map Nn=NM Nn ns_1/\¬ns_1=[]/\∀(M:Int),M∈ns_1->(∀(a:Int),a∈ns_1->M<=a)->∃ns_2,ns.map Nn=NM Nn ns_2/\¬ns_2=[]/\∀(M_1:Int),M_1∈ns_2->(∀(a:Int),a∈ns_2->a<=M_1)->∃d,atI [Nn M,Nn M_1] j=some d/\xb [d,Nn k,Nl u] Q:=by
 refine⟨(MC ns).shp Vp,cp,?_⟩;cases ns with
 | nil=>
  rw [Vs (by simp [NJ,Qa])];rw [h0 rfl] at q;exact q
 | cons a l=>
  rw [Vr (by simp [NJ,Qa])];refine⟨a::l,rfl,Vu,λM h1 h2=>⟨a::l,rfl,Vu,λM1 h3 h4=>?_⟩⟩;obtain⟨b,e1,e2,e3⟩:=h M M1 h1 h2 h3 h4;rw [e2] at q;exact⟨_,e1,b,k,u,rfl,hu,e3,q⟩
theorem MD{Q:Vv->Prop}{k:Int}{u:Str}(hu:gZ u){ns:List Int}{ob:Option Int}(h:∀M1:Int,M1∈ns->(∀a∈ns,a<=M1)->ob=some M1/\0<=M1)(h0:ns=[]->ob=none)(q:Q (bu (ob.map λb=>jg b k u))):
 Om (Od (ns.map Nn))=true/\Om (Od [])=true/\if (Od (ns.map Nn)).eqv (Od [])=true then Q Qx else ∃ns_1,ns.map Nn=NM Nn ns_1/\¬ns_1=[]/\∀(M:Int),M∈ns_1->(∀(a:Int),a∈ns_1->M<=a)->∃ns_2,ns.map Nn=NM Nn ns_2/\¬ns_2=[]/\∀(M_1:Int),M_1∈ns_2->(∀(a:Int),a∈ns_2->a<=M_1)->xb [Nn M_1,Nn k,Nl u] Q:=by
 have z:=xf (j:=1) hu (λM M1 _ _ h3 h4=>⟨M1,dN,h M1 h3 h4⟩) h0 q;simpa only [dN,O5,exists_eq_left'] using z
theorem ME{l m:List Int}{M:Int}(up:l.Pairwise (·<=·))(p:l.Perm m)(h1:M∈m)(h2:∀a∈m,M<=a):l.head?=some M:=by
 cases l with
 | nil=>rw [<-p.nil_eq] at h1;cases h1
 | cons a l=>
  have ha:M<=a:=h2 a (p.mem_iff.mp Vu);have hm:M∈a::l:=p.mem_iff.mpr h1;rcases Ny.mp hm with e | e
  ·rw [e];rfl
  ·have:=(Og.mp up).1 M e;show some a=some M;rw [SK this ha]
theorem MF{l m:List Int}{M:Int}(up:l.Pairwise (·<=·))(p:l.Perm m)(h1:M∈m)(h2:∀a∈m,a<=M):l.getLast?=some M:=by
 rcases Tb l with e | ⟨l',a,e⟩
 ·subst e;rw [<-p.nil_eq] at h1;cases h1
 ·rw [Tc] at e;subst e;rw [Tq];have ha:a<=M:=h2 a (p.mem_iff.mp Vu);have hm:M∈l'++[a]:=p.mem_iff.mpr h1;rcases NQ.mp hm with e | e
  ·have:=(Pe.mp up).2.2 M e a Vu;rw [SK ha this]
  ·rw [NU.mp e]
theorem Ek{xs:List De}(g:dz xs){nm wd:Str}{n M:Int}(h:M∈((xs.filter (fA nm wd)).map λx=>x.d).filter λz=>decide (z<=n)):0<=M:=by
 obtain⟨x,hx,rfl⟩:=NC.mp (NR.mp h).1;exact(g.d0 x (NR.mp hx).1).1
theorem El{xs:List De}{c:Pp}{n k:Int}{a wd wo kd u:Str}{Q':List Vv->Prop}(g:dz xs)(hc:c∈aK xs)(hw:Nw wd=true)(q:Q' ((((xs.filter (fA c.nm wd)).map λx=>x.d).filter λz=>decide (z<=n)).map .int)):
 fu (jx 0)
 (ie (fE (dJ my (dJ iW (cj 0) (dC (Nn 0))) (dC (Nl (Ng "happens")))))
  (fE
   (dJ l6 (mw (cj 0) (l9 (dC (Nn 2))) l8)
    (lV (gR (cj 1) (gR (dJ iW (dJ iW (cj 2) (dC (Nn 2))) (dC (Nn 1))) jr))))))
 (dJ iW (cj 0) (dC (Nn 1)))
 [none,some (Sl.v (Nl c.nm)),some (Sl.v (ND [Nl wo,Nl kd,ND [Nl a,Nl wd],Nn k,Nl u]))]
 (NM De.enc xs) λds=>ds.length<=16777216/\
  fu (jx 0) (fE (dJ (dI λi j=>P1 (decide (i<=j))) (cj 0) (cj 1))) (cj 0) [none,some (Sl.v (Nn n))] ds Q':=by
 have ln:=g.gx.ln;refine C9 (fA c.nm wd) (λx=>.int x.d) (λx hx R S h1 h0=>?_) ⟨?_,?_⟩
 ·cases x with
  | pap p=>
   simp only [De.enc,Pp.enc];walk_at "d";exact h0 rfl
  | oth wo d nm r=>
   simp only [De.enc];walk_at "d";by_cases e:wo=Ng "happens"
   ·subst e;obtain⟨wd2,rfl,hw2⟩:=g.hp _ _ _ hx;have cok:=g.gx.gp.nm c hc;have nok:=g.gx.nm _ hx;have l2:∀a b:Str,Nw a=true->Nw b=true->Om (ND [Nl a,Nl b])=true:=λa b h1 h2=>(cX (n:=1) (aU (bL h1) (aU (bL h2) dY))).shp Vp;rw [Vs (beq_self_eq_true _)];refine⟨l2 _ _ nok hw2,l2 _ _ cok hw,?_⟩;have ee:(ND [Nl nm,Nl wd2]).eqv (ND [Nl c.nm,Nl wd])=(nm==c.nm && wd2==wd):=by simp [NJ,Qa,wQ]
    have eh:fA c.nm wd (De.oth (Ng "happens") d nm [.str wd2])=(nm==c.nm && wd2==wd):=by
     unfold fA fP jf;simp only [beq_self_eq_true,P9]
    rw [ee,<-eh];split
    ·rename_i h2;exact h1 h2
    ·rename_i h2;exact h0 (Bool.not_eq_true _▸h2)
   ·rw [bY e,Vr Nt];exact h0 (by unfold fA fP;simp only [bY e,RE])
 ·rw [Nj];have:=Oa (fA c.nm wd) xs;omega
 ·have em:(xs.filter (fA c.nm wd)).map (λx=>Nn x.d)=((xs.filter (fA c.nm wd)).map λx=>x.d).map Nn:=by rw [NO];rfl
  rw [em];refine cG (λz=>decide (z<=n)) (λz=>.int z) (λx hx R S h=>?_) q;walk_at "d";simpa using h
theorem Em(T:Txt K mg t):aH P w K mg base CX0 4 t.a_o t.d_o ["_law_deeds_here","_law_parts_here","_law_name","_law_day_here","_law_coming"] (aX K Mz):=by
 have G_g:=@Mw P w _ _ base _ T;refine T.F_o.F.okD sk (λds Q h=>?_) (λ_ _ _ _ H O ds Q E hr h=>?_)
 ·obtain⟨xs,c,wo,kd,si,k,u,n,rfl,_⟩:=h;rfl
 ·obtain⟨xs,c,wo,kd,si,k,u,n,rfl,g,hc,hsi,hu,q⟩:=h;refine'⟨_,?A,?B⟩
  case A=>
   refine' ar ?C ?D
   case C=>exact(bG (i:=5) sk.nd rfl Vt (fe (cN (aa (dv 4) ah))))
   case' D=>refine' ar ?E ?F
   case E=>
    refine' bj ?G ?H bh
    case G=>exact(aF (kh hr.units) ki (aq av az (aq av az (dv 1) ag) ag) aO (au _))
    case' H=>refine' ar ?I ?J
    case I=>exact(gC (i:=5) sk.nd rfl Vt (mK rfl Ed (df (dv 0)) aP cf Vp (λ_ _ _ _=>(aN (i:=0) Ed.nd rfl Vt)) (λ_ _ _ _=>(cU (PW.pt (cV (aF (cv hr) cw (aq av az (dv 0) ag) aO (au _)) (dM (aF (cn hr.units) cq (ui (df (dv 0)) (fb ag) iX) (bC (aa (dv 1) (aa (aq av az (aq av az (dv 2) ag) ag) ah))) (au _))))))) (λ_ _ _ _=>(aq av az (dv 0) ag))))
    case' J=>refine' ax ?K
    case K=>exact(gC (i:=5) sk.nd rfl Vt (kr rfl Ee (df (dv 5)) aP cf Vp (λ_ _ _ _=>(aN (i:=0) Ee.nd rfl Vt)) (λ_ _ _ _=>(cU (aF fX dX (dv 0) (dv 1) (au _)))) (λ_ _ _ _=>(dv 0))))
   case' F=>refine' ar ?L ?M
   case L=>
    refine' bj ?N ?O bh
    case N=>exact(aF (cn hr.units) cq (dv 5) (fe (cN ah)) (au _))
    case O=>refine' ax (aM eZ)
   case' M=>refine' ax ?P
   case' P=>generalize hG14:T6 _ _ _ _=eg14
   refine' aM ?Q
   case' Q=>subst hG14
   exact(aB G_g hr T.F_g (aa (aq bI bW (fe (cN (aa (PE.imp (bS (JT rfl) rfl T.n_min QF (bz (dv 5) bg)) (bN JU)) (aa (PE.imp (bS (Jg rfl) rfl T.n_max Rq (bz (dv 5) bg)) (bN Jh)) ah)))) (PE.imp (d6 nR rfl T.n_int lT (bz (eQ (cv hr) cw (df (aq av az (aq av az (dv 1) ag) ag)) (df aO) (au _)) bg)) (bN pC))) (aa (aq av az (dv 1) ag) (aa (aq av az (dv 1) ag) ah))))
  case B=>
  clear hr T G_g;have q:Q (bu ((nh (aY xs c) n si).map λb=>jg b k u)):=q;simp only [Pt.enc];cases si with
  | com=>
   simp only [cm.enc];walk_at "d";refine⟨cp,cp,xf hu (ns:=[c.d]) (ob:=some c.d) (λM M1 h1 _ h2 _=>?_) (λz=>by cases z) q⟩;rw [NU] at h1 h2;subst h1 h2;exact⟨c.d,by rw [Vr cp];exact d9,rfl,(g.d0 _ (sA.mp hc)).1⟩
  | fst wd=>
   simp only [cm.enc];walk_at "d";refine⟨cp,cp,?_⟩;rw [Vs cp];refine⟨by rw [Nj];have:=g.gx.ln;omega,El g hc hsi (xf hu (ob:=(gI (aY xs c) wd n).head?) (λM M1 h1 h2 _ _=>⟨M,?_,?_,?_⟩) (λz=>?_) q)⟩
   ·rw [Vr cp];exact d9
   ·exact ME (Ei g c wd n) (sM g c wd n) h1 h2
   ·exact Ek g h1
   ·have p:=sM g c wd n;rw [z] at p;rw [p.eq_nil];rfl
  | lst wd=>
   simp only [cm.enc];walk_at "d";refine⟨cp,cp,?_⟩;rw [Vs cp];refine⟨by rw [Nj];have:=g.gx.ln;omega,El g hc hsi (MD hu (ob:=(gI (aY xs c) wd n).getLast?) (λM1 h1 h2=>⟨?_,?_⟩) (λz=>?_) q)⟩
   ·exact MF (Ei g c wd n) (sM g c wd n) h1 h2
   ·exact Ek g h1
   ·have p:=sM g c wd n;rw [z] at p;rw [p.eq_nil];rfl
end
theorem En:bb (ay jH) ["_law_deeds_here","_law_rows","_law_web_here","_law_name","_law_some","_law_ahead"] ["_law_deed_here"] 1 [] ⟨Nx,[(Ni ".0",Xv),(Ni "_law_deed_here",Xv)],false,false,[]⟩:= .of
theorem Eo:bb (ay jH) ["_law_deeds_here","_law_rows","_law_web_here","_law_name","_law_some","_law_ahead"] ["_law_one","_law_rows"] 1 [1] ⟨Nx,[ (Ni ".0",Xv),(Ni "_law_one",Xv),(Ni "_law_rows",Nv)],false,false,[]⟩:= .of
theorem Ep:bb (ay jH) ["_law_deeds_here","_law_rows","_law_web_here","_law_name","_law_some","_law_ahead"] ["_law_one","_law_name","_law_rows"] 1 [3,1] ⟨Nx,[ (Ni ".0",Xv),(Ni "_law_one",Xv),(Ni "_law_name",Nv),(Ni "_law_rows",Nv)],false,false,[]⟩:= .of
theorem xh:bb (ay jH) ["_law_deeds_here","_law_rows","_law_web_here","_law_name","_law_some","_law_ahead"] ["_law_day_here","_law_one"] 2 [] ⟨Nx,[ (Ni ".0",Xv),(Ni "_law_day_here",Xv),(Ni "_law_one",Xv)],false,false,[]⟩:= .of
theorem kw_keep_gone:(Ng "keep"==Ng "gone")=false:=cp
theorem kw_keep_while:(Ng "keep"==Ng "while")=false:=cp
theorem kw_keep_follow:(Ng "keep"==Ng "follow")=false:=cp
theorem kw_keep_leave:(Ng "keep"==Ng "leave")=false:=cp
theorem kw_gone_keep:(Ng "gone"==Ng "keep")=false:=cp
theorem kw_gone_while:(Ng "gone"==Ng "while")=false:=cp
theorem kw_gone_follow:(Ng "gone"==Ng "follow")=false:=cp
theorem kw_gone_leave:(Ng "gone"==Ng "leave")=false:=cp
theorem kw_while_keep:(Ng "while"==Ng "keep")=false:=cp
theorem kw_while_gone:(Ng "while"==Ng "gone")=false:=cp
theorem kw_while_follow:(Ng "while"==Ng "follow")=false:=cp
theorem kw_follow_keep:(Ng "follow"==Ng "keep")=false:=cp
theorem kw_follow_gone:(Ng "follow"==Ng "gone")=false:=cp
theorem kw_follow_while:(Ng "follow"==Ng "while")=false:=cp
theorem kw_leave_keep:(Ng "leave"==Ng "keep")=false:=cp
theorem kw_leave_gone:(Ng "leave"==Ng "gone")=false:=cp
theorem kw_leave_while:(Ng "leave"==Ng "while")=false:=cp
theorem kw_leave_follow:(Ng "leave"==Ng "follow")=false:=cp
def W5(w:Str):Prop:=w=Ng "keep"\/w=Ng "gone"\/w=Ng "while"\/w=Ng "follow"\/w=Ng "leave"
def R5(xs:List De):Prop:=∀d nm(pt:Pt),De.oth (Ng "rule") d nm [pt.enc]∈xs->W5 pt.wd
section
variable {P:VL} {w:VP} {K:Nh} {mg:Str->Option Vw} {base:VQ} {t:cA}
def jN(ps:List Pp)(p:Pp):Vv:= .tuple [.int p.d,.str p.kd,.list (((cR ps p).map (·.nm)).map .str)]
def xi(ps:List Pp):Vv:=fJ (ps.map (·.nm)) (ps.map (jN ps))
def MG:List Vv->(Vv->Prop)->Prop:=λds Q=>∃xs:List De,ds=[.tuple (xs.map De.enc)]/\iI xs/\Q (xi (aK xs))
theorem xj(f:De->Vv):∀xs:List De,(xs.filter (eV λ_=>true)).map f=(aK xs).map λp=>f (.pap p)
 | []=>rfl
 | .pap p::xs=>by
  rw [Ow,Vs (show eV (λ_=>true) (De.pap p)=true from rfl),Nq,xj f xs];rfl
 | .oth w d nm r::xs=>by
  rw [Ow,Vr (by simp [eV])];exact xj f xs
theorem Er{kd:List (ai×Vv)}{k:ai}{d:Vv}(h:k ∉ kd.map (·.1)):eD kd k d=kd++[(k,d)]:=by
 unfold eD;rw [Vr];rw [QJ];rintro⟨p,hp,e⟩;exact h (NC.mpr ⟨p,hp,of_decide_eq_true e⟩)
theorem Es:∀(kd acc:List (ai×Vv)),((acc++kd).map (·.1)).Nodup->kd.foldl (λa p=>eD a p.1 p.2) acc=acc++kd
 | [],acc,_=>by simp
 | p::kd,acc,nd=>by
  have e:acc++p::kd=(acc++[p])++kd:=Vu
  rw [O7,Er,Es kd (acc++[(p.1,p.2)]),e]
  ·rw [<-e];exact nd
  ·intro h;rw [N8,R8] at nd;exact nd.2.2 p.1 h p.1 Vu rfl
theorem MJ{ss:List Str}(h:ss.Nodup):(ss.map (OC:Str->ai)).Nodup:=by
 rw [QM,Oj];exact h.imp λz e=>z (Uo e)
theorem ny{f:Pp->Vv}:∀{ps:List Pp}{p:Pp},(ps.map (·.nm)).Nodup->p∈ps->bX (ps.map (·.nm)) (ps.map f) p.nm=some (f p)
 | x::ps,p,nd,h=>by
  rw [Nq,Nq];unfold bX;rw [Nq,OX] at nd;rcases Ny.mp h with e | e
  ·rw [e,Vs rfl]
  ·rw [Vr (λz=>nd.1 (by rw [z];exact NC.mpr ⟨p,e,rfl⟩))];exact ny nd.2 e
theorem Et{f:Pp->Vv}:∀{ps:List Pp}{z:Str},z ∉ ps.map (·.nm)->bX (ps.map (·.nm)) (ps.map f) z=none
 | [],z,_=>rfl
 | x::ps,z,h=>by
  rw [Nq,Nq];unfold bX;rw [Nq,Ny,not_or] at h;rw [Vr (λe=>h.1 e.symm)];exact Et h.2
def sN(ps:List Pp)(z:Str):Int:=((ps.find? λp=>decide (p.nm=z)).map (·.d)).getD 0
theorem xk{ps:List Pp}(nd:(ps.map (·.nm)).Nodup){p:Pp}(h:p∈ps):sN ps p.nm=p.d:=by
 unfold sN;cases hf:ps.find? (λq=>decide (q.nm=p.nm)) with
 | none=>exact absurd (TX.mp hf p h) Vu
 | some q=>
  have e:q.nm=p.nm:=by simpa using UI hf
  rw [C3 nd (QX hf) h e];rfl
def iJ(ps:List Pp)(c:Pp):List (Int×Str):=(c.ms.filter λz=>decide (z∈ps.map (·.nm))).map λz=>(sN ps z,z)
theorem Eu{ps:List Pp}{c:Pp}(h:c.ms.Nodup):(iJ ps c).Nodup:=by
 unfold iJ;rw [QM,Oj];exact(h.sublist O6).imp λz e=>z (congrArg U9 e)
theorem B0{ps:List Pp}(nd:(ps.map (·.nm)).Nodup){c:Pp}{hs:List (Int×Str)}(h1:hs.Perm (iJ ps c))(h2:hs.Pairwise λa b=>aI a b=true)(nz:(iJ ps c).Nodup):hs.filter (λz=>aI z c.key)=(cR ps c).map Pp.key:=by
 have p1:(hs.filter λz=>aI z c.key).Pairwise λa b=>aI a b=true:=h2.sublist O6;have p2:((cR ps c).map Pp.key).Pairwise λa b=>aI a b=true:=by
  rw [Oj];unfold cR;exact(mZ nd).sublist O6
 have n1:(hs.filter λz=>aI z c.key).Nodup:=(h1.nodup_iff.mpr nz).sublist O6;have n2:((cR ps c).map Pp.key).Nodup:=p2.imp λ{a b} h e=>by rw [e,CZ] at h;cases h
 refine kY (λa b h=>sr h) ((RX n1 n2).mpr λz=>?_) p1 p2;rw [NR,h1.mem_iff,NC];unfold iJ cR;constructor
 ·rintro⟨hz,hl⟩;obtain⟨y,hy,rfl⟩:=NC.mp hz;obtain⟨hy1,hy2⟩:=NR.mp hy;obtain⟨m,hm,rfl⟩:=NC.mp (of_decide_eq_true hy2);rw [xk nd hm] at hl⊢;refine⟨m,NR.mpr ⟨su.mpr hm,?_⟩,rfl⟩;unfold nc;rw [Te.mpr hy1,P9];exact hl
 ·rintro⟨m,hm,rfl⟩;obtain⟨hm1,hm2⟩:=NR.mp hm;unfold nc at hm2;rw [Oq] at hm2;have hm1:=su.mp hm1;refine⟨NC.mpr ⟨m.nm,NR.mpr ⟨Te.mp hm2.1,decide_eq_true (NC.mpr ⟨m,hm1,rfl⟩)⟩,?_⟩,hm2.2⟩;rw [xk nd hm1];rfl
theorem iI.nd{xs:List De}(h:iI xs){p:Pp}(hp:p∈aK xs):p.ms.Nodup:=((h.1 _ (sA.mp hp)).pp p rfl).2.2.2
theorem xm(T:Txt K mg t):aH P w K mg base CX0 1 t.a_m t.d_m ["_law_deeds_here"] (aX K MG):=by
 refine T.F_m.F.okD kX (λds Q h=>?_) (λ_ _ _ _ H O ds Q E hr h=>?_)
 ·obtain⟨xs,rfl,_⟩:=h;rfl
 ·obtain⟨xs,rfl,gl,q⟩:=h;refine'⟨_,?A,?B⟩
  case A=>
   refine' ar ?C ?D
   case C=>exact(mE (i:=1) kX.nd rfl Vt (Kb rfl rfl T.n_dict (bz (fe (l5 rfl En (df (dv 0)) aP cf Vp (λ_ _ _ _=>(aN (i:=0) En.nd rfl Vt)) (λ_ _ _ _=>(cU (aF (cv hr) cw (aq av az (dv 0) ag) aO (au _)))) (λ_ _ _ _=>(bC (aa (aq av az (dv 0) ag) (aa (dv 0) ah)))))) bg)))
   case' D=>refine' ar ?E ?F
   case E=>exact(mE (i:=2) kX.nd rfl Vt uY)
   case' F=>refine' ar ?G ?H
   case G=>
    refine' BI 1 ?I
    case' I=>refine' B8 Ov rfl (dv 1) ?J aP ?K
    case J=>exact(aN (i:=3) kX.nd rfl Vt)
    case' K=>refine' ar ?L ?M
    case L=>
     refine' bG (i:=4) kX.nd rfl Vt ?N (hs:=ix)
     case N=>exact(fe (BD rfl T.n_sorted OG (bz (fe (l5 rfl Eo (df (aq av az (iy hr.units (dv 1) (dv 3) (λ_ _=>rfl)) ag)) aP cf Vp (λ_ _ _ _=>(aN (i:=0) Eo.nd rfl Vt)) (λ_ _ _ _=>(cU (B6 hr.units (dv 1) (dv 0)))) (λ_ _ _ _=>(bC (aa (aq av az (iy hr.units (dv 1) (dv 0) (λ_ _=>rfl)) ag) (aa (dv 0) ah)))))) bg)))
    case' M=>refine' ar ?O ?P
    case O=>exact(gC (i:=5) kX.nd rfl Vt (kr rfl Ep (df (dv 4)) aP cf Vp (λ_ _ _ _=>(aN (i:=0) Ep.nd rfl Vt)) (λ_ _ _ _=>(cU (aF (BF hr.units0) BG (dv 0) (bC (aa (aq av az (iy hr.units (dv 2) (dv 1) (λ_ _=>rfl)) ag) (aa (dv 1) ah))) (au _)))) (λ_ _ _ _=>(dv 0))))
    case' P=>refine' ax ?Q
    case Q=>exact(uZ (i:=2) hr.units (pv 2) (dv 3) (bC (aa (aq av az (iy hr.units (dv 1) (dv 3) (λ_ _=>rfl)) ag) (aa (aq av az (iy hr.units (dv 1) (dv 3) (λ_ _=>rfl)) ag) (aa (fe (fG rfl xh (df (dv 5)) (jA (d7 aP (d7 aP jz))) BJ Vp (λ_ _ _ _=>(iN (n:=2) rfl (dG (aN (i:=0) xh.nd rfl Vt) (dG (aN (i:=1) xh.nd rfl Vt) iM)))) (λ_ _ _ _=>gz) (λ_ _ _ _=>(dv 1)))) ah)))))
   case' H=>refine' ax ?R
   case' R=>refine' BI 2 ?S
   case S=>exact(aM (dv 2))
  case B=>
  clear hr T;walk_at "d";have g:=gl.good;have ln:=g.gx.ln;have gp:=g.gx.gp;refine⟨by rw [Nj];omega,cG (eV λ_=>true) (λx=>.tuple [.str x.nm,x.enc]) (λx hx R S h=>?_) ?_⟩
  ·cases x with
   | pap p=>
    simp only [De.enc,Pp.enc] at h⊢;walk_at "d";exact h
   | oth wo d nm l=>
    simp only [De.enc] at h⊢;walk_at "d";rw [bY (g.gx.np _ _ _ _ hx),Vr Nt];rw [Vr (by simp [eV])] at h;exact h
  ·rw [xj];have mnd:∀p∈aK xs,p.ms.Nodup:=λp hp=>gl.nd hp;generalize aK xs=ps at gp q mnd⊢;have kn:((ps.map λp:Pp=>((OC p.nm:ai),p.enc)).map (·.1)).Nodup:=by
    rw [NO];have:=MJ gp.nd;rw [NO] at this;exact this
   have ef:=Es (ps.map λp:Pp=>((OC p.nm:ai),p.enc)) [] (by rw [O8];exact kn);rw [O8] at ef;refine⟨ps.map λp=>(.inr p.nm,p.enc),by rw [NO];rfl,ps.map (·.nm),by rw [ef,NO,NO];rfl,ps.map (·.nm),⟨_,rfl⟩,?_⟩;rw [ef];have ed:NM (λx=>x.snd) (ps.map λp:Pp=>((OC p.nm:ai),p.enc))=ps.map Pp.enc:=by rw [NO];rfl
   rw [ed];refine⟨λi δ=>∃o3 o4 o5,δ=[some (Sl.v (ND (NM De.enc xs))),some (Sl.v (fJ (ps.map (·.nm)) (ps.map Pp.enc))),some (Sl.k ((ps.take i).map λp=>(.inr p.nm,jN ps p))),o3,o4,o5],⟨_,_,_,rfl⟩,?_,?_⟩
   ·rintro i z δ hz ⟨o3,o4,o5,rfl⟩;rw [NK,NK] at hz;cases hz':ps[i]? with
    | none=>rw [hz'] at hz;cases hz
    | some p=>
     rw [hz'] at hz;cases hz;have hp:=NT hz';have ap:=ny (f:=Pp.enc) gp.nd hp;walk_at "d";have ml:=(gp.ms p hp).2;refine⟨_,_,rfl,_,ap,_,rfl,_,pF,_,rfl,by rw [Nj];omega,cG (λz=>decide (z∈ps.map (·.nm))) (λz=>cg (sN ps z,z)) (λz hz R S h=>?_) ?_⟩
     ·walk_at "d";refine⟨_,_,rfl,?_⟩;by_cases hm:z∈ps.map (·.nm)
      ·rw [Vs (decide_eq_true hm)] at h;obtain⟨m,hm1,rfl⟩:=NC.mp hm;have am:=ny (f:=Pp.enc) gp.nd hm1;rw [am,Vs (by rfl)];rw [xk gp.nd hm1] at h;exact⟨_,_,rfl,_,am,_,rfl,_,dN,h⟩
      ·rw [Vr (by simpa using hm)] at h;rw [Et hm,Vr Vu];exact h
     ·refine⟨iJ ps p,by unfold iJ;rw [NO];rfl,?_,Eu (mnd p hp),λhs h1 h2=>?_⟩
      ·unfold iJ;rw [Nj];have:=Oa (λz=>decide (z∈ps.map (·.nm))) p.ms;omega
      ·have hl:hs.length<=50:=by
        rw [h1.length_eq];unfold iJ;rw [Nj];have:=Oa (λz=>decide (z∈ps.map (·.nm))) p.ms;omega
       refine⟨by rw [Nj];omega,cG (λz=>aI z p.key) cg (λz hz R S h=>?_) ?_⟩
       ·walk_at "d";refine⟨_,_,rfl,_,ap,_,rfl,_,dN,z,rfl,p.key,rfl,h⟩
       ·rw [B0 gp.nd h1 h2 (Eu (mnd p hp))];refine⟨_,_,rfl,_,ap,_,rfl,_,dN,_,_,rfl,_,ap,_,rfl,_,iY,?_⟩;have mkl:=sC (c:=p) gp;have pl:=gp.ln;refine⟨by rw [Nj,Nj];omega,cG (λ_=>true) (λz:Int×Str=>.str z.2) (λz hz R S h=>?_) ?_⟩
        ·simp only [cg];walk_at "d";rw [Vs rfl] at h;exact h
        ·rw [k7,NO];refine⟨by rw [Nj,NS];omega,?_,_,rfl⟩;have tk:ps.take (i+1)=ps.take i++[p]:=by rw [Ox,hz'];rfl
         rw [tk,N8,Er]
         ·congr 2;show(_,_)=(_,_);unfold jN;rw [NO];rfl
         ·rw [NO];intro hin;obtain⟨m,hm,e⟩:=NC.mp hin;have e:m.nm=p.nm:=Uo e;have nd:=gp.nd;obtain⟨li,ei⟩:=Nz.mp hz';rw [QM,Oj] at nd;obtain⟨j,hj,ej⟩:=OS hm;rw [NS] at hj;rw [QC] at ej;have:=OF.mp nd j i Vq li Vq;rw [ej,ei] at this;exact this e
   ·rintro δ ⟨o3,o4,o5,rfl⟩;walk_at "d";refine⟨ps.map (·.nm),?_,?_⟩
    ·rw [Nj,Nj,NI (Np _),NO,NO];rfl
    ·rw [Nj,Nj,NI (Np _),NO];exact q
end
local macro_rules | `(tactic| walk_at "g") =>rzT (rzS++" K15.kw_keep_gone K15.kw_keep_while K15.kw_keep_follow K15.kw_keep_leave K15.kw_gone_keep K15.kw_gone_while K15.kw_gone_follow K15.kw_gone_leave K15.kw_while_keep K15.kw_while_gone K15.kw_while_follow K15.kw_follow_keep K15.kw_follow_gone K15.kw_follow_while K15.kw_leave_keep K15.kw_leave_gone K15.kw_leave_while K15.kw_leave_follow")
theorem Ew:bb (ay mY) ["_law_deeds_here","_law_day_here","_law_name","_law_gone","_law_coming","_law_kind","_law_elders","_law_away","_law_here","_law_stay","_law_leave","_law_deed_here","_law_word","_law_till"] ["_law_one","_law_gone","_law_day_here"] 1 [3,1] ⟨Nx,[ (Ni ".0",Xv),(Ni "_law_one",Xv),(Ni "_law_day_here",Nv),(Ni "_law_gone",Nv)],false,false,[]⟩:= .of
theorem Ey:bb (ay mY) ["_law_deeds_here","_law_day_here","_law_name","_law_gone","_law_coming","_law_kind","_law_elders","_law_away","_law_here","_law_stay","_law_leave","_law_deed_here","_law_word","_law_till"] ["_law_one","_law_away"] 1 [7] ⟨Nx,[ (Ni ".0",Xv),(Ni "_law_one",Xv),(Ni "_law_away",Nv)],false,false,[]⟩:= .of
theorem cC{a b c:DS}{E:dW}{δ:Dl}(h:∀R,R=fF b c->a {E with nx:=λδ'=>R E δ'} δ):fF a (fF b c) E δ:=h _ rfl
theorem iK{a b:DS}{E:dW}{δ:Dl}(h:∀R,R=b->a {E with nx:=λδ'=>R E δ'} δ):fF a b E δ:=h _ rfl
section
theorem Ez{r:Rp}{n:Int}(L M:List (Str×Pt)):cB r n (L++M)=cB r n L++cB r n M:=by
 unfold cB;split
 ·rfl
 ·rw [RK]
theorem MK{r:Rp}{n:Int}{g:Gn}(L M:List (Str×Pt)):dR r n g (L++M)=dR r n g L++dR r n g M:=by unfold dR;rw [Ez,QR]
theorem ML{r:Rp}{n:Int}{g:Gn}(L M:List (Str×Pt)):dU r n g (L++M)=dU r n g L++dU r n g M:=by unfold dU;rw [Ez,QR]
theorem EA{r:Rp}{n:Int}{z:Str×Pt}(h:r.c.d<=n)(hk:z.2.kd=r.c.kd):cB r n [z]=[z]:=by
 unfold cB;rw [Vr Vq,Ow,Vs (by rw [hk];exact beq_self_eq_true _)];rfl
theorem EB{r:Rp}{n:Int}{z:Str×Pt}(h:¬(r.c.d<=n/\z.2.kd=r.c.kd)):cB r n [z]=[]:=by
 unfold cB;split
 ·rfl
 ·rename_i h1;rw [Ow,Vr (λe=>h ⟨Vq,eq_of_beq e⟩)];rfl
theorem xp{r:Rp}{n:Int}{g:Gn}{nm w kd:Str}:(iF r n g (nm,.two w kd)).map aV=if w=Ng "while" then((dD r n g).head?.map λm=>ND [.str nm,.str m]).toList else []:=by
 show(((if w=Ng "while" then(dD r n g).head?.map Nl else none:Option Vv).map λb=>(nm,b)).toList).map aV=_;split
 ·cases (dD r n g).head? <;> rfl
 ·rfl
theorem xt{r:Rp}{n:Int}{g:Gn}{nm w kd:Str}:(iG r n g (nm,.two w kd)).map aV=if w=Ng "follow" then((dE r n g).head?.map λm=>ND [.str nm,.str m]).toList else []:=by
 show(((if w=Ng "follow" then(dE r n g).head?.map Nl else none:Option Vv).map λb=>(nm,b)).toList).map aV=_;split
 ·cases (dE r n g).head? <;> rfl
 ·rfl
theorem EC{r:Rp}{n:Int}{g:Gn}{nm w kd:Str}{s:cm}{k:Int}{u:Str}:(iF r n g (nm,.five w kd s k u)).map aV=if w=Ng "keep"/\cS n (bH r n (.five w kd s k u))=true then [ND [.str nm,bu (bH r n (.five w kd s k u))]] else []:=by
 show(((if w=Ng "keep"/\cS n (bH r n (.five w kd s k u))=true then some (bu (bH r n (.five w kd s k u))) else none:Option Vv).map λb=>(nm,b)).toList).map aV=_;split <;> rfl
theorem ED{r:Rp}{n:Int}{g:Gn}{nm w kd:Str}{s:cm}{k:Int}{u:Str}:(iG r n g (nm,.five w kd s k u)).map aV=if w=Ng "gone"/\cS n (bH r n (.five w kd s k u))=false then [ND [.str nm,bu (bH r n (.five w kd s k u))]] else []:=by
 show(((if w=Ng "gone"/\cS n (bH r n (.five w kd s k u))=false then some (bu (bH r n (.five w kd s k u))) else none:Option Vv).map λb=>(nm,b)).toList).map aV=_;split <;> rfl
theorem MM{r:Rp}{n:Int}{g:Gn}{nm kd:Str}{s:cm}{k:Int}{u:Str}:(iF r n g (nm,.five (Ng "keep") kd s k u)).map aV=if cS n (bH r n (.five (Ng "keep") kd s k u))=true then [ND [.str nm,bu (bH r n (.five (Ng "keep") kd s k u))]] else []:=by
 rw [EC];by_cases h:cS n (bH r n (.five (Ng "keep") kd s k u))=true
 ·rw [Vs ⟨rfl,h⟩,Vs h]
 ·rw [Vr λz=>h z.2,Vr h]
theorem MN{r:Rp}{n:Int}{g:Gn}{nm kd:Str}{s:cm}{k:Int}{u:Str}:(iG r n g (nm,.five (Ng "keep") kd s k u)).map aV=[]:=by
 rw [ED,Vr λz=>absurd z.1 cp]
theorem MO{r:Rp}{n:Int}{g:Gn}{nm kd:Str}{s:cm}{k:Int}{u:Str}:(iF r n g (nm,.five (Ng "gone") kd s k u)).map aV=[]:=by
 rw [EC,Vr λz=>absurd z.1 cp]
theorem MP{r:Rp}{n:Int}{g:Gn}{nm kd:Str}{s:cm}{k:Int}{u:Str}:(iG r n g (nm,.five (Ng "gone") kd s k u)).map aV=if cS n (bH r n (.five (Ng "gone") kd s k u))=false then [ND [.str nm,bu (bH r n (.five (Ng "gone") kd s k u))]] else []:=by
 rw [ED];by_cases h:cS n (bH r n (.five (Ng "gone") kd s k u))=false
 ·rw [Vs ⟨rfl,h⟩,Vs h]
 ·rw [Vr λz=>h z.2,Vr h]
theorem EF{l:List Str}(hl:∀m∈l,Nw m=true){A:List Vv}{nm:Str}(ha:A.length<=41){C:List Vv->Prop}(q:C (A++(l.head?.map λm=>ND [.str nm,.str m]).toList)):
 Om (Od (l.map λm=>Nl m))=true/\Om (Od [])=true/\if (Od (l.map λm=>Nl m)).eqv (Od [])=false then ∃x,atI (l.map λm=>Nl m) 0=some x/\A.length < 16777216/\C (A++[ND [Nl nm,x]]) else C A:=by
 refine⟨(Ej (n:=1) λd hd=>by obtain⟨m,hm,rfl⟩:=NC.mp hd;exact bL (hl m hm)).shp Vp,cp,?_⟩;cases l with
 | nil=>
  rw [Vr (by simp [NJ,Qa])];simpa using q
 | cons m l=>
  rw [Vs (by simp [NJ,Qa])];exact⟨_,d9,Vq,q⟩
theorem EG{r:Rp}{n:Int}{g:Gn}(L:List (Str×Pt)):(dR r n g L).length<=L.length:=by
 unfold dR;refine NP (sG (λz=>wO _) _) ?_;unfold cB;split
 ·simp
 ·exact Oa _ _
theorem EH{r:Rp}{n:Int}{g:Gn}(L:List (Str×Pt)):(dU r n g L).length<=L.length:=by
 unfold dU;refine NP (sG (λz=>wO _) _) ?_;unfold cB;split
 ·simp
 ·exact Oa _ _
end
section
variable {P:VL} {w:VP} {K:Nh} {mg:Str->Option Vw} {base:VQ} {t:cA}
def sO(xs:List De)(n:Int)(c:Pp)(g:Gn)(S G:List Vv)(o11 o12 o13:Option Sl):Dl:=[some (Sl.v (ND (NM De.enc xs))),some (Sl.v (Nn n)),some (Sl.v (Nl c.nm)),some (Sl.v g.enc),some (Sl.v (Nn c.d)),some (Sl.v (Nl c.kd)),some (Sl.v (Od (NM Nl (NM (λx=>x.nm) (cR (aK xs) c))))),some (Sl.v (Od ((dE (aY xs c) n g).map λm=>Nl m))),some (Sl.v (Od ((dD (aY xs c) n g).map λm=>Nl m))),some (Sl.o S),some (Sl.o G),o11,o12,o13]
def MQ:List Vv->(Vv->Prop)->Prop:=λds Q=>∃(xs:List De)(n:Int)(c:Pp)(g:Gn),ds=[.tuple (xs.map De.enc),.int n,.str c.nm,g.enc]/\iI xs/\R5 xs/\c∈aK xs/\Q (.tuple [.tuple ((sH xs n c g).map aV),.tuple ((sI xs n c g).map aV)])
theorem MR(T:Txt K mg t):aH P w K mg base CX0 5 t.a_p t.d_p ["_law_deeds_here","_law_day_here","_law_name","_law_gone"] (aX K MQ):=by
 have G_m:=@xm P w _ _ base _ T;have G_n:=@My P w _ _ base _ T;have G_o:=@Em P w _ _ base _ T;refine T.F_p.F.okD gY (λds Q h=>?_) (λ_ _ _ _ H O ds Q E hr h=>?_)
 ·obtain⟨xs,n,c,g,rfl,_⟩:=h;rfl
 ·obtain⟨xs,n,c,g,rfl,gl,r5,hc,q⟩:=h;refine'⟨_,?A,?B⟩
  case A=>
   refine' ar ?C ?D
   case C=>exact(tU (iy hr.units (aB G_m hr T.F_m (aa (dv 0) ah)) (dv 2) (λ_ _=>rfl)) (iN (n:=3) rfl (dG (aN (i:=4) gY.nd rfl Vt) (dG (aN (i:=5) gY.nd rfl Vt) (dG (aN (i:=6) gY.nd rfl Vt) iM)))) (jA (d7 aP (d7 aP (d7 aP jz)))))
   case' D=>refine' ar ?E ?F
   case E=>exact(bG (i:=7) gY.nd rfl Vt (fe (fG rfl Ew (df (dv 6)) aP cf Vp (λ_ _ _ _=>(aN (i:=0) Ew.nd rfl Vt)) (λ_ _ _ _=>(cU (PW.pt (cV (B6 hr.units (dv 1) (dv 0)) (dM (aF fX dX (iy hr.units (dv 1) (dv 0) (λ_ _=>rfl)) (dv 2) (au _))))))) (λ_ _ _ _=>(dv 0)))))
   case' F=>refine' ar ?G ?H
   case G=>exact(gC (i:=8) gY.nd rfl Vt (kr rfl Ey (df (dv 6)) aP cf Vp (λ_ _ _ _=>(aN (i:=0) Ey.nd rfl Vt)) (λ_ _ _ _=>(cU (aF (AY hr) mv (dv 0) (dv 1) rfl))) (λ_ _ _ _=>(dv 0))))
   case' H=>refine' ar ?I ?J
   case I=>exact(Ki (i:=9) (j:=10) rfl gY.nd rfl rfl Vp rfl rfl (by rfl))
   case' J=>refine' ar ?K ?L
   case K=>
    refine' oP Ov rfl (aB G_n hr T.F_n (aa (dv 0) (aa (dv 1) (aa aO (aa aO ah))))) ?M aP ?N
    case M=>exact(aN (i:=11) gY.nd rfl Vt)
    case' N=>refine' ax ?O
    case' O=>refine' bj ?P ?Q bh
    case P=>exact(PW.pt (cV (aF fX dX (dv 4) (dv 1) (au _)) (dM (aF (cn hr.units) cq (aq av az (aq av az (dv 11) ag) ag) (dv 5) (au _)))))
    case' Q=>refine' ar ?R ?S
    case R=>exact(j9 (i:=12) (j:=13) rfl gY.nd rfl rfl Vp rfl rfl (aa (aq av az (aq av az (dv 11) ag) ag) (aa eZ ah)) (by rfl))
    case' S=>refine' ar ?T ?U
    case T=>
     refine' bj ?V ?W bh
     case V=>exact(aF (pT hr) pV (dv 12) (bC (aa aO (aa aO ah))) rfl)
     case' W=>refine' ax ?X
     case' X=>refine' bG (i:=13) gY.nd rfl Vt ?Y (hs:=ix)
     case Y=>exact(aB G_o hr T.F_o (aa (dv 0) (aa (aq av az (dv 11) ag) (aa (dv 2) (aa (dv 1) (aa (dv 4) ah))))))
    case' U=>refine' ar ?Z ?a
    case Z=>
     refine' bj ?b ?c bh
     case b=>exact(PW.pt (cV (aF (cv hr) cw (dv 12) aO (au _)) (dM (PW.pt (jt (aF jV kA (dv 13) eZ (au _)) (js (aF lN dX (dv 13) (dv 1) (au _))))))))
     case' c=>refine' ax ?d
     case' d=>refine' ij (i:=9) (pv 9) ?e
     case e=>exact(bC (aa (aq av az (dv 11) ag) (aa (dv 13) ah)))
    case' a=>refine' ar ?f ?g
    case f=>
     refine' bj ?h ?i bh
     case h=>exact(PW.pt (cV (aF (cv hr) cw (dv 12) aO (au _)) (cV (aF nO qh (dv 13) eZ (au _)) (dM (aF fX dX (dv 13) (dv 1) (au _))))))
     case' i=>refine' ax ?j
     case' j=>refine' ij (i:=10) (pv 10) ?k
     case k=>exact(bC (aa (aq av az (dv 11) ag) (aa (dv 13) ah)))
    case' g=>refine' ar ?l ?m
    case l=>
     refine' bj ?n ?o bh
     case n=>exact(PW.pt (cV (aF (cv hr) cw (dv 12) aO (au _)) (dM (aF (kh hr.units) ki (dv 8) (fe (cN ah)) (au _)))))
     case' o=>refine' ax ?p
     case' p=>refine' ij (i:=9) (pv 9) ?q
     case' q=>refine' bC ?r
     case' r=>refine' aa ?s ?t
     case s=>exact(aq av az (dv 11) ag)
     case' t=>refine' aa ?u ah
     case u=>exact(aq bI bW (dv 8) ag)
    case' m=>refine' ax ?v
    case' v=>refine' bj ?w ?x bh
    case w=>exact(PW.pt (cV (aF (cv hr) cw (dv 12) aO (au _)) (dM (aF (kh hr.units) ki (dv 7) (fe (cN ah)) (au _)))))
    case' x=>refine' ax ?y
    case' y=>refine' ij (i:=10) (pv 10) ?z
    case' z=>refine' bC ?A0
    case' A0=>refine' aa ?A1 ?A2
    case A1=>exact(aq av az (dv 11) ag)
    case' A2=>refine' aa ?A3 ah
    case A3=>exact(aq bI bW (dv 7) ag)
   case' L=>refine' ax ?A4
   case' A4=>refine' aM ?A5
   case' A5=>refine' bC ?A6
   case' A6=>refine' aa ?A7 ?A8
   case A7=>exact(PE.imp (d6 hX rfl T.n_tuple gc (ig (dw 9) bg)) (bN iq))
   case' A8=>refine' aa ?A9 ah
   case A9=>exact(PE.imp (d6 hX rfl T.n_tuple gc (ig (dw 10) bg)) (bN iq))
  case B=>
  clear hr T G_m G_n G_o;have gd:=gl.good;walk_at "d";have aw:=ny (f:=jN (aK xs)) gd.gx.gp.nd hc;refine⟨xs,rfl,gl,_,_,rfl,_,aw,_,rfl,rfl,_,_,rfl,_,_,rfl,_,_,rfl,rfl,?_⟩;have mkl:=sC (c:=c) gd.gx.gp;have tok:∀m∈(cR (aK xs) c).map (·.nm),Nw m=true:=λm hm=>by
   obtain⟨p,hp,rfl⟩:=NC.mp hm;exact gd.gx.gp.nm p (su.mp (NR.mp hp).1)
  have lm:(NM Nl (NM (λx=>x.nm) (cR (aK xs) c))).length<=16777216:=by rw [Nj,Nj];omega
  refine⟨_,rfl,lm,cG (λm=>g.has n m) (λm=>.str m) (λm hm R S h=>?_) ?_⟩
  ·simp only [Gn.enc];walk_at "d";refine⟨_,_,rfl,?_⟩;rw [sF];have eh:g.has n m=match jL g.ks g.gs m with | some d=>decide (d<=n) | none=>false:=rfl
   rw [eh] at h;cases ha:jL g.ks g.gs m with
   | none=>
    rw [ha] at h;rw [Vr Vu];rw [Vr Vu] at h;exact h
   | some d=>
    rw [ha] at h;rw [Vs (by rfl)];refine⟨_,_,rfl,.int d,by rw [sF,ha];rfl,_,rfl,?_⟩;simpa using h
  ·refine⟨_,rfl,lm,cG (λm=>!g.has n m) (λm=>.str m) (λm hm R S h=>?_) ?_⟩
   ·walk_at "d";have e1:((NM (λm=>Nl m) (SV (λm=>g.has n m) (NM (λx=>x.nm) (cR (aK xs) c)))).any λd=>d.eqv (Nl m))=g.has n m:=by
     rw [show(λm=>Nl m)=Nl from rfl,Dp];cases hh:g.has n m with
     | true=>exact decide_eq_true (NR.mpr ⟨hm,hh⟩)
     | false=>exact decide_eq_false λz=>by rw [(NR.mp z).2] at hh;cases hh
    refine⟨cz.mpr (tok m hm),?_,?_⟩
    ·exact Dc λz hz=>tok z (NR.mp hz).1
    ·rw [e1];simpa using h
   ·refine⟨xs,n,rfl,gd,λL hL h41 hR=>⟨_,rfl,?_⟩⟩;have ok:=wR gd hR h41;have er:(aY xs c).ts=(cR (aK xs) c).map (·.nm):=rfl;have ea:((cR (aK xs) c).map (·.nm)).filter (λm=>g.has n m)=dE (aY xs c) n g:=rfl;have el:((cR (aK xs) c).map (·.nm)).filter (λm=>!g.has n m)=dD (aY xs c) n g:=rfl;rw [ea,el];have q:Q (.tuple [.tuple ((dR (aY xs c) n g (bM xs n)).map aV),.tuple ((dU (aY xs c) n g (bM xs n)).map aV)]):=q;have lok:∀m∈dD (aY xs c) n g,Nw m=true:=λm hm=>tok m (NR.mp hm).1;have aok:∀m∈dE (aY xs c) n g,Nw m=true:=λm hm=>tok m (NR.mp hm).1;obtain⟨SA,sa0,sas,sal,sae⟩:∃SA:Nat->List Vv,SA 0=[]/\(∀i z,(bM xs n)[i]?=some z->SA (i+1)=SA i++(dR (aY xs c) n g [z]).map aV)/\(∀i,(SA i).length<=41)/\SA (bM xs n).length=(dR (aY xs c) n g (bM xs n)).map aV:=by
     refine⟨λi=>(dR (aY xs c) n g ((bM xs n).take i)).map aV,?_,λi z hz=>?_,λi=>?_,by show NM aV _=_;rw [NI (Np _)]⟩
     ·show NM aV _=_;rw [RF];unfold dR cB;split <;> rfl
     ·show NM aV _=NM aV _++_;rw [Ox,hz,MK,N8];rfl
     ·show(NM aV _).length<=41;have:=EG (r:=aY xs c) (n:=n) (g:=g) ((bM xs n).take i);rw [NS] at this;rw [Nj];omega
    obtain⟨GA,ga0,gas,gal,gae⟩:∃GA:Nat->List Vv,GA 0=[]/\(∀i z,(bM xs n)[i]?=some z->GA (i+1)=GA i++(dU (aY xs c) n g [z]).map aV)/\(∀i,(GA i).length<=41)/\GA (bM xs n).length=(dU (aY xs c) n g (bM xs n)).map aV:=by
     refine⟨λi=>(dU (aY xs c) n g ((bM xs n).take i)).map aV,?_,λi z hz=>?_,λi=>?_,by show NM aV _=_;rw [NI (Np _)]⟩
     ·show NM aV _=_;rw [RF];unfold dU cB;split <;> rfl
     ·show NM aV _=NM aV _++_;rw [Ox,hz,ML,N8];rfl
     ·show(NM aV _).length<=41;have:=EH (r:=aY xs c) (n:=n) (g:=g) ((bM xs n).take i);rw [NS] at this;rw [Nj];omega
    refine⟨λi δ=>∃o11 o12 o13:Option Sl,δ=sO xs n c g (SA i) (GA i) o11 o12 o13,⟨_,_,_,by rw [sa0,ga0];rfl⟩,?_,?_⟩
    ·rintro i z δ hz ⟨o11,o12,o13,rfl⟩;rw [NK] at hz;cases hz':L[i]? with
     | none=>rw [hz'] at hz;cases hz
     | some y=>
      rw [hz'] at hz;cases hz;obtain⟨dd,nm,pt⟩:=y;have hr':(bM xs n)[i]?=some (nm,pt):=by rw [<-hL,NK,hz'];rfl
      have xo:=ok.2 _ (NT hr');have sl:=sal i;have gl2:=gal i;have sas:=sas i _ hr';have gas:=gas i _ hr';simp only [nv];have w5:W5 pt.wd:=by
       obtain⟨d,_,hm,_⟩:=(hR.2 _).mp (NT hr');exact r5 _ _ _ hm
      have kok:Nw pt.kd=true:=Pt.kdOk xo;have cok:=gd.gx.gp.kd c hc;have e0:¬(c.d<=n/\pt.kd=c.kd)->SA i=SA (i+1)/\GA i=GA (i+1):=λh=>by
       have e1:dR (aY xs c) n g [(nm,pt)]=[]:=by unfold dR;rw [EB (r:=aY xs c) h];rfl
       have e2:dU (aY xs c) n g [(nm,pt)]=[]:=by unfold dU;rw [EB (r:=aY xs c) h];rfl
       rw [sas,gas,e1,e2];simp
      have e1:c.d<=n/\pt.kd=c.kd->SA (i+1)=SA i++(iF (aY xs c) n g (nm,pt)).map aV/\GA (i+1)=GA i++(iG (aY xs c) n g (nm,pt)).map aV:=λh=>by
       have e1:dR (aY xs c) n g [(nm,pt)]=iF (aY xs c) n g (nm,pt):=by unfold dR;rw [EA h.1 h.2];simp
       have e2:dU (aY xs c) n g [(nm,pt)]=iG (aY xs c) n g (nm,pt):=by unfold dU;rw [EA h.1 h.2];simp
       rw [sas,gas,e1,e2];exact⟨rfl,rfl⟩
      clear sas gas;generalize hE:dW.mk _ _ _ _=EE;have hnx:∀o11 o12 o13,EE.nx (sO xs n c g (SA (i+1)) (GA (i+1)) o11 o12 o13):=λo11 o12 o13=>by subst hE;exact⟨o11,o12,o13,rfl⟩
      clear hE;simp only [sO] at hnx⊢;generalize SA (i+1)=SA1 at*;generalize GA (i+1)=GA1 at*;generalize SA i=SA0 at*;generalize GA i=GA0 at*;cases pt with
      | two w2 kd=>
       simp only [Pt.enc];generalize hB:fF (j7 12 13 _) _=TB;walk_at "d";by_cases h1:c.d<=n
       ·rw [Vs h1];refine⟨cz.mpr kok,cz.mpr cok,?_⟩;by_cases hk:kd=c.kd
        ·obtain⟨rfl,rfl⟩:=e1 ⟨h1,hk⟩;rw [Vs (by rw [hk];exact beq_self_eq_true _)];subst hB;have w5:W5 w2:=w5;rcases w5 with e | e | e | e | e
         ·exact absurd (.inl e) xo.1
         ·exact absurd (.inr e) xo.1
         ·subst e;rw [xp,xt,Vs rfl,Vr cp,N4] at hnx;refine cC λR hR=>?_;walk_at "g";subst hR;refine cC λR hR=>?_;walk_at "g";subst hR;refine cC λR hR=>?_;walk_at "g";subst hR;refine cC λR hR=>?_;walk_at "g";subst hR;refine iK λR hR=>?_;walk_at "g";refine EF lok sl (C:=λZ=>R EE [_,_,_,_,_,_,_,_,_,some (Sl.o Z),_,_,_,_]) ?_;subst hR;walk_at "g";exact hnx _ _ _
         ·subst e;rw [xp,xt,Vr cp,Vs rfl,N4] at hnx;refine cC λR hR=>?_;walk_at "g";subst hR;refine cC λR hR=>?_;walk_at "g";subst hR;refine cC λR hR=>?_;walk_at "g";subst hR;refine cC λR hR=>?_;walk_at "g";subst hR;refine iK λR hR=>?_;walk_at "g";subst hR;walk_at "g";exact EF aok gl2 (C:=λZ=>EE.nx [_,_,_,_,_,_,_,_,_,_,some (Sl.o Z),_,_,_]) (hnx _ _ _)
         ·subst e;rw [xp,xt,Vr cp,Vr cp,N4,N4] at hnx;refine cC λR hR=>?_;walk_at "g";subst hR;refine cC λR hR=>?_;walk_at "g";subst hR;refine cC λR hR=>?_;walk_at "g";subst hR;refine cC λR hR=>?_;walk_at "g";subst hR;refine iK λR hR=>?_;walk_at "g";subst hR;walk_at "g";exact hnx _ _ _
        ·obtain⟨rfl,rfl⟩:=e0 λz=>hk z.2;rw [bY hk,Vr Nt];exact hnx _ _ _
       ·obtain⟨rfl,rfl⟩:=e0 λz=>h1 z.1;rw [Vr h1];exact hnx _ _ _
      | five w2 kd si k u=>
       simp only [Pt.enc];generalize hB:fF (j7 12 13 _) _=TB;walk_at "d";by_cases h1:c.d<=n
       ·rw [Vs h1];refine⟨cz.mpr kok,cz.mpr cok,?_⟩;by_cases hk:kd=c.kd
        ·obtain⟨rfl,rfl⟩:=e1 ⟨h1,hk⟩;rw [Vs (by rw [hk];exact beq_self_eq_true _)];subst hB;rcases xo.1 with e | e
         ·have e:w2=Ng "keep":=e;subst e;rw [MM,MN,N4] at hnx;refine cC λR hR=>?_;walk_at "g";subst hR;refine cC λR hR=>?_;walk_at "g";refine⟨xs,c,_,kd,si,k,u,n,rfl,gd,hc,xo.2.2.1,xo.2.2.2.2.2,?_⟩;subst hR;generalize bH (aY xs c) n (Pt.five (Ng "keep") kd si k u)=ob at hnx⊢;cases ob with
          | none=>
           simp only [bu];refine cC λR hR=>?_;walk_at "g";simp only [isNone,↓reduceIte];refine⟨Vq,?_⟩;subst hR;refine cC λR hR=>?_;walk_at "g";subst hR;refine iK λR hR=>?_;walk_at "g";subst hR;walk_at "g";exact hnx _ _ _
          | some d=>
           simp only [bu];refine cC λR hR=>?_;walk_at "g";simp only [isNone,OO,↓reduceIte];by_cases hd:n < d
           ·rw [Vs (show cS n (some d)=true from decide_eq_true hd)] at hnx;rw [Vs hd];refine⟨Vq,?_⟩;subst hR;refine cC λR hR=>?_;walk_at "g";subst hR;refine iK λR hR=>?_;walk_at "g";subst hR;walk_at "g";exact hnx _ _ _
           ·rw [Vr (show ¬cS n (some d)=true from λz=>hd (of_decide_eq_true z)),N4] at hnx;rw [Vr hd];subst hR;refine cC λR hR=>?_;walk_at "g";subst hR;refine iK λR hR=>?_;walk_at "g";subst hR;walk_at "g";exact hnx _ _ _
         ·have e:w2=Ng "gone":=e;subst e;rw [MO,MP,N4] at hnx;refine cC λR hR=>?_;walk_at "g";subst hR;refine cC λR hR=>?_;walk_at "g";refine⟨xs,c,_,kd,si,k,u,n,rfl,gd,hc,xo.2.2.1,xo.2.2.2.2.2,?_⟩;subst hR;generalize bH (aY xs c) n (Pt.five (Ng "gone") kd si k u)=ob at hnx⊢;refine cC λR hR=>?_;walk_at "g";subst hR;cases ob with
          | none=>
           rw [Vr (by simp [cS]),N4] at hnx;simp only [bu];refine cC λR hR=>?_;walk_at "g";simp only [isNone,Q3,↓reduceIte];subst hR;refine iK λR hR=>?_;walk_at "g";subst hR;walk_at "g";exact hnx _ _ _
          | some d=>
           simp only [bu];refine cC λR hR=>?_;walk_at "g";simp only [isNone,↓reduceIte];by_cases hd:d<=n
           ·rw [Vs (show cS n (some d)=false from decide_eq_false Vq)] at hnx;rw [Vs hd];refine⟨Vq,?_⟩;subst hR;refine iK λR hR=>?_;walk_at "g";subst hR;walk_at "g";exact hnx _ _ _
           ·rw [Vr (show ¬cS n (some d)=false from λz=>of_decide_eq_false z Vq),N4] at hnx;rw [Vr hd];subst hR;refine iK λR hR=>?_;walk_at "g";subst hR;walk_at "g";exact hnx _ _ _
        ·obtain⟨rfl,rfl⟩:=e0 λz=>hk z.2;rw [bY hk,Vr Nt];exact hnx _ _ _
       ·obtain⟨rfl,rfl⟩:=e0 λz=>h1 z.1;rw [Vr h1];exact hnx _ _ _
    ·rintro δ ⟨o11,o12,o13,rfl⟩;simp only [sO];walk_at "d";have e:(L.map nv).length=(bM xs n).length:=by rw [<-hL,Nj,Nj]
     rw [e,sae,gae]
     first | exact q | exact⟨_,.inl rfl,_,.inl rfl,q⟩ | (trace_state;skip)
end
theorem EI:bb (ay rZ) ["_law_told","_law_due"] ["_law_k","_law_told","_law_due"] 1 [0,1] ⟨Nx,[ (Ni ".0",Xv),(Ni "_law_k",Xv),(Ni "_law_same",N3),(Ni "_law_due",Nv),(Ni "_law_told",Nv)],false,false,[]⟩:= .of
section
variable {P:VL} {w:VP} {K:Nh} {mg:Str->Option Vw} {base:VQ} {t:cA}
theorem MS{k:Nat}{f:Vy}{fd:VN}{ps:List Str}:aH P w K mg base CX0 k f fd ps (aX K λ_ _=>False):=⟨λvs H Q E uu65=>by obtain⟨_,_,_,_,_,h,_⟩:=uu65;exact h.elim,λ_ _ _ _ _ _ _ _ _ _ _ _ _ uu66=>by obtain⟨_,_,_,_,_,h,_⟩:=uu66;exact h.elim⟩
def g9(F:List Vv->(Vv->Prop)->Prop):List Vv->(Vv->Prop)->Prop:=λds Q=>∃x,ds=[x,x]/\(x= .none\/(∃i,x= .int i)\/(∃s,x= .str s/\Nw s=true)\/(∃b,x= .bool b)\/∃xs,x= .tuple xs/\xs.length<=1000/\∀y∈xs,∀R:Vv->Prop,R (.bool true)->F [y,y] R)/\Q (.bool true)
theorem sP{d:Nat}{F:List Vv->(Vv->Prop)->Prop}(T:Txt K mg t)(G_r:aH P w K mg base CX0 d t.a_r t.d_r ["_law_told","_law_due"] (aX K F)):
 aH P w K mg base CX0 (d+1) t.a_r t.d_r ["_law_told","_law_due"] (aX K (g9 F)):=by
 refine T.F_r.F.okD K9 (λds Q h=>?_) (λ_ _ _ _ H O ds Q E hr h=>?_)
 ·obtain⟨x,rfl,_⟩:=h;rfl
 ·obtain⟨x,rfl,hx,q⟩:=h;refine'⟨_,?A,?B⟩
  case A=>
   refine' ar ?C ?D
   case C=>
    refine' bj ?E ?F bh
    case E=>exact(ic (i9 (K':=K) (T:="tuple") rfl rfl T.n_isinstance iP (df (dv 1)) (iL (v:= .ty "tuple") rfl T.n_tuple gc rfl)))
    case' F=>refine' ar ?G ?H
    case G=>
     refine' bj ?I ?J bh
     case I=>exact(PW.pt (jt (lW (ic (i9 (K':=K) (T:="tuple") rfl rfl T.n_isinstance iP (df (dv 0)) (iL (v:= .ty "tuple") rfl T.n_tuple gc rfl)))) (js (aF (kh hr.units) ki (PE.imp (bS fB rfl T.n_len ON (bz (dv 0) bg)) (bN gr)) (PE.imp (bS fB rfl T.n_len ON (bz (dv 1) bg)) (bN gr)) (au _)))))
     case J=>refine' ax (aM lU)
    case' H=>refine' ax ?K
    case' K=>refine' aM ?L
    case L=>exact(PE.imp (bS (Aw rfl) rfl T.n_all Ax (bz (fe (tW rfl EI rfl T.n_range (bz (PE.imp (bS fB rfl T.n_len ON (bz (dv 1) bg)) (bN gr)) bg) aP cf Vp (λ_ _ _ _=>(aN (i:=0) EI.nd rfl Vt)) (λ_ _ _ _=>gz) (λ_ _ _ _=>(PE.imp (dQ G_r (hr.mono (Np _)) rfl T.F_r (aa (aq av az (dv 1) (dv 0)) (aa (aq av az (dv 2) (dv 0)) ah))) oz)))) bg)) (bN tX))
   case' D=>refine' ar ?M ?N
   case M=>
    refine' bj ?O ?P bh
    case O=>exact(aF jV kA (dv 1) eZ (au _))
    case' P=>refine' ax ?Q
    case Q=>exact(aM (eQ jV kA (df (dv 0)) (df eZ) (au _)))
   case' N=>refine' ar ?R ?S
   case R=>
    refine' bj ?T ?U bh
    case T=>exact(ic (i9 (K':=K) (T:="str") rfl rfl T.n_isinstance iP (df (dv 1)) (iL (v:= .ty "str") rfl T.n_str Ar rfl)))
    case' U=>refine' ax ?V
    case' V=>refine' aM ?W
    case W=>exact(jv (i9 (K':=K) (T:="str") rfl rfl T.n_isinstance iP (df (dv 0)) (iL (v:= .ty "str") rfl T.n_str Ar rfl)) (ju (eQ (cn hr.units) cq (df (dv 0)) (df (dv 1)) (au _))))
   case' S=>refine' ar ?X ?Y
   case X=>
    refine' bj ?Z ?a bh
    case Z=>exact(ic (i9 (K':=K) (T:="bool") rfl rfl T.n_isinstance iP (df (dv 1)) (iL (v:= .ty "bool") rfl T.n_bool tT rfl)))
    case' a=>refine' ax ?b
    case' b=>refine' aM ?c
    case c=>exact(jv (i9 (K':=K) (T:="bool") rfl rfl T.n_isinstance iP (df (dv 0)) (iL (v:= .ty "bool") rfl T.n_bool tT rfl)) (ju (eQ (cn hr.units) cq (df (dv 0)) (df (dv 1)) (au _))))
   case' Y=>refine' ax ?d
   case' d=>refine' aM ?e
   case e=>exact(jv (i9 (K':=K) (T:="int") rfl rfl T.n_isinstance iP (df (dv 0)) (iL (v:= .ty "int") rfl T.n_int lT rfl)) (jv (Ho (i9 (K':=K) (T:="bool") rfl rfl T.n_isinstance iP (df (dv 0)) (iL (v:= .ty "bool") rfl T.n_bool tT rfl))) (ju (eQ (cn hr.units) cq (df (dv 0)) (df (dv 1)) (au _)))))
  case B=>
  clear hr T G_r;rcases hx with rfl | ⟨i,rfl⟩ | ⟨s,rfl,hs⟩ | ⟨b,rfl⟩ | ⟨xs,rfl,hl,hF⟩ <;> walk_at "d" <;> simp only [IB,IA,Iz,Iy]
  ·simpa [ku,isNone,mB,mz,iw,Om,NW,PM] using q
  ·simpa [ku,pW,isNone,mB,mz,iw,Om,NW,PM] using q
  ·simpa [ku,pW,isNone,mB,mz,iu,hs,Om,NW,PM] using q
  ·simpa [ku,pW,isNone,mB,mz,pH,Om,NW,PM] using q
  ·simp only [ku];walk_at "d";refine⟨Vu,Vu,Vq,Vq,ID (p:=λb=>Q (.bool b)) (λ_=>true) (λx hx R hR=>?_) ?_⟩
   ·obtain⟨i,hi⟩:=QN hx;obtain⟨hlt,rfl⟩:=jB hi;have hj:i < xs.length:=Vq
    have ha:atI xs (0+(i:Int))=some xs[i]:=by rw [Va];exact fZ (by simp [hj])
    walk_at "d";exact⟨xs[i],ha,xs[i],ha,hF _ (OP hj) R hR⟩
   ·have e:∀l:List Vv,((l.map λ_=>true).all id)=true:=λl=>by rw [List.all_map];exact PV.mpr λ_ _=>rfl
    rw [e];exact q
def jO(x:Vv):Prop:=x= .none\/(∃i,x= .int i)\/(∃s,x= .str s/\Nw s=true)\/(∃b,x= .bool b)
theorem jO.sm{x:Vv}{F:List Vv->(Vv->Prop)->Prop}(h:jO x){R:Vv->Prop}(r:R (.bool true)):g9 F [x,x] R:=⟨x,rfl,by
 rcases h with h | h | h | h
 ·exact .inl h
 ·exact .inr (.inl h)
 ·exact .inr (.inr (.inl h))
 ·exact .inr (.inr (.inr (.inl h))),r⟩
def EJ:=g9 λ_ _=>False
theorem MT(T:Txt K mg t):aH P w K mg base CX0 9 t.a_r t.d_r ["_law_told","_law_due"] (aX K (g9 (g9 (g9 EJ)))):=sP T (sP T (sP T (sP T (d:=5) MS)))
theorem EK{F:List Vv->(Vv->Prop)->Prop}{xs:List Vv}(hl:xs.length<=1000)(h:∀y∈xs,∀R:Vv->Prop,R (.bool true)->F [y,y] R){R:Vv->Prop}(r:R (.bool true)):g9 F [.tuple xs,.tuple xs] R:=⟨_,rfl,.inr (.inr (.inr (.inr ⟨xs,rfl,hl,h⟩))),r⟩
def xu(cs:List (Str×Vv)):Prop:=cs.length<=41/\∀z∈cs,Nw z.1=true/\jO z.2
theorem EL{cs:List (Str×Vv)}(h:xu cs){R:Vv->Prop}(r:R (.bool true)):g9 (g9 (g9 EJ)) [.tuple (cs.map aV),.tuple (cs.map aV)] R:=by
 refine EK (by rw [Nj];have:=h.1;omega) (λy hy R r=>?_) r;obtain⟨z,hz,rfl⟩:=NC.mp hy;obtain⟨h1,h2⟩:=h.2 z hz;refine EK Vu (λy hy R r=>?_) r;simp only [Ny,Oe,or_false] at hy;rcases hy with e | e <;> subst e
 ·exact jO.sm (.inr (.inr (.inl ⟨_,rfl,h1⟩))) r
 ·exact h2.sm r
theorem EM(o:Option Int):jO (bu o):=by cases o with | none=>exact .inl rfl | some i=>exact .inr (.inl ⟨i,rfl⟩)
theorem MU{r:Rp}{n:Int}{g:Gn}{pt:Pt}{b:Vv}(ro:fR r)(h:nk r n g pt=some b):jO b:=by
 cases pt with
 | two w kd=>
  have h:(if w=Ng "while" then(dD r n g).head?.map Nl else none)=some b:=h;split at h
  ·cases hl:(dD r n g).head? with
   | none=>rw [hl] at h;cases h
   | some m=>
    rw [hl] at h;cases h;have hm:m∈dD r n g:=Tf hl;exact .inr (.inr (.inl ⟨m,rfl,ro.2.2.2 m (NR.mp hm).1⟩))
  ·cases h
 | five w kd s k u=>
  have h:(if w=Ng "keep"/\cS n (bH r n (.five w kd s k u))=true then some (bu (bH r n (.five w kd s k u))) else none)=some b:=h;split at h
  ·cases h;exact EM _
  ·cases h
theorem MV{r:Rp}{n:Int}{g:Gn}{pt:Pt}{b:Vv}(ro:fR r)(h:nr r n g pt=some b):jO b:=by
 cases pt with
 | two w kd=>
  have h:(if w=Ng "follow" then(dE r n g).head?.map Nl else none)=some b:=h;split at h
  ·cases hl:(dE r n g).head? with
   | none=>rw [hl] at h;cases h
   | some m=>
    rw [hl] at h;cases h;have hm:m∈dE r n g:=Tf hl;exact .inr (.inr (.inl ⟨m,rfl,ro.2.2.2 m (NR.mp hm).1⟩))
  ·cases h
 | five w kd s k u=>
  have h:(if w=Ng "gone"/\cS n (bH r n (.five w kd s k u))=false then some (bu (bH r n (.five w kd s k u))) else none)=some b:=h;split at h
  ·cases h;exact EM _
  ·cases h
theorem EN{r:Rp}{n:Int}{L:List (Str×Pt)}{z:Str×Pt}(h:z∈cB r n L):z∈L:=by
 unfold cB at h;split at h
 ·cases h
 ·exact(NR.mp h).1
theorem EO{xs:List De}{n:Int}(g:dz xs)(h:fQ xs n (bM xs n)):∀z∈bM xs n,Nw z.1=true:=λz hz=>by
 obtain⟨d,_,hm,_⟩:=(h.2 z).mp hz;exact g.gx.nm _ hm
theorem MW{xs:List De}{n:Int}{c:Pp}{g:Gn}(gd:dz xs)(h:fQ xs n (bM xs n))(hl:(bM xs n).length<=41)(ro:fR (aY xs c)):xu (sH xs n c g):=by
 refine⟨NP (EG _) hl,λz hz=>?_⟩;unfold sH dR at hz;obtain⟨y,hy,hz⟩:=UB.mp hz;unfold iF at hz;cases hb:nk (aY xs c) n g y.2 with
 | none=>rw [hb] at hz;cases hz
 | some b=>
  rw [hb] at hz;have e:z=(y.1,b):=by simpa using hz
  rw [e];exact⟨EO gd h y (EN hy),MU ro hb⟩
theorem MX{xs:List De}{n:Int}{c:Pp}{g:Gn}(gd:dz xs)(h:fQ xs n (bM xs n))(hl:(bM xs n).length<=41)(ro:fR (aY xs c)):xu (sI xs n c g):=by
 refine⟨NP (EH _) hl,λz hz=>?_⟩;unfold sI dU at hz;obtain⟨y,hy,hz⟩:=UB.mp hz;unfold iG at hz;cases hb:nr (aY xs c) n g y.2 with
 | none=>rw [hb] at hz;cases hz
 | some b=>
  rw [hb] at hz;have e:z=(y.1,b):=by simpa using hz
  rw [e];exact⟨EO gd h y (EN hy),MV ro hb⟩
def MY:List Vv->(Vv->Prop)->Prop:=λds Q=>∃(xs:List De)(n:Int)(c:Pp),ds=[.tuple (xs.map De.enc),.int n,.str c.nm]/\iI xs/\R5 xs/\c∈aK xs/\Q (.bool true)
theorem MZ(T:Txt K mg t):aH P w K mg base CX0 10 t.a_s t.d_s ["_law_deeds_here","_law_day_here","_law_name"] (aX K MY):=by
 have G_p:=@MR P w _ _ base _ T;have G_r:=@MT P w _ _ base _ T;have G_X:=@L6 P w _ _ base _ T;have G_Y:=@L7 P w _ _ base _ T;refine T.F_s.F.okD CK (λds Q h=>?_) (λ_ _ _ _ H O ds Q E hr h=>?_)
 ·obtain⟨xs,n,c,rfl,_⟩:=h;rfl
 ·obtain⟨xs,n,c,rfl,gl,r5,hc,q⟩:=h;refine'⟨_,?A,?B⟩
  case A=>
   refine' ar ?C ?D
   case C=>exact(bG (i:=3) CK.nd rfl Vt (aB G_p hr T.F_p (aa (dv 0) (aa (dv 1) (aa (dv 2) (aa vE ah))))))
   case' D=>refine' ax ?E
   case' E=>refine' aM ?F
   case F=>exact(jv (PE.imp (dQ G_r (hr.mono (Np _)) rfl T.F_r (aa (aB G_X hr T.F_X (aa (dv 0) (aa (dv 1) (aa (dv 2) (aa vE ah))))) (aa (aq av az (dv 3) ag) ah))) oz) (ju (PE.imp (dQ G_r (hr.mono (Np _)) rfl T.F_r (aa (aB G_Y hr T.F_Y (aa (dv 0) (aa (dv 1) (aa (dv 2) (aa vE ah))))) (aa (aq av az (dv 3) ag) ah))) oz)))
  case B=>
  clear hr T G_p G_r G_X G_Y;have gd:=gl.good;walk_at "d";refine⟨xs,n,c,⟨[],[]⟩,rfl,gl,r5,hc,?_⟩;refine⟨xs,n,c,⟨[],[]⟩,rfl,gd,hc,λh1 h2 h3=>⟨_,rfl,_,d9,EL (MW gd h1 h2 h3) ⟨true,rfl,?_⟩⟩⟩;rw [Vs rfl];exact⟨xs,n,c,⟨[],[]⟩,rfl,gd,hc,λ_ _ _=>⟨_,rfl,_,dN,EL (MX gd h1 h2 h3) q⟩⟩
end
theorem ER:bb (ay kO) ["_law_deeds_here","_law_days_here","_law_web_here","_law_found","_law_deed_here","_law_name","_law_some"] ["_law_deed_here"] 1 [] ⟨Nx,[(Ni ".0",Xv),(Ni "_law_deed_here",Xv)],false,false,[]⟩:= .of
theorem ES:bb (ay kO) ["_law_deeds_here","_law_days_here","_law_web_here","_law_found","_law_deed_here","_law_name","_law_some"] ["_law_day_here","_law_deeds_here","_law_name","_law_deed_here","_law_web_here"] 1 [0,5,4,2] ⟨Nx,[ (Ni ".0",Xv),(Ni "_law_day_here",Xv),(Ni "_law_reckoned",N3),(Ni "_law_deed_here",Nv),(Ni "_law_deeds_here",Nv),(Ni "_law_name",Nv),(Ni "_law_web_here",Nv)],false,false,[]⟩:= .of
theorem ET:bb (ay kO) ["_law_deeds_here","_law_days_here","_law_web_here","_law_found","_law_deed_here","_law_name","_law_some"] ["_law_till"] 1 [] ⟨Nx,[(Ni ".0",Xv),(Ni "_law_till",Xv)],false,false,[]⟩:= .of
section
variable {P:VL} {w:VP} {K:Nh} {mg:Str->Option Vw} {base:VQ} {t:cA}
theorem M4:∀r,r < 25->∀p,p < 25->r+p<=24->r*p<=144:=Vp
theorem EU:∀xs:List De,(xs.filter De.isR).length+(aK xs).length<=xs.length
 | []=>Np _
 | x::xs=>by
  have ih:=EU xs;unfold aK at ih⊢;cases x with
  | pap p=>
   rw [List.filter_cons_of_neg (by show ¬false=true;decide),Sw (f:=De.pp) (b:=p) rfl,NF,NF];omega
  | oth w d nm r=>
   rw [List.filterMap_cons_none (f:=De.pp) rfl,NF,Ow];split
   ·rw [NF];omega
   ·omega
def rc(xs:List De)(i:Nat):Nat:=((xs.take i).filter De.isR).length
theorem M5(xs:List De)(i:Nat):rc xs i<=rc xs (i+1):=by
 unfold rc;rw [Ox,RK,Oc];omega
theorem M6{xs:List De}{i:Nat}{d:Int}{nm:Str}{r:List Vv}(h:xs[i]?=some (.oth (Ng "rule") d nm r)):rc xs (i+1)=rc xs i+1:=by
 unfold rc;rw [Ox,h,RK,Oc];rw [show(SV De.isR (Option.toList (some (De.oth (Ng "rule") d nm r))))=[De.oth (Ng "rule") d nm r] from SF (by show(Ng "rule"==Ng "rule")=true;exact beq_self_eq_true _)];rfl
def dS(xs:List De)(fs:List Int)(o4 o5 o6:Option Sl):Dl:=[some (Sl.v (ND (xs.map De.enc))),some (Sl.v (Od ((xs.map (·.d)).map .int))),some (Sl.v (xi (aK xs))),some (Sl.o (fs.map .int)),o4,o5,o6]
theorem EV:∀(l m:List Int),l.Nodup->(∀z∈l,z∈m)->l.length<=m.length
 | [],_,_,_=>N9 _
 | a::l,m,nd,h=>by
  rw [OX] at nd;have ha:=h a Vu;have ih:=EV l (m.erase a) nd.2 λz hz=>(List.mem_erase_of_ne λe=>nd.1 (by rw [<-e];exact hz)).mpr (h z (by simp [hz]));rw [List.length_erase_of_mem ha] at ih;have:=List.length_pos_of_mem ha;rw [NF];omega
theorem xv:∀l:List (Option Int),(l.filter U4).map bu=(l.filterMap id).map .int
 | []=>rfl
 | none::l=>xv l
 | some i::l=>by
  rw [SF rfl,Sw (f:=id) (b:=i) rfl,Nq,Nq,xv l];rfl
def M7:List Vv->(Vv->Prop)->Prop:=λds Q=>∃(xs:List De),ds=[.tuple (xs.map De.enc)]/\iI xs/\R5 xs/\xs.length<=24/\xs≠[]/\∀ns:List Int,ns≠[]->ns.length < 4000->Q (.list (ns.map .int))
theorem M8(T:Txt K mg t):aH P w K mg base CX0 5 t.a_q t.d_q ["_law_deeds_here"] (aX K M7):=by
 have G_m:=@xm P w _ _ base _ T;have G_o:=@Em P w _ _ base _ T;refine T.F_q.F.okD jJ (λds Q h=>?_) (λ_ _ _ _ H O ds Q E hr h=>?_)
 ·obtain⟨xs,rfl,_⟩:=h;rfl
 ·obtain⟨xs,rfl,gl,r5,ln,x0,q⟩:=h;refine'⟨_,?A,?B⟩
  case A=>
   refine' ar ?C ?D
   case C=>exact(gC (i:=1) jJ.nd rfl Vt (mK rfl ER (df (dv 0)) aP cf Vp (λ_ _ _ _=>(aN (i:=0) ER.nd rfl Vt)) (λ_ _ _ _=>gz) (λ_ _ _ _=>(aq av az (dv 0) ag))))
   case' D=>refine' ar ?E ?F
   case E=>exact(bG (i:=2) jJ.nd rfl Vt (aB G_m hr T.F_m (aa (dv 0) ah)))
   case' F=>refine' ar ?G ?H
   case G=>exact(lZ (i:=3) jJ.nd rfl Vt (Hz rfl T.n_list G6 (bz (dv 1) bg)))
   case' H=>refine' ar ?I ?J
   case I=>
    refine' oQ Ov rfl (dv 0) ?K aP ?L
    case K=>exact(aN (i:=4) jJ.nd rfl Vt)
    case' L=>refine' ax ?M
    case' M=>refine' bj ?N ?O bh
    case N=>exact(PW.pt (cV (aF (cv hr) cw (aq av az (dv 4) ag) aO (au _)) (dM (aF (pT hr) pV (aq av az (aq av az (dv 4) ag) ag) (bC (aa aO (aa aO ah))) rfl))))
    case' O=>refine' ax ?P
    case' P=>refine' B8 Ov rfl (dv 2) ?Q aP ?R
    case Q=>exact(aN (i:=5) jJ.nd rfl Vt)
    case' R=>refine' ax ?S
    case' S=>refine' bj ?T ?U bh
    case T=>exact(aF (cn hr.units) cq (aq av az (iy hr.units (dv 2) (dv 5) (λ_ _=>rfl)) ag) (aq av az (aq av az (dv 4) ag) ag) (au _))
    case' U=>refine' ar ?V ?W
    case V=>exact(gC (i:=6) jJ.nd rfl Vt (kr rfl ES (df (dv 1)) aP cf Vp (λ_ _ _ _=>(aN (i:=0) ES.nd rfl Vt)) (λ_ _ _ _=>gz) (λ_ _ _ _=>(aB G_o hr T.F_o (aa (dv 1) (aa (aq av az (dv 3) ag) (aa (dv 2) (aa (dv 0) (aa (aq av az (iy hr.units (dv 4) (dv 2) (λ_ _=>rfl)) ag) ah)))))))))
    case' W=>refine' ax ?X
    case X=>exact(Jf (i:=3) (pv 3) (fG rfl ET (df (dv 6)) aP cf Vp (λ_ _ _ _=>(aN (i:=0) ET.nd rfl Vt)) (λ_ _ _ _=>(cU (aF nO qh (dv 0) eZ (au _)))) (λ_ _ _ _=>(dv 0))))
   case' J=>refine' ax ?Y
   case Y=>exact(aM (fe (KU rfl rfl T.n_sorted OG rfl T.n_set (ig (dw 3) bg))))
  case B=>
  clear hr T G_m G_o;have gd:=gl.good;walk_at "d";have pl:(aK xs).length<=xs.length:=Q4 _ _;refine⟨by rw [Nj];omega,?_⟩;refine cG (λ_=>true) (λx=>.int x.d) (λx hx R S h=>?_) ?_
  ·cases x with
   | pap p=>
    simp only [De.enc,Pp.enc];walk_at "d";exact h
   | oth wo d nm r=>
    simp only [De.enc];walk_at "d";exact h
  rw [k7];have em:(xs.map λx=>Nn x.d)=(xs.map (·.d)).map .int:=by rw [NO];rfl
  rw [em];refine⟨xs,rfl,gl,?_⟩;refine⟨λi δ=>∃(fs:List Int)(o4 o5 o6:Option Sl),fs≠[]/\fs.length<=xs.length+rc xs i*(aK xs).length*xs.length/\δ=dS xs fs o4 o5 o6,⟨xs.map (·.d),_,_,_,by simpa using x0,by rw [Nj];omega,rfl⟩,?_,?_⟩
  ·rintro i z δ hz ⟨fs,o4,o5,o6,f0,fl,rfl⟩;rw [NK] at hz;cases hz':xs[i]? with
   | none=>rw [hz'] at hz;cases hz
   | some x=>
    rw [hz'] at hz;cases hz;have hx:=NT hz';have le:=Tr xs.length (Tr (aK xs).length (M5 xs i));generalize hE:dW.mk _ _ _ _=EE;have hnx:∀fs' o4 o5 o6,fs'≠[]->fs'.length<=xs.length+rc xs (i+1)*(aK xs).length*xs.length->EE.nx (dS xs fs' o4 o5 o6):=λfs' o4 o5 o6 h1 h2=>by subst hE;exact⟨fs',o4,o5,o6,h1,h2,rfl⟩
    clear hE;cases x with
    | pap p=>
     simp only [De.enc,Pp.enc,dS];walk_at "d";exact hnx _ _ _ _ f0 Vq
    | oth wo d nm r=>
     by_cases e:wo=Ng "rule"
     ·subst e;obtain⟨pt,rfl,po⟩:=gd.ru _ _ _ hx;rw [M6 hz',Us,Vj,Us] at hnx;cases pt with
      | two w2 kd=>
       simp only [De.enc,Pt.enc,dS];walk_at "d";rw [Vr λz=>po.1 (by
        simp only [PN,beq_iff_eq] at z;exact z.imp Eq.symm Eq.symm)]
       exact hnx _ _ _ _ f0 Vq
      | five w2 kd si k u=>
       simp only [De.enc,Pt.enc,dS];walk_at "d";rw [Vs (by
        simp only [PN,beq_iff_eq];exact po.1.imp Eq.symm Eq.symm)]
       have hdS:∀(d:Sl)(fs':List Int)(o5 o6:Option Sl),dS xs fs' (some d) o5 o6=[some (Sl.v (ND (xs.map De.enc))),some (Sl.v (Od ((xs.map (·.d)).map .int))),some (Sl.v (xi (aK xs))),some (Sl.o (fs'.map .int)),some d,o5,o6]:=λ_ _ _ _=>rfl;refine⟨(aK xs).map (·.nm),⟨_,rfl⟩,λj δ=>∃(fs':List Int)(o5 o6:Option Sl),fs'≠[]/\fs'.length<=fs.length+j*xs.length/\δ=dS xs fs' (some (Sl.v (ND [Nl (Ng "rule"),Nn d,Nl nm,ND [Nl w2,Nl kd,si.enc,Nn k,Nl u]]))) o5 o6,⟨fs,_,_,f0,Vq,rfl⟩,?_,?_⟩
       ·rintro j z δ hz ⟨gs,o5,o6,g0,gl',rfl⟩;obtain⟨nm',hm,rfl⟩:=NC.mp (NT hz);obtain⟨p,hp,rfl⟩:=NC.mp hm;have hj:=(Nz.mp hz).1;rw [Nj,Nj] at hj;clear hz hm hnx;have aw:=ny (f:=jN (aK xs)) gd.gx.gp.nd hp;have kok:=gd.gx.gp.kd p hp;generalize hE:dW.mk _ _ _ _=E2;have hnx:∀fs' o5 o6,fs'≠[]->fs'.length<=fs.length+(j+1)*xs.length->E2.nx (dS xs fs' (some (Sl.v (ND [Nl (Ng "rule"),Nn d,Nl nm,ND [Nl w2,Nl kd,si.enc,Nn k,Nl u]]))) o5 o6):=λfs' o5 o6 h1 h2=>by subst hE;exact⟨fs',o5,o6,h1,h2,rfl⟩
        clear hE;rw [Us,Vj] at hnx;simp only [dS];walk_at "d";refine⟨_,_,rfl,_,aw,?_⟩;simp only [jN];walk_at "d";refine⟨cz.mpr kok,cz.mpr po.2.1,?_⟩;split
        ·refine⟨by rw [Nj,Nj];omega,?_⟩;refine cG (λ_=>true) (λz=>bu (bH (aY xs p) z (.five w2 kd si k u))) (λz hz R S h=>?_) ?_
         ·walk_at "d";refine⟨_,_,rfl,_,aw,?_⟩;simp only [jN];walk_at "d";exact⟨xs,p,w2,kd,si,k,u,z,rfl,gd,hp,po.2.2.1,po.2.2.2.2.2,h⟩
         rw [k7];obtain⟨os,eo,ol⟩:∃os:List (Option Int),((xs.map (·.d)).map λz=>bu (bH (aY xs p) z (.five w2 kd si k u)))=os.map bu/\os.length=xs.length:=⟨(xs.map (·.d)).map λz=>bH (aY xs p) z (.five w2 kd si k u),by rw [NO (g:=bu)];rfl,by rw [Nj,Nj]⟩;rw [eo];clear eo;refine⟨by rw [Nj];omega,cG U4 bu (λz hz R S h=>?_) ?_⟩
         ·cases z with
          | none=>
           simp only [bu];walk_at "d";simpa [isNone] using h
          | some d=>
           simp only [bu];walk_at "d";simpa [isNone,bu] using h
         rw [xv];have fml:=Q4 id os;have b1:rc xs i<=24:=by
          unfold rc;have h1:=Oa De.isR (xs.take i);have h2:=List.length_take_le' i xs;omega
         have b2:=Q7 (Q7 b1 (NP pl ln)) ln;have b3:=Q7 (NP (Po hj) (NP pl ln)) ln;refine⟨by rw [Nj,Nj];omega,?_⟩;rw [<-N8];exact hnx _ _ _ (by simp [g0]) (by rw [Oc];omega)
        ·exact hnx _ _ _ g0 Vq
       ·rintro δ ⟨gs,o5,o6,g0,gl',rfl⟩;rw [Nj,Nj] at gl';exact hnx _ _ _ _ g0 Vq
     ·simp only [De.enc,dS];walk_at "d";rw [bY e,Vr Nt];exact hnx _ _ _ _ f0 Vq
  ·rintro δ ⟨fs,o4,o5,o6,f0,fl,rfl⟩;rw [Nj] at fl;simp only [dS];walk_at "d";have rp:=EU xs;have er:rc xs xs.length=(xs.filter De.isR).length:=by unfold rc;rw [NI (Np _)]
   have b1:=M4 (xs.filter De.isR).length Vq (aK xs).length Vq Vq;have b2:=Q7 b1 ln;have b3:fs.length < 4000:=by rw [er] at fl;omega
   refine⟨fs,rfl,b3,λns hm hp=>q ns (λe=>?_) ?_⟩
   ·obtain⟨a,l,rfl⟩:=List.exists_cons_of_ne_nil f0;have:=(hm a).mpr Vu;rw [e] at this;cases this
   ·exact Nat.lt_of_le_of_lt (EV ns fs (hp.imp λh=>by omega) λz hz=>(hm z).mp hz) b3
end
theorem EW:bb (ay sd) ["_law_script","_law_menu","_law_deeds_here","_law_names_here","_law_far","_law_days_here","_law_purse_here","_law_turn","_law_day_here"] ["_law_name","_law_deeds_here","_law_day_here"] 1 [2,8] ⟨Nx,[ (Ni ".0",Xv),(Ni "_law_name",Xv),(Ni "_law_right",N3),(Ni "_law_day_here",Nv),(Ni "_law_deeds_here",Nv)],false,false,[]⟩:= .of
section
variable {P:VL} {w:VP} {K:Nh} {mg:Str->Option Vw} {base:VQ} {t:cA}
def F_t:List Vv->(Vv->Prop)->Prop:=λds Q=>∃ns:List Int,ds=[ft (ns.map .int)]/\ns.length<=63/\(∀z∈ns,OR z<=1048576)/\Q (.bool true)
def sp_law(K:Nh):Sp:=aX K F_t
theorem start_law{K:Nh}{H:Hp}{a:Vy}{ns:List Int}(hl:ns.length<=63)(hb:∀z∈ns,OR z<=1048576)(hS:aL K H a (ns.map V.int)):sp_law K [.ref a] H (λv _=>v= .bl true) λ_ _ _=>False:=
 ⟨λ_=>False,[ft (ns.map .int)],λd=>d= .bool true,λ_ z=>z.elim,.cons (.scr (by
  rcases hS with h | h
  ·exact .inl ⟨h,λz=>z⟩
  ·exact .inr (.inr h)) (aj.ints ns)) .nil,⟨ns,rfl,hl,hb,rfl⟩,λd v H' e _ r=>by subst e;cases r;rfl⟩
def lB:List Str:=["keep","gone","happens","keep","gone","happens","happens","end"]
theorem M9:∀m∈lB,Nw m=true/\m≠Ng "paper":=by
 intro z hz;have a:lB.all (λz=>Nw z && decide (z≠Ng "paper"))=true:=cp
 have:=PV.mp a z hz;simp only [Oq,decide_eq_true_eq] at this;exact this
theorem Na:∀m∈lB,m ∉ lu->W5 m:=by
 intro z hz hn;have a:lB.all (λz=>decide (z∈lu) || decide (z=Ng "keep"\/z=Ng "gone"\/z=Ng "while"\/z=Ng "follow"\/z=Ng "leave"))=true:=cp
 have:=PV.mp a z hz;simp only [PN,decide_eq_true_eq] at this;exact this.resolve_left hn
theorem ok_law(T:Txt K mg t):aH P w K mg base CX0 11 t.a_t t.d_t ["_law_script"] (sp_law K):=by
 have G_l:=@Mu P w _ _ base _ T;have G_a:=@DW P w _ _ base _ T;have G_Z:=@D1 P w _ _ base _ T;have G_b:=@lq P w _ _ base _ T;have G_s:=@MZ P w _ _ base _ T;have G_q:=@M8 P w _ _ base _ T;have G_m:=@xm P w _ _ base _ T;refine T.F_t.F.okD iD (λds Q h=>?_) (λ_ _ _ _ H O ds Q E hr h=>?_)
 ·obtain⟨ns,rfl,_⟩:=h;rfl
 ·obtain⟨ns,rfl,hl,hb,q⟩:=h;refine'⟨_,?A,?B⟩
  case A=>
   refine' ar ?C ?D
   case C=>
    generalize hE2_0:UQ _ _=ee2_0;exact bG (i:=1) iD.nd rfl Vt (fe (ue (ds:=[.str "keep",.str "gone",.str "happens",.str "keep",.str "gone",.str "happens",.str "happens",.str "end"]) (by first | (subst hE2_0;rfl)))) (hs:=HY (ds:=[.str "keep",.str "gone",.str "happens",.str "keep",.str "gone",.str "happens",.str "happens",.str "end"]) (by first | (subst hE2_0;rfl)))
   case' D=>refine' ar ?E ?F
   case E=>exact(tU (aB G_l hr T.F_l (aa (dv 0) (aa (dv 1) (aa ag ah)))) (iN (n:=3) rfl (dG (aN (i:=2) iD.nd rfl Vt) (dG (aN (i:=3) iD.nd rfl Vt) (dG (aN (i:=4) iD.nd rfl Vt) iM)))) (jA (d7 aP (d7 aP (d7 aP jz)))))
   case' F=>refine' ar ?G ?H
   case G=>exact(bG (i:=5) iD.nd rfl Vt (aB G_q hr T.F_q (aa (dv 2) ah)))
   case' H=>refine' ar ?I ?J
   case I=>exact(bG (i:=6) iD.nd rfl Vt (aB G_a hr T.F_a (aa (aB G_Z hr T.F_Z (aa (dv 0) (aa ag ah))) ah)))
   case' J=>refine' ar ?K ?L
   case K=>
    refine' tV Ov rfl rfl T.n_range (aa (PE.imp (bS (tD rfl) rfl T.n_min QF (bz ag (bz (PE.imp (bS fB rfl T.n_len ON (bz (dv 5) bg)) (bN gr)) bg))) (bN ph)) ah) ?M aP ?N
    case M=>exact(aN (i:=7) iD.nd rfl Vt)
    case' N=>refine' ar ?O ?P
    case O=>
     generalize hG12:T6 _ _ _ _=eg12;refine' bG (i:=8) iD.nd rfl Vt ?Q (hs:=by subst hG12;exact ix)
     case' Q=>subst hG12
     exact(PE.imp (bS (yO rfl) rfl T.n_max Rq (bz ag (bz (aJ bt bE (aq bI bW (dv 5) (aB G_b hr T.F_b (aa (dv 6) (aa (PE.imp (bS fB rfl T.n_len ON (bz (dv 5) bg)) (bN gr)) ah)))) (aq bI bW (fe (cN (aa ag (aa (Bb ag) (aa ag (aa ag ah)))))) (aB G_b hr T.F_b (aa (dv 6) (aa ag ah))))) bg))) (bN ph))
    case' P=>refine' ax ?R
    case' R=>refine' bj ?S ?T bh
    case S=>exact(lW (ic (PE.imp (bS (Aw rfl) rfl T.n_all Ax (bz (fe (fG rfl EW (df (fe (Kd rfl rfl T.n_sorted OG (aB G_m hr T.F_m (aa (dv 2) ah))))) aP cf Vp (λ_ _ _ _=>(aN (i:=0) EW.nd rfl Vt)) (λ_ _ _ _=>gz) (λ_ _ _ _=>(aB G_s hr T.F_s (aa (dv 1) (aa (dv 2) (aa (dv 0) ah))))))) bg)) (bN tX))))
    case T=>refine' ax (aM lU)
   case L=>refine' ax (aM lU)
  case B=>
  clear G_l G_a G_Z G_b G_s G_q G_m hr T;walk_at "d";refine⟨ns,lB,10,rfl,Vp,Vp,M9,Vp,Vp,λxs nms far gl xl rm x0 nl nok=>?_⟩;have gd:=gl.good;have r5:R5 xs:=λd nm pt h=>Na _ (rm _ h d nm pt rfl).1 (rm _ h d nm pt rfl).2;refine⟨_,rfl,rfl,_,_,rfl,_,_,rfl,_,_,rfl,rfl,xs,rfl,gl,r5,Vq,x0,λds d0 dl=>?_⟩;refine⟨ns,30,rfl,Vp,Vp,λc=>⟨c,rfl,_,.inl rfl,?_⟩⟩;rw [Nj];have hM:∃m:Int,(if (ds.length:Int) < 10 then(ds.length:Int) else 10)=m/\0<=m/\m<=10:=⟨_,rfl,by split <;> omega,by split <;> omega⟩;obtain⟨m,em,m0,m1⟩:=hM;rw [em];clear em;have pl:=gd.gx.gp.ln;have sp:=fw ((aK xs).map (·.nm));refine⟨Vq,Vq,λi δ=>∃o7 o8:Option Sl,δ=[some (Sl.v (ft (ns.map .int))),some (Sl.v (.list (lB.map .str))),some (Sl.v (.tuple (xs.map De.enc))),some (Sl.v (.list (nms.map .str))),some (Sl.v (.int far)),some (Sl.v (.list (ds.map .int))),some (Sl.v fC),o7,o8],⟨_,_,rfl⟩,?_,?_⟩
  ·rintro i z δ hz ⟨o7,o8,rfl⟩;obtain⟨hi,rfl⟩:=jB hz;clear hz;walk_at "d";refine⟨_,rfl,by rw [Nj];have:=TF.mpr d0;omega,by rw [Nj];omega,λv v0 v1=>⟨_,rfl,?_⟩⟩;rw [Nj] at v1;obtain⟨j,rfl⟩:=OY v0;have hj:j < ds.length:=Vq
   refine⟨.int ds[j],fZ (by simp [hj]),4,rfl,Vp,Vp,λu u0 u1=>⟨_,rfl,?_⟩⟩;obtain⟨e,ee⟩:∃e:Int,atI [Nn 0,Nn (-1),Nn 1,Nn 0] u=some (.int e):=by
    have:u=0\/u=1\/u=2\/u=3:=Vq
    rcases this with h | h | h | h <;> subst h <;> exact⟨_,rfl⟩
   refine⟨_,ee,_,rfl,_,rfl,xs,rfl,gl,(aK xs).map (·.nm),⟨_,rfl⟩,by rw [Nj];omega,by rw [Nj,sp.length_eq,Nj];omega,?_⟩;generalize (if ds[j]+e > 0 then ds[j]+e else 0)=n;refine pX (λ_=>.bool true) (λz hz R h=>?_) ⟨(cO ((aK xs).map (·.nm))).map λ_=>true,by rw [NO,NO];rfl,?_⟩
   ·obtain⟨nm,hnm,rfl⟩:=NC.mp hz;obtain⟨p,hp,rfl⟩:=NC.mp (sp.mem_iff.mp hnm);walk_at "d";exact⟨xs,n,p,rfl,gl,r5,hp,h⟩
   ·rw [Vr Vu];exact⟨_,rfl⟩
  ·rintro δ ⟨o7,o8,rfl⟩;walk_at "d";exact q
end
end K15
namespace PySem.W.Fast
def tw12686895551549412936:=0
def tw17703029516235280931:=0
def tw6692951586673318797:=0
def tw3072117205565073405:=0
def tw4107433418836478641:=0
def tw749195225999245988:=0
def tw11030761968983327492:=0
def tw15193488598614533713:=0
def tw16702297467255949021:=0
def tw1814451168979585940:=0
def tw12074324328124395545:=0
def tw11576547380392347144:=0
def tw16231742664906259893:=0
def tw11997378575801763441:=0
def tw14845394665361264316:=0
def tw9317064515040692855:=0
def tw13102289305739826741:=0
def tw5199661037477821495:=0
def tw11298372522235903436:=0
def tw2870931338284748572:=0
def tw115793441354354639:=0
def tw576100952068480706:=0
def tw4794636260060017595:=0
def tw11103987113123854335:=0
def tw7079621435400457327:=0
def tw11494309156923857644:=0
def tw17907492304415476157:=0
def tw2290399150202762968:=0
def tw5643208815807813203:=0
def tw4912071707183704766:=0
def tw15148986250018989199:=0
def tw15079807995057505559:=0
def tw12159807977122716268:=0
def tw4232599235936754028:=0
def tw2826732273723924605:=0
def tw15997184721652079544:=0
def tw13808640322164825645:=0
def tw13859134395729629935:=0
def tw74345374130237070:=0
def tw11719895014592102114:=0
def tw203346321420309640:=0
def tw12048666417071924412:=0
def tw7267046959231208893:=0
def tw4215590386166997944:=0
def tw6310933029884590072:=0
def tw16946712933030011088:=0
def tw8305818958410764532:=0
def tw15251833473079962488:=0
def tw331434930778644510:=0
def tw14937750596805699414:=0
def tw14613079278398520071:=0
def tw15063552985022799832:=0
def tw277912197591889259:=0
def tw7332372368402470109:=0
def tw8313485124957921108:=0
def tw4054400304655315941:=0
def tw17755604570358067335:=0
def tw18244948013929737834:=0
def tw1320968473235154790:=0
def tw17959972018570536250:=0
def tw15440888106721795876:=0
def tw5934234814726897188:=0
def tw6628117750826275819:=0
def tw15663645525358021799:=0
def tw4866022184455361012:=0
def tw1791034015815991267:=0
def tw4688408164378464055:=0
def tw355470152028939816:=0
def tw5482418041198752227:=0
def tw15449328080186394875:=0
def tw13341971602073492467:=0
def tw1264002636648064164:=0
def tw6420214265574976179:=0
def tw94641873334445060:=0
def tw6829977148814738577:=0
def tw6086261201932051261:=0
def tw4193428979458107855:=0
def tw5311001683608918426:=0
def tw2789389560069336801:=0
def tw10224023250966944735:=0
def tw9049055456812059854:=0
def tw16274248361806196441:=0
def tw10399130298083371353:=0
def tw16039016769657152427:=0
def tw13580371523577673297:=0
def tw14611459295769264957:=0
def tw16590913370576000332:=0
def tw17237536374354607693:=0
def tw11596350599871519012:=0
def tw16040720873364179147:=0
def tw14580344004025525981:=0
def tw15965080009671901699:=0
def tw11875419356127474133:=0
def tw14416680041679409004:=0
def tw15116111161950252568:=0
def tw16766826037695869442:=0
def tw16660340577439995836:=0
def tw1594337297223873027:=0
def tw18081049758600092988:=0
def tw14430235035501621589:=0
def tw12780207053722773284:=0
def tw9327633463271706036:=0
def tw16521565932832648206:=0
def tw2844089745465789942:=0
def tw10891897016118198983:=0
def tw2044822011625401776:=0
def tw17257919864971372625:=0
def tw8893423304502655531:=0
def tw3183671733030826307:=0
def tw9150478036777170682:=0
def tw6591816837859683932:=0
def tw10821084907245782044:=0
def tw15419672626262519797:=0
def tw4806604336948711598:=0
def tw14720531679963341311:=0
def tw62727182916919474:=0
def tw17273560513664603828:=0
def tw7242475713085142076:=0
def tw8176414115018565355:=0
def tw16018923715243049116:=0
def tw9093314875069221165:=0
def tw4237922741813834651:=0
def tw8276315374101816449:=0
def tw72809258559888480:=0
def tw15962668505698958641:=0
def tw16323842416539041604:=0
def tw2036122972646961743:=0
def tw1227941463281785814:=0
def tw3291433785060532992:=0
def tw4168808427994855814:=0
def tw18124426983921725414:=0
def tw6053878614867985720:=0
def tw11670560376989331621:=0
def tw1751453236876265966:=0
def tw13461737698258906598:=0
def tw9575292880166448556:=0
def tw14682294076111608465:=0
def tw6028273126028231762:=0
def tw4102042541610828529:=0
def tw12755644356584046965:=0
def tw8147826690498704151:=0
def tw18406323494748493227:=0
def tw18226567411783112984:=0
def tw17945999961665912537:=0
def tw17883215259133607106:=0
def tw14786572217682489509:=0
def tw9301231052843049596:=0
def tw9191820515526766440:=0
def tw1377287944830991224:=0
def tw9508779737864367972:=0
def tw13768275632764069800:=0
def tw16925697424711383936:=0
def tw15504837259855696331:=0
def tw9708108537865202423:=0
def tw4010536002406999764:=0
def tw13991009913673809064:=0
def tw7941972579791388533:=0
def tw15697497935804481921:=0
def tw12295077462518087007:=0
def tw5406881375959407410:=0
def tw1372417340639014882:=0
def tw8212254684324547008:=0
def tw7888967255001035438:=0
def tw723773882565146091:=0
def tw7561852029763363782:=0
def tw9583824066188642624:=0
def tw17943203437111441295:=0
def tw16565586202660140232:=0
def tw2576221180178247263:=0
def tw6720534419109319411:=0
def tw11361249986358972081:=0
def tw5411542296013624175:=0
def tw14616770747362137071:=0
def tw12666136331820980405:=0
def tw3107634664032434069:=0
def tw8681811439621874455:=0
def tw15140090220924990589:=0
def tw16698713000194393071:=0
def tw622575141148861327:=0
def tw214392244945400852:=0
def tw11338635321108486781:=0
def tw9611756489072852351:=0
def tw14474251319585279291:=0
def tw44356615052602067:=0
def tw12253847687341805713:=0
def tw7067796439556485463:=0
def tw14552221984896594507:=0
def tw10333244922929900669:=0
def tw10798760100730267020:=0
def tw210938028130873307:=0
def tw13901069509658499846:=0
def tw3695469820234566192:=0
def tw13864558177446868877:=0
def tw2083938085127414059:=0
def tw9308665029353530634:=0
def tw7176158696561034309:=0
def tw4517332450293713568:=0
def tw15517587516021142792:=0
def tw15012057048435582896:=0
def tw4907640031776796681:=0
def tw12274952265289749875:=0
def tw1826269510815051660:=0
def tw2368903190582884424:=0
def tw16258674366022724959:=0
def tw573560356507421330:=0
def tw7392944227101763051:=0
def tw8964225942597873595:=0
def tw754272425419738115:=0
def tw2495732191913774217:=0
def tw9788482084630463405:=0
def tw17065073368043876614:=0
def tw17056282984644700574:=0
def tw13813847274010734974:=0
def tw13869105485679807618:=0
def tw12705457135777212170:=0
def tw11195316424189830856:=0
def tw9501985578172751104:=0
def tw4697817072211522748:=0
def tw5154705283670425589:=0
def tw17670501066274312042:=0
def tw14288040353743023158:=0
def tw9509178921458069695:=0
def tw9319191916766910262:=0
def tw9228308112634721327:=0
def tw9173597538845578027:=0
def tw8900841610075723627:=0
def tw8894355240954258380:=0
def tw8830337443050546749:=0
def tw8708777215351728355:=0
def tw8692469916666110132:=0
def tw8314571426207464816:=0
def tw7697060816654391418:=0
def tw7651091838127521024:=0
def tw7352063023170792774:=0
def tw7029933856035179642:=0
def tw6976593347249095486:=0
def tw6899219705208888740:=0
def tw6778671124924411218:=0
def tw5249775109461954673:=0
def tw5138115382832532587:=0
def tw458235448543308617:=0
def tw3846129835330687924:=0
def tw3773607917500913605:=0
def tw3698577413890337649:=0
def tw3606354123936832869:=0
def tw3494175172331265667:=0
def tw3409926986979732877:=0
def tw3150491988690172797:=0
def tw2711162640049631837:=0
def tw2647432173574137452:=0
def tw2290940306567995941:=0
def tw2231453982542657688:=0
def tw1891646959774385268:=0
def tw18193323367848579005:=0
def tw18122705350862703740:=0
def tw18077581077476588877:=0
def tw18031777410725283718:=0
def tw17840408135382529174:=0
def tw17614483967728024789:=0
def tw17306492891680602497:=0
def tw16449221503903715178:=0
def tw1611884730807523515:=0
def tw15999657568669429624:=0
def tw15540369613252608556:=0
def tw15513935099707337636:=0
def tw15512418481567331962:=0
def tw15238386719011693021:=0
def tw15007407640987052165:=0
def tw14717691104010692261:=0
def tw14474568940577982252:=0
def tw14447016196576017700:=0
def tw14403970571397851102:=0
def tw14400137755736597554:=0
def tw13970887698337000925:=0
def tw1393017918879663617:=0
def tw13773197908774061361:=0
def tw13661989930566275972:=0
def tw132896301198709941:=0
def tw12867051930420883362:=0
def tw12857572216864497089:=0
def tw12678645274265517667:=0
def tw12512845809940917854:=0
def tw12444909702187863924:=0
def tw12431740726219127610:=0
def tw12384200031740706460:=0
def tw12336841679306005342:=0
def tw1212147197143252315:=0
def tw11614089462636669317:=0
def tw11599222154923105286:=0
def tw11182714375255048575:=0
def tw11116415894337351624:=0
def tw11079669523367524894:=0
def tw10953557836531114418:=0
def tw10822049525172052343:=0
def tw10747634934188221250:=0
def tw10692598378559004356:=0
def tw10104408422375106201:=0
end PySem.W.Fast
open PySem PySem.W PyProof.Rows
local macro_rules | `(tactic| walk_at "f")=>`(tactic| (refine' L2.DfT.of ?a ?l ?c ?k;(case a=>k_is);(case l=>k_is);(case c=>k_is);(case k=>k_is)))
local macro_rules | `(tactic| walk_at "m")=>`(tactic| (refine' L2.DmT.of ?a ?i ?l ?c ?k;(case a=>k_is);(case i=>k_is);(case l=>k_is);(case c=>k_is);(case k=>k_is)))
local macro_rules | `(tactic| walk_at "c")=>`(tactic| (refine'⟨⟨?a,?i,?l,?c⟩,?m,?k⟩;(case a=>k_is);(case i=>k_is);(case l=>k_is);(case c=>k_is);(case m=>k_is);(case k=>k_is)))
set_option maxRecDepth 100000 in
theorem PySem.Challenge.cw_goneday_k15_by_reckonings_holds : PySem.Challenge.rw_goneday_k15_by_reckonings.Holds := by
 w_on;o_law;k_head;(case hw=>w_witness2)
 k_fill
 refine L2.walk_ofBK (l:=PySem.Challenge.rw_goneday_k15_by_reckonings) (n:=63) (k:=11) (x:="_law_script") (CX:=L2.CX0) (sp:=K15.sp_law) rfl Vp rfl ⟨rfl,Vp,Vp⟩ (λw h Y=>PySem.W.kIn_of Y) ?F ?S ?C
 case F=>
  intro w mg fa h KX G hmg;have T:∃t,K15.Txt (L2.KOf KX) mg t:=by
   dsimp only [L2.KOf];refine' K15.txt_mk KX G ?za ?zb ?zc ?zd ?ze ?zf ?zg ?zh ?zi ?zj ?zk ?zl ?zm ?zn ?zo ?zp ?zq ?zr ?zs ?zt ?zu ?zv ?zw ?zx ?zy ?zz ?zA ?zB ?zC ?zD ?zE ?zF ?zG ?zH ?zI ?zJ ?zK ?zL ?zM ?zN ?zO ?zP ?zQ ?zR ?zS ?zT ?zU ?zV ?zW ?zX ?zY ?zZ ?ya ?yb ?yc ?yd ?ye ?yf ?yg ?yh ?yi ?yj ?yk ?yl ?ym ?yn ?yo ?yp ?yq ?yr ?ys ?yt ?yu ?yv ?yw ?yx ?yy ?yz ?yA ?yB ?yC ?yD
   (case za | zb | zc | zd | ze | zf | zg | zh | zj | zk | zl | zm | zn | zo | zp | zq | zr | zs | zt | zu | zv | zw | zx | zy | zz | zA | zB | zC | zD | zE | zF | zG | zH | zI | zJ | zK | zL | zM | zN | zO | zP | zQ | zR | zS | zT=>walk_at "f")
   (case zU | zV=>k_is)
   (case zW=>first | (repeat (first | exact .nil | refine .cons ⟨_,rfl⟩ ?_)))
   (case zX=>decide)
   (case zY=>k_is)
   (case zZ=>exact⟨_,rfl⟩)
   (case ya=>k_is)
   (case yb=>exact⟨_,rfl⟩)
   (case yc=>k_is)
   (case yd=>exact⟨_,rfl⟩)
   (case ye | yf=>k_is)
   (case yg=>walk_at "c")
   (case yh | yi | yj | yk | yl=>unfold L2.NoAttr;k_is)
   (case ym | yn | yo | yp | yq | yr | ys | yt | yu | yv | yw | yx | yy | yz | yA | yB | yC | yD=>k_is)
   (case zi=>walk_at "m")
  obtain⟨t,T⟩:=T;have e0:=hmg.symm.trans T.F_t.m;cases e0;exact⟨t.d_t,T.bt_t,λbase kb nb=>K15.ok_law T⟩
 case S=>exact λK H a ns hl hb hO hS=>K15.start_law hl hb hS
 case C=>exact λ_ _ _ _ z=>z
